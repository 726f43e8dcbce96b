import PyProof.Rows.All
import Wide.All
import OpenK.AllK
import Wide.FinOn
import Lean
import PyProof.EqAt
import PyProof.EqKinds
import PyProof.TupleCall
import KE.KDictLaws
import KE.KDictOf
import KE.KEqDict
import KE.BitLaws
import PyProof.ZipIter
import PyProof.Rows.ZipGen
import PyProof.Rows.StrSplitAre
import PyProof.ExcInit
import PyProof.ExcBaseAll.ValueError
import PyProof.PassesOwn
import PyProof.StationsW
import PyProof.InstStoreFacts
import PyProof.ExcAttrAll.ValueError
import PyProof.NsDelKeeps
import KE.KListMore
import PyProof.P3Eq
import PyProof.Rows.TupDisplay
import PyProof.StrLawsReplace
import PyProof.StrCalls6
import PyProof.Rows.StrStrike
import KE.IntTextText
import PySem.Challenge.RW_stopglass_k22_straight_rows
set_option Elab.async false
set_option linter.all false
set_option maxRecDepth 100000
section
namespace Hd
open PySem PySem.W PyProof.Rows
lay_quick PySem.W.topFrom
lay_quick PySem.Challenge.pw_stopglass_k22_straight_rows
noncomputable abbrev TQ := PySem.W.Fast.tw370005188180407882 PySem.W.Fast.tw14364793385576792824
noncomputable abbrev OQ := PySem.W.Fast.tw4187177175401517315
noncomputable abbrev tp : Program := PySem.W.Fast.tw8049775363805576610
abbrev lo : List Str := [PySem.Str.ofString "ATOM_PLACES"]
def keeps : PySem.Stmt → Bool
 | .Assign [.Name x _] _ _ => !decide (x = "__name__")
 | _ => true
def viewOf (p : Program) : Program := { p with main := { p.main with body := p.main.body.filter keeps } }
abbrev Xf : Program → Shared → Bool := (fun p s => xlAt (viewOf p) [] s && recOk (RowW.records (OpenRow.toRowW (OpenLaw.row PySem.Challenge.rw_stopglass_k22_straight_rows))) s)
noncomputable def S0 (w : World) (os : OsState) : Shared := ⟨boot_heap w.params, Array.mk [], boot_drawn, boot_toks, os⟩
section
local macro_rules | `(tactic| o_head $H) => `(tactic| (case Hk => exact $H))
noncomputable def hk : (H : Hook) ×' ((∀ P : Prop, P) → PySem.Challenge.rw_stopglass_k22_straight_rows.Holds) := by
 refine ⟨?Hk, fun h => ?m⟩
 rotate_left
 w_on; o_law; k_head; exact h _
end
theorem opt3 {σ α β γ : Type} {x : Option σ} {f : σ → α × β} {g : σ → γ} {a : α × β} {c : γ} (h1 : x.map (fun s => (f s).1) = some a.1) (h2 : x.map (fun s => (f s).2) = some a.2) (h3 : x.map g = some c) : x.map (fun s => (f s, g s)) = some (a, c) := by
 cases x with
 | none => cases h1
 | some s =>
  have e1 : (f s).1 = a.1 := Option.some.inj h1
  have e2 : (f s).2 = a.2 := Option.some.inj h2
  have e3 : g s = c := Option.some.inj h3
  show some (f s, g s) = some (a, c)
  rw [show f s = a from Prod.ext e1 e2, e3]
theorem r0a : ∀ (w : World) (os : OsState), (TQ tp (w.withFollow "special-get-raises" false) 20000 (S0 (w.withFollow "special-get-raises" false) os)).map (fun s => (OQ (viewOf tp) lo (importedModules tp.main.body) (Xf tp) true s).1) = some (openGood (viewOf tp) lo).1 := by
 intro w os; kernel_rfl
theorem r0b : ∀ (w : World) (os : OsState), (TQ tp (w.withFollow "special-get-raises" false) 20000 (S0 (w.withFollow "special-get-raises" false) os)).map (fun s => (OQ (viewOf tp) lo (importedModules tp.main.body) (Xf tp) true s).2) = some (openGood (viewOf tp) lo).2 := by
 intro w os; kernel_rfl
theorem r0c : ∀ (w : World) (os : OsState), (TQ tp (w.withFollow "special-get-raises" false) 20000 (S0 (w.withFollow "special-get-raises" false) os)).map (fun s => Hook.obs hk.1 s) = some (Hook.val hk.1 (w.withFollow "special-get-raises" false)) := by
 intro w os; kernel_rfl
theorem r0 : ∀ (w : World) (os : OsState), (TQ tp (w.withFollow "special-get-raises" false) 20000 (S0 (w.withFollow "special-get-raises" false) os)).map (fun s => (OQ (viewOf tp) lo (importedModules tp.main.body) (Xf tp) true s, Hook.obs hk.1 s)) = some (openGood (viewOf tp) lo, Hook.val hk.1 (w.withFollow "special-get-raises" false)) := fun w os => opt3 (r0a w os) (r0b w os) (r0c w os)
theorem r1a : ∀ (w : World) (os : OsState), (TQ tp (w.withFollow "special-get-raises" true) 20000 (S0 (w.withFollow "special-get-raises" true) os)).map (fun s => (OQ (viewOf tp) lo (importedModules tp.main.body) (Xf tp) true s).1) = some (openGood (viewOf tp) lo).1 := by
 intro w os; kernel_rfl
theorem r1b : ∀ (w : World) (os : OsState), (TQ tp (w.withFollow "special-get-raises" true) 20000 (S0 (w.withFollow "special-get-raises" true) os)).map (fun s => (OQ (viewOf tp) lo (importedModules tp.main.body) (Xf tp) true s).2) = some (openGood (viewOf tp) lo).2 := by
 intro w os; kernel_rfl
theorem r1c : ∀ (w : World) (os : OsState), (TQ tp (w.withFollow "special-get-raises" true) 20000 (S0 (w.withFollow "special-get-raises" true) os)).map (fun s => Hook.obs hk.1 s) = some (Hook.val hk.1 (w.withFollow "special-get-raises" true)) := by
 intro w os; kernel_rfl
theorem r1 : ∀ (w : World) (os : OsState), (TQ tp (w.withFollow "special-get-raises" true) 20000 (S0 (w.withFollow "special-get-raises" true) os)).map (fun s => (OQ (viewOf tp) lo (importedModules tp.main.body) (Xf tp) true s, Hook.obs hk.1 s)) = some (openGood (viewOf tp) lo, Hook.val hk.1 (w.withFollow "special-get-raises" true)) := fun w os => opt3 (r1a w os) (r1b w os) (r1c w os)
theorem left_twin {p p' : Program} {F : Program → Program} {X : Program → Shared → Bool} {loose : List Str} {α : Type} {Yf : Shared → α} {Ya : World → α} {N : Nat} {g0 : Bool} (row : String) (ep : p = p') (e : opening p = plainProg p.main.scope.names) (hN : Nat.ble 600 N = true) (f : ∀ s, fenceModules? p s = some s)
  (h0 : ∀ (w : World) (os : OsState), (TQ p' (w.withFollow row false) N (S0 (w.withFollow row false) os)).map (fun s => (OQ (F p') loose (importedModules p'.main.body) (X p') g0 s, Yf s)) = some (openGood (F p') loose, Ya (w.withFollow row false)))
  (h1 : ∀ (w : World) (os : OsState), (TQ p' (w.withFollow row true) N (S0 (w.withFollow row true) os)).map (fun s => (OQ (F p') loose (importedModules p'.main.body) (X p') g0 s, Yf s)) = some (openGood (F p') loose, Ya (w.withFollow row true))) : LeftO p (F p) loose (X p) Yf Ya N g0 := fun w => by
 subst ep
 have key : ∀ b, (openEnds treeTable p (w.withFollow row b) N).map (fun s => (openSeen (F p) loose (importedModules p.main.body) (X p) g0 s, Yf s)) = some (openGood (F p) loose, Ya (w.withFollow row b)) := by
  intro b
  obtain ⟨s, hs, hv⟩ := Option.map_eq_some_iff.mp (boot_open e hN f (w.withFollow row b))
  have es : s = S0 (w.withFollow row b) s.os := by
   cases s
   simp only [Prod.mk.injEq] at hv
   obtain ⟨a1, a2, a3, a4⟩ := hv
   subst a1 a2 a3 a4
   rfl
  unfold openEnds
  rw [hs, es, PySem.W.Fast.te370005188180407882, PySem.W.Fast.te14364793385576792824, PySem.W.Fast.te4187177175401517315]
  cases b
  . exact h0 w s.os
  . exact h1 w s.os
 have e0 := World.withFollow_self w row
 have := key (w.params.followText row)
 rwa [e0] at this
theorem left : LeftO PySem.Challenge.pw_stopglass_k22_straight_rows (viewOf PySem.Challenge.pw_stopglass_k22_straight_rows) lo (Xf PySem.Challenge.pw_stopglass_k22_straight_rows) (Hook.obs hk.1) (Hook.val hk.1) 20000 true :=
 left_twin (p := PySem.Challenge.pw_stopglass_k22_straight_rows) (p' := tp) (F := viewOf) (X := Xf) (loose := lo) (Yf := Hook.obs hk.1) (Ya := Hook.val hk.1) (N := 20000) (g0 := true) "special-get-raises" PySem.W.Fast.te8049775363805576610 (by kernel_rfl) (by decide) (fun s => by kernel_rfl) r0 r1
theorem left_of {H : Hook} (e : H = hk.1) : LeftO PySem.Challenge.pw_stopglass_k22_straight_rows (viewOf PySem.Challenge.pw_stopglass_k22_straight_rows) lo (Xf PySem.Challenge.pw_stopglass_k22_straight_rows) (Hook.obs H) (Hook.val H) 20000 true := by subst e; exact left
local macro_rules | `(tactic| o_head $H) => `(tactic| (
 refine holds_open (q := viewOf PySem.Challenge.pw_stopglass_k22_straight_rows) (loose := lo) (Xt := Xf PySem.Challenge.pw_stopglass_k22_straight_rows) (XP := XL (viewOf PySem.Challenge.pw_stopglass_k22_straight_rows) []) (Yf := Hook.obs $H) (Ya := Hook.val $H) (YP := Hook.says $H) (N := 20000) ?hl (Hook.of $H) (Hook.keeps $H) (fun s e => xl_of s (Bool.and_eq_true_iff.mp e).1) XL.keeps (by rfl) (by rfl) (by rfl) (fun s e => recFacts_of (Bool.and_eq_true_iff.mp e).2) (by rfl) (by assumption) (by decide +kernel) ⟨rfl, rfl, rfl, rfl, rfl, by decide +kernel⟩ ?hw ?hc
 (case hl => exact left_of (H := $H) (by kernel_rfl))))
set_option maxHeartbeats 0 in
noncomputable def pk : (G : Prop) ×' (G → PySem.Challenge.rw_stopglass_k22_straight_rows.Holds) := by
 refine' ⟨_, fun h => _⟩
 rotate_left
 w_on; o_law; k_head; (case hw => w_witness2)
 exact h
end Hd
end
namespace K11
end K11
namespace L2
open PySem PySem.Spec PyProof.Rows
abbrev Key := Sum Int Str
def znm : Key -> Value -> Bool
 | .inl k, v => Value.isInt k v
 | .inr x, v => Value.isStrOf x v
def keyH (w : World) : Key -> Int
 | .inl k => hashInt k
 | .inr x => hashStr w x
theorem zcl : ∀ {k : Key} {v : Value}, znm k v = true -> (∃ i t, k = Sum.inl i /\ v = Value.int i t) \/ (∃ x t, k = Sum.inr x /\ v = Value.str x t)
 | .inl i, v, h => by
   obtain ⟨t, e⟩ := Value.isInt_shape (k := i) (v := v) h
   exact .inl ⟨i, t, rfl, e⟩
 | .inr x, v, h => by
   obtain ⟨t, e⟩ := Value.isStrOf_shape (x := x) (v := v) h
   exact .inr ⟨x, t, rfl, e⟩
theorem zrw (i : Int) (t : Tok) : znm (.inl i) (.int i t) = true := by simp [znm, Value.isInt]
theorem zr6 (x : Str) (t : Tok) : znm (.inr x) (.str x t) = true := by simp [znm, Value.isStrOf]
theorem zxu (a b : Int) : decide ((Sum.inl a : Key) = Sum.inl b) = (a == b) := by
 by_cases e : a = b
 . subst e; simp
 . have h : ¬ (Sum.inl a : Key) = Sum.inl b := λ q => e (Sum.inl.inj q)
   rw [decide_eq_false h]
   exact (beq_eq_false_iff_ne.mpr e).symm
theorem zw7 (a b : Str) : decide ((Sum.inr a : Key) = Sum.inr b) = decide (a = b) := by
 by_cases e : a = b
 . subst e; simp
 . have h : ¬ (Sum.inr a : Key) = Sum.inr b := λ q => e (Sum.inr.inj q)
   rw [decide_eq_false h, decide_eq_false e]
theorem zxs (a : Int) (b : Str) : decide ((Sum.inl a : Key) = Sum.inr b) = false := decide_eq_false (λ q => nomatch q)
theorem zwy (a : Str) (b : Int) : decide ((Sum.inr a : Key) = Sum.inl b) = false := decide_eq_false (λ q => nomatch q)
def zbh (prog : Program) (w : World) : PySem.KeyKind prog w Key where
 is := znm
 hash := keyH w
 inj := λ v a b ha hb => by
   rcases zcl ha with ⟨i, t, rfl, rfl⟩ | ⟨x, t, rfl, rfl⟩
   . rcases zcl hb with ⟨j, u, rfl, e⟩ | ⟨y, u, rfl, e⟩
     . injection e with e1 _; rw [e1]
     . exact nomatch e
   . rcases zcl hb with ⟨j, u, rfl, e⟩ | ⟨y, u, rfl, e⟩
     . exact nomatch e
     . injection e with e1 _; rw [e1]
 byValue := λ k v h => by
   rcases zcl h with ⟨i, t, rfl, rfl⟩ | ⟨x, t, rfl, rfl⟩ <;> rfl
 pyHash := λ hv h => by
   rcases zcl hv with ⟨i, t, rfl, rfl⟩ | ⟨x, t, rfl, rfl⟩
   . exact wpAny_pyHash_int h
   . exact wpAny_pyHash_str h
 eqBool := λ hu hv h => by
   rcases zcl hu with ⟨i, t, rfl, rfl⟩ | ⟨x, t, rfl, rfl⟩
   . rcases zcl hv with ⟨j, u, rfl, rfl⟩ | ⟨y, u, rfl, rfl⟩
     . rw [zxu] at h; exact wpAny_eqBool_int h
     . rw [zxs] at h; exact SeqAt.EqAt.int_str i t y u _ _ _ _ h
   . rcases zcl hv with ⟨j, u, rfl, rfl⟩ | ⟨y, u, rfl, rfl⟩
     . rw [zwy] at h; exact SeqAt.EqAt.str_int x t j u _ _ _ _ h
     . rw [zw7] at h; exact wpAny_eqBool_str h
 «strs» := λ k x t v h => by
   rcases zcl h with ⟨i, u, rfl, e⟩ | ⟨y, u, rfl, e⟩
   . exact nomatch e
   . injection e with e1 _
     subst e1
     cases v <;> rfl
theorem zm9 (prog : Program) (w : World) (i : Int) (t : Tok) : (zbh prog w).is (.inl i) (.int i t) = true := zrw i t
theorem znr (prog : Program) (w : World) (x : Str) (t : Tok) : (zbh prog w).is (.inr x) (.str x t) = true := zr6 x t
end L2
namespace L2
open PySem PySem.Spec PyProof.Rows
inductive V where
 | non | bl (b : Bool) | int (i : Int) | str (x : Str) | byt (b : Array UInt8) | flt (b : UInt64) | ref (a : Addr) | ty (n : String)
 deriving DecidableEq
def zcw : V -> Value -> Prop
 | .non, u => u = Value.none
 | .bl b, u => u = Value.bool b
 | .int i, u => ∃ t, u = Value.int i t
 | .str x, u => ∃ t, u = Value.str x t
 | .byt b, u => ∃ t, u = Value.bytes b t
 | .flt b, u => ∃ t, u = Value.float b t
 | .ref a, u => u = Value.ref a
 | .ty n, u => u = Value.type n
abbrev zcm : List V -> List Value -> Prop := Paired zcw
theorem zcm.length {xs : List V} {us : List Value} (r : zcm xs us) : xs.length = us.length := Paired.length r
theorem zcm.get : ∀ {xs : List V} {us : List Value} {i : Nat} {x : V}, zcm xs us -> xs[i]? = some x -> ∃ u, us[i]? = some u /\ zcw x u
 | _, _, _, _, .nil, e => by simp at e
 | _, _, 0, _, .cons r _, e => by simp at e; subst e; exact ⟨_, rfl, r⟩
 | _, _, i + 1, x, .cons _ t, e => by
   obtain ⟨u, h1, h2⟩ := zcm.get (i := i) (x := x) t (by simpa using e)
   exact ⟨u, by simpa using h1, h2⟩
theorem zcm.set {x : V} {u : Value} (r : zcw x u) : ∀ {xs : List V} {us : List Value} (i : Nat), zcm xs us -> zcm (xs.set i x) (us.set i u)
 | _, _, _, .nil => .nil
 | _, _, 0, .cons _ t => .cons r t
 | _, _, i + 1, .cons q t => .cons q (zcm.set r i t)
theorem zcm.append : ∀ {xs ys : List V} {us ws : List Value}, zcm xs us -> zcm ys ws -> zcm (xs ++ ys) (us ++ ws)
 | _, _, _, _, .nil, s => s
 | _, _, _, _, .cons r t, s => .cons r (zcm.append t s)
theorem zcm.take : ∀ {xs : List V} {us : List Value} (n : Nat), zcm xs us -> zcm (xs.take n) (us.take n)
 | _, _, 0, _ => .nil
 | _, _, _ + 1, .nil => .nil
 | _, _, n + 1, .cons r t => .cons r (zcm.take n t)
theorem zcm.drop : ∀ {xs : List V} {us : List Value} (n : Nat), zcm xs us -> zcm (xs.drop n) (us.drop n)
 | _, _, 0, r => r
 | _, _, _ + 1, .nil => .nil
 | _, _, n + 1, .cons _ t => zcm.drop n t
theorem zcm.none_of : ∀ {xs : List V} {us : List Value} {i : Nat}, zcm xs us -> xs[i]? = none -> us[i]? = none := λ {xs us i} r e => by
 have h1 := r.length
 have h2 : xs.length <= i := List.getElem?_eq_none_iff.mp e
 exact List.getElem?_eq_none_iff.mpr (by omega)
def zk9 : Option V -> Option Value -> Prop
 | some v, some u => zcw v u
 | none, none => True
 | _, _ => False
def KV {κ : Type} : List (κ × V) -> List (κ × Value) -> Prop := Paired λ (p : κ × V) (q : κ × Value) => p.1 = q.1 /\ zcw p.2 q.2
def kV : Key -> V
 | .inl i => .int i
 | .inr x => .str x
inductive HO where
 | lst (xs : List V)
 | tup (xs : List V)
 | dK (kvs : List (Key × V)) | dT (kvs : List (List Key × V))
 | set (S : Int -> Bool) (n : Nat)
 | ins (C dx : Addr) (fs : List (Str × V))
 | own (x : Addr)
 | xd (fs : List (Str × V))
 | met (f x : Addr)
 | rng (lo hi : Int)
 | frz (o : Obj) (u : HO)
 | tbl (ps : Array Value)
 | ext (φ : Heap -> Prop)
abbrev Hp := Addr -> Option HO
def upd (H : Hp) (a : Addr) (o : HO) : Hp := λ b => if b = a then some o else H b
theorem zab {H : Hp} {a : Addr} {o : HO} : upd H a o a = some o := by unfold upd; rw [if_pos rfl]
theorem zaf {H : Hp} {a b : Addr} {o : HO} (h : b ≠ a) : upd H a o b = H b := by unfold upd; rw [if_neg h]
theorem zjo {H : Hp} {a : Addr} {o u : HO} : upd (upd H a o) a u = upd H a u := by
 funext b; unfold upd; split <;> rfl
theorem zmz {H : Hp} {a b : Addr} {o u : HO} (h : H a = some o) (h' : H b = some u) (d : o ≠ u) : a ≠ b := by
 intro e; subst e; rw [h] at h'; exact d (Option.some.inj h')
theorem zbg {H : Hp} {a b : Addr} {o : HO} (h : H a = some o) (h' : H b = none) : a ≠ b := by
 intro e; subst e; rw [h] at h'; cases h'
section
variable (P : Program) (w : World)
def zdu (H : Hp) (h : Heap) (a : Addr) : HO -> Prop
 | .lst xs => xs.length <= sizeLine /\ ∃ (its : List Value) (n : Nat), zcm xs its /\ h.get? a = some { cls := .type "list", data := .seq its.toArray n }
 | .tup xs => xs.length <= sizeLine /\ ∃ its : List Value, zcm xs its /\ IsTup h a its.toArray
 | .dK kvs => kvs.length <= sizeLine /\ (a == sysModules) = false /\ ∃ vs, KV kvs vs /\ h.DictOf (zbh P w) a vs
 | .dT kvs => kvs.length <= sizeLine /\ (a == sysModules) = false /\ ∃ xs : List (List Key × Addr × Value),
     Paired (λ (p : List Key × V) (q : List Key × Addr × Value) => p.1 = q.1 /\ H q.2.1 = some (.tup (p.1.map kV)) /\ zcw p.2 q.2.2) kvs xs /\
     ∃ o es ep, h.get? a = some o /\ o.ExactDict /\ o.data = .dict es ep /\ es.toList = xs.map (entryOfKey (tupleKind (zbh P w))) /\ (xs.map (·.1)).Nodup
 | .set S n => h.SetOf (intKind P w) a S n
 | .ins C dx fs => H dx = some (.own a) /\ fs.length <= 1000 /\ dx ≠ a /\ h.get? a = some (PySem.W.instObj C dx) /\
     ∃ mA, h.Ns1 dx mA /\ (∀ f, zk9 (fs.lookup f) (mA f)) /\ PySem.Within mA (fs.map (·.1))
 | .own _ => ∃ o, h.get? a = some o
 | .xd fs => ∃ mA, h.Ns1 a mA /\ ∀ f, zk9 (fs.lookup f) (mA f)
 | .rng lo hi => ∃ t u v, h.get? a = some { cls := .type "range", data := .fields #[.int lo t, .int hi u, .int 1 v] }
 | .frz o u => h.get? a = some o /\ zdu H h a u
 | .tbl ps => h.get? a = some { cls := .none, data := .fields ps }
 | .met f x => h.get? a = some (PySem.W.methodObj (.ref f) (.ref x))
 | .ext φ => φ h /\ (∃ o, h.get? a = some o) /\ ∀ h1 h2 : Heap, φ h1 -> (∀ o, h1.get? a = some o -> h2.get? a = some o) -> φ h2
def HOk (H : Hp) (h : Heap) : Prop := ∀ a o, H a = some o -> zdu P w H h a o
end
section
variable {P : Program} {w : World} {H H' : Hp} {h h' : Heap} {a : Addr} {o : HO}
theorem zdu.lt (x : zdu P w H h a o) : a < h.objs.size := by
 cases o with
 | lst xs => obtain ⟨_, _, _, _, e⟩ := x; exact Heap.lt_size e
 | tup xs => obtain ⟨_, _, _, p⟩ := x; exact p.lt
 | dK kvs => obtain ⟨_, _, _, _, o, _, _, e, _⟩ := x; exact Heap.lt_size e
 | dT kvs => obtain ⟨_, _, _, _, o, _, _, e, _⟩ := x; exact Heap.lt_size e
 | set S n => obtain ⟨o, _, _, _, e, _⟩ := x; exact Heap.lt_size e
 | ins C dx fs => obtain ⟨_, _, _, e, _⟩ := x; exact Heap.lt_size e
 | own y => obtain ⟨_, e⟩ := x; exact Heap.lt_size e
 | xd fs => obtain ⟨_, ⟨_, _, _, e, _⟩, _⟩ := x; exact Heap.lt_size e
 | rng lo hi => obtain ⟨_, _, _, e⟩ := x; exact Heap.lt_size e
 | frz ob u => obtain ⟨e, _⟩ := x; exact Heap.lt_size e
 | tbl ps => exact Heap.lt_size (show h.get? a = some _ from x)
 | met f y => exact Heap.lt_size (show h.get? a = some _ from x)
 | ext φ => obtain ⟨_, ⟨_, e⟩, _⟩ := x; exact Heap.lt_size e
theorem Paired.mapP {α β : Type} {F G : α -> β -> Prop} : ∀ {l₁ : List α} {l₂ : List β}, Paired F l₁ l₂ -> (∀ a b, F a b -> G a b) -> Paired G l₁ l₂
 | _, _, .nil, _ => .nil
 | _, _, .cons r t, f => .cons (f _ _ r) (Paired.mapP t f)
theorem zdu.stay (x : zdu P w H h a o) (k : ∀ b u, (b = a \/ H b = some (.own a)) -> h.get? b = some u -> h'.get? b = some u)
   (ho : ∀ b, H b = some (.own a) -> H' b = some (.own a)) (ht : ∀ b xs, H b = some (.tup xs) -> H' b = some (.tup xs)) : zdu P w H' h' a o := by
 induction o with
 | lst xs => obtain ⟨z, its, n, r, e⟩ := x; exact ⟨z, its, n, r, k _ _ (.inl rfl) e⟩
 | tup xs => obtain ⟨z, its, r, ob, e, c⟩ := x; exact ⟨z, its, r, ob, k _ _ (.inl rfl) e, c⟩
 | dK kvs => obtain ⟨z, y, vs, r, ob, es, ep, e, c⟩ := x; exact ⟨z, y, vs, r, ob, es, ep, k _ _ (.inl rfl) e, c⟩
 | dT kvs =>
   obtain ⟨z, y, xs, r, ob, es, ep, e, c⟩ := x
   exact ⟨z, y, xs, Paired.mapP r λ p q z => ⟨z.1, ht _ _ z.2.1, z.2.2⟩, ob, es, ep, k _ _ (.inl rfl) e, c⟩
 | set S n => obtain ⟨ob, es, ep, t, e, c⟩ := x; exact ⟨ob, es, ep, t, k _ _ (.inl rfl) e, c⟩
 | ins C dx fs =>
   obtain ⟨d, z, ne, e, mA, ⟨od, es, ep, e2, c⟩, r⟩ := x
   exact ⟨ho _ d, z, ne, k _ _ (.inl rfl) e, mA, ⟨od, es, ep, k _ _ (.inr d) e2, c⟩, r⟩
 | own y => obtain ⟨ob, e⟩ := x; exact ⟨ob, k _ _ (.inl rfl) e⟩
 | xd fs => obtain ⟨mA, ⟨od, es, ep, e, c⟩, r⟩ := x; exact ⟨mA, ⟨od, es, ep, k _ _ (.inl rfl) e, c⟩, r⟩
 | rng lo hi => obtain ⟨t, u, v, e⟩ := x; exact ⟨t, u, v, k _ _ (.inl rfl) e⟩
 | frz ob u ih => obtain ⟨e, q⟩ := x; exact ⟨k _ _ (.inl rfl) e, ih q⟩
 | tbl ps =>
   have e : h.get? a = some { cls := .none, data := .fields ps } := x
   show h'.get? a = some { cls := .none, data := .fields ps }
   exact k a _ (.inl rfl) e
 | met f y =>
   have e : h.get? a = some (PySem.W.methodObj (.ref f) (.ref y)) := x
   show h'.get? a = some (PySem.W.methodObj (.ref f) (.ref y))
   exact k a _ (.inl rfl) e
 | ext φ => obtain ⟨p, ⟨o, e⟩, st⟩ := x; exact ⟨st _ _ p λ o q => k _ _ (.inl rfl) q, ⟨o, k _ _ (.inl rfl) e⟩, st⟩
theorem HOk.lt (x : HOk P w H h) (e : H a = some o) : a < h.objs.size := (x a o e).lt
theorem HOk.fresh (x : HOk P w H h) (e : h.objs.size <= a) : H a = none := by
 cases q : H a with
 | none => rfl
 | some u => exact absurd (Nat.lt_of_lt_of_le (x.lt q) e) (Nat.lt_irrefl _)
theorem HOk.kept (x : HOk P w H h) (k : ∀ b u, h.get? b = some u -> h'.get? b = some u) : HOk P w H h' := λ a o e =>
 (x a o e).stay (λ b u _ q => k b u q) (λ _ q => q) λ _ _ q => q
theorem HOk.laid (x : HOk P w H h) (k : ∀ b u, h.get? b = some u -> h'.get? b = some u) (hp : h.objs.size <= a) (new : zdu P w (upd H a o) h' a o) : HOk P w (upd H a o) h' := λ b u e => by
 have hn := x.fresh hp
 by_cases hb : b = a
 . subst hb; rw [zab] at e; cases e; exact new
 . rw [zaf hb] at e
   exact (x b u e).stay (λ c v _ q => k c v q) (λ c q => by rw [zaf (zbg q hn)]; exact q) λ c xs q => by rw [zaf (zbg q hn)]; exact q
end
def Rd (H : Hp) (a : Addr) (u : HO) : Prop := H a = some u \/ ∃ o, H a = some (.frz o u)
theorem Rd.ok {P : Program} {w : World} {H : Hp} {h : Heap} {a : Addr} {u : HO} (r : Rd H a u) (x : HOk P w H h) : zdu P w H h a u := by
 rcases r with r | ⟨o, r⟩
 . exact x a u r
 . obtain ⟨_, q⟩ := x a _ r
   exact q
def Mut : Option HO -> Prop
 | some (.lst _) => True
 | some (.dK _) => True
 | some (.dT _) => True
 | some (.set _ _) => True
 | some (.ins _ _ _) => True
 | some (.ext _) => True
 | _ => False
section
variable {P : Program} {w : World} {H : Hp} {h h' : Heap} {x e : Addr} {o' : HO}
theorem HOk.write (ok : HOk P w H h) (mu : Mut (H x)) (he : e = x \/ H e = some (.own x)) (k : ∀ b u, b ≠ e -> h.get? b = some u -> h'.get? b = some u) (heo : ∃ u, h'.get? e = some u)
   (new : zdu P w (upd H x o') h' x o') : HOk P w (upd H x o') h' := λ b u q => by
 have nown : ∀ c y, H c = some (.own y) -> c ≠ x := λ c y r z => by subst z; rw [r] at mu; exact mu
 have ntup : ∀ c xs, H c = some (.tup xs) -> c ≠ x := λ c xs r z => by subst z; rw [r] at mu; exact mu
 by_cases hb : b = x
 . subst hb; rw [zab] at q; cases q; exact new
 . rw [zaf hb] at q
   by_cases hbe : b = e
   . have q' : H b = some (.own x) := by
       rcases he with z | z
       . exact absurd (hbe.trans z) hb
       . rw [hbe]; exact z
     rw [q] at q'; cases q'
     obtain ⟨v, hv⟩ := heo
     exact ⟨v, by rw [hbe]; exact hv⟩
   . refine (ok b u q).stay (λ c v hc r => k c v ?_ r) (λ c r => by rw [zaf (nown c b r)]; exact r) λ c xs r => by rw [zaf (ntup c xs r)]; exact r
     rcases hc with rfl | hc
     . exact hbe
     . rintro rfl
       rcases he with z | z
       . exact nown c b hc z
       . rw [hc] at z; cases z; exact hb rfl
end
structure Un (fs ex : List Addr) (H H' : Hp) (h h' : Heap) : Prop where
 keep : ∀ b o, h.get? b = some o -> H b = none -> b ∉ fs -> b ∉ ex -> h'.get? b = some o
 slot : ∀ b o, h.get? b = some o -> H b = none -> b ∈ fs -> b ∉ ex -> ∃ sl, h'.get? b = some { o with slots := sl }
 free : ∀ b o, h.get? b = some o -> H b = none -> b ∉ ex -> H' b = none
 there : ∀ b o, h.get? b = some o -> b ∉ ex -> ∃ o', h'.get? b = some o'
 tups : ∀ b xs, H b = some (.tup xs) -> H' b = some (.tup xs)
 frzs : ∀ b o u, H b = some (.frz o u) -> H' b = some (.frz o u)
 tbls : ∀ b ps, H b = some (.tbl ps) -> ∃ more, H' b = some (.tbl (ps ++ more))
section
variable {fs fs' ex ex' : List Addr} {H H1 H2 : Hp} {h h1 h2 h' : Heap} {a x e : Addr} {o : HO}
theorem Un.any (u : Un fs ex H H1 h h1) {b : Addr} {ob : Obj} (q : h.get? b = some ob) (n : H b = none) (hx : b ∉ ex) : ∃ sl, h1.get? b = some { ob with slots := sl } := by
 by_cases hb : b ∈ fs
 . exact u.slot b ob q n hb hx
 . exact ⟨ob.slots, u.keep b ob q n hb hx⟩
theorem Un.kept (k : ∀ b u, h.get? b = some u -> h'.get? b = some u) : Un fs ex H H h h' :=
 ⟨λ b ob q _ _ _ => k b ob q, λ b ob q _ _ _ => ⟨ob.slots, k b ob q⟩, λ _ _ _ n _ => n, λ b ob q _ => ⟨ob, k b ob q⟩, λ _ _ q => q, λ _ _ _ q => q, λ _ ps q => ⟨#[], by rw [q]; simp⟩⟩
theorem Un.refl : Un fs ex H H h h := Un.kept λ _ _ q => q
theorem Un.laid (k : ∀ b u, h.get? b = some u -> h'.get? b = some u) (hp : h.objs.size <= a) (hn : H a = none) : Un fs ex H (upd H a o) h h' where
 keep := λ b u q _ _ _ => k b u q
 slot := λ b u q _ _ _ => ⟨u.slots, k b u q⟩
 free := λ b u q n _ => by rw [zaf (Nat.ne_of_lt (Nat.lt_of_lt_of_le (Heap.lt_size q) hp))]; exact n
 there := λ b u q _ => ⟨u, k b u q⟩
 tups := λ b xs q => by rw [zaf (zbg q hn)]; exact q
 frzs := λ b u xs q => by rw [zaf (zbg q hn)]; exact q
 tbls := λ b ps q => ⟨#[], by rw [zaf (zbg q hn), q]; simp⟩
theorem Un.write (mu : Mut (H x)) (he : e = x \/ H e = some (.own x)) (k : ∀ b u, b ≠ e -> h.get? b = some u -> h'.get? b = some u) (heo : ∃ u, h'.get? e = some u) : Un fs ex H (upd H x o) h h' := by
 have hx : ∀ b, H b = none -> b ≠ x := λ b n z => by subst z; rw [n] at mu; exact mu
 have hb : ∀ b, H b = none -> b ≠ e := λ b n z => by
   subst z
   rcases he with r | r
   . exact hx b n r
   . rw [n] at r; cases r
 have hm : ∀ b u, H b = some u -> ¬ Mut (some u) -> b ≠ x := λ b u q nm z => by subst z; rw [q] at mu; exact nm mu
 refine ⟨λ b u q n _ _ => k b u (hb b n) q, λ b u q n _ _ => ⟨u.slots, k b u (hb b n) q⟩, λ b u q n _ => by rw [zaf (hx b n)]; exact n, λ b u q _ => ?_,
   λ b xs q => by rw [zaf (hm b _ q λ z => z)]; exact q, λ b u xs q => by rw [zaf (hm b _ q λ z => z)]; exact q, λ b ps q => ⟨#[], by rw [zaf (hm b _ q λ z => z), q]; simp⟩⟩
 by_cases hbe : b = e
 . subst hbe; exact heo
 . exact ⟨u, k b u hbe q⟩
end
def trk (h : Heap) (H : Hp) : List Addr := (List.range h.objs.size).filter λ a => (H a).isSome
def ztp (h : Heap) (H : Hp) : Heap := PySem.W.hideAll h (trk h H)
theorem zsf (h : Heap) (H : Hp) : (ztp h H).objs.size = h.objs.size := PySem.W.hideAll_size _ _
theorem zs8 {h : Heap} {H : Hp} {b : Addr} {o : Obj} (e : h.get? b = some o) (n : H b = none) : (ztp h H).get? b = some o :=
 PySem.W.hideAll_get _ e λ hm => by
   have q : (H b).isSome = true := (List.mem_filter.mp hm).2
   rw [n] at q; simp at q
theorem zu5 {h : Heap} {H : Hp} {b : Addr} {o : Obj} (e : (ztp h H).get? b = some o) : h.get? b = some o /\ H b = none := by
 have e' : h.get? b = some o := PySem.W.of_hideAll (trk h H) e
 refine ⟨e', ?_⟩
 cases q : H b with
 | none => rfl
 | some x =>
   have hm : b ∈ trk h H := List.mem_filter.mpr ⟨List.mem_range.mpr (Heap.lt_size e'), by simp [q]⟩
   have z : (ztp h H).get? b = none := PySem.W.hideAll_none (trk h H) hm
   rw [z] at e; cases e
end L2
namespace L2
open PySem PySem.Spec PyProof.Rows
structure Mod (K : W.Frag) (mg : Str -> Option Value) (base : Heap) : Prop where
 kin : K.In base
 glob : base.Ns mainGlobals mg
 blt : ∃ mb, base.Ns builtinsNs mb /\ ∀ x : Str, x ≠ "__name__" -> mb x = bootBuiltins x
 nolimit : base.NoLimit
structure Cx where
 prog : Program
 w : World
 K : W.Frag
 mg : Str -> Option Value
 base : Heap
 A : Around
 N : List Str
 s₀ : Shared
 H₀ : Hp
 env : Env
 outer : List Env
 stack : List Env
 ex : List Addr
 fn : Str -> Bool
 calm : Bool
 pn : List (Addr × Obj)
 xe : Value -> Shared -> Prop
def frs (l : List Env) : List Addr := l.filterMap (·.frame)
abbrev Cx.fs (X : Cx) : List Addr := frs X.outer
def Vis (sc : Scope) (x : Str) : Prop := sc.names.lookup x = some .local \/ sc.names.lookup x = some .cell \/ sc.names.lookup x = some .free
def Loc (sc : Scope) (x : Str) : Prop := sc.names.lookup x = some .local \/ sc.names.lookup x = some .cell
def Look (env : Env) (h : Heap) (m : Str -> Option Value) (x : Str) (u : Value) : Prop :=
 (env.kindOf x = some .local /\ m x = some u) \/ ((env.kindOf x = some .cell \/ env.kindOf x = some .free) /\ ∃ c, env.cells.lookup x = some c /\ h.IsCell c (some u))
structure Cx.Ok (X : Cx) : Prop where
 mod : Mod X.K X.mg X.base
 kind : X.env.scope.kind = .function
 glob : X.env.globals = mainGlobals
 blt : X.env.builtins = builtinsNs
 above : X.s₀.heap.objs.size <= X.env.locals
 inj : ∀ x y c, X.env.cells.lookup x = some c -> X.env.cells.lookup y = some c -> x = y
 has : ∀ x, (X.env.kindOf x = some .cell \/ X.env.kindOf x = some .free) -> ∃ c, X.env.cells.lookup x = some c
 cab : ∀ x c, X.fn x = true -> X.env.cells.lookup x = some c -> X.s₀.heap.objs.size <= c
 hd : X.calm = true -> X.A.handled = none
 frames : X.A.frames = some X.stack
 stk : X.stack = X.outer \/ (X.stack = X.env :: X.outer /\ X.env.frame = some X.env.locals)
 exf : ∀ b ∈ X.ex, b ≠ X.env.locals /\ ∀ x c, X.env.cells.lookup x = some c -> c ≠ b
 bs : ∀ b o, X.base.get? b = some o -> X.s₀.heap.get? b = some o /\ X.H₀ b = none
 bsz : X.base.objs.size <= X.s₀.heap.objs.size
 noex : ∀ b o, X.base.get? b = some o -> b ∉ X.ex
 exfs : ∀ b ∈ X.ex, b ∉ X.fs
 funs : X.s₀.heap.FunFrames X.base X.outer
 frf : ∀ b ∈ X.fs, X.H₀ b = none
structure Inv (X : Cx) (pins : List (Addr × Obj)) (σ : List (Option V)) (H : Hp) (s : Shared) : Prop where
 ok : X.Ok
 os : s.os = X.s₀.os
 bare : AllBare s.gens
 base : Un X.fs X.ex X.H₀ H X.s₀.heap s.heap
 loc : ∃ m, s.heap.Ns X.env.locals m /\ ∀ (i : Nat) (x : Str) (v : V), X.N[i]? = some x -> σ[i]? = some (some v) -> Vis X.env.scope x -> ∃ u, zcw v u /\ Look X.env s.heap m x u
 cell : ∀ x c, X.env.cells.lookup x = some c -> ∃ v, s.heap.IsCell c v
 free : H X.env.locals = none
 freeC : ∀ x c, X.env.cells.lookup x = some c -> H c = none
 pin : ∀ p ∈ X.pn ++ pins, s.heap.get? p.1 = some p.2 /\ H p.1 = none /\ p.1 ≠ X.env.locals /\ p.1 ∉ X.fs /\ ∀ v, p.2.data ≠ .cell v
 hok : HOk X.prog X.w H s.heap
 len : σ.length = X.N.length
section
variable {X : Cx} {pins : List (Addr × Obj)} {σ : List (Option V)} {H H' : Hp} {s : Shared} {h' : Heap}
theorem Cx.Ok.nofr (ok : X.Ok) {b : Addr} {o : Obj} (e : X.base.get? b = some o) : b ∉ X.fs := λ hb => by
 have := (ok.funs.mem hb).1
 rw [e] at this; cases this
theorem Inv.bs (I : Inv X pins σ H s) : ∀ b o, X.base.get? b = some o -> s.heap.get? b = some o /\ H b = none := λ b o e =>
 ⟨I.base.keep b o (I.ok.bs b o e).1 (I.ok.bs b o e).2 (I.ok.nofr e) (I.ok.noex b o e), I.base.free b o (I.ok.bs b o e).1 (I.ok.bs b o e).2 (I.ok.noex b o e)⟩
theorem Inv.bk (I : Inv X pins σ H s) : ∀ b o, X.base.get? b = some o -> s.heap.get? b = some o := λ b o e => (I.bs b o e).1
theorem Inv.mod (I : Inv X pins σ H s) : Mod X.K X.mg X.base := I.ok.mod
theorem Inv.kIn (I : Inv X pins σ H s) : X.K.In s.heap := I.ok.mod.kin.keeps I.bk
theorem Inv.fr (I : Inv X pins σ H s) : ∃ m, Fr X.base X.env.locals s.heap m :=
 let ⟨m, hn, _⟩ := I.loc
 ⟨m, hn, I.bk, Nat.le_trans I.ok.bsz I.ok.above⟩
theorem Inv.lt (I : Inv X pins σ H s) : X.env.locals < s.heap.objs.size := let ⟨_, hn, _⟩ := I.loc; hn.lt
theorem Inv.sz (I : Inv X pins σ H s) : X.s₀.heap.objs.size <= s.heap.objs.size := Nat.le_trans I.ok.above (Nat.le_of_lt I.lt)
theorem Inv.nofs (I : Inv X pins σ H s) {a : Addr} (h : s.heap.objs.size <= a) : a ∉ X.fs := λ hb => by
 obtain ⟨_, o, ho, _⟩ := I.ok.funs.mem hb
 exact absurd (Nat.lt_of_lt_of_le (Heap.lt_size ho) (Nat.le_trans I.sz h)) (Nat.lt_irrefl _)
theorem Inv.cne (I : Inv X pins σ H s) : ∀ x c, X.env.cells.lookup x = some c -> c ≠ X.env.locals := λ x c e z => by
 obtain ⟨v, o, ho, hd⟩ := I.cell x c e
 obtain ⟨m, ⟨o', es, ep, ho', hd', _⟩, _⟩ := I.loc
 rw [z, ho'] at ho; cases ho; rw [hd'] at hd; cases hd
theorem Inv.funs (I : Inv X pins σ H s) : s.heap.FunFrames X.base X.outer := by
 have all : ∀ (l : List Env), (∀ b ∈ frs l, b ∈ X.fs) -> X.s₀.heap.FunFrames X.base l -> s.heap.FunFrames X.base l := by
   intro l
   induction l with
   | nil => intro _ _; trivial
   | cons env r ih =>
     intro hs hl
     obtain ⟨hk, ⟨L, o, hf, hn, ho, hd⟩, hr⟩ := hl
     have hL : L ∈ X.fs := hs L (by unfold frs; rw [List.filterMap_cons, hf]; exact List.mem_cons_self)
     obtain ⟨sl, e⟩ := I.base.slot L o ho (I.ok.frf L hL) hL λ z => I.ok.exfs L z hL
     exact ⟨hk, ⟨L, _, hf, hn, e, hd⟩, ih (λ b hb => hs b (by unfold frs; rw [List.filterMap_cons, hf]; exact List.mem_cons_of_mem _ hb)) hr⟩
 exact all X.outer (λ _ hb => hb) I.ok.funs
theorem Inv.stack (I : Inv X pins σ H s) : s.heap.FunFrames X.base X.stack := by
 rcases I.ok.stk with e | ⟨e, hf⟩
 . rw [e]; exact I.funs
 . rw [e]
   obtain ⟨m, hn, _⟩ := I.loc
   refine .cons (by rw [I.ok.kind]; decide) hf hn ?_ I.funs
   exact Heap.get?_none_of_le (Nat.le_trans I.ok.bsz I.ok.above)
theorem Inv.stkSub (I : Inv X pins σ H s) : ∀ b ∈ frs X.stack, b ∈ X.env.locals :: X.fs := λ b hb => by
 rcases I.ok.stk with e | ⟨e, hf⟩
 . rw [e] at hb; exact List.mem_cons_of_mem _ hb
 . rw [e] at hb
   unfold frs at hb
   rw [List.filterMap_cons, hf] at hb
   exact hb
theorem Inv.stkFree (I : Inv X pins σ H s) : ∀ b ∈ frs X.stack, H b = none := λ b hb => by
 rcases List.mem_cons.mp (I.stkSub b hb) with e | hb
 . rw [e]; exact I.free
 . obtain ⟨_, o, ho, _⟩ := I.ok.funs.mem hb
   exact I.base.free b o ho (I.ok.frf b hb) λ z => I.ok.exfs b z hb
theorem Inv.step {g' : Array GenState} {t' : Nat} {d' : Drawn} {ch : List Addr} (I : Inv X pins σ H s)
   (hch : ∀ b ∈ ch, (b ∈ X.ex \/ X.s₀.heap.objs.size <= b) /\ b ≠ X.env.locals /\ (∀ x c, X.env.cells.lookup x = some c -> c ≠ b) /\ ∀ p ∈ X.pn ++ pins, p.1 ≠ b)
   (keep : ∀ b o, b ≠ X.env.locals -> b ∉ X.fs -> b ∉ ch -> s.heap.get? b = some o -> H b = none -> h'.get? b = some o)
   (slot : ∀ b o, b ≠ X.env.locals -> b ∈ X.fs -> b ∉ ch -> s.heap.get? b = some o -> H b = none -> ∃ sl, h'.get? b = some { o with slots := sl }) (free : ∀ b o, b ∉ ch -> s.heap.get? b = some o -> H b = none -> H' b = none)
   (there : ∀ b o, b ∉ ch -> s.heap.get? b = some o -> ∃ o', h'.get? b = some o')
   (tups : ∀ b xs, H b = some (.tup xs) -> H' b = some (.tup xs)) (frzs : ∀ b o u, H b = some (.frz o u) -> H' b = some (.frz o u)) (tbls : ∀ b ps, H b = some (.tbl ps) -> ∃ more, H' b = some (.tbl (ps ++ more)))
   (ns : ∀ m, s.heap.Ns X.env.locals m -> h'.Ns X.env.locals m) (hok : HOk X.prog X.w H' h') (hg : AllBare g') :
   Inv X pins σ H' { s with heap := h', gens := g', drawn := d', toks := t' } := by
 have neL : ∀ b o, X.s₀.heap.get? b = some o -> b ≠ X.env.locals := λ b o e => Nat.ne_of_lt (Nat.lt_of_lt_of_le (Heap.lt_size e) I.ok.above)
 have neC : ∀ b o, X.s₀.heap.get? b = some o -> b ∉ X.ex -> b ∉ ch := λ b o e hx hb => by
   rcases (hch b hb).1 with z | z
   . exact hx z
   . exact absurd (Nat.lt_of_lt_of_le (Heap.lt_size e) z) (Nat.lt_irrefl _)
 have cellK : ∀ x c, X.env.cells.lookup x = some c -> ∀ v, s.heap.IsCell c v -> h'.IsCell c v := λ x c e v ⟨o, ho, hd⟩ => by
   have nch : c ∉ ch := λ z => (hch c z).2.2.1 x c e rfl
   by_cases hc : c ∈ X.fs
   . obtain ⟨sl, q⟩ := slot c o (I.cne x c e) hc nch ho (I.freeC x c e)
     exact ⟨_, q, hd⟩
   . exact ⟨o, keep c o (I.cne x c e) hc nch ho (I.freeC x c e), hd⟩
 refine ⟨I.ok, I.os, hg, ⟨λ b o e n hb hx => ?_, λ b o e n hb hx => ?_, λ b o e n hx => ?_, λ b o e hx => ?_, λ b xs e => tups b xs (I.base.tups b xs e), λ b o xs e => frzs b o xs (I.base.frzs b o xs e), λ b ps e => ?_⟩, ?_, λ x c e => ?_, ?_, λ x c e => ?_, λ p hp => ?_, hok, I.len⟩
 . exact keep b o (neL b o e) hb (neC b o e hx) (I.base.keep b o e n hb hx) (I.base.free b o e n hx)
 . obtain ⟨sl, e1⟩ := I.base.slot b o e n hb hx
   obtain ⟨sl', e2⟩ := slot b _ (neL b o e) hb (neC b o e hx) e1 (I.base.free b o e n hx)
   exact ⟨sl', e2⟩
 . obtain ⟨o', e1⟩ := I.base.there b o e hx
   exact free b o' (neC b o e hx) e1 (I.base.free b o e n hx)
 . obtain ⟨o', e1⟩ := I.base.there b o e hx
   exact there b o' (neC b o e hx) e1
 . obtain ⟨m1, e1⟩ := I.base.tbls b ps e
   obtain ⟨m2, e2⟩ := tbls b _ e1
   exact ⟨m1 ++ m2, by rw [e2, Array.append_assoc]⟩
 . obtain ⟨m, hn, hl⟩ := I.loc
   refine ⟨m, ns m hn, λ i x v e1 e2 e3 => ?_⟩
   obtain ⟨u, r, l⟩ := hl i x v e1 e2 e3
   refine ⟨u, r, ?_⟩
   rcases l with l | ⟨k, c, e, z⟩
   . exact .inl l
   . exact .inr ⟨k, c, e, cellK x c e _ z⟩
 . obtain ⟨v, z⟩ := I.cell x c e
   exact ⟨v, cellK x c e v z⟩
 . obtain ⟨m, ⟨o, _, _, ho, _⟩, _⟩ := I.loc
   exact free _ o (λ z => (hch _ z).2.1 rfl) ho I.free
 . obtain ⟨v, o, ho, hd⟩ := I.cell x c e
   exact free c o (λ z => (hch c z).2.2.1 x c e rfl) ho (I.freeC x c e)
 . obtain ⟨e, n, ne, nf, d⟩ := I.pin p hp
   have nch : p.1 ∉ ch := λ z => (hch p.1 z).2.2.2 p hp rfl
   exact ⟨keep p.1 p.2 ne nf nch e n, free p.1 p.2 nch e n, ne, nf, d⟩
theorem Inv.un {t' : Nat} (I : Inv X pins σ H s) (u : Un X.fs [] H H' s.heap h') (hok : HOk X.prog X.w H' h') : Inv X pins σ H' { s with heap := h', toks := t' } := by
 obtain ⟨m, ⟨o, es, ep, ho, r⟩, _⟩ := id I.loc
 obtain ⟨sl, hL⟩ := u.any ho I.free (by simp)
 exact I.step (g' := s.gens) (d' := s.drawn) (ch := []) (λ _ z => nomatch z) (λ b o _ hb _ e n => u.keep b o e n hb (by simp)) (λ b o _ hb _ e n => u.slot b o e n hb (by simp)) (λ b o _ e n => u.free b o e n (by simp)) (λ b o _ e => u.there b o e (by simp)) u.tups u.frzs u.tbls (λ m' hm => by
   obtain ⟨o', es', ep', ho', r'⟩ := hm
   rw [ho] at ho'; cases ho'
   exact ⟨_, es', ep', hL, r'⟩) hok I.bare
theorem Inv.call {g' : Array GenState} {t' : Nat} {d' : Drawn} {ch : List Addr} (I : Inv X pins σ H s) (u : Un (frs X.stack) ch H H' s.heap h') (hok : HOk X.prog X.w H' h') (hg : AllBare g')
   (hch : ∀ b ∈ ch, (b ∈ X.ex \/ X.s₀.heap.objs.size <= b) /\ b ≠ X.env.locals /\ (∀ x c, X.env.cells.lookup x = some c -> c ≠ b) /\ ∀ p ∈ X.pn ++ pins, p.1 ≠ b) :
   Inv X pins σ H' { s with heap := h', gens := g', drawn := d', toks := t' } := by
 obtain ⟨m, ⟨o, es, ep, ho, r⟩, _⟩ := id I.loc
 obtain ⟨sl, hL⟩ := u.any ho I.free λ z => (hch _ z).2.1 rfl
 exact I.step (ch := ch) hch (λ b o hL hb hc e n => u.keep b o e n (λ z => (List.mem_cons.mp (I.stkSub b z)).elim hL hb) hc) (λ b o _ _ hc e n => u.any e n hc) (λ b o hc e n => u.free b o e n hc) (λ b o hc e => u.there b o e hc) u.tups u.frzs u.tbls (λ m' hm => by
   obtain ⟨o', es', ep', ho', r'⟩ := hm
   rw [ho] at ho'; cases ho'
   exact ⟨_, es', ep', hL, r'⟩) hok hg
theorem Inv.turned {t' : Nat} {it : Addr} (I : Inv X pins σ H s) (k : ∀ b o, b ≠ it -> s.heap.get? b = some o -> h'.get? b = some o) (hn : H it = none) (hL : it ≠ X.env.locals)
   (h1 : it ∈ X.ex \/ X.s₀.heap.objs.size <= it) (h2 : ∀ x c, X.env.cells.lookup x = some c -> c ≠ it) (h3 : ∀ p ∈ X.pn ++ pins, p.1 ≠ it) : Inv X pins σ H { s with heap := h', toks := t' } := by
 have nit : ∀ b u, H b = some u -> b ≠ it := λ b u e z => by rw [z, hn] at e; cases e
 refine I.step (g' := s.gens) (d' := s.drawn) (ch := [it]) (λ b hb => ?_) (λ b o _ _ hc e _ => k b o (λ z => hc (by simp [z])) e) (λ b o _ _ hc e _ => ⟨o.slots, k b o (λ z => hc (by simp [z])) e⟩) (λ _ _ _ _ n => n)
   (λ b o hc e => ⟨o, k b o (λ z => hc (by simp [z])) e⟩) (λ _ _ e => e) (λ _ _ _ e => e) (λ b ps e => ⟨#[], by rw [e]; simp⟩) (λ m hm => ?_) (λ b u e => ?_) I.bare
 . have e : b = it := by simpa using hb
   subst e
   exact ⟨h1, hL, h2, h3⟩
 . obtain ⟨o, es, ep, ho, r⟩ := hm
   exact ⟨o, es, ep, k _ o (Ne.symm hL) ho, r⟩
 . refine (I.hok b u e).stay (λ c v hc q => k c v ?_ q) (λ _ q => q) λ _ _ q => q
   rcases hc with z | z
   . rw [z]; exact nit b u e
   . exact nit c _ z
theorem Inv.tok (I : Inv X pins σ H s) (t : Nat) : Inv X pins σ H { s with toks := t } := I.un (h' := s.heap) (t' := t) Un.refl I.hok
theorem Inv.kept {t' : Nat} (I : Inv X pins σ H s) (k : ∀ b u, s.heap.get? b = some u -> h'.get? b = some u) : Inv X pins σ H { s with heap := h', toks := t' } := I.un (Un.kept k) (I.hok.kept k)
theorem Inv.laid {a : Addr} {o : HO} {t' : Nat} (I : Inv X pins σ H s) (k : ∀ b u, s.heap.get? b = some u -> h'.get? b = some u) (hp : s.heap.objs.size <= a) (new : zdu X.prog X.w (upd H a o) h' a o) :
   Inv X pins σ (upd H a o) { s with heap := h', toks := t' } := I.un (Un.laid k hp (I.hok.fresh hp)) (I.hok.laid k hp new)
theorem Inv.write {x e : Addr} {o : HO} {t' : Nat} (I : Inv X pins σ H s) (mu : Mut (H x)) (he : e = x \/ H e = some (.own x)) (k : ∀ b u, b ≠ e -> s.heap.get? b = some u -> h'.get? b = some u) (heo : ∃ u, h'.get? e = some u)
   (new : zdu X.prog X.w (upd H x o) h' x o) : Inv X pins σ (upd H x o) { s with heap := h', toks := t' } := I.un (Un.write mu he k heo) (I.hok.write mu he k heo new)
theorem Inv.weak {σ' : List (Option V)} (I : Inv X pins σ H s) (hl : σ'.length = σ.length) (w : ∀ (i : Nat) v, σ'[i]? = some (some v) -> σ[i]? = some (some v)) : Inv X pins σ' H s :=
 ⟨I.ok, I.os, I.bare, I.base, let ⟨m, hn, hl'⟩ := I.loc; ⟨m, hn, λ i x v e1 e2 e3 => hl' i x v e1 (w i v e2) e3⟩, I.cell, I.free, I.freeC, I.pin, I.hok, hl.trans I.len⟩
theorem Inv.pins_of {pins' : List (Addr × Obj)} (I : Inv X pins σ H s) (h : ∀ p ∈ pins', s.heap.get? p.1 = some p.2 /\ H p.1 = none /\ p.1 ≠ X.env.locals /\ p.1 ∉ X.fs /\ ∀ v, p.2.data ≠ .cell v) : Inv X pins' σ H s :=
 ⟨I.ok, I.os, I.bare, I.base, I.loc, I.cell, I.free, I.freeC, λ p hp => (List.mem_append.mp hp).elim (λ z => I.pin p (List.mem_append_left _ z)) (h p), I.hok, I.len⟩
theorem zos {N : List Str} (hN : N.Nodup) {i j : Nat} {x : Str} (a : N[i]? = some x) (b : N[j]? = some x) : i = j := by
 obtain ⟨h1, e1⟩ := List.getElem?_eq_some_iff.mp a
 obtain ⟨h2, e2⟩ := List.getElem?_eq_some_iff.mp b
 exact (List.getElem_inj hN).mp (e1.trans e2.symm)
theorem zl6 {M : Model} {A : Around} {E : Value -> Shared -> Prop} {i : Nat} {x : Str} {v : V} {u : Value} {Q : Unit -> Shared -> Prop} (I : Inv X pins σ H s) (hN : X.N.Nodup) (hi : X.N[i]? = some x) (hx : Loc X.env.scope x) (r : zcw v u)
   (h : ∀ s', Inv X pins (σ.set i (some v)) H s' -> (∃ a, Heap.SameBut a s.heap s'.heap /\ (a = X.env.locals \/ X.env.cells.lookup x = some a)) -> Q () s') (hf : X.fn x = true \/ X.env.scope.names.lookup x = some .local := by first | exact .inl rfl | exact .inr rfl | assumption) : wpAny M A (storeName X.env x u) Q E s := by
 obtain ⟨m, hn, hl⟩ := id I.loc
 have hcls : (X.env.scope.kind == .class || (X.env.scope.kind == .module && X.env.locals != X.env.globals)) = false := by rw [I.ok.kind]; rfl
 have hiσ : i < σ.length := by rw [I.len]; exact (List.getElem?_eq_some_iff.mp hi).1
 have cne := I.cne
 have tracked : ∀ {a : Addr} {h' : Heap}, (∃ o, s.heap.get? a = some o /\ H a = none) -> Heap.SameBut a s.heap h' -> HOk X.prog X.w H h' := λ {a h'} ha hs b ob e => by
   obtain ⟨_, _, hfree⟩ := ha
   refine (I.hok b ob e).stay (λ c w' hc q => (hs.2 c ?_).trans q) (λ _ q => q) λ _ _ q => q
   rintro rfl
   rcases hc with rfl | hc
   . rw [hfree] at e; cases e
   . rw [hfree] at hc; cases hc
 rcases hx with hk | hk
 . refine wpAny_storeName_local hk hn (λ h' hn' hs => ?_) hcls
   obtain ⟨oL, _, _, hoL, _⟩ := id hn
   refine h _ ⟨I.ok, I.os, I.bare, ⟨λ b o e n hb hx => ?_, λ b o e n hb hx => ?_, I.base.free, λ b o e hx => ?_, I.base.tups, I.base.frzs, I.base.tbls⟩, ⟨_, hn', λ j y v' e1 e2 e3 => ?_⟩, λ y c e => ?_, I.free, I.freeC, λ p hp => ?_, tracked ⟨oL, hoL, I.free⟩ hs, by simpa using I.len⟩ ⟨_, hs, .inl rfl⟩
   . exact (hs.2 b (Nat.ne_of_lt (Nat.lt_of_lt_of_le (Heap.lt_size e) I.ok.above))).trans (I.base.keep b o e n hb hx)
   . obtain ⟨sl, e1⟩ := I.base.slot b o e n hb hx
     exact ⟨sl, (hs.2 b (Nat.ne_of_lt (Nat.lt_of_lt_of_le (Heap.lt_size e) I.ok.above))).trans e1⟩
   . obtain ⟨o', e1⟩ := I.base.there b o e hx
     exact ⟨o', (hs.2 b (Nat.ne_of_lt (Nat.lt_of_lt_of_le (Heap.lt_size e) I.ok.above))).trans e1⟩
   . by_cases hj : j = i
     . subst hj
       rw [hi] at e1; cases e1
       rw [List.getElem?_set_self hiσ] at e2
       cases e2
       exact ⟨u, r, .inl ⟨hk, by simp⟩⟩
     . rw [List.getElem?_set_ne (Ne.symm hj)] at e2
       obtain ⟨u', r', q⟩ := hl j y v' e1 e2 e3
       refine ⟨u', r', ?_⟩
       rcases q with ⟨k, e⟩ | ⟨k, c, e, z⟩
       . refine .inl ⟨k, ?_⟩
         have : y ≠ x := λ e => hj (zos hN e1 (e ▸ hi))
         simp [this, e]
       . exact .inr ⟨k, c, e, z.sameBut hs (cne y c e)⟩
   . obtain ⟨w', z⟩ := I.cell y c e
     exact ⟨w', z.sameBut hs (cne y c e)⟩
   . obtain ⟨e, n, ne, nf, d⟩ := I.pin p hp
     exact ⟨(hs.2 p.1 ne).trans e, n, ne, nf, d⟩
 . have hfn : X.fn x = true := by
     rcases hf with z | z
     . exact z
     . rw [z] at hk; cases hk
   obtain ⟨c, hc⟩ := I.ok.has x (.inl hk)
   obtain ⟨w', z⟩ := I.cell x c hc
   refine wpAny_storeName_cell I.ok.kind hk hc z (λ h' hc' hs => ?_)
   obtain ⟨oc, hoc, hocd⟩ := id z
   refine h { s with heap := h' } ⟨I.ok, I.os, I.bare, ⟨λ b o e n hb hx => ?_, λ b o e n hb hx => ?_, I.base.free, λ b o e hx => ?_, I.base.tups, I.base.frzs, I.base.tbls⟩, ⟨m, hn.sameBut hs (Ne.symm (cne x c hc)), λ j y v' e1 e2 e3 => ?_⟩, λ y c' e => ?_, I.free, I.freeC, λ p hp => ?_, tracked ⟨oc, hoc, I.freeC x c hc⟩ hs, by simpa using I.len⟩ ⟨c, hs, .inr hc⟩
   . exact (hs.2 b (Nat.ne_of_lt (Nat.lt_of_lt_of_le (Heap.lt_size e) (I.ok.cab x c hfn hc)))).trans (I.base.keep b o e n hb hx)
   . obtain ⟨sl, e1⟩ := I.base.slot b o e n hb hx
     exact ⟨sl, (hs.2 b (Nat.ne_of_lt (Nat.lt_of_lt_of_le (Heap.lt_size e) (I.ok.cab x c hfn hc)))).trans e1⟩
   . obtain ⟨o', e1⟩ := I.base.there b o e hx
     exact ⟨o', (hs.2 b (Nat.ne_of_lt (Nat.lt_of_lt_of_le (Heap.lt_size e) (I.ok.cab x c hfn hc)))).trans e1⟩
   . by_cases hj : j = i
     . subst hj
       rw [hi] at e1; cases e1
       rw [List.getElem?_set_self hiσ] at e2
       cases e2
       exact ⟨u, r, .inr ⟨.inl hk, c, hc, hc'⟩⟩
     . rw [List.getElem?_set_ne (Ne.symm hj)] at e2
       obtain ⟨u', r', q⟩ := hl j y v' e1 e2 e3
       refine ⟨u', r', ?_⟩
       rcases q with q | ⟨k, c', e, z'⟩
       . exact .inl q
       . refine .inr ⟨k, c', e, z'.sameBut hs ?_⟩
         rintro rfl
         exact hj (zos hN e1 (I.ok.inj _ _ _ e hc ▸ hi))
   . by_cases hcc : c' = c
     . subst hcc; exact ⟨_, hc'⟩
     . obtain ⟨w2, z2⟩ := I.cell y c' e
       exact ⟨w2, z2.sameBut hs hcc⟩
   . obtain ⟨e, n, ne, nf, d⟩ := I.pin p hp
     refine ⟨(hs.2 p.1 ?_).trans e, n, ne, nf, d⟩
     intro q
     rw [q, hoc] at e
     have q' : oc = p.2 := Option.some.inj e
     exact d w' (by rw [<- q']; exact hocd)
theorem znx {M : Model} {A : Around} {E : Value -> Shared -> Prop} {i : Nat} {x : Str} {v : V} {u : Value} {Q : Unit -> Shared -> Prop} (I : Inv X pins σ H s) (hN : X.N.Nodup) (hi : X.N[i]? = some x) (hx : Loc X.env.scope x) (r : zcw v u)
   (h : ∀ s', Inv X pins (σ.set i (some v)) H s' -> Q () s') (hf : X.fn x = true \/ X.env.scope.names.lookup x = some .local := by first | exact .inl rfl | exact .inr rfl | assumption) : wpAny M A (storeName X.env x u) Q E s :=
 zl6 I hN hi hx r (λ s' I' _ => h s' I') hf
theorem Inv.call' {s' : Shared} {ch : List Addr} (I : Inv X pins σ H s) (ho : s'.os = s.os) (u : Un (frs X.stack) ch H H' s.heap s'.heap) (hok : HOk X.prog X.w H' s'.heap) (hg : AllBare s'.gens)
   (hch : ∀ b ∈ ch, (b ∈ X.ex \/ X.s₀.heap.objs.size <= b) /\ b ≠ X.env.locals /\ (∀ x c, X.env.cells.lookup x = some c -> c ≠ b) /\ ∀ p ∈ X.pn ++ pins, p.1 ≠ b) : Inv X pins σ H' s' := by
 obtain ⟨h', g', d', t', o'⟩ := s'
 have e : o' = s.os := ho
 subst e
 exact I.call (g' := g') (t' := t') (d' := d') u hok hg hch
end
abbrev XK := Value -> Option Addr -> Hp -> Prop
abbrev St := List (Option V)
abbrev VK := V -> Hp -> Prop
abbrev TE := St -> Hp -> VK -> Prop
abbrev TT := St -> Hp -> (Bool -> Hp -> Prop) -> Prop
abbrev TA := St -> Hp -> (List V -> Hp -> Prop) -> Prop
structure zhp where
 nx : St -> Hp -> Prop
 rt : VK
 bk : St -> Hp -> Prop := λ _ _ => False
 ct : St -> Hp -> Prop := λ _ _ => False
abbrev TS := zhp -> St -> Hp -> Prop
def EP (X : Cx) (pins : List (Addr × Obj)) (σ : St) (Q : VK) (u : Value) (s' : Shared) : Prop := ∃ v H', Inv X pins σ H' s' /\ zcw v u /\ Q v H'
def TP (X : Cx) (pins : List (Addr × Obj)) (σ : St) (Q : Bool -> Hp -> Prop) (b : Bool) (s' : Shared) : Prop := ∃ H', Inv X pins σ H' s' /\ Q b H'
def AP (X : Cx) (pins : List (Addr × Obj)) (σ : St) (Q : List V -> Hp -> Prop) (us : List Value) (s' : Shared) : Prop := ∃ vs H', Inv X pins σ H' s' /\ zcm vs us /\ Q vs H'
def SP (X : Cx) (pins : List (Addr × Obj)) (D : zhp) (f : Flow) (s' : Shared) : Prop :=
 match f with
 | .next => ∃ σ' H', Inv X pins σ' H' s' /\ D.nx σ' H'
 | .brk => ∃ σ' H', Inv X pins σ' H' s' /\ D.bk σ' H'
 | .cont => ∃ σ' H', Inv X pins σ' H' s' /\ D.ct σ' H'
 | .ret u => ∃ v σ' H', Inv X pins σ' H' s' /\ zcw v u /\ D.rt v H'
def PE (X : Cx) (e : Expr) (t : TE) : Prop :=
 ∀ (pins : List (Addr × Obj)) (s : Shared) (σ : St) (H : Hp) (Q : VK), Inv X pins σ H s -> t σ H Q -> wpAny (model X.prog X.w) X.A (eval e X.env) (EP X pins σ Q) X.xe s
def PT (X : Cx) (e : Expr) (t : TT) : Prop :=
 ∀ (pins : List (Addr × Obj)) (s : Shared) (σ : St) (H : Hp) (Q : Bool -> Hp -> Prop), Inv X pins σ H s -> t σ H Q -> wpAny (model X.prog X.w) X.A (isTrue e X.env (eval e X.env)) (TP X pins σ Q) X.xe s
def PW (X : Cx) (e : Expr) (t : TT) : Prop :=
 ∀ (whole : Sem Value) (pins : List (Addr × Obj)) (s : Shared) (σ : St) (H : Hp) (Q : Bool -> Hp -> Prop), Inv X pins σ H s -> t σ H Q -> wpAny (model X.prog X.w) X.A (isTrue e X.env whole) (TP X pins σ Q) X.xe s
theorem PW.pt {X : Cx} {e : Expr} {t : TT} (h : PW X e t) : PT X e t := h _
def PA (X : Cx) (es : List Expr) (t : TA) : Prop :=
 ∀ (pos : Pos) (pins : List (Addr × Obj)) (s : Shared) (σ : St) (H : Hp) (Q : List V -> Hp -> Prop), Inv X pins σ H s -> t σ H Q -> wpAny (model X.prog X.w) X.A (spliced (backTo pos (starEach es X.env))) (AP X pins σ Q) X.xe s
def PS (X : Cx) (st : Stmt) (t : TS) : Prop :=
 ∀ (pins : List (Addr × Obj)) (s : Shared) (σ : St) (H : Hp) (D : zhp), Inv X pins σ H s -> t D σ H -> wpAny (model X.prog X.w) X.A (exec st X.env) (SP X pins D) X.xe s
def PSs (X : Cx) (st : List Stmt) (t : TS) : Prop :=
 ∀ (pins : List (Addr × Obj)) (s : Shared) (σ : St) (H : Hp) (D : zhp), Inv X pins σ H s -> t D σ H -> wpAny (model X.prog X.w) X.A (execs st X.env) (SP X pins D) X.xe s
theorem thn {α : Type} {t : Sem α} {Q Q' : α -> Shared -> Prop} {M : Model} {A : Around} {E : Value -> Shared -> Prop} {s : Shared} (h : wpAny M A t Q E s) (hQ : ∀ a s, Q a s -> Q' a s) : wpAny M A t Q' E s := wpAny_mono h hQ λ _ _ x => x
end L2
namespace L2
open PySem PySem.Spec PyProof.Rows
section
variable {X : Cx}
def tVar (i : Nat) : TE := λ σ H Q => ∃ v, σ[i]? = some (some v) /\ Q v H
def tC (v : V) : TE := λ _ H Q => Q v H
theorem zxa {i : Nat} {x : Str} {pos : Pos} (hN : X.N[i]? = some x) (hv : Vis X.env.scope x) (hd : (x == ("__debug__" : Str)) = false := by decide) (hcd : (x == ("__classdict__" : Str)) = false := by decide) : PE X (.Name x pos) (tVar i) := by
 intro pins s σ H Q I h
 obtain ⟨v, e, h⟩ := h
 obtain ⟨m, hn, hl⟩ := I.loc
 obtain ⟨u, r, l⟩ := hl i x v hN e hv
 have fin : EP X pins σ Q u s := ⟨v, H, I, r, h⟩
 rcases l with ⟨hk, hm⟩ | ⟨hk, c, hc, hcell⟩
 . exact wpAny_Name (wpAny_loadName_local I.ok.kind hk hn hm fin) hd
 . rcases hk with hk | hk
   . exact wpAny_Name (wpAny_loadName_cell I.ok.kind hk hc hcell fin) hd
   . exact wpAny_Name (wpAny_loadName_free I.ok.kind hk hc hcell fin hcd) hd
theorem zae {i j pos} : PE X (.Constant (.int i) j pos) (tC (.int i)) := λ _ _ _ H _ I h => wpAny_Constant_int ⟨.int i, H, I.tok _, ⟨_, rfl⟩, h⟩
theorem zh1 {b j pos} : PE X (.Constant (.bool b) j pos) (tC (.bl b)) := λ _ _ _ H _ I h => Constant_bool ⟨.bl b, H, I, rfl, h⟩
theorem zfo {j pos} : PE X (.Constant .none j pos) (tC .non) := λ _ _ _ H _ I h => Constant_none ⟨.non, H, I, rfl, h⟩
theorem zav {x j pos} : PE X (.Constant (.str x) j pos) (tC (.str x)) := λ _ _ _ H _ I h => Calls.Constant_str ⟨.str x, H, I.tok _, ⟨_, rfl⟩, h⟩
def Gl (X : Cx) (x : Str) : Prop := X.env.kindOf x = some .globalImplicit
theorem zno {E : Value -> Shared -> Prop} {pins : List (Addr × Obj)} {s : Shared} {σ : St} {H : Hp} {x : Str} {u : Value} {pos : Pos} {Q : Value -> Shared -> Prop} (I : Inv X pins σ H s) (hg : Gl X x) (hm : X.mg x = some u) (h : Q u s)
   (hd : (x == ("__debug__" : Str)) = false := by decide) : wpAny (model X.prog X.w) X.A (eval (.Name x pos) X.env) Q E s :=
 Calls.Name_function_global I.ok.kind hg (Calls.loadGlobal_global (by rw [I.ok.glob]; exact I.mod.glob.keeps I.bk) hm h) hd
theorem zie {E : Value -> Shared -> Prop} {pins : List (Addr × Obj)} {s : Shared} {σ : St} {H : Hp} {x : Str} {u : Value} {pos : Pos} {Q : Value -> Shared -> Prop} (I : Inv X pins σ H s) (hg : Gl X x) (hm : X.mg x = none) (hv : bootBuiltins x = some u) (h : Q u s)
   (hn : x ≠ "__name__" := by decide) (hd : (x == ("__debug__" : Str)) = false := by decide) : wpAny (model X.prog X.w) X.A (eval (.Name x pos) X.env) Q E s := by
 obtain ⟨mb, h1, h2⟩ := I.mod.blt
 exact Calls.Name_function_global I.ok.kind hg (Calls.loadGlobal_builtin (by rw [I.ok.glob]; exact I.mod.glob.keeps I.bk) hm (by rw [I.ok.blt]; exact h1.keeps I.bk) ((h2 x hn).trans hv) h) hd
theorem znh {x : Str} {v : V} {u : Value} {pos : Pos} (hg : Gl X x) (hm : X.mg x = some u) (r : zcw v u) (hd : (x == ("__debug__" : Str)) = false := by decide) : PE X (.Name x pos) (tC v) :=
 λ _ _ _ H _ I h => zno I hg hm ⟨v, H, I, r, h⟩ hd
theorem zff {x : Str} {v : V} {u : Value} {pos : Pos} (hg : Gl X x) (hm : X.mg x = none) (hv : bootBuiltins x = some u) (r : zcw v u) (hn : x ≠ "__name__" := by decide) (hd : (x == ("__debug__" : Str)) = false := by decide) : PE X (.Name x pos) (tC v) :=
 λ _ _ _ H _ I h => zie I hg hm hv ⟨v, H, I, r, h⟩ hn hd
variable {a b : Expr} {ta tb : TE} {pos : Pos}
def PC (X : Cx) (op : CmpOp) (a b : Expr) (t : TE) : Prop :=
 ∀ (pins : List (Addr × Obj)) (s : Shared) (σ : St) (H : Hp) (Q : VK), Inv X pins σ H s -> t σ H Q ->
   wpAny (model X.prog X.w) X.A (eval a X.env) (λ v s₁ => wpAny (model X.prog X.w) X.A (eval b X.env) (λ u s₂ => wpAny (model X.prog X.w) X.A (compareOp op v u) (EP X pins σ Q) X.xe s₂) X.xe s₁) X.xe s
theorem znz (b : Expr) {op : CmpOp} (h : op ≠ .In) (h2 : op ≠ .NotIn) : behindInMarks op b = false := by
 have e1 : (op == CmpOp.In) = false := by cases op <;> first | rfl | exact absurd rfl h
 have e2 : (op == CmpOp.NotIn) = false := by cases op <;> first | rfl | exact absurd rfl h2
 cases b <;> simp [behindInMarks, e1, e2]
def tIsN (ta : TE) : TE := λ σ H Q => ta σ H λ x H1 => Q (.bl (decide (x = .non))) H1
def zy4 (ta : TE) : TE := λ σ H Q => ta σ H λ x H1 => Q (.bl (!decide (x = .non))) H1
theorem zcw.none_iff {x : V} {v : Value} (r : zcw x v) : (v == Value.none) = decide (x = .non) := by
 cases x with
 | non => cases r; rfl
 | bl _ => cases r; rfl
 | int _ => obtain ⟨t, rfl⟩ := r; rfl
 | str _ => obtain ⟨t, rfl⟩ := r; rfl
 | byt _ => obtain ⟨t, rfl⟩ := r; rfl
 | flt _ => obtain ⟨t, rfl⟩ := r; rfl
 | ref _ => cases r; rfl
 | ty _ => cases r; rfl
theorem zon {j pos'} (ha : PE X a ta) : PC X .Is a (.Constant .none j pos') (tIsN ta) := by
 intro pins s σ H Q I h
 refine thn (ha pins s σ H _ I h) λ v s1 ⟨x, H1, I1, r1, q1⟩ => ?_
 exact Constant_none (is_none_gen ⟨.bl _, H1, I1, by rw [r1.none_iff]; rfl, q1⟩)
theorem zqb {j pos'} (ha : PE X a ta) : PC X .IsNot a (.Constant .none j pos') (zy4 ta) := by
 intro pins s σ H Q I h
 refine thn (ha pins s σ H _ I h) λ v s1 ⟨x, H1, I1, r1, q1⟩ => ?_
 exact Constant_none (isnot_none_gen ⟨.bl _, H1, I1, by rw [r1.none_iff]; rfl, q1⟩)
def tB (t : TE) : TT := λ σ H Q => t σ H λ x H1 => ∃ c, x = .bl c /\ Q c H1
theorem zuc {op : CmpOp} {t : TE} (h : PC X op a b t) (h1 : behindInMarks op b = false := by first | exact znz _ (by decide) (by decide) | rfl) : PE X (.Compare a [op] [b] pos) t := λ pins s σ H Q I hw => wpAny_Compare1 (h pins s σ H Q I hw) h1
theorem zmx {op : CmpOp} {t : TE} (h : PC X op a b t) (h1 : behindInMarks op b = false := by first | exact znz _ (by decide) (by decide) | rfl) : PT X (.Compare a [op] [b] pos) (tB t) := by
 intro pins s σ H Q I hw
 refine wpAny_isTrue_Compare1 (thn (h pins s σ H _ I hw) λ v s1 h1 => thn h1 λ u s2 h2 => thn h2 λ c s3 ⟨x, H1, I1, r1, q1⟩ => ?_) h1
 obtain ⟨d, rfl, q⟩ := q1
 cases r1
 exact wpAny_truthy_bool ⟨H1, I1, q⟩
theorem zfs {e : Expr} {t : TE} (h : PE X e t) (he : ∀ whole, isTrue e X.env whole = (do let v <- whole; standAt e.pos; holding [v] (truthy v)) := by intro _; rfl) : PT X e (tB t) := by
 intro pins s σ H Q I hw
 refine isTrue_plain (thn (h pins s σ H _ I hw) λ v s1 ⟨x, H1, I1, r1, q1⟩ => ?_) (he _)
 obtain ⟨d, rfl, q⟩ := q1
 cases r1
 exact wpAny_truthy_bool ⟨H1, I1, q⟩
variable {tA tB' : TT} {rest : List Expr}
def tAnd (t u : TT) : TT := λ σ H Q => t σ H λ c H1 => if c = true then u σ H1 Q else Q false H1
def tOr (t u : TT) : TT := λ σ H Q => t σ H λ c H1 => if c = true then Q true H1 else u σ H1 Q
def tNot (t : TT) : TT := λ σ H Q => t σ H λ c H1 => Q (!c) H1
theorem zvi (ha : PT X a tA) : PW X (.BoolOp .And [a] pos) tA := by
 intro wh pins s σ H Q I h
 refine isTrue_and (thn (ha pins s σ H Q I h) λ c s1 e => ?_)
 cases c with
 | true => exact isTrue_and_nil e
 | false => exact e
theorem zkj (ha : PT X a tA) : PW X (.BoolOp .Or [a] pos) tA := by
 intro wh pins s σ H Q I h
 refine isTrue_or (thn (ha pins s σ H Q I h) λ c s1 e => ?_)
 cases c with
 | false => exact isTrue_or_nil e
 | true => exact e
theorem zww (ha : PT X a tA) (hb : PW X (.BoolOp .And (b :: rest) pos) tB') : PW X (.BoolOp .And (a :: b :: rest) pos) (tAnd tA tB') := by
 intro wh pins s σ H Q I h
 refine isTrue_and (thn (ha pins s σ H _ I h) λ c s1 ⟨H1, I1, q1⟩ => ?_)
 cases c with
 | true => exact hb wh pins s1 σ H1 Q I1 q1
 | false => exact ⟨H1, I1, q1⟩
theorem zns (ha : PT X a tA) (hb : PW X (.BoolOp .Or (b :: rest) pos) tB') : PW X (.BoolOp .Or (a :: b :: rest) pos) (tOr tA tB') := by
 intro wh pins s σ H Q I h
 refine isTrue_or (thn (ha pins s σ H _ I h) λ c s1 ⟨H1, I1, q1⟩ => ?_)
 cases c with
 | true => exact ⟨H1, I1, q1⟩
 | false => exact hb wh pins s1 σ H1 Q I1 q1
theorem zka (ha : PT X a tA) : PT X (.UnaryOp .Not a pos) (tNot tA) := by
 intro pins s σ H Q I h
 exact isTrue_not (ha pins s σ H (λ c H1 => Q (!c) H1) I h)
def zyy (ta tb : TE) : TE := λ σ H Q => ta σ H λ x H1 => ∃ c, x = .bl c /\ if c = true then tb σ H1 Q else Q (.bl false) H1
def zyr (ta : TE) : TE := λ σ H Q => ta σ H λ x H1 => ∃ c, x = .bl c /\ Q (.bl (!c)) H1
theorem zsg {op} {t : TE} (h : PE X a t) : PE X (.BoolOp op [a] pos) t := λ pins s σ H Q I hw => BoolOp_one (h pins s σ H Q I hw)
theorem zmn (ha : PE X a ta) (hb : PE X (.BoolOp .And (b :: rest) pos) tb) : PE X (.BoolOp .And (a :: b :: rest) pos) (zyy ta tb) := by
 intro pins s σ H Q I h
 refine BoolOp_and (thn (ha pins s σ H _ I h) λ v s1 ⟨x, H1, I1, r1, q1⟩ => ?_)
 obtain ⟨c, rfl, q1⟩ := q1
 cases r1
 refine wpAny_truthy_bool ?_
 cases c with
 | true => exact hb pins s1 σ H1 Q I1 q1
 | false => exact ⟨.bl false, H1, I1, rfl, q1⟩
theorem zxz (ha : PE X a ta) : PE X (.UnaryOp .Not a pos) (zyr ta) := by
 intro pins s σ H Q I h
 refine UnaryOp_ (thn (ha pins s σ H _ I h) λ v s1 ⟨x, H1, I1, r1, q1⟩ => ?_)
 obtain ⟨c, rfl, q1⟩ := q1
 cases r1
 exact not_of (wpAny_truthy_bool ⟨.bl (!c), H1, I1, rfl, q1⟩)
def tIf (t : TT) (ta tb : TE) : TE := λ σ H Q => t σ H λ c H1 => if c = true then ta σ H1 Q else tb σ H1 Q
theorem zgh {c : Expr} (hc : PT X c tA) (ha : PE X a ta) (hb : PE X b tb) : PE X (.IfExp c a b pos) (tIf tA ta tb) := by
 intro pins s σ H Q I h
 refine wpAny_IfExp (thn (hc pins s σ H _ I h) λ d s1 ⟨H1, I1, q1⟩ => ?_)
 cases d with
 | true => exact ha pins s1 σ H1 Q I1 q1
 | false => exact hb pins s1 σ H1 Q I1 q1
end
end L2
namespace L2
open PySem PySem.Spec PyProof.Rows
def SqL (K : W.Frag) (H : Hp) (a : Addr) (xs : List V) : Prop :=
 Rd H a (.lst xs) \/
   ∃ (o : Obj) (its : Array Value) (n : Nat), K.lookup a = some o /\ o.cls = .type "list" /\ o.dict = none /\ o.data = .seq its n /\ its.size <= sizeLine /\ zcm xs its.toList
def SqT (K : W.Frag) (H : Hp) (a : Addr) (xs : List V) : Prop :=
 Rd H a (.tup xs) \/
   ∃ (o : Obj) (its : Array Value) (n : Nat), K.lookup a = some o /\ o.cls = .type "tuple" /\ o.data = .seq its n /\ its.size <= sizeLine /\ zcm xs its.toList
def absV : Value -> Option V
 | .none => some .non
 | .bool b => some (.bl b)
 | .int i _ => some (.int i)
 | .str x _ => some (.str x)
 | .bytes b _ => some (.byt b)
 | .float b _ => some (.flt b)
 | .ref a => some (.ref a)
 | .type n => some (.ty n)
 | _ => none
theorem zcw.abs {x : V} {u : Value} (r : zcw x u) : absV u = some x := by
 cases x with
 | non => cases r; rfl
 | bl _ => cases r; rfl
 | int _ => obtain ⟨t, rfl⟩ := r; rfl
 | str _ => obtain ⟨t, rfl⟩ := r; rfl
 | byt _ => obtain ⟨t, rfl⟩ := r; rfl
 | flt _ => obtain ⟨t, rfl⟩ := r; rfl
 | ref _ => cases r; rfl
 | ty _ => cases r; rfl
theorem zcw.inj {x y : V} {u : Value} (r : zcw x u) (q : zcw y u) : x = y := Option.some.inj (r.abs.symm.trans q.abs)
theorem zcm.inj : ∀ {xs ys : List V} {us : List Value}, zcm xs us -> zcm ys us -> xs = ys
 | _, _, _, .nil, .nil => rfl
 | _, _, _, .cons r t, .cons r' t' => by rw [r.inj r', zcm.inj t t']
section
variable {X : Cx} {pins : List (Addr × Obj)} {σ : St} {H : Hp} {s : Shared} {a : Addr} {xs ys : List V}
theorem SqL.of {K : W.Frag} (h : H a = some (.lst xs)) : SqL K H a xs := .inl (.inl h)
theorem SqT.of {K : W.Frag} (h : H a = some (.tup xs)) : SqT K H a xs := .inl (.inl h)
theorem Inv.list (I : Inv X pins σ H s) (h : SqL X.K H a xs) : ∃ its : List Value, zcm xs its /\ PlainL s.heap a its.toArray /\ xs.length <= sizeLine := by
 rcases h with h | ⟨o, its, n, hk, hc, hd, hs, hz, r⟩
 . obtain ⟨z, its, n, r, e⟩ := h.ok I.hok
   exact ⟨its, r, ⟨_, n, e, rfl, rfl, rfl⟩, z⟩
 . refine ⟨its.toList, r, ⟨o, n, I.kIn a o hk, hc, hd, by simpa using hs⟩, ?_⟩
   have e := r.length
   simp only [Array.length_toList] at e
   omega
theorem Inv.tuple (I : Inv X pins σ H s) (h : SqT X.K H a xs) : ∃ its : List Value, zcm xs its /\ IsTup s.heap a its.toArray /\ xs.length <= sizeLine := by
 rcases h with h | ⟨o, its, n, hk, hc, hs, hz, r⟩
 . obtain ⟨z, its, r, p⟩ := h.ok I.hok
   exact ⟨its, r, p, z⟩
 . refine ⟨its.toList, r, ⟨o, I.kIn a o hk, hc, n, by simpa using hs⟩, ?_⟩
   have e := r.length
   simp only [Array.length_toList] at e
   omega
theorem Inv.list_inj (I : Inv X pins σ H s) (h : SqL X.K H a xs) (h' : SqL X.K H a ys) : xs = ys := by
 obtain ⟨its, r, ⟨o, n, e, _, _, d⟩, _⟩ := I.list h
 obtain ⟨its', r', ⟨o', n', e', _, _, d'⟩, _⟩ := I.list h'
 rw [e] at e'; cases e'
 rw [d] at d'
 injection d' with d1 _
 have : its = its' := by simpa using congrArg Array.toList d1
 subst this
 exact r.inj r'
theorem Inv.tuple_inj (I : Inv X pins σ H s) (h : SqT X.K H a xs) (h' : SqT X.K H a ys) : xs = ys := by
 obtain ⟨its, r, ⟨o, e, _, n, d⟩, _⟩ := I.tuple h
 obtain ⟨its', r', ⟨o', e', _, n', d'⟩, _⟩ := I.tuple h'
 rw [e] at e'; cases e'
 rw [d] at d'
 injection d' with d1 _
 have : its = its' := by simpa using congrArg Array.toList d1
 subst this
 exact r.inj r'
end
abbrev Cx.wish (X : Cx) (E : Value -> Shared -> Prop) : Cx := { X with xe := E }
abbrev Cx.nox (X : Cx) : Cx := X.wish λ _ _ => False
theorem Cx.Ok.wish {X : Cx} (ok : X.Ok) (E : Value -> Shared -> Prop) : (X.wish E).Ok :=
 ⟨ok.mod, ok.kind, ok.glob, ok.blt, ok.above, ok.inj, ok.has, ok.cab, ok.hd, ok.frames, ok.stk, ok.exf, ok.bs, ok.bsz, ok.noex, ok.exfs, ok.funs, ok.frf⟩
theorem Cx.Ok.unwish {X : Cx} {E : Value -> Shared -> Prop} (ok : (X.wish E).Ok) : X.Ok :=
 ⟨ok.mod, ok.kind, ok.glob, ok.blt, ok.above, ok.inj, ok.has, ok.cab, ok.hd, ok.frames, ok.stk, ok.exf, ok.bs, ok.bsz, ok.noex, ok.exfs, ok.funs, ok.frf⟩
section
variable {X : Cx} {pins : List (Addr × Obj)} {σ : St} {H : Hp} {s : Shared} {E : Value -> Shared -> Prop}
theorem Inv.wish (I : Inv X pins σ H s) (E : Value -> Shared -> Prop) : Inv (X.wish E) pins σ H s := ⟨I.ok.wish E, I.os, I.bare, I.base, I.loc, I.cell, I.free, I.freeC, I.pin, I.hok, I.len⟩
theorem Inv.unwish (I : Inv (X.wish E) pins σ H s) : Inv X pins σ H s := ⟨I.ok.unwish, I.os, I.bare, I.base, I.loc, I.cell, I.free, I.freeC, I.pin, I.hok, I.len⟩
theorem SP.unwish {D : zhp} {f : Flow} {s' : Shared} (h : SP (X.wish E) pins D f s') : SP X pins D f s' := by
 cases f with
 | next => obtain ⟨σ', H', I, q⟩ := h; exact ⟨σ', H', I.unwish, q⟩
 | brk => obtain ⟨σ', H', I, q⟩ := h; exact ⟨σ', H', I.unwish, q⟩
 | cont => obtain ⟨σ', H', I, q⟩ := h; exact ⟨σ', H', I.unwish, q⟩
 | ret u => obtain ⟨v, σ', H', I, r, q⟩ := h; exact ⟨v, σ', H', I.unwish, r, q⟩
theorem PSs.nox {st : List Stmt} {t : TS} (h : PSs X.nox st t) : PSs X st t := λ pins s σ H D I hw =>
 wpAny_mono (h pins s σ H D (I.wish _) hw) (λ _ _ q => q.unwish) λ _ _ z => False.elim z
end
section
variable {X : Cx} {st : Stmt} {rest : List Stmt} {t u : TS} {e : Expr} {te : TE} {pos : Pos}
def zy0 : TS := λ D σ H => D.nx σ H
def tSeq (t u : TS) : TS := λ D σ H => t { D with nx := u D } σ H
theorem zal : PSs X [] zy0 := λ _ _ σ H _ I h => wpAny_execs_nil ⟨σ, H, I, h⟩
theorem zad (h1 : PS X st t) (h2 : PSs X rest u) : PSs X (st :: rest) (tSeq t u) := by
 intro pins s σ H D I h
 refine wpAny_execs_cons (thn (h1 pins s σ H { D with nx := u D } I h) λ f s1 q => ?_)
 cases f with
 | next =>
   obtain ⟨σ', H', I', q⟩ := q
   exact h2 pins s1 σ' H' D I' q
 | ret v => exact q
 | brk => exact q
 | cont => exact q
theorem zah (h1 : PS X st t) : PSs X [st] t := by
 intro pins s σ H D I h
 refine wpAny_execs_cons (thn (h1 pins s σ H D I h) λ f s1 q => ?_)
 cases f with
 | next => exact wpAny_execs_nil q
 | ret v => exact q
 | brk => exact q
 | cont => exact q
theorem Inv.quiet {pins : List (Addr × Obj)} {σ : St} {H : Hp} {s : Shared} (I : Inv X pins σ H s) : interactive X.env = false := by simp [interactive, I.ok.kind]
def zze (te : TE) : TS := λ D σ H => te σ H λ _ H1 => D.nx σ H1
theorem zbt (he : PE X e te) (hs : swapsWith e none pos.line X.env = pure false := by rfl) : PS X (.Expr e pos) (zze te) := by
 intro pins s σ H D I h
 exact wpAny_Expr_any (thn (he pins s σ H _ I h) λ v s1 ⟨x, H1, I1, r1, q1⟩ => ⟨σ, H1, I1, q1⟩) I.quiet hs
def tRet (te : TE) : TS := λ D σ H => te σ H D.rt
theorem zan (he : PE X e te) : PS X (.Return (some e) pos) (tRet te) := by
 intro pins s σ H D I h
 exact wpAny_Return_some (thn (he pins s σ H _ I h) λ v s1 ⟨x, H1, I1, r1, q1⟩ => ⟨x, σ, H1, I1, r1, q1⟩)
def tIfS (c : TT) (t u : TS) : TS := λ D σ H => c σ H λ b H1 => if b = true then t D σ H1 else u D σ H1
theorem zbk {c : Expr} {a b : List Stmt} {tc : TT} (hc : PT X c tc) (ha : PSs X a t) (hb : PSs X b u) : PS X (.If c a b pos) (tIfS tc t u) := by
 intro pins s σ H D I h
 refine wpAny_If (thn (hc pins s σ H _ I h) λ d s1 ⟨H1, I1, q1⟩ => ?_)
 cases d with
 | true => exact ha pins s1 σ H1 D I1 q1
 | false => exact hb pins s1 σ H1 D I1 q1
def zxf : TS := λ _ _ _ => False
theorem zk6 : PS X st zxf := λ _ _ _ _ _ _ h => h.elim
end
abbrev TG := V -> St -> Hp -> (St -> Hp -> Prop) -> Prop
abbrev TGs := List V -> St -> Hp -> (St -> Hp -> Prop) -> Prop
def PG (X : Cx) (target : Expr) (t : TG) : Prop :=
 ∀ (pins : List (Addr × Obj)) (s : Shared) (σ : St) (H : Hp) (v : V) (u : Value) (Q : St -> Hp -> Prop), Inv X pins σ H s -> zcw v u -> t v σ H Q ->
   wpAny (model X.prog X.w) X.A (assign target X.env u) (λ _ s' => ∃ σ' H', Inv X pins σ' H' s' /\ Q σ' H') X.xe s
def PGs (X : Cx) (ts : List Expr) (t : TGs) : Prop :=
 ∀ (pins : List (Addr × Obj)) (s : Shared) (σ : St) (H : Hp) (vs : List V) (us : List Value) (Q : St -> Hp -> Prop), Inv X pins σ H s -> zcm vs us -> t vs σ H Q ->
   wpAny (model X.prog X.w) X.A (assignInOrder ((assignEach ts X.env).map (·.2)) us) (λ _ s' => ∃ σ' H', Inv X pins σ' H' s' /\ Q σ' H') X.xe s
abbrev zzf := V -> V -> V -> Hp -> (Hp -> Prop) -> Prop
def PSet (X : Cx) (t : zzf) : Prop :=
 ∀ (pins : List (Addr × Obj)) (s : Shared) (σ : St) (H : Hp) (o i v : V) (ov iv u : Value) (Q : Hp -> Prop), Inv X pins σ H s -> zcw o ov -> zcw i iv -> zcw v u -> t o i v H Q ->
   wpAny (model X.prog X.w) X.A (setItem ov iv u) (λ _ s' => ∃ H', Inv X pins σ H' s' /\ Q H') X.xe s
section
variable {X : Cx} {pos : Pos}
def zrk (i : Nat) : TG := λ v σ H Q => Q (σ.set i (some v)) H
theorem zbc {i : Nat} {x : Str} (hN : X.N.Nodup) (hi : X.N[i]? = some x) (hx : Loc X.env.scope x) (hf : X.fn x = true \/ X.env.scope.names.lookup x = some .local := by first | exact .inl rfl | exact .inr rfl | assumption) : PG X (.Name x pos) (zrk i) := by
 intro pins s σ H v u Q I r h
 exact wpAny_assign_Name (znx I hN hi hx r (λ s' I' => ⟨_, H, I', h⟩) hf)
def gNil : TGs := λ vs σ H Q => vs = [] /\ Q σ H
def zyp (t : TG) (u : TGs) : TGs := λ vs σ H Q => ∃ v r, vs = v :: r /\ t v σ H λ σ' H' => u r σ' H' Q
theorem zgb : PGs X [] gNil := by
 intro pins s σ H vs us Q I r h
 obtain ⟨e, h⟩ := h
 subst e
 cases r
 exact assignInOrder_nil ⟨σ, H, I, h⟩
theorem zcp {e : Expr} {es : List Expr} {t : TG} {u : TGs} (h1 : PG X e t) (h2 : PGs X es u)
   (hs : (assignEach (e :: es) X.env).map (·.2) = assign e X.env :: (assignEach es X.env).map (·.2) := by rfl) : PGs X (e :: es) (zyp t u) := by
 intro pins s σ H vs us Q I r h
 obtain ⟨v, vr, e1, h⟩ := h
 subst e1
 cases r with
 | cons r rr =>
   rw [hs]
   refine assignInOrder_cons (thn (h1 pins s σ H _ _ _ I r h) λ _ s1 ⟨σ1, H1, I1, q1⟩ => ?_)
   exact h2 pins s1 σ1 H1 _ _ Q I1 rr q1
def gTup (K : W.Frag) (n : Nat) (t : TGs) : TG := λ v σ H Q => ∃ a xs, v = .ref a /\ SqT K H a xs /\ xs.length = n /\ t xs σ H Q
theorem zh8 {es : List Expr} {k : Nat} {t : TGs} {n : Nat} (hc : X.calm = true) (h : PGs X es t)
   (hn : (assignEach es X.env).length = n := by rfl) (hst : (assignEach es X.env).findIdx? (·.1) = none := by rfl) : PG X (.Tuple es k pos) (gTup X.K n t) := by
 intro pins s σ H v u Q I r hw
 obtain ⟨a, xs, e1, hq, hl, hw⟩ := hw
 subst e1
 cases r
 obtain ⟨its, rv, ht, hz⟩ := I.tuple hq
 refine assign_Tuple_tuple (I.ok.hd hc) ht (by simp [hn, <- hl, rv.length]) hst λ h' hx => ?_
 have I1 : Inv X pins σ H { s with heap := h' } := I.kept (t' := s.toks) λ b o e => hx b o (Nat.ne_of_lt (Heap.lt_size e)) e
 exact h pins _ σ H xs _ Q I1 (by simpa using rv) hw
def gSub (to ti : TE) (t : zzf) : TG := λ v σ H Q => to σ H λ o H1 => ti σ H1 λ i H2 => t o i v H2 λ H3 => Q σ H3
theorem zo8 {o i : Expr} {to ti : TE} {t : zzf} (ho : PE X o to) (hi : PE X i ti) (hs : PSet X t)
   (ha : ∀ v, assign (.Subscript o i pos) X.env v = (do
     let ov <- holding [v] (eval o X.env)
     let iv <- holding [v, ov] (eval i X.env)
     standAt pos
     holding [v, ov, iv] (setItem ov iv v)
     release [v, ov, iv] []) := by intro _; rfl) : PG X (.Subscript o i pos) (gSub to ti t) := by
 intro pins s σ H v u Q I r h
 rw [ha]
 refine wpAny_bind (wpAny_holding (thn (ho pins s σ H _ I h) λ ov s1 ⟨x, H1, I1, r1, q1⟩ => ?_))
 refine wpAny_bind (wpAny_holding (thn (hi pins s1 σ H1 _ I1 q1) λ iv s2 ⟨y, H2, I2, r2, q2⟩ => ?_))
 refine wpAny_bind (wpAny_standAt (wpAny_bind (wpAny_holding (thn (hs pins s2 σ H2 x y v ov iv u _ I2 r1 r2 r q2) λ _ s3 ⟨H3, I3, q3⟩ => ?_))))
 exact wpAny_release ⟨σ, H3, I3, q3⟩
def zyz (te : TE) (g : TG) : TS := λ D σ H => te σ H λ x H1 => g x σ H1 D.nx
theorem zoh {tg e : Expr} {te : TE} {g : TG} (he : PE X e te) (hg : PG X tg g) (hs : swapsWithSole [tg] e pos.line X.env = pure false := by rfl) (hw : swappedStores [tg] e X.env = pure none := by rfl)
   (h1 : (assignEach [tg] X.env).map (·.2) = [assign tg X.env] := by rfl) : PS X (.Assign [tg] e pos) (zyz te g) := by
 intro pins s σ H D I h
 refine wpAny_Assign_stores (thn (he pins s σ H _ I h) λ v s1 ⟨x, H1, I1, r1, q1⟩ => ?_) hs hw
 rw [h1]
 exact thn (hg pins s1 σ H1 x v _ I1 r1 q1) λ _ s2 q => q
theorem zba {i : Nat} {x : Str} {e : Expr} {te : TE} {pos' : Pos} (hN : X.N.Nodup) (hi : X.N[i]? = some x) (hx : Loc X.env.scope x) (he : PE X e te) (hs : swapsWith e (some (.Name x pos')) pos.line X.env = pure false := by rfl) (hf : X.fn x = true \/ X.env.scope.names.lookup x = some .local := by first | exact .inl rfl | exact .inr rfl | assumption) :
   PS X (.Assign [.Name x pos'] e pos) (zyz te (zrk i)) := by
 intro pins s σ H D I h
 refine wpAny_Assign_Name (thn (he pins s σ H _ I h) λ v s1 ⟨y, H1, I1, r1, q1⟩ => ?_) hs
 exact znx I1 hN hi hx r1 (λ s2 I2 => ⟨_, H1, I2, q1⟩) hf
end
structure It where
 go : Nat -> Hp -> Prop
 yld : Nat -> Hp -> V -> Hp -> Prop
 stop : Nat -> Hp -> Prop
def zqi (X : Cx) (pins : List (Addr × Obj)) (H : Hp) (b : Addr) : Prop :=
 H b = none /\ b ≠ X.env.locals /\ b ∉ X.fs /\ (b ∈ X.ex \/ X.s₀.heap.objs.size <= b) /\ (∀ x c, X.env.cells.lookup x = some c -> c ≠ b) /\ ∀ p ∈ X.pn ++ pins, p.1 ≠ b
theorem Inv.fpOk {X : Cx} {pins : List (Addr × Obj)} {σ : St} {H H' : Hp} {s : Shared} {b : Addr} (I : Inv X pins σ H s) (hb : s.heap.objs.size <= b) (hn : H' b = none) : zqi X pins H' b := by
 refine ⟨hn, Nat.ne_of_gt (Nat.lt_of_lt_of_le I.lt hb), I.nofs hb, .inr (Nat.le_trans I.sz hb), λ x c e z => ?_, λ p hp z => ?_⟩
 . obtain ⟨v, q⟩ := I.cell x c e
   exact absurd (Nat.lt_of_lt_of_le q.lt (by rw [z]; exact hb)) (Nat.lt_irrefl _)
 . exact absurd (Nat.lt_of_lt_of_le (Heap.lt_size (I.pin p hp).1) (by rw [z]; exact hb)) (Nat.lt_irrefl _)
structure Turn (P : Program) (w : World) (K : W.Frag) (tg : Expr) (J : It) (fp : List Addr) (it : Addr) (tn : Nat -> Heap -> Prop) : Prop where
 mem : it ∈ fp
 obj : ∀ i h, tn i h -> ∀ b ∈ fp, ∃ o, h.get? b = some o /\ ∀ v, o.data ≠ .cell v
 keep : ∀ i h h', tn i h -> (∀ b ∈ fp, ∀ o, h.get? b = some o -> h'.get? b = some o) -> tn i h'
 item : ∀ (X : Cx), X.prog = P -> X.w = w -> X.K = K -> X.calm = true -> ∀ (i : Nat) (pins : List (Addr × Obj)) (s : Shared) (σ : St) (H : Hp) (E : Value -> Shared -> Prop), Inv X pins σ H s -> (∀ b ∈ fp, zqi X pins H b) -> tn i s.heap -> J.go i H ->
   wpAny (model P w) X.A (pyNext (.ref it)) (λ r s1 => ∃ u, r = some u /\
     wpAny (model P w) X.A (letOwnedTupleGo tg (.ref it) u) (λ _ s2 => ∃ x H', Inv X pins σ H' s2 /\ zcw x u /\ J.yld i H x H' /\ tn (i + 1) s2.heap /\ ∀ b ∈ fp, H' b = none) E s1) E s
 done : ∀ (X : Cx), X.prog = P -> X.w = w -> X.K = K -> X.calm = true -> ∀ (i : Nat) (pins : List (Addr × Obj)) (s : Shared) (σ : St) (H : Hp) (E : Value -> Shared -> Prop), Inv X pins σ H s -> (∀ b ∈ fp, zqi X pins H b) -> tn i s.heap -> J.stop i H ->
   wpAny (model P w) X.A (pyNext (.ref it)) (λ r s1 => r = none /\ Inv X pins σ H s1) E s
 self : ∀ (A : Around) (i : Nat) (s : Shared) (Q : Value -> Shared -> Prop) (E : Value -> Shared -> Prop), tn i s.heap -> Q (.ref it) s -> wpAny (model P w) A (pyIter (.ref it)) Q E s
abbrev TI := St -> Hp -> (It -> Hp -> Prop) -> Prop
def PIE (X : Cx) (pins : List (Addr × Obj)) (σ : St) (tg : Expr) (R : It -> Hp -> Prop) (itv : Value) (s2 : Shared) : Prop :=
 ∃ (it : Addr) (fp : List Addr) (tn : Nat -> Heap -> Prop) (J : It) (H' : Hp), itv = .ref it /\ Inv X pins σ H' s2 /\ Turn X.prog X.w X.K tg J fp it tn /\ tn 0 s2.heap /\ (∀ b ∈ fp, zqi X pins H' b) /\ R J H'
def PI (X : Cx) (tg iter : Expr) (wi : TI) : Prop :=
 ∀ (pins : List (Addr × Obj)) (s : Shared) (σ : St) (H : Hp) (R : It -> Hp -> Prop), Inv X pins σ H s -> wi σ H R ->
   wpAny (model X.prog X.w) X.A (eval iter X.env) (λ v s1 => wpAny (model X.prog X.w) X.A (pyIter v) (PIE X pins σ tg R) X.xe s1) X.xe s
theorem ztg {M : Model} {A : Around} {E : Value -> Shared -> Prop} {s : Shared} {tg : Expr} {it : Addr} {u : Value} {o : Obj} {n : String} {vs : Array Value} {Q : Unit -> Shared -> Prop} (ho : s.heap.get? it = some o) (hc : o.cls = .type n) (hd : o.data = .fields vs)
   (hn : ["enumerate", "zip", "dict_itemiterator", "dict_reverseitemiterator", "odict_iterator", "itertools.zip_longest", "itertools.pairwise"].contains n = false) (hQ : Q () s) : wpAny M A (letOwnedTupleGo tg (.ref it) u) Q E s := by
 unfold letOwnedTupleGo
 cases tg <;> first
   | exact wpAny_pure hQ
   | (cases u <;> first
       | exact wpAny_pure hQ
       | (refine wpAny_bind (wpAny_load ho ?_)
          rw [hc, hd]
          show wpAny M A (if (["enumerate", "zip", "dict_itemiterator", "dict_reverseitemiterator", "odict_iterator", "itertools.zip_longest", "itertools.pairwise"].contains n && vs[0]? == some (rawInt _)) = true then _ else _) Q E s
          rw [if_neg (by intro h; rw [hn, Bool.false_and] at h; cases h)]
          exact wpAny_pure hQ))
def Itl (K : W.Frag) (a : Addr) : It :=
 ⟨λ i H => ∃ xs x, SqL K H a xs /\ xs[i]? = some x, λ i H x H' => H' = H /\ ∀ xs, SqL K H a xs -> xs[i]? = some x, λ i H => ∃ xs, SqL K H a xs /\ xs.length <= i⟩
def Itt (K : W.Frag) (a : Addr) : It :=
 ⟨λ i H => ∃ xs x, SqT K H a xs /\ xs[i]? = some x, λ i H x H' => H' = H /\ ∀ xs, SqT K H a xs -> xs[i]? = some x, λ i H => ∃ xs, SqT K H a xs /\ xs.length <= i⟩
def Itr (lo : Int) (n : Nat) : It := ⟨λ i _ => i < n, λ i H x H' => H' = H /\ x = .int (lo + i), λ i _ => n <= i⟩
theorem zqg {P : Program} {w : World} {K : W.Frag} {tg : Expr} (a it : Addr) : Turn P w K tg (Itl K a) [it] it (λ i h => h.IsListIter it a i) where
 mem := by simp
 obj := λ i h st b hb => by
   have e : b = it := by simpa using hb
   subst e
   obtain ⟨o, e, c, d⟩ := st
   exact ⟨o, e, λ v z => by rw [d] at z; cases z⟩
 keep := λ i h h' st k => st.at λ o e => k it (by simp) o e
 item := by
   intro X hP hw hK hc i pins s σ H E I hf st hg
   subst hP hw hK
   obtain ⟨xs, x, hq, hx⟩ := hg
   obtain ⟨its, rv, p, hz⟩ := I.list hq
   obtain ⟨u, hu, ru⟩ := rv.get hx
   obtain ⟨f0, f1, f2, f3, f4, f5⟩ := hf it (by simp)
   refine wpAny_pyNext_list_item st p.isList (x := u) (by simpa using hu) λ h' st' sb => ?_
   have I1 : Inv X pins σ H { s with heap := h' } := I.turned (t' := s.toks) (λ b o hb e => (sb.2 b hb).trans e) f0 f1 f3 f4 f5
   obtain ⟨o, e, c, d⟩ := id st'
   exact ⟨u, rfl, ztg (s := { s with heap := h' }) e c d (by decide) ⟨x, H, I1, ru, ⟨rfl, λ ys hy => by rw [I.list_inj hy hq]; exact hx⟩, st', λ b hb => (hf b hb).1⟩⟩
 done := by
   intro X hP hw hK hc i pins s σ H E I hf st hg
   subst hP hw hK
   obtain ⟨xs, hq, hx⟩ := hg
   obtain ⟨its, rv, p, hz⟩ := I.list hq
   obtain ⟨f0, f1, f2, f3, f4, f5⟩ := hf it (by simp)
   have hl := rv.length
   exact wpAny_pyNext_list_end (I.ok.hd hc) st p.isList (by simp; omega) λ h' eb => ⟨rfl, I.turned (t' := s.toks) (λ b o hb e => eb b o hb e) f0 f1 f3 f4 f5⟩
 self := λ _ _ _ _ _ st h => wpAny_pyIter_listiter st h
theorem zpg {P : Program} {w : World} {K : W.Frag} {tg : Expr} (a it : Addr) : Turn P w K tg (Itt K a) [it] it (λ i h => h.IsTupleIter it a i) where
 mem := by simp
 obj := λ i h st b hb => by
   have e : b = it := by simpa using hb
   subst e
   obtain ⟨o, e, c, d⟩ := st
   exact ⟨o, e, λ v z => by rw [d] at z; cases z⟩
 keep := λ i h h' st k => st.at λ o e => k it (by simp) o e
 item := by
   intro X hP hw hK hc i pins s σ H E I hf st hg
   subst hP hw hK
   obtain ⟨xs, x, hq, hx⟩ := hg
   obtain ⟨its, rv, p, hz⟩ := I.tuple hq
   obtain ⟨u, hu, ru⟩ := rv.get hx
   obtain ⟨f0, f1, f2, f3, f4, f5⟩ := hf it (by simp)
   refine wpAny_pyNext_tuple_item st (show s.heap.IsTuple a its.toArray from p) (x := u) (by simpa using hu) λ h' st' sb => ?_
   have I1 : Inv X pins σ H { s with heap := h' } := I.turned (t' := s.toks) (λ b o hb e => (sb.2 b hb).trans e) f0 f1 f3 f4 f5
   obtain ⟨o, e, c, d⟩ := id st'
   exact ⟨u, rfl, ztg (s := { s with heap := h' }) e c d (by decide) ⟨x, H, I1, ru, ⟨rfl, λ ys hy => by rw [I.tuple_inj hy hq]; exact hx⟩, st', λ b hb => (hf b hb).1⟩⟩
 done := by
   intro X hP hw hK hc i pins s σ H E I hf st hg
   subst hP hw hK
   obtain ⟨xs, hq, hx⟩ := hg
   obtain ⟨its, rv, p, hz⟩ := I.tuple hq
   obtain ⟨f0, f1, f2, f3, f4, f5⟩ := hf it (by simp)
   have hl := rv.length
   exact wpAny_pyNext_tuple_end (I.ok.hd hc) st (show s.heap.IsTuple a its.toArray from p) (by simp; omega) λ h' eb => ⟨rfl, I.turned (t' := s.toks) (λ b o hb e => eb b o hb e) f0 f1 f3 f4 f5⟩
 self := λ _ _ _ _ _ st h => wpAny_pyIter_tupleiter st h
theorem zpf {P : Program} {w : World} {K : W.Frag} {tg : Expr} (it : Addr) (lo : Int) (n : Nat) : Turn P w K tg (Itr lo n) [it] it (λ i h => IsRangeIter h it (lo + (i : Nat) * 1) ((n : Int) - (i : Nat)) 1) where
 mem := by simp
 obj := λ i h st b hb => by
   have e : b = it := by simpa using hb
   subst e
   exact ⟨_, st, λ v z => by
     have z' : Data.fields _ = Data.cell v := z
     cases z'⟩
 keep := λ i h h' st k => k it (by simp) _ st
 item := by
   intro X hP hw hK hc i pins s σ H E I hf st hg
   subst hP hw hK
   obtain ⟨f0, f1, f2, f3, f4, f5⟩ := hf it (by simp)
   have W := Walks.range (prog := X.prog) (w := X.w) (I.ok.hd hc) it lo 1 n
   refine W.item i s _ _ hg st λ v h' tk hv st' kk => ?_
   obtain ⟨t, rfl⟩ := hv
   have I1 : Inv X pins σ H { s with heap := h', toks := tk } := I.turned (λ b o hb e => kk b o (by simpa using hb) e) f0 f1 f3 f4 f5
   refine ⟨_, rfl, ztg (s := { s with heap := h', toks := tk }) (n := "range_iterator") st' rfl rfl (by decide) ⟨.int (lo + i), H, I1, ⟨t, ?_⟩, ⟨rfl, rfl⟩, st', λ b hb => (hf b hb).1⟩⟩
   rw [Int.mul_one]
 done := by
   intro X hP hw hK hc i pins s σ H E I hf st hg
   subst hP hw hK
   obtain ⟨f0, f1, f2, f3, f4, f5⟩ := hf it (by simp)
   exact wpAny_pyNext_range_end (I.ok.hd hc) st (by have : n <= i := hg; omega) λ h' eb => ⟨rfl, I.turned (t' := s.toks) (λ b o hb e => eb b o hb e) f0 f1 f3 f4 f5⟩
 self := λ _ _ _ _ _ st h => wpAny_pyIter_rangeiter st h
end L2
namespace L2
open PySem PySem.Spec PyProof.Rows
section
variable {X : Cx} {tg : Expr}
def zyo (K : W.Frag) (tl : TE) : TI := λ σ H R => tl σ H λ x H1 => ∃ a, x = .ref a /\ (∃ xs, SqL K H1 a xs) /\ R (Itl K a) H1
def iTup (K : W.Frag) (tl : TE) : TI := λ σ H R => tl σ H λ x H1 => ∃ a, x = .ref a /\ (∃ xs, SqT K H1 a xs) /\ R (Itt K a) H1
theorem zf0 {l : Expr} {tl : TE} (hl : PE X l tl) : PI X tg l (zyo X.K tl) := by
 intro pins s σ H R I h
 refine thn (hl pins s σ H _ I h) λ v s1 ⟨x, H1, I1, r1, q1⟩ => ?_
 obtain ⟨a, e, ⟨xs, hq⟩, q⟩ := q1
 subst e
 cases r1
 obtain ⟨its, rv, p, hz⟩ := I1.list hq
 refine wpAny_pyIter_list p.isList ?_
 refine ⟨s1.heap.objs.size, [s1.heap.objs.size], _, _, H1, rfl, I1.kept (t' := s1.toks) λ b o e => Heap.get?_push_of_some _ e, zqg a _, ⟨_, Heap.get?_push_size _ rfl, rfl, rfl⟩, λ b hb => ?_, q⟩
 have e : b = s1.heap.objs.size := by simpa using hb
 subst e
 exact I1.fpOk (Nat.le_refl _) (I1.hok.fresh (Nat.le_refl _))
theorem zrl {l : Expr} {tl : TE} (hl : PE X l tl) : PI X tg l (iTup X.K tl) := by
 intro pins s σ H R I h
 refine thn (hl pins s σ H _ I h) λ v s1 ⟨x, H1, I1, r1, q1⟩ => ?_
 obtain ⟨a, e, ⟨xs, hq⟩, q⟩ := q1
 subst e
 cases r1
 obtain ⟨its, rv, p, hz⟩ := I1.tuple hq
 refine wpAny_pyIter_tuple (show s1.heap.IsTuple a its.toArray from p) ?_
 refine ⟨s1.heap.objs.size, [s1.heap.objs.size], _, _, H1, rfl, I1.kept (t' := s1.toks) λ b o e => Heap.get?_push_of_some _ e, zpg a _, ⟨_, Heap.get?_push_size _ rfl, rfl, rfl⟩, λ b hb => ?_, q⟩
 have e : b = s1.heap.objs.size := by simpa using hb
 subst e
 exact I1.fpOk (Nat.le_refl _) (I1.hok.fresh (Nat.le_refl _))
theorem ztr {pins : List (Addr × Obj)} {σ : St} {H : Hp} {s : Shared} {R : It -> Hp -> Prop} {E : Value -> Shared -> Prop} {lo hi : Int} {t u v : Tok} {tk : Nat} (I : Inv X pins σ H s) (h1 : -(2 ^ 62) <= lo) (h2 : lo < 2 ^ 62) (h3 : -(2 ^ 62) <= hi) (h4 : hi < 2 ^ 62)
   (q : R (Itr lo (hi - lo).toNat) H) : wpAny (model X.prog X.w) X.A (pyIter (.ref s.heap.objs.size)) (PIE X pins σ tg R) E { s with heap := s.heap.push { cls := .type "range", data := .fields #[.int lo t, .int hi u, .int 1 v] }, toks := tk } := by
 refine wpAny_pyIter_range (IsRange.new ..) (small_one h1 h2 h3 h4) ?_
 have I1 : Inv X pins σ H { s with heap := s.heap.push { cls := .type "range", data := .fields #[.int lo t, .int hi u, .int 1 v] }, toks := tk } := I.kept λ b o e => Heap.get?_push_of_some _ e
 refine ⟨(s.heap.push { cls := .type "range", data := .fields #[.int lo t, .int hi u, .int 1 v] }).objs.size, [(s.heap.push { cls := .type "range", data := .fields #[.int lo t, .int hi u, .int 1 v] }).objs.size], _, _, H, rfl,
   I1.kept (t' := tk) λ b o e => Heap.get?_push_of_some _ e, zpf _ lo (hi - lo).toNat, ?_, λ b hb => ?_, q⟩
 . have e1 : lo + ((0 : Nat) : Int) * 1 = lo := by simp
   have e2 : (((hi - lo).toNat : Nat) : Int) - ((0 : Nat) : Int) = Builtin.Range.rangeSize lo hi 1 := by rw [rangeSize_one]; split <;> omega
   show IsRangeIter _ _ (lo + ((0 : Nat) : Int) * 1) ((((hi - lo).toNat : Nat) : Int) - ((0 : Nat) : Int)) 1
   rw [e1, e2]
   exact Heap.get?_push_size _ rfl
 . have e : b = (s.heap.push { cls := .type "range", data := .fields #[.int lo t, .int hi u, .int 1 v] }).objs.size := by simpa using hb
   subst e
   exact I1.fpOk (Nat.le_refl _) (I1.hok.fresh (Nat.le_refl _))
def zyv (ta : TA) : TI := λ σ H R => ta σ H λ vs H1 => ∃ j : Int, vs = [.int j] /\ -(2 ^ 62) <= j /\ j < 2 ^ 62 /\ R (Itr 0 j.toNat) H1
theorem zfx {a : Expr} {ta : TA} {p pos : Pos} (hg : Gl X "range") (hm : X.mg "range" = none) (ha : PA X [a] ta) (hs : starEach [a] X.env = [(false, eval a X.env)] := by rfl) : PI X tg (.Call (.Name "range" p) [a] [] pos) (zyv ta) := by
 intro pins s σ H R I h
 refine Call_ (zie I hg hm boot_range (PyProof.Rows.callWith_type1 (thn (ha pos pins s σ H _ I h) λ us s1 ⟨vs, H1, I1, r1, q1⟩ => ?_) hs rfl))
 obtain ⟨j, e, q1, q2, q⟩ := q1
 subst e
 cases r1 with
 | cons r rr =>
   cases rr
   obtain ⟨t, rfl⟩ := r
   exact call_range_1 (ztr I1 (by omega) (by omega) q1 q2 (by simpa using q))
def tFor (wi : TI) (g : TG) (tb : TS) : TS := λ D σ H => wi σ H λ J H1 => ∃ W : Nat -> Nat -> St -> Hp -> Prop, (∃ m, W 0 m σ H1) /\ ∀ i m σ H, W i m σ H ->
 (J.stop i H /\ D.nx σ H) \/ (J.go i H /\ ∃ N : St -> Hp -> Prop, (∀ σ' H', N σ' H' -> ∃ m', m' < m /\ W (i + 1) m' σ' H') /\ ∀ x H', J.yld i H x H' -> g x σ H' λ σ2 H2 => tb { D with nx := N, ct := N, bk := D.nx } σ2 H2)
def zmm (fp : List Addr) (h : Heap) : List (Addr × Obj) := fp.filterMap λ b => (h.get? b).map λ o => (b, o)
theorem zgk {fp : List Addr} {h : Heap} {b : Addr} {o : Obj} (hb : b ∈ fp) (e : h.get? b = some o) : (b, o) ∈ zmm fp h := List.mem_filterMap.mpr ⟨b, hb, by rw [e]; rfl⟩
theorem zqy {fp : List Addr} {h : Heap} {p : Addr × Obj} (hp : p ∈ zmm fp h) : p.1 ∈ fp /\ h.get? p.1 = some p.2 := by
 obtain ⟨b, hb, e⟩ := List.mem_filterMap.mp hp
 cases q : h.get? b with
 | none => rw [q] at e; cases e
 | some o =>
   rw [q] at e
   have e' : (b, o) = p := Option.some.inj e
   subst e'
   exact ⟨hb, q⟩
theorem Inv.pinned {pins : List (Addr × Obj)} {σ : St} {H : Hp} {s : Shared} {fp : List Addr} (I : Inv X pins σ H s) (hf : ∀ b ∈ fp, zqi X pins H b) (ho : ∀ b ∈ fp, ∃ o, s.heap.get? b = some o /\ ∀ v, o.data ≠ .cell v) : Inv X (pins ++ zmm fp s.heap) σ H s :=
 I.pins_of λ p hp => (List.mem_append.mp hp).elim (λ z => I.pin p (List.mem_append_right _ z)) λ z => by
   obtain ⟨hb, e⟩ := zqy z
   obtain ⟨f0, f1, f2, _⟩ := hf p.1 hb
   obtain ⟨o, e', d⟩ := ho p.1 hb
   rw [e] at e'; cases e'
   exact ⟨e, f0, f1, f2, d⟩
theorem Inv.unpinned {pins pl : List (Addr × Obj)} {σ : St} {H : Hp} {s : Shared} (I : Inv X (pins ++ pl) σ H s) : Inv X pins σ H s := I.pins_of λ p hp => I.pin p (List.mem_append_right _ (List.mem_append_left _ hp))
theorem zd5 {iter : Expr} {body : List Stmt} {wi : TI} {g : TG} {tb : TS} {pos : Pos} (hp : PassesOwn (model X.prog X.w) X.A X.env X.xe) (hc : X.calm = true) (hi : PI X tg iter wi) (hg : PG X tg g) (hb : PSs X body tb)
   (hs : ∀ x, foldedSetIterable iter X.env x = pure x := by intro _; rfl) : PS X (.For tg iter body [] pos) (tFor wi g tb) := by
 intro pins s σ H D I h
 refine wpAny_For (thn (hi pins s σ H _ I h) λ v s1 h1 => thn h1 λ itv s2 h2 => ?_) hs
 obtain ⟨it, fp, tn, J, H2, e, I2, T, st2, f2, W, ⟨m0, w0⟩, turn⟩ := h2
 subst e
 -- what stays true of the iterator's objects through the loop
 have stat : ∀ {H' : Hp}, (∀ b ∈ fp, H' b = none) -> ∀ b ∈ fp, zqi X pins H' b := λ hn b hb => ⟨hn b hb, (f2 b hb).2⟩
 refine codeAny_forLoop_any (λ n s' => ∃ i σ' H', Inv X pins σ' H' s' /\ tn i s'.heap /\ (∀ b ∈ fp, H' b = none) /\ W i n σ' H') ?_ m0 ⟨0, σ, H2, I2, st2, λ b hb => (f2 b hb).1, w0⟩
 rintro n s3 ⟨i, σ3, H3, I3, st3, fr3, w3⟩
 rcases turn i n σ3 H3 w3 with ⟨stop, qn⟩ | ⟨go, N, hN, step⟩
 . refine wpAny_passesOwn hp (thn (T.done X rfl rfl rfl hc i pins s3 σ3 H3 X.xe I3 (stat fr3) st3 stop) λ r s4 ⟨hr, I4⟩ => ?_)
   subst hr
   exact wpAny_execs_nil ⟨σ3, H3, I4, qn⟩
 . refine wpAny_passesOwn hp (thn (T.item X rfl rfl rfl hc i pins s3 σ3 H3 X.xe I3 (stat fr3) st3 go) λ r s4 ⟨u, hr, h4⟩ => ?_)
   subst hr
   refine wpAny_passesOwn hp (thn h4 λ _ s5 ⟨x, H5, I5, r5, y5, st5, fr5⟩ => ?_)
   have I5' := I5.pinned (stat fr5) (T.obj _ _ st5)
   refine wpAny_passesOwn hp (thn (hg _ s5 σ3 H5 x u _ I5' r5 (step x H5 y5)) λ _ s6 ⟨σ6, H6, I6, q6⟩ => ?_)
   refine wpAny_passesOwn hp (thn (hb _ s6 σ6 H6 _ I6 q6) λ f s7 q7 => ?_)
   have again : ∀ {σ7 : St} {H7 : Hp}, Inv X (pins ++ zmm fp s5.heap) σ7 H7 s7 -> N σ7 H7 -> ∃ m, m < n /\ ∃ i σ' H', Inv X pins σ' H' s7 /\ tn i s7.heap /\ (∀ b ∈ fp, H' b = none) /\ W i m σ' H' := λ {σ7 H7} I7 n7 => by
     obtain ⟨m', hm, w7⟩ := hN σ7 H7 n7
     refine ⟨m', hm, i + 1, σ7, H7, I7.unpinned, T.keep _ _ _ st5 λ b hb o e => (I7.pin (b, o) (List.mem_append_right _ (List.mem_append_right _ (zgk hb e)))).1, λ b hb => ?_, w7⟩
     obtain ⟨o, e, d⟩ := T.obj _ _ st5 b hb
     exact (I7.pin (b, o) (List.mem_append_right _ (List.mem_append_right _ (zgk hb e)))).2.1
   cases f with
   | next => obtain ⟨σ7, H7, I7, n7⟩ := q7; exact again I7 n7
   | cont => obtain ⟨σ7, H7, I7, n7⟩ := q7; exact again I7 n7
   | brk => obtain ⟨σ7, H7, I7, q7⟩ := q7; exact ⟨σ7, H7, I7.unpinned, q7⟩
   | ret v => obtain ⟨x7, σ7, H7, I7, r7, q7⟩ := q7; exact ⟨x7, σ7, H7, I7.unpinned, r7, q7⟩
end
theorem zgi {K : W.Frag} {a : Addr} {xs : List V} {g : TG} {tb : TS} {D : zhp} {σ : St} {H : Hp} (Pv : Nat -> St -> Hp -> Prop) (h0 : Pv 0 σ H) (hl : ∀ i σ H, i <= xs.length -> Pv i σ H -> SqL K H a xs)
   (hs : ∀ i x σ H, xs[i]? = some x -> Pv i σ H -> g x σ H λ σ2 H2 => tb { D with nx := Pv (i + 1), ct := Pv (i + 1), bk := D.nx } σ2 H2) (hd : ∀ σ H, Pv xs.length σ H -> D.nx σ H) :
   ∃ W : Nat -> Nat -> St -> Hp -> Prop, (∃ m, W 0 m σ H) /\ ∀ i m σ H, W i m σ H ->
     ((Itl K a).stop i H /\ D.nx σ H) \/ ((Itl K a).go i H /\ ∃ N : St -> Hp -> Prop, (∀ σ' H', N σ' H' -> ∃ m', m' < m /\ W (i + 1) m' σ' H') /\ ∀ x H', (Itl K a).yld i H x H' -> g x σ H' λ σ2 H2 => tb { D with nx := N, ct := N, bk := D.nx } σ2 H2) := by
 refine ⟨λ i m σ H => m = xs.length - i /\ i <= xs.length /\ Pv i σ H, ⟨xs.length, by simp, Nat.zero_le _, h0⟩, ?_⟩
 rintro i m σ H ⟨rfl, hi, p⟩
 have q := hl i σ H hi p
 by_cases hlt : i < xs.length
 . refine .inr ⟨⟨xs, xs[i], q, by simp [hlt]⟩, Pv (i + 1), λ σ' H' p' => ⟨xs.length - (i + 1), by omega, rfl, hlt, p'⟩, λ x H' y => ?_⟩
   obtain ⟨e, y⟩ := y
   subst e
   exact hs i x σ _ (y xs q) p
 . have e : i = xs.length := by omega
   subst e
   exact .inl ⟨⟨xs, q, Nat.le_refl _⟩, hd σ H p⟩
theorem zu1 {K : W.Frag} {a : Addr} {xs : List V} {g : TG} {tb : TS} {D : zhp} {σ : St} {H : Hp} (Pv : Nat -> St -> Hp -> Prop) (h0 : Pv 0 σ H) (hl : ∀ i σ H, i <= xs.length -> Pv i σ H -> SqT K H a xs)
   (hs : ∀ i x σ H, xs[i]? = some x -> Pv i σ H -> g x σ H λ σ2 H2 => tb { D with nx := Pv (i + 1), ct := Pv (i + 1), bk := D.nx } σ2 H2) (hd : ∀ σ H, Pv xs.length σ H -> D.nx σ H) :
   ∃ W : Nat -> Nat -> St -> Hp -> Prop, (∃ m, W 0 m σ H) /\ ∀ i m σ H, W i m σ H ->
     ((Itt K a).stop i H /\ D.nx σ H) \/ ((Itt K a).go i H /\ ∃ N : St -> Hp -> Prop, (∀ σ' H', N σ' H' -> ∃ m', m' < m /\ W (i + 1) m' σ' H') /\ ∀ x H', (Itt K a).yld i H x H' -> g x σ H' λ σ2 H2 => tb { D with nx := N, ct := N, bk := D.nx } σ2 H2) := by
 refine ⟨λ i m σ H => m = xs.length - i /\ i <= xs.length /\ Pv i σ H, ⟨xs.length, by simp, Nat.zero_le _, h0⟩, ?_⟩
 rintro i m σ H ⟨rfl, hi, p⟩
 have q := hl i σ H hi p
 by_cases hlt : i < xs.length
 . refine .inr ⟨⟨xs, xs[i], q, by simp [hlt]⟩, Pv (i + 1), λ σ' H' p' => ⟨xs.length - (i + 1), by omega, rfl, hlt, p'⟩, λ x H' y => ?_⟩
   obtain ⟨e, y⟩ := y
   subst e
   exact hs i x σ _ (y xs q) p
 . have e : i = xs.length := by omega
   subst e
   exact .inl ⟨⟨xs, q, Nat.le_refl _⟩, hd σ H p⟩
theorem zi6 {lo : Int} {n : Nat} {g : TG} {tb : TS} {D : zhp} {σ : St} {H : Hp} (Pv : Nat -> St -> Hp -> Prop) (h0 : Pv 0 σ H)
   (hs : ∀ i σ H, i < n -> Pv i σ H -> g (.int (lo + i)) σ H λ σ2 H2 => tb { D with nx := Pv (i + 1), ct := Pv (i + 1), bk := D.nx } σ2 H2) (hd : ∀ σ H, Pv n σ H -> D.nx σ H) :
   ∃ W : Nat -> Nat -> St -> Hp -> Prop, (∃ m, W 0 m σ H) /\ ∀ i m σ H, W i m σ H ->
     ((Itr lo n).stop i H /\ D.nx σ H) \/ ((Itr lo n).go i H /\ ∃ N : St -> Hp -> Prop, (∀ σ' H', N σ' H' -> ∃ m', m' < m /\ W (i + 1) m' σ' H') /\ ∀ x H', (Itr lo n).yld i H x H' -> g x σ H' λ σ2 H2 => tb { D with nx := N, ct := N, bk := D.nx } σ2 H2) := by
 refine ⟨λ i m σ H => m = n - i /\ i <= n /\ Pv i σ H, ⟨n, by simp, Nat.zero_le _, h0⟩, ?_⟩
 rintro i m σ H ⟨rfl, hi, p⟩
 by_cases hlt : i < n
 . refine .inr ⟨hlt, Pv (i + 1), λ σ' H' p' => ⟨n - (i + 1), by omega, rfl, hlt, p'⟩, λ x H' y => ?_⟩
   obtain ⟨e, y⟩ := y
   subst e y
   exact hs i σ _ hlt p
 . have e : i = n := by omega
   subst e
   exact .inl ⟨Nat.le_refl _, hd σ H p⟩
end L2
namespace L2
open PySem PySem.Spec PyProof.Rows
abbrev R2 := V -> V -> Hp -> VK -> Prop
def OpR (X : Cx) (f : Value -> Value -> Sem Value) (r : R2) : Prop :=
 ∀ (pins : List (Addr × Obj)) (s : Shared) (σ : St) (H : Hp) (x y : V) (v u : Value) (Q : VK), Inv X pins σ H s -> zcw x v -> zcw y u -> r x y H Q ->
   wpAny (model X.prog X.w) X.A (f v u) (EP X pins σ Q) X.xe s
def UnR (X : Cx) (f : Value -> Sem Value) (r : V -> Hp -> VK -> Prop) : Prop :=
 ∀ (pins : List (Addr × Obj)) (s : Shared) (σ : St) (H : Hp) (x : V) (v : Value) (Q : VK), Inv X pins σ H s -> zcw x v -> r x H Q ->
   wpAny (model X.prog X.w) X.A (f v) (EP X pins σ Q) X.xe s
def zjn (X : Cx) (f : Value) (r : List V -> Hp -> VK -> Prop) : Prop :=
 ∀ (pins : List (Addr × Obj)) (s : Shared) (σ : St) (H : Hp) (xs : List V) (us : List Value) (Q : VK), Inv X pins σ H s -> zcm xs us -> r xs H Q ->
   wpAny (model X.prog X.w) X.A (call f us) (EP X pins σ Q) X.xe s
def TruR (X : Cx) (r : V -> Hp -> (Bool -> Hp -> Prop) -> Prop) : Prop :=
 ∀ (pins : List (Addr × Obj)) (s : Shared) (σ : St) (H : Hp) (x : V) (v : Value) (Q : Bool -> Hp -> Prop), Inv X pins σ H s -> zcw x v -> r x H Q ->
   wpAny (model X.prog X.w) X.A (truthy v) (TP X pins σ Q) X.xe s
def tOp (r : R2) (ta tb : TE) : TE := λ σ H Q => ta σ H λ x H1 => tb σ H1 λ y H2 => r x y H2 Q
def tUn (r : V -> Hp -> VK -> Prop) (ta : TE) : TE := λ σ H Q => ta σ H λ x H1 => r x H1 Q
def rI (C : Int -> Int -> Prop) (g : Int -> Int -> V) : R2 := λ x y H Q => ∃ i j, x = .int i /\ y = .int j /\ C i j /\ Q (g i j) H
def rI0 (g : Int -> Int -> V) : R2 := λ x y H Q => ∃ i j, x = .int i /\ y = .int j /\ Q (g i j) H
def rU (g : Int -> V) : V -> Hp -> VK -> Prop := λ x H Q => ∃ i, x = .int i /\ Q (g i) H
section
variable {X : Cx} {a b c : Expr} {ta tb tc : TE} {pos : Pos}
theorem zyx (ha : PE X a ta) (hb : PE X b tb) {pins : List (Addr × Obj)} {s : Shared} {σ : St} {H : Hp} {R : V -> V -> Hp -> Prop} (I : Inv X pins σ H s)
   (h : ta σ H λ x H1 => tb σ H1 λ y H2 => R x y H2) {Q : Value -> Shared -> Prop} {f : Value -> Value -> Sem Value}
   (hf : ∀ v u s2 x y H2, Inv X pins σ H2 s2 -> zcw x v -> zcw y u -> R x y H2 -> wpAny (model X.prog X.w) X.A (f v u) Q X.xe s2) :
   wpAny (model X.prog X.w) X.A (eval a X.env) (λ v s₁ => wpAny (model X.prog X.w) X.A (eval b X.env) (λ u s₂ => wpAny (model X.prog X.w) X.A (f v u) Q X.xe s₂) X.xe s₁) X.xe s := by
 refine thn (ha pins s σ H _ I h) λ v s1 ⟨x, H1, I1, r1, q1⟩ => ?_
 refine thn (hb pins s1 σ H1 _ I1 q1) λ u s2 ⟨y, H2, I2, r2, q2⟩ => ?_
 exact hf v u s2 x y H2 I2 r1 r2 q2
theorem zat {op : Operator} {r : R2} (ho : OpR X (binaryOp op) r) (ha : PE X a ta) (hb : PE X b tb) : PE X (.BinOp a op b pos) (tOp r ta tb) := by
 intro pins s σ H Q I h
 exact wpAny_BinOp (zyx ha hb I h λ v u s2 x y H2 I2 rx ry q => ho pins s2 σ H2 x y v u Q I2 rx ry q)
theorem zm2 {op : UnaryOp} {r : V -> Hp -> VK -> Prop} (ho : UnR X (unaryOp op) r) (ha : PE X a ta) : PE X (.UnaryOp op a pos) (tUn r ta) := by
 intro pins s σ H Q I h
 exact UnaryOp_ (thn (ha pins s σ H _ I h) λ v s1 ⟨x, H1, I1, r1, q1⟩ => ho pins s1 σ H1 x v Q I1 r1 q1)
theorem opI {f : Value -> Value -> Sem Value} {C : Int -> Int -> Prop} {g : Int -> Int -> Int}
   (rule : ∀ (i j : Int) (t u : Tok) (s : Shared) (Q : Value -> Shared -> Prop) (E : Value -> Shared -> Prop), C i j -> Q (.int (g i j) s.toks) { s with toks := s.toks + 1 } -> wpAny (model X.prog X.w) X.A (f (.int i t) (.int j u)) Q E s) :
   OpR X f (rI C λ i j => .int (g i j)) := by
 intro pins s σ H x y v u Q I rx ry h
 obtain ⟨i, j, rfl, rfl, hc, q⟩ := h
 obtain ⟨t, rfl⟩ := rx
 obtain ⟨t', rfl⟩ := ry
 exact rule i j t t' s _ _ hc ⟨.int (g i j), H, I.tok _, ⟨_, rfl⟩, q⟩
theorem zw1 {f : Value -> Value -> Sem Value} {g : Int -> Int -> Int}
   (rule : ∀ (i j : Int) (t u : Tok) (s : Shared) (Q : Value -> Shared -> Prop) (E : Value -> Shared -> Prop), Q (.int (g i j) s.toks) { s with toks := s.toks + 1 } -> wpAny (model X.prog X.w) X.A (f (.int i t) (.int j u)) Q E s) :
   OpR X f (rI0 λ i j => .int (g i j)) := by
 intro pins s σ H x y v u Q I rx ry h
 obtain ⟨i, j, rfl, rfl, q⟩ := h
 obtain ⟨t, rfl⟩ := rx
 obtain ⟨t', rfl⟩ := ry
 exact rule i j t t' s _ _ ⟨.int (g i j), H, I.tok _, ⟨_, rfl⟩, q⟩
theorem zyt {f : Value -> Value -> Sem Value} {g : Int -> Int -> Bool}
   (rule : ∀ (i j : Int) (t u : Tok) (s : Shared) (Q : Value -> Shared -> Prop) (E : Value -> Shared -> Prop), Q (.bool (g i j)) s -> wpAny (model X.prog X.w) X.A (f (.int i t) (.int j u)) Q E s) :
   OpR X f (rI0 λ i j => .bl (g i j)) := by
 intro pins s σ H x y v u Q I rx ry h
 obtain ⟨i, j, rfl, rfl, q⟩ := h
 obtain ⟨t, rfl⟩ := rx
 obtain ⟨t', rfl⟩ := ry
 exact rule i j t t' s _ _ ⟨.bl (g i j), H, I, rfl, q⟩
def zyi (i j : Int) : Prop := 0 < j /\ j < 1073741824
def CPow (i j : Int) : Prop := 0 <= j /\ j <= 1000000 /\ i.natAbs < 2 ^ 64
def zza (i j : Int) : Prop := (-(2 ^ 64) < i /\ i < 2 ^ 64) \/ (-(2 ^ 64) < j /\ j < 2 ^ 64)
theorem zza.ok {i j : Int} (h : zza i j) : IntMulOk i j := by
 rcases h with ⟨h1, h2⟩ | ⟨h1, h2⟩
 . exact .of_left (intBits_le_64 h1 h2)
 . exact .of_right (intBits_le_64 h1 h2)
theorem zf6 : OpR X (binaryOp .Add) (rI0 λ i j => .int (i + j)) := zw1 λ _ _ _ _ _ _ _ q => add_int q
theorem zml : OpR X (binaryOp .Sub) (rI0 λ i j => .int (i - j)) := zw1 λ _ _ _ _ _ _ _ q => sub_int q
theorem zid : OpR X (binaryOp .Mult) (rI zza λ i j => .int (i * j)) := opI λ _ _ _ _ _ _ _ hc q => mul_int q hc.ok
theorem zel : OpR X (binaryOp .FloorDiv) (rI zyi λ i j => .int (i / j)) := opI λ i j _ _ _ _ _ hc q => by
 have h1 : (0 : Int) < j := hc.1
 have h2 : j < 1073741824 := hc.2
 exact floordiv_int (by omega) (by rw [Int.fdiv_eq_ediv_of_nonneg i (by omega)]; exact q) (.inl (PyProof.noPylong_small (by omega)))
theorem zca : OpR X (binaryOp .Mod) (rI (λ _ j => 0 < j) λ i j => .int (i % j)) := opI λ i j _ _ _ _ _ hc q => by
 have h1 : (0 : Int) < j := hc
 exact mod_int' (by omega) (by rw [Int.fmod_eq_emod_of_nonneg i (by omega)]; exact q)
theorem zl2 : OpR X (binaryOp .Pow) (rI CPow λ i j => .int (i ^ j.toNat)) := opI λ _ _ _ _ _ _ _ hc q => pow_int_small hc.1 hc.2.1 hc.2.2 q
theorem zus : OpR X (binaryOp .BitAnd) (rI0 λ i j => .int (Builtin.bitAnd i j)) := zw1 λ _ _ _ _ _ _ _ q => and_int q
theorem zxi : OpR X (binaryOp .BitOr) (rI0 λ i j => .int (Builtin.bitOr i j)) := zw1 λ _ _ _ _ _ _ _ q => or_int q
theorem zua : OpR X (binaryOp .BitXor) (rI0 λ i j => .int (Builtin.bitXor i j)) := zw1 λ _ _ _ _ _ _ _ q => xor_int q
theorem unI {f : Value -> Sem Value} {g : Int -> Int}
   (rule : ∀ (i : Int) (t : Tok) (s : Shared) (Q : Value -> Shared -> Prop) (E : Value -> Shared -> Prop), Q (.int (g i) s.toks) { s with toks := s.toks + 1 } -> wpAny (model X.prog X.w) X.A (f (.int i t)) Q E s) :
   UnR X f (rU λ i => .int (g i)) := by
 intro pins s σ H x v Q I rx h
 obtain ⟨i, rfl, q⟩ := h
 obtain ⟨t, rfl⟩ := rx
 exact rule i t s _ _ ⟨.int (g i), H, I.tok _, ⟨_, rfl⟩, q⟩
theorem zjp : UnR X (unaryOp .USub) (rU λ i => .int (-i)) := unI λ _ _ _ _ _ q => neg_int q
end
def scal : V -> V -> Bool
 | .non, .non => true | .non, .int _ => true | .int _, .non => true | .non, .bl _ => true | .bl _, .non => true | .non, .str _ => true | .str _, .non => true
 | .int _, .int _ => true | .bl _, .bl _ => true | .str _, .str _ => true | .byt _, .byt _ => true
 | .int _, .str _ => true | .str _, .int _ => true | .bl _, .str _ => true | .str _, .bl _ => true
 | _, _ => false
def rEq : R2 := λ x y H Q => scal x y = true /\ Q (.bl (decide (x = y))) H
def rNe : R2 := λ x y H Q => scal x y = true /\ Q (.bl (!decide (x = y))) H
theorem zr7 {i j : Int} : decide (V.int i = V.int j) = (i == j) := by
 rw [Bool.eq_iff_iff]
 simp
theorem zuw {i j : Bool} : decide (V.bl i = V.bl j) = (i == j) := by
 rw [Bool.eq_iff_iff]
 simp
theorem zrj {i j : Str} : decide (V.str i = V.str j) = (i == j) := by
 rw [Bool.eq_iff_iff]
 simp
theorem zqk {i j : Array UInt8} : decide (V.byt i = V.byt j) = (i.toList == j.toList) := by
 rw [Bool.eq_iff_iff]
 cases i
 cases j
 simp
section
variable {X : Cx} {a b c : Expr} {ta tb tc : TE} {pos : Pos}
theorem zb8 {pins : List (Addr × Obj)} {σ : St} {H : Hp} {s : Shared} {Q : VK} {k k' : Bool} (I : Inv X pins σ H s) (q : Q (.bl k) H) (e : k = k') : EP X pins σ Q (.bool k') s := by
 subst e
 exact ⟨.bl k, H, I, rfl, q⟩
theorem zcc : OpR X (compareOp .Eq) rEq := by
 intro pins s σ H x y v u Q I rx ry h
 obtain ⟨hs, q⟩ := h
 cases x with
 | non =>
   cases rx
   cases y with
   | non => cases ry; exact PySem.EqNone.eq_none_none (zb8 I q (by simp))
   | bl j => cases ry; exact PySem.EqNone.eq_none_bool (zb8 I q (by simp))
   | int j => obtain ⟨t', rfl⟩ := ry; exact PySem.EqNone.eq_none_int (zb8 I q (by simp))
   | str j => obtain ⟨t', rfl⟩ := ry; exact PySem.EqNone.eq_none_str (zb8 I q (by simp))
   | _ => exact absurd (show false = true from hs) Bool.false_ne_true
 | bl i =>
   cases rx
   cases y with
   | non => cases ry; exact PySem.EqNone.eq_bool_none (zb8 I q (by simp))
   | bl j => cases ry; exact eq_bool (zb8 I q zuw)
   | str j => obtain ⟨t', rfl⟩ := ry; exact PySem.EqMixed.eq_bool_str (zb8 I q (by simp))
   | _ => exact absurd (show false = true from hs) Bool.false_ne_true
 | int i =>
   obtain ⟨t, rfl⟩ := rx
   cases y with
   | non => cases ry; exact PySem.EqNone.eq_int_none (zb8 I q (by simp))
   | int j => obtain ⟨t', rfl⟩ := ry; exact eq_int (zb8 I q zr7)
   | str j => obtain ⟨t', rfl⟩ := ry; exact PySem.EqMixed.eq_int_str (zb8 I q (by simp))
   | _ => exact absurd (show false = true from hs) Bool.false_ne_true
 | str i =>
   obtain ⟨t, rfl⟩ := rx
   cases y with
   | non => cases ry; exact PySem.EqNone.eq_str_none (zb8 I q (by simp))
   | bl j => cases ry; exact PySem.EqMixed.eq_str_bool (zb8 I q (by simp))
   | int j => obtain ⟨t', rfl⟩ := ry; exact PySem.EqMixed.eq_str_int (zb8 I q (by simp))
   | str j => obtain ⟨t', rfl⟩ := ry; exact eq_str (zb8 I q zrj)
   | _ => exact absurd (show false = true from hs) Bool.false_ne_true
 | byt i =>
   obtain ⟨t, rfl⟩ := rx
   cases y with
   | byt j => obtain ⟨t', rfl⟩ := ry; exact PySem.W.eq_bytes (zb8 I q zqk)
   | _ => exact absurd (show false = true from hs) Bool.false_ne_true
 | _ => cases y <;> exact absurd (show false = true from hs) Bool.false_ne_true
theorem zrp : OpR X (compareOp .NotEq) rNe := by
 intro pins s σ H x y v u Q I rx ry h
 obtain ⟨hs, q⟩ := h
 cases x with
 | non =>
   cases rx
   cases y with
   | non => cases ry; exact PySem.EqNone.ne_none_none (zb8 I q (by simp))
   | bl j => cases ry; exact PySem.EqNone.ne_none_bool (zb8 I q (by simp))
   | int j => obtain ⟨t', rfl⟩ := ry; exact PySem.EqNone.ne_none_int (zb8 I q (by simp))
   | str j => obtain ⟨t', rfl⟩ := ry; exact PySem.EqNone.ne_none_str (zb8 I q (by simp))
   | _ => exact absurd (show false = true from hs) Bool.false_ne_true
 | bl i =>
   cases rx
   cases y with
   | non => cases ry; exact PySem.EqNone.ne_bool_none (zb8 I q (by simp))
   | bl j => cases ry; exact ne_bool (zb8 I q (congrArg not zuw))
   | str j => obtain ⟨t', rfl⟩ := ry; exact PySem.EqMixed.ne_bool_str (zb8 I q (by simp))
   | _ => exact absurd (show false = true from hs) Bool.false_ne_true
 | int i =>
   obtain ⟨t, rfl⟩ := rx
   cases y with
   | non => cases ry; exact PySem.EqNone.ne_int_none (zb8 I q (by simp))
   | int j => obtain ⟨t', rfl⟩ := ry; exact ne_int (zb8 I q (congrArg not zr7))
   | str j => obtain ⟨t', rfl⟩ := ry; exact PySem.EqMixed.ne_int_str (zb8 I q (by simp))
   | _ => exact absurd (show false = true from hs) Bool.false_ne_true
 | str i =>
   obtain ⟨t, rfl⟩ := rx
   cases y with
   | non => cases ry; exact PySem.EqNone.ne_str_none (zb8 I q (by simp))
   | bl j => cases ry; exact PySem.EqMixed.ne_str_bool (zb8 I q (by simp))
   | int j => obtain ⟨t', rfl⟩ := ry; exact PySem.EqMixed.ne_str_int (zb8 I q (by simp))
   | str j => obtain ⟨t', rfl⟩ := ry; exact ne_str (zb8 I q (congrArg not zrj))
   | _ => exact absurd (show false = true from hs) Bool.false_ne_true
 | byt i =>
   obtain ⟨t, rfl⟩ := rx
   cases y with
   | byt j => obtain ⟨t', rfl⟩ := ry; exact PySem.W.ne_bytes (zb8 I q (congrArg not zqk))
   | _ => exact absurd (show false = true from hs) Bool.false_ne_true
 | _ => cases y <;> exact absurd (show false = true from hs) Bool.false_ne_true
theorem zta : OpR X (compareOp .Lt) (rI0 λ i j => .bl (decide (i < j))) := zyt λ _ _ _ _ _ _ _ q => lt_int q
theorem zy8 : OpR X (compareOp .Gt) (rI0 λ i j => .bl (decide (j < i))) := zyt λ _ _ _ _ _ _ _ q => gt_int q
theorem zzd : OpR X (compareOp .GtE) (rI0 λ i j => .bl (decide (j <= i))) := zyt λ _ _ _ _ _ _ _ q => ge_int q
theorem zar (b : Expr) {op : CmpOp} (h : op ≠ .In := by decide) (h2 : op ≠ .NotIn := by decide) : behindInMarks op b = false := by
 have e1 : (op == CmpOp.In) = false := by cases op <;> first | rfl | exact absurd rfl h
 have e2 : (op == CmpOp.NotIn) = false := by cases op <;> first | rfl | exact absurd rfl h2
 cases b <;> simp [behindInMarks, e1, e2]
theorem zfj {op : CmpOp} {r : R2} (ho : OpR X (compareOp op) r) (ha : PE X a ta) (hb : PE X b tb) (hm : behindInMarks op b = false) : PE X (.Compare a [op] [b] pos) (tOp r ta tb) := by
 intro pins s σ H Q I h
 exact wpAny_Compare1 (zyx ha hb I h λ v u s2 x y H2 I2 rx ry q => ho pins s2 σ H2 x y v u Q I2 rx ry q) hm
def zyk (t : TE) : TT := λ σ H Q => t σ H λ x H' => ∃ k, x = .bl k /\ Q k H'
theorem zap {op : CmpOp} {r : R2} (ho : OpR X (compareOp op) r) (ha : PE X a ta) (hb : PE X b tb) (hm : behindInMarks op b = false) : PT X (.Compare a [op] [b] pos) (zyk (tOp r ta tb)) := by
 intro pins s σ H Q I h
 refine wpAny_isTrue_Compare1 (thn (ha pins s σ H _ I h) λ v s1 ⟨x, H1, I1, r1, q1⟩ => thn (hb pins s1 σ H1 _ I1 q1) λ u s2 ⟨y, H2, I2, r2, q2⟩ =>
   thn (ho pins s2 σ H2 x y v u _ I2 r1 r2 q2) λ c s3 ⟨z, H3, I3, r3, k, e, q3⟩ => ?_) hm
 subst e
 cases r3
 exact wpAny_truthy_bool ⟨H3, I3, q3⟩
def zyj (K : W.Frag) (x : V) (H : Hp) (k : Bool) : Prop :=
 match x with
 | .non => k = false
 | .bl b => k = b
 | .int i => k = (i != 0)
 | .str y => y.length <= sizeLine /\ k = ((y.length : Int) != 0)
 | .byt y => y.size <= sizeLine /\ k = ((y.size : Int) != 0)
 | .ref p => (∃ xs, SqL K H p xs /\ k = !xs.isEmpty) \/ (∃ xs, SqT K H p xs /\ k = !xs.isEmpty) \/ ∃ kvs, H p = some (.dK kvs) /\ k = !kvs.isEmpty
 | _ => False
theorem zpe {κ : Type} {kvs : List (κ × V)} {vs : List (κ × Value)} (r : KV kvs vs) : (!vs.isEmpty) = !kvs.isEmpty := by
 cases r <;> rfl
theorem zkg {xs : List V} {its : List Value} (r : zcm xs its) : (!its.toArray.isEmpty) = !xs.isEmpty := by
 cases r <;> simp
theorem zj6 : (sizeLine : Nat) < 2 ^ 63 := by rw [sizeLine_eq]; decide
theorem zws : TruR X (λ x H Q => ∃ k, zyj X.K x H k /\ Q k H) := by
 intro pins s σ H x v Q I rx h
 obtain ⟨k, e, q⟩ := h
 have hl := zj6
 have hs : sizeLine = 16777216 := sizeLine_eq
 cases x with
 | non =>
   cases rx
   have e' : k = false := e
   subst e'
   exact truthy_none ⟨H, I, q⟩
 | bl b =>
   cases rx
   have e' : k = b := e
   subst e'
   exact wpAny_truthy_bool ⟨H, I, q⟩
 | int i =>
   obtain ⟨t, rfl⟩ := rx
   have e' : k = (i != 0) := e
   subst e'
   exact PySem.P.truthy_int ⟨H, I, q⟩
 | str y =>
   obtain ⟨t, rfl⟩ := rx
   obtain ⟨hy, e'⟩ : y.length <= sizeLine /\ k = ((y.length : Int) != 0) := e
   subst e'
   exact PySem.P.truthy_str (by omega) ⟨H, I.tok _, q⟩
 | byt y =>
   obtain ⟨t, rfl⟩ := rx
   obtain ⟨hy, e'⟩ : y.size <= sizeLine /\ k = ((y.size : Int) != 0) := e
   subst e'
   exact PySem.W.truthy_bytes (by omega) ⟨H, I.tok _, q⟩
 | ref p =>
   cases rx
   have e' : (∃ xs, SqL X.K H p xs /\ k = !xs.isEmpty) \/ (∃ xs, SqT X.K H p xs /\ k = !xs.isEmpty) \/ ∃ kvs, H p = some (.dK kvs) /\ k = !kvs.isEmpty := e
   rcases e' with ⟨xs, hx, e'⟩ | ⟨xs, hx, e'⟩ | ⟨kvs, hx, e'⟩
   . subst e'
     obtain ⟨its, r, pl, hz⟩ := I.list hx
     have hlen := r.length
     exact wpAny_truthy_list pl.isList (by simp only [List.size_toArray]; omega) ⟨H, I.tok _, by rw [zkg r]; exact q⟩
   . subst e'
     obtain ⟨its, r, pl, hz⟩ := I.tuple hx
     have hlen := r.length
     exact truthy_tuple pl (by simp only [List.size_toArray]; omega) ⟨H, I.tok _, by rw [zkg r]; exact q⟩
   . subst e'
     obtain ⟨hz, hS, vs, r, m⟩ : kvs.length <= sizeLine /\ (p == sysModules) = false /\ ∃ vs, KV kvs vs /\ s.heap.DictOf (zbh X.prog X.w) p vs := I.hok p _ hx
     have hlen : kvs.length = vs.length := Paired.length r
     exact wpAny_truthy_dict hS m (by omega) ⟨H, I.tok _, by rw [zpe r]; exact q⟩
 | _ => exact (show False from e).elim
theorem ztt (ha : PE X a ta) (he : ∀ whole, isTrue a X.env whole = (do let v <- whole; standAt a.pos; holding [v] (truthy v))) :
   PT X a (λ σ H Q => ta σ H λ x H' => ∃ k, zyj X.K x H' k /\ Q k H') := by
 intro pins s σ H Q I h
 exact isTrue_plain (thn (ha pins s σ H _ I h) λ v s1 ⟨x, H1, I1, r1, q1⟩ => zws pins s1 σ H1 x v Q I1 r1 q1) (he _)
theorem zht : OpR X (binaryOp .Add) (λ x y H Q => ∃ i j, x = .str i /\ y = .str j /\ i.length + j.length <= sizeLine /\ Q (.str (i ++ j)) H) := by
 intro pins s σ H x y v u Q I rx ry h
 obtain ⟨i, j, rfl, rfl, hz, q⟩ := h
 obtain ⟨t, rfl⟩ := rx
 obtain ⟨t', rfl⟩ := ry
 exact add_str (λ t' tk => ⟨.str (i ++ j), H, I.tok _, ⟨_, rfl⟩, q⟩) hz
theorem zlx {x : V} {us : List Value} (r : zcm [x] us) : ∃ u, us = [u] /\ zcw x u := by
 cases r with
 | cons r1 r2 => cases r2; exact ⟨_, rfl, r1⟩
theorem zw9 {x y : V} {us : List Value} (r : zcm [x, y] us) : ∃ u w', us = [u, w'] /\ zcw x u /\ zcw y w' := by
 cases r with
 | cons r1 r2 =>
   cases r2 with
   | cons r3 r4 => cases r4; exact ⟨_, _, rfl, r1, r3⟩
theorem zre (hc : X.calm = true) : zjn X (.builtin "max") (λ xs H Q => ∃ i j, xs = [.int i, .int j] /\ Q (.int (if j > i then j else i)) H) := by
 intro pins s σ H xs us Q I r h
 obtain ⟨i, j, rfl, q⟩ := h
 obtain ⟨u, w', rfl, ⟨t, rfl⟩, ⟨t', rfl⟩⟩ := zw9 r
 refine max_two_ints (I.ok.hd hc) λ h' tk k => ⟨_, H, I.kept k, ?_, q⟩
 by_cases hj : j > i
 . rw [if_pos hj, if_pos hj]; exact ⟨_, rfl⟩
 . rw [if_neg hj, if_neg hj]; exact ⟨_, rfl⟩
theorem zix : zjn X (.type "int") (λ xs H Q => (∃ i, xs = [.int i] /\ Q (.int i) H) \/ ∃ k, xs = [.bl k] /\ Q (.int (if k then 1 else 0)) H) := by
 intro pins s σ H xs us Q I r h
 rcases h with ⟨i, rfl, q⟩ | ⟨k, rfl, q⟩
 . obtain ⟨u, rfl, t, rfl⟩ := zlx r
   exact call_int_int ⟨.int i, H, I, ⟨_, rfl⟩, q⟩
 . obtain ⟨u, rfl, r1⟩ := zlx r
   cases r1
   exact call_int_bool ⟨.int (if k then 1 else 0), H, I.tok _, ⟨_, rfl⟩, q⟩
end
end L2
namespace L2
open PySem PySem.Spec PyProof.Rows
structure ObjM (h : Heap) (x dx C : Addr) (mA : Str -> Option Value) : Prop where
 obj : h.get? x = some (PySem.W.instObj C dx)
 ns : h.Ns1 dx mA
 ne : dx ≠ x
theorem zrs {h : Heap} {dx : Addr} {mA : Str -> Option Value} (n : h.Ns1 dx mA) : ∃ od, h.get? dx = some od /\ ∀ name, PySem.W.lookIn name od = some (mA name) := by
 obtain ⟨o, es, ep, ho, hd, hk, _, hm⟩ := n
 refine ⟨o, ho, λ name => ?_⟩
 have e := hm name
 unfold nsFind findBy at e
 rw [<- Array.find?_toList] at e
 unfold PySem.W.lookIn
 rw [hd]
 dsimp only
 split
 . rename_i y q
   rw [q] at e
   exact congrArg some e
 . rename_i q
   rw [q] at e
   have a : es.toList.any (·.refKey) = false := by
     rw [List.any_eq_false]
     intro y hy
     obtain ⟨z, t, hkey⟩ := hk y (Array.mem_toList_iff.mp hy)
     simp [DictEntry.refKey, hkey]
   have a' : ¬ es.toList.any (·.refKey) = true := by rw [a]; exact Bool.false_ne_true
   rw [if_neg a']
   exact congrArg some e
theorem ObjM.look {h : Heap} {x dx C : Addr} {mA : Str -> Option Value} (I : ObjM h x dx C mA) : ∃ od, PySem.W.InstAt h x (PySem.W.instObj C dx) C (some od) /\ ∀ name, PySem.W.lookIn name od = some (mA name) :=
 let ⟨od, ho, hl⟩ := zrs I.ns
 ⟨od, ⟨I.obj, rfl, rfl, ho⟩, hl⟩
section
variable {prog : Program} {w : World} {A : Around} {E : Value -> Shared -> Prop} {s : Shared} {K : W.Frag} {x dx C f : Addr} {mA : Str -> Option Value} {name : Str} {v : Value}
theorem zv2 {expr : Bool} {Q : Value -> Shared -> Prop} (X : K.In s.heap) (I : ObjM s.heap x dx C mA) (hg : PySem.W.plainGet K C name = true) (hh : PySem.W.hasDictIn K C = true)
   (ha : PySem.W.findIn K (.ref C) name = some none) (hv : mA name = some v) (hv' : PySem.W.handedIn v = true) (h : Q v { s with toks := s.toks + 1 }) :
   wpAny (model prog w) A (getAttr (.ref x) name expr) Q E s := by
 obtain ⟨od, J, hl⟩ := I.look
 exact PySem.W.get_value X J (PySem.W.plainGet_of hg).1 (PySem.W.findObj_own hh ha rfl (by rw [hl, hv])) hv' h
theorem ztx {pl : Sem Bool} {Q : Value × List Value -> Shared -> Prop} (X : K.In s.heap) (I : ObjM s.heap x dx C mA) (hg : PySem.W.plainGet K C name = true)
   (hf : PySem.W.findIn K (.ref C) name = some (some (.ref f))) (ht : PySem.W.isFn K (.ref f) = true) (hv : mA name = none) (h : Q (.ref f, [.ref x]) s) :
   wpAny (model prog w) A (getMethod (.ref x) name pl) Q E s := by
 obtain ⟨od, J, hl⟩ := I.look
 exact PySem.W.method_fn X J (PySem.W.plainGet_of hg).1 (PySem.W.plainGet_of hg).2 hf (beq_iff_eq.mp ht) (by show (PySem.W.lookIn name od).map (·.isSome) = some false; rw [hl, hv]; rfl) h
theorem zwc {ns : List Str} {Q : Unit -> Shared -> Prop} (X : K.In s.heap) (I : ObjM s.heap x dx C mA)
   (hs : PySem.W.findIn K (.ref C) "__setattr__" = some (some (.builtin "object.__setattr__"))) (hp : PySem.W.plainOver K C = true) (ht : PySem.W.takerIn K C name = some none) (hh : PySem.W.hasDictIn K C = true)
   (hw : PySem.Within mA ns) (hsz : ns.length <= sizeLine)
   (h : ∀ h', ObjM h' x dx C (λ y => if y = name then some v else mA y) -> Heap.SameBut dx s.heap h' -> Q () { s with heap := h', toks := s.toks + 2 }) :
   wpAny (model prog w) A (setAttr (.ref x) name v) Q E s := by
 obtain ⟨od, J, hl⟩ := I.look
 refine PySem.W.set_plain X J hs (PySem.W.osa_open (s := { s with toks := s.toks + 1 }) (r := none) X J hp ht λ b => ?_)
 obtain ⟨cd, hc, hd'⟩ := PySem.W.any_some hh
 have hx : s.heap.get? x = some ⟨.ref C, some dx, .plain, #[]⟩ := I.obj
 refine wpAny_bind (wpAny_pure (wpAny_bind (wpAny_bind (wpAny_loadPart hx (wpAny_bind (PySem.W.Looks.here (s := { s with toks := s.toks + 1 }) (PySem.W.looks_clsIn X hc) ?_))))))
 rw [hd']
 refine wpAny_pure (a := some dx) (wpAny_bind (wpAny_pure (wpAny_bind ?_)))
 refine wpAny_nsSet1 (s := { s with toks := s.toks + 1 }) I.ns λ h' hn2 hs2 => ?_
 obtain ⟨oD, esD, epD, hoD, hdD, hcD⟩ := hn2.count (PySem.Within.cons name v hw)
 refine wpAny_bind (wpAny_lookBehind hoD (by rw [hdD]; exact pastItsLine_dict (Nat.le_trans hcD (by rw [List.length_cons]; omega))) ?_)
 exact wpAny_pure (h _ ⟨(hs2.2 _ (Ne.symm I.ne)).trans I.obj, hn2, I.ne⟩ hs2)
theorem zs6 {R : Result -> Shared -> Prop} {vs : List Value} {kw : List (Str × Value)} (X : K.In s.heap) (hm : PySem.W.makesIn K C = true)
   (hi : PySem.W.findIn K (.ref C) "__init__" = some (some (.ref f))) (hf : PySem.W.typeIn K (.ref f) = some (.type "function"))
   (h : codeAny (model prog w) (A.under (.builtin "type.__call__" ⟨.ref C :: vs, kw⟩)) (.call (.ref f) ⟨.ref (s.heap.objs.size + 1) :: vs, kw⟩) (PySem.W.InitBack (s.heap.objs.size + 1) R)
     { s with heap := (s.heap.push PySem.W.emptyDict).push (PySem.W.instObj C s.heap.objs.size) }) :
   codeAny (model prog w) A (.call (.ref C) ⟨vs, kw⟩) R s := by
 obtain ⟨hh, g, d, t, os⟩ := s
 exact PySem.W.make_core (PySem.W.makes_of X hm) (PySem.W.looks_findIn X hi) (λ self => PySem.W.bind_fn X self hf) (.inl rfl) h
end
def zhb (f : Str) (v : V) : List (Str × V) -> List (Str × V)
 | [] => [(f, v)]
 | (g, x) :: r => if g = f then (g, v) :: r else (g, x) :: zhb f v r
theorem zam (f g : Str) (v : V) : ∀ fs : List (Str × V), (zhb f v fs).lookup g = if g = f then some v else fs.lookup g
 | [] => by
   show List.lookup g [(f, v)] = _
   by_cases h : g = f
   . have hb : (g == f) = true := beq_iff_eq.mpr h
     simp only [List.lookup, hb, if_pos h]
   . have hb : (g == f) = false := beq_eq_false_iff_ne.mpr h
     simp only [List.lookup, hb, if_neg h]
 | (k, x) :: r => by
   have ih := zam f g v r
   rw [show zhb f v ((k, x) :: r) = (if k = f then (k, v) :: r else (k, x) :: zhb f v r) from rfl]
   by_cases hk : k = f
   . rw [if_pos hk]
     by_cases h : g = k
     . have hb : (g == k) = true := beq_iff_eq.mpr h
       simp only [List.lookup, hb, if_pos (h.trans hk)]
     . have hb : (g == k) = false := beq_eq_false_iff_ne.mpr h
       simp only [List.lookup, hb, if_neg (λ e : g = f => h (e.trans hk.symm))]
   . rw [if_neg hk]
     by_cases h : g = k
     . have hb : (g == k) = true := beq_iff_eq.mpr h
       simp only [List.lookup, hb, if_neg (λ e : g = f => hk (h.symm.trans e))]
     . have hb : (g == k) = false := beq_eq_false_iff_ne.mpr h
       simp only [List.lookup, hb]
       exact ih
theorem ziw (f : Str) (v : V) : ∀ fs : List (Str × V), f ∈ (zhb f v fs).map (·.1) /\ ∀ g, g ∈ fs.map (·.1) -> g ∈ (zhb f v fs).map (·.1)
 | [] => ⟨by simp [zhb], λ g h => by simp at h⟩
 | (k, x) :: r => by
   obtain ⟨i1, i2⟩ := ziw f v r
   rw [show zhb f v ((k, x) :: r) = (if k = f then (k, v) :: r else (k, x) :: zhb f v r) from rfl]
   by_cases hk : k = f
   . rw [if_pos hk]
     subst hk
     exact ⟨by simp, λ g h => by simpa using h⟩
   . rw [if_neg hk]
     refine ⟨?_, λ g h => ?_⟩
     . rw [List.map_cons]
       exact List.mem_cons_of_mem _ i1
     . rw [List.map_cons] at h ⊢
       rcases List.mem_cons.mp h with e | e
       . exact List.mem_cons.mpr (.inl e)
       . exact List.mem_cons_of_mem _ (i2 g e)
theorem zd0 (f : Str) (v : V) : ∀ fs : List (Str × V), (zhb f v fs).length <= fs.length + 1
 | [] => by simp [zhb]
 | (k, x) :: r => by
   have ih := zd0 f v r
   rw [show zhb f v ((k, x) :: r) = (if k = f then (k, v) :: r else (k, x) :: zhb f v r) from rfl]
   by_cases hk : k = f
   . rw [if_pos hk, List.length_cons, List.length_cons]; omega
   . rw [if_neg hk, List.length_cons, List.length_cons]; omega
theorem zk9.some_of {v : V} {o : Option Value} (r : zk9 (some v) o) : ∃ u, o = some u /\ zcw v u := by
 cases o with
 | none => exact (show False from r).elim
 | some u => exact ⟨u, rfl, r⟩
theorem zk9.none_of {o : Option Value} (r : zk9 none o) : o = none := by
 cases o with
 | none => rfl
 | some u => exact (show False from r).elim
theorem zqd {v : V} {u : Value} (r : zcw v u) : PySem.W.handedIn u = true := by
 cases v with
 | non => cases (show u = Value.none from r); rfl
 | bl b => cases (show u = Value.bool b from r); rfl
 | int i => obtain ⟨t, e⟩ := (show ∃ t, u = Value.int i t from r); cases e; rfl
 | str x => obtain ⟨t, e⟩ := (show ∃ t, u = Value.str x t from r); cases e; rfl
 | byt b => obtain ⟨t, e⟩ := (show ∃ t, u = Value.bytes b t from r); cases e; rfl
 | flt b => obtain ⟨t, e⟩ := (show ∃ t, u = Value.float b t from r); cases e; rfl
 | ref a => cases (show u = Value.ref a from r); rfl
 | ty n => cases (show u = Value.type n from r); rfl
section
variable {P : Program} {w : World} {H H' : Hp} {h h' : Heap} {a C dx : Addr} {fs fs' : List (Str × V)}
theorem zk5 (hok : HOk P w H h) (e : H a = some (.ins C dx fs)) : ∃ mA, ObjM h a dx C mA /\ (∀ f, zk9 (fs.lookup f) (mA f)) /\ PySem.Within mA (fs.map (·.1)) /\ fs.length <= 1000 /\ H dx = some (.own a) := by
 obtain ⟨d, z, ne, ob, mA, n, r, q⟩ := (show zdu P w H h a (.ins C dx fs) from hok a _ e)
 exact ⟨mA, ⟨ob, n, ne⟩, r, q, z, d⟩
end
structure Cls (K : W.Frag) (C : Addr) : Prop where
 pg : PySem.W.plainGet K C Str.empty = true
 hd : PySem.W.hasDictIn K C = true
 po : PySem.W.plainOver K C = true
 sa : PySem.W.findIn K (.ref C) "__setattr__" = some (some (.builtin "object.__setattr__"))
theorem Cls.get {K : W.Frag} {C : Addr} (c : Cls K C) (f : Str) : PySem.W.plainGet K C f = true := c.pg
def zc8 (K : W.Frag) (C : Addr) (f : Str) : Prop := PySem.W.findIn K (.ref C) f = some none
theorem zc8.taker {K : W.Frag} {C : Addr} {f : Str} (n : zc8 K C f) : PySem.W.takerIn K C f = some none := by
 unfold PySem.W.takerIn
 rw [show PySem.W.findIn K (.ref C) f = some none from n]
 rfl
structure Meth (K : W.Frag) (C : Addr) (m : Str) (f : Addr) : Prop where
 at_ : PySem.W.findIn K (.ref C) m = some (some (.ref f))
 fn : PySem.W.isFn K (.ref f) = true
 kp : PySem.W.keepIn K (.ref f) = true
section
variable {X : Cx} {pins : List (Addr × Obj)} {σ : St} {H : Hp} {s : Shared} {a C dx : Addr} {fs : List (Str × V)} {f : Str} {v : V} {A : Around} {E : Value -> Shared -> Prop}
theorem zpn {b : Bool} {Q : Value -> Shared -> Prop} (I : Inv X pins σ H s) (e : H a = some (.ins C dx fs)) (c : Cls X.K C) (n : zc8 X.K C f) (l : fs.lookup f = some v)
   (h : ∀ u s', Inv X pins σ H s' -> zcw v u -> Q u s') : wpAny (model X.prog X.w) A (getAttr (.ref a) f b) Q E s := by
 obtain ⟨mA, O, r, _, _, _⟩ := zk5 I.hok e
 obtain ⟨u, hu, ru⟩ := zk9.some_of (v := v) (o := mA f) (by rw [<- l]; exact r f)
 exact zv2 I.kIn O (c.get f) c.hd n hu (zqd ru) (h u _ (I.tok _) ru)
theorem zj8 {m : Str} {g : Addr} {pl : Sem Bool} {Q : Value × List Value -> Shared -> Prop} (I : Inv X pins σ H s) (e : H a = some (.ins C dx fs)) (c : Cls X.K C) (k : Meth X.K C m g) (l : fs.lookup m = none)
   (h : Q (.ref g, [.ref a]) s) : wpAny (model X.prog X.w) A (getMethod (.ref a) m pl) Q E s := by
 obtain ⟨mA, O, r, _, _, _⟩ := zk5 I.hok e
 have hn : mA m = none := zk9.none_of (by rw [<- l]; exact r m)
 exact ztx I.kIn O (c.get m) k.at_ k.fn hn h
theorem zo9 {y : V} {u : Value} {Q : Unit -> Shared -> Prop} (I : Inv X pins σ H s) (e : H a = some (.ins C dx fs)) (c : Cls X.K C) (n : zc8 X.K C f) (hl : fs.length < 1000) (ry : zcw y u)
   (h : ∀ s', Inv X pins σ (upd H a (.ins C dx (zhb f y fs))) s' -> Q () s') : wpAny (model X.prog X.w) A (setAttr (.ref a) f u) Q E s := by
 obtain ⟨mA, O, r, wi, _, ho⟩ := zk5 I.hok e
 have hz : (fs.map (·.1)).length <= sizeLine := by rw [List.length_map, sizeLine_eq]; omega
 refine zwc I.kIn O c.sa c.po n.taker c.hd wi hz λ h' O' sb => h _ ?_
 have hd : ∃ o, h'.get? dx = some o := let ⟨o, _, _, e', _⟩ := O'.ns; ⟨o, e'⟩
 refine I.write (x := a) (e := dx) (by rw [e]; exact True.intro) (.inr ho) (λ b q hb z => (sb.2 b hb).trans z) hd ?_
 refine ⟨by rw [zaf O.ne]; exact ho, ?_, O.ne, O'.obj, _, O'.ns, λ g => ?_, λ g hg => ?_⟩
 . have := zd0 f y fs; omega
 . show zk9 ((zhb f y fs).lookup g) (if g = f then some u else mA g)
   rw [zam]
   by_cases q : g = f
   . rw [if_pos q, if_pos q]; exact ry
   . rw [if_neg q, if_neg q]; exact r g
 . by_cases q : g = f
   . rw [q]; exact (ziw f y fs).1
   . refine (ziw f y fs).2 g (wi g λ z => hg ?_)
     show (if g = f then some u else mA g) = none
     rw [if_neg q]; exact z
theorem Inv.made (I : Inv X pins σ H s) : Inv X pins σ (upd (upd H s.heap.objs.size (.own (s.heap.objs.size + 1))) (s.heap.objs.size + 1) (.ins C s.heap.objs.size []))
   { s with heap := (s.heap.push PySem.W.emptyDict).push (PySem.W.instObj C s.heap.objs.size) } := by
 have e1 : (s.heap.push PySem.W.emptyDict).get? s.heap.objs.size = some PySem.W.emptyDict := Heap.get?_push_size s.heap rfl
 have e2 : ((s.heap.push PySem.W.emptyDict).push (PySem.W.instObj C s.heap.objs.size)).get? (s.heap.objs.size + 1) = some (PySem.W.instObj C s.heap.objs.size) := by
   have := Heap.get?_push_size (s.heap.push PySem.W.emptyDict) (o := PySem.W.instObj C s.heap.objs.size) rfl
   rwa [Heap.size_push] at this
 have e3 : (s.heap.push PySem.W.emptyDict).Ns s.heap.objs.size (λ _ => none) := ⟨PySem.W.emptyDict, #[], _, e1, rfl, (λ e he => absurd he (by simp)), λ _ => rfl⟩
 have I1 := I.laid (a := s.heap.objs.size) (o := .own (s.heap.objs.size + 1)) (h' := s.heap.push PySem.W.emptyDict) (t' := s.toks) (λ b u q => Heap.get?_push_of_some _ q) (Nat.le_refl _) ⟨_, e1⟩
 refine I1.laid (a := s.heap.objs.size + 1) (o := .ins C s.heap.objs.size []) (t' := s.toks) (λ b u q => Heap.get?_push_of_some _ q) (Nat.le_of_eq (Heap.size_push _ _)) ?_
 have ne : s.heap.objs.size ≠ s.heap.objs.size + 1 := Nat.ne_of_lt (Nat.lt_succ_self _)
 refine ⟨by rw [zaf ne, zab], Nat.zero_le _, ne, e2, λ _ => none, (Heap.Ns1.of_empty e3).at λ o q => Heap.get?_push_of_some _ q, λ _ => True.intro, λ y hy => absurd rfl hy⟩
theorem zu7 {prog : Program} {w : World} {env : Env} {e : Expr} {f : Str} {pos : Pos} {s : Shared} {Q : Value -> Shared -> Prop} (hb : attributeBase e f env (eval e env) = eval e env)
   (h : wpAny (model prog w) A (eval e env) (λ o s₁ => wpAny (model prog w) A (getAttr o f true) Q E s₁) E s) : wpAny (model prog w) A (eval (.Attribute e f pos) env) Q E s :=
 Attribute_any_ h (by rw [arm_eval_Attribute, hb])
end
def tFld (K : W.Frag) (ta : TE) (f : Str) : TE := λ σ H Q => ta σ H λ x H1 => ∃ a C dx fs v, x = .ref a /\ H1 a = some (.ins C dx fs) /\ Cls K C /\ zc8 K C f /\ fs.lookup f = some v /\ Q v H1
def sFld (K : W.Frag) (ta tv : TE) (f : Str) : TS := λ D σ H => tv σ H λ y H1 => ta σ H1 λ x H2 => ∃ a C dx fs, x = .ref a /\ H2 a = some (.ins C dx fs) /\ Cls K C /\ zc8 K C f /\ fs.length < 1000 /\
 D.nx σ (upd H2 a (.ins C dx (zhb f y fs)))
section
variable {X : Cx} {o e value : Expr} {f : Str} {pos pos' tpos : Pos} {ta tv : TE}
theorem zbj (he : PE X e ta) (hb : attributeBase e f X.env (eval e X.env) = eval e X.env) : PE X (.Attribute e f pos) (tFld X.K ta f) := by
 intro pins s σ H Q I h
 refine zu7 hb (thn (he pins s σ H _ I h) λ u s1 ⟨x, H1, I1, rx, a, C, dx, fs, v, ex, ea, c, n, l, q⟩ => ?_)
 subst ex
 obtain rfl : u = Value.ref a := rx
 exact zpn I1 ea c n l λ u' s2 I2 ru => ⟨v, H1, I2, ru, q⟩
theorem zdw (ha : PE X o ta) (hv : PE X value tv) (hs : swapsWith value (some (.Attribute o f pos')) pos.line X.env = pure false) : PS X (.Assign [.Attribute o f pos'] value pos) (sFld X.K ta tv f) := by
 intro pins s σ H D I h
 refine plainObj_wpAny_Assign_Attribute (thn (hv pins s σ H _ I h) λ u s1 ⟨y, H1, I1, ry, q⟩ => thn (ha pins s1 σ H1 _ I1 q) λ ov s2 ⟨x, H2, I2, rx, a, C, dx, fs, ex, ea, c, n, l, q2⟩ => ?_) hs
 subst ex
 obtain rfl : ov = Value.ref a := rx
 exact zo9 I2 ea c n l ry λ s3 I3 => ⟨σ, _, I3, q2⟩
end
section
variable {X : Cx} {pins : List (Addr × Obj)} {σ : St} {H : Hp} {s : Shared} {A : Around} {E : Value -> Shared -> Prop} {Q : Value -> Shared -> Prop} {c : Value} {b : Bool}
inductive TyOf (K : W.Frag) (H : Hp) : V -> Value -> Prop where
 | non : TyOf K H .non (.type "NoneType")
 | bl (x : Bool) : TyOf K H (.bl x) (.type "bool")
 | int (i : Int) : TyOf K H (.int i) (.type "int")
 | str (x : Str) : TyOf K H (.str x) (.type "str")
 | flt (x : UInt64) : TyOf K H (.flt x) (.type "float")
 | lst {a : Addr} {xs : List V} (e : H a = some (.lst xs)) : TyOf K H (.ref a) (.type "list")
 | frz {a : Addr} {o : Obj} {xs : List V} (e : H a = some (.frz o (.lst xs))) : TyOf K H (.ref a) (.type "list")
 | tup {a : Addr} {xs : List V} (e : H a = some (.tup xs)) : TyOf K H (.ref a) (.type "tuple")
 | dK {a : Addr} {kvs : List (Key × V)} (e : H a = some (.dK kvs)) : TyOf K H (.ref a) (.type "dict")
 | dT {a : Addr} {kvs : List (List Key × V)} (e : H a = some (.dT kvs)) : TyOf K H (.ref a) (.type "dict")
 | ins {a C dx : Addr} {fs : List (Str × V)} (e : H a = some (.ins C dx fs)) (cl : Cls K C) (ha : PySem.W.findIn K (.ref C) "__class__" = some (some (.builtin "object.__class__")))
     (hn : PySem.W.specialIn K (.builtin "object.__class__") "__get__" = some (some (.builtin "getset_descriptor.__get__"))) (htk : PySem.W.takesIn K (.builtin "object.__class__") = some true)
     (hm : PySem.W.mroIn K C (.type "object") = some true) : TyOf K H (.ref a) (.ref C)
theorem zr2 {x : V} {u t : Value} (I : Inv X pins σ H s) (rx : zcw x u) (ty : TyOf X.K H x t) (e : PySem.W.kitOne X.K t c = some b) (h : ∀ tk, Q (.bool b) { s with toks := tk }) :
   wpAny (model X.prog X.w) A (call (.builtin "isinstance") [u, c]) Q E s := by
 cases ty with
 | non => cases (show u = Value.none from rx); exact PySem.W.kia_one PySem.W.kitx_none I.kIn True.intro e (λ z => nomatch z) h
 | bl y => cases (show u = Value.bool y from rx); exact PySem.W.kia_one PySem.W.kitx_bool I.kIn True.intro e (λ z => nomatch z) h
 | int i => obtain ⟨t, q⟩ := (show ∃ t, u = Value.int i t from rx); cases q; exact PySem.W.kia_one PySem.W.kitx_int I.kIn True.intro e (λ z => nomatch z) h
 | str y => obtain ⟨t, q⟩ := (show ∃ t, u = Value.str y t from rx); cases q; exact PySem.W.kia_one PySem.W.kitx_str I.kIn True.intro e (λ z => nomatch z) h
 | flt y => obtain ⟨t, q⟩ := (show ∃ t, u = Value.float y t from rx); cases q; exact PySem.W.kia_one PySem.W.kitx_float I.kIn True.intro e (λ z => nomatch z) h
 | @lst a xs ea =>
   cases (show u = Value.ref a from rx)
   obtain ⟨_, _, n, _, h1⟩ := (show zdu X.prog X.w H s.heap a (.lst xs) from I.hok a _ ea)
   exact PySem.W.kia_one PySem.W.kitx_list I.kIn ⟨_, h1, rfl⟩ e (λ z => nomatch z) h
 | @frz a ob xs ea =>
   cases (show u = Value.ref a from rx)
   obtain ⟨_, _, _, n, _, h1⟩ := (show zdu X.prog X.w H s.heap a (.frz ob (.lst xs)) from I.hok a _ ea)
   exact PySem.W.kia_one PySem.W.kitx_list I.kIn ⟨_, h1, rfl⟩ e (λ z => nomatch z) h
 | @tup a xs ea =>
   cases (show u = Value.ref a from rx)
   obtain ⟨_, _, _, p⟩ := (show zdu X.prog X.w H s.heap a (.tup xs) from I.hok a _ ea)
   obtain ⟨o, h1, h2, _⟩ := p
   exact PySem.W.kia_one PySem.W.kitx_tuple I.kIn ⟨o, h1, h2⟩ e (λ z => nomatch z) h
 | @dK a kvs ea =>
   cases (show u = Value.ref a from rx)
   obtain ⟨_, _, vs, _, p⟩ := (show zdu X.prog X.w H s.heap a (.dK kvs) from I.hok a _ ea)
   obtain ⟨o, es, ep, h1, h2, _⟩ := p
   exact PySem.W.kia_one PySem.W.kitx_dict I.kIn ⟨o, h1, h2.1⟩ e (λ z => nomatch z) h
 | @dT a kvs ea =>
   cases (show u = Value.ref a from rx)
   obtain ⟨_, _, xs, _, o, es, ep, h1, h2, _⟩ := (show zdu X.prog X.w H s.heap a (.dT kvs) from I.hok a _ ea)
   exact PySem.W.kia_one PySem.W.kitx_dict I.kIn ⟨o, h1, h2.1⟩ e (λ z => nomatch z) h
 | @ins a C dx fs ea cl ha hn htk hm =>
   cases (show u = Value.ref a from rx)
   obtain ⟨mA, O, _⟩ := zk5 I.hok ea
   obtain ⟨od, J, _⟩ := O.look
   exact PySem.W.kia_one (PySem.W.kitx_own (cl.get _) cl.hd ha hn htk hm) I.kIn J e (λ z => nomatch z) h
end
end L2
namespace L2
open PySem PySem.Spec PyProof.Rows
structure Room (k : Nat) (A : Around) : Prop where
 hd : A.handled = none
 dp : A.depth + 3 * k + 5 < recursionLimit
 un : A.units + 16 * k + 200 < cLine
theorem Room.mono {j k : Nat} {A : Around} (r : Room k A) (h : j <= k) : Room j A := ⟨r.hd, by have := r.dp; omega, by have := r.un; omega⟩
theorem Room.deeper {k : Nat} {A : Around} (r : Room (k + 1) A) (env : Env) : Room k (A.deeper env) :=
 ⟨r.hd, by have := r.dp; show A.depth + 1 + 3 * k + 5 < _; omega, by have := r.un; show A.units + 3 + 16 * k + 200 < _; omega⟩
theorem zpc {A : Around} {C : Addr} {us : List Value} {kw : List (Str × Value)} : (A.under (.builtin "type.__call__" ⟨.ref C :: us, kw⟩)).depth = A.depth + 1 := by
 first | rfl | simp [Around.under, Code.weight, Code.isCreation, Code.isGuard, Code.isCaller, Code.frames, Code.isFrame, guardIds]
theorem zpm {A : Around} {C : Addr} {us : List Value} {kw : List (Str × Value)} : (A.under (.builtin "type.__call__" ⟨.ref C :: us, kw⟩)).units = A.units + 1 := by
 first | rfl | simp [Around.under, Code.cUnits, Code.frames, Code.isFrame]
theorem Room.make {k : Nat} {A : Around} (r : Room (k + 1) A) (C : Addr) (us : List Value) (kw : List (Str × Value)) : Room k (A.under (.builtin "type.__call__" ⟨.ref C :: us, kw⟩)) :=
 ⟨r.hd, by have := r.dp; rw [zpc]; omega, by have := r.un; rw [zpm]; omega⟩
theorem Room.depth {k : Nat} {A : Around} (r : Room k A) : A.depth < recursionLimit := by have := r.dp; omega
theorem Room.units {k : Nat} {A : Around} (r : Room k A) : A.units + 64 < cLine := by have := r.un; omega
def tNil : TA := λ _ H Q => Q [] H
def zy3 (ta : TE) (tr : TA) : TA := λ σ H Q => ta σ H λ x H1 => tr σ H1 λ xs H2 => Q (x :: xs) H2
section
variable {X : Cx} {e : Expr} {es : List Expr} {te : TE} {t : TA} {pos : Pos}
theorem zag : PA X [] tNil := λ _ _ _ _ H Q I h => Calls.spliced_nil ⟨[], H, I, .nil, h⟩
theorem zaa (ha : PE X e te) (hr : PA X es t) (hs : starEach (e :: es) X.env = (false, eval e X.env) :: starEach es X.env := by rfl) : PA X (e :: es) (zy3 te t) := by
 intro pos pins s σ H Q I h
 rw [hs]
 show wpAny _ _ (spliced ((false, eval e X.env) :: backTo pos (starEach es X.env))) _ _ s
 refine Calls.spliced_cons (thn (ha pins s σ H _ I h) λ u s1 ⟨x, H1, I1, r1, q1⟩ => ?_)
 exact thn (hr pos pins s1 σ H1 _ I1 q1) λ us s2 ⟨xs, H2, I2, r2, q2⟩ => ⟨x :: xs, H2, I2, .cons r1 r2, q2⟩
def tTup (t : TA) : TE := λ σ H Q => t σ H λ xs H1 => xs.length <= sizeLine /\ ∀ p, H1 p = none -> Q (.ref p) (upd H1 p (.tup xs))
def tLst (t : TA) : TE := λ σ H Q => t σ H λ xs H1 => xs.length <= sizeLine /\ ∀ p, H1 p = none -> Q (.ref p) (upd H1 p (.lst xs))
theorem zcz {x1} (h : PA X es t) : PE X (.Tuple es x1 pos) (tTup t) := by
 intro pins s σ H Q I hq
 refine wpAny_Tuple_spliced (thn (h pos pins s σ H _ I hq) λ us s1 ⟨xs, H1, I1, r, z, q⟩ => ⟨by rw [<- r.length]; exact z, ?_⟩)
 have hf : H1 s1.heap.objs.size = none := I1.hok.fresh (Nat.le_refl _)
 refine ⟨.ref s1.heap.objs.size, upd H1 s1.heap.objs.size (.tup xs), I1.laid (t' := s1.toks) (λ b u e => Heap.get?_push_of_some _ e) (Nat.le_refl _) ?_, rfl, q _ hf⟩
 exact ⟨z, us, r, ⟨_, Heap.get?_push_size _ rfl, rfl, _, rfl⟩⟩
theorem zd8 (h : PA X es t) : PE X (.List es pos) (tLst t) := by
 intro pins s σ H Q I hq
 refine wpAny_List_spliced (thn (h pos pins s σ H _ I hq) λ us s1 ⟨xs, H1, I1, r, z, q⟩ => ⟨by rw [<- r.length]; exact z, ?_⟩)
 have hf : H1 s1.heap.objs.size = none := I1.hok.fresh (Nat.le_refl _)
 refine ⟨.ref s1.heap.objs.size, upd H1 s1.heap.objs.size (.lst xs), I1.laid (t' := s1.toks) (λ b u e => Heap.get?_push_of_some _ e) (Nat.le_refl _) ?_, rfl, q _ hf⟩
 exact ⟨z, us, 0, r, Heap.get?_push_size _ rfl⟩
end
abbrev Sp := List V -> Hp -> VK -> XK -> Prop
abbrev CXT := List Env -> Hp -> Shared -> XK -> Value -> Shared -> Prop
structure Env0 (P : Program) (w : World) (K : W.Frag) (mg : Str -> Option Value) (base : Heap) (A : Around) (outer : List Env) (s : Shared) (H : Hp) : Prop where
 frames : A.frames = some outer
 mod : Mod K mg base
 bs : ∀ b o, base.get? b = some o -> s.heap.get? b = some o /\ H b = none
 bsz : base.objs.size <= s.heap.objs.size
 funs : s.heap.FunFrames base outer
 frf : ∀ b ∈ frs outer, H b = none
 hok : HOk P w H s.heap
 bare : AllBare s.gens
def CE (outer : List Env) (P : Program) (w : World) (H : Hp) (s : Shared) (Q : VK) (u : Value) (s' : Shared) : Prop :=
 ∃ v H', s'.os = s.os /\ AllBare s'.gens /\ Un (frs outer) [] H H' s.heap s'.heap /\ HOk P w H' s'.heap /\ zcw v u /\ Q v H'
def CR (CX : CXT) (outer : List Env) (P : Program) (w : World) (H : Hp) (s : Shared) (Q : VK) (E : XK) (r : Result) (s' : Shared) : Prop :=
 match r with
 | .ok (.ret u) => CE outer P w H s Q u s'
 | .ok _ => False
 | .error e => CX outer H s E e s'
structure FnOk (P : Program) (w : World) (K : W.Frag) (mg : Str -> Option Value) (base : Heap) (CX : CXT) (k : Nat) (f : Addr) (fd : FuncData) (ps : List Str) (sp : Sp) : Prop where
 len : ∀ vs H Q E, sp vs H Q E -> vs.length = ps.length
 run : ∀ (A : Around) (outer : List Env) (s : Shared) (H : Hp) (args : Args) (us : List Value) (vs : List V) (Q : VK) (E : XK), Room k A -> Env0 P w K mg base A outer s H -> BindsTo s fd args (ps.zip us) -> zcm vs us -> sp vs H Q E ->
   codeAny (model P w) A (.call (.ref f) args) (CR CX outer P w H s Q E) s
theorem Env0.make {P : Program} {w : World} {K : W.Frag} {mg : Str -> Option Value} {base : Heap} {A : Around} {outer : List Env} {s : Shared} {H : Hp} (e : Env0 P w K mg base A outer s H) (C : Addr) (us : List Value) (kw : List (Str × Value)) :
   Env0 P w K mg base (A.under (.builtin "type.__call__" ⟨.ref C :: us, kw⟩)) outer s H := ⟨by first | exact e.frames | (simpa [Around.under, Code.envs, Code.isFrame, pushEnvs] using e.frames), e.mod, e.bs, e.bsz, e.funs, e.frf, e.hok, e.bare⟩
section
variable {X : Cx} {pins : List (Addr × Obj)} {σ : St} {H : Hp} {s s' : Shared}
theorem Inv.env0 (I : Inv X pins σ H s) : Env0 X.prog X.w X.K X.mg X.base X.A X.stack s H :=
 ⟨I.ok.frames, I.ok.mod, I.bs, Nat.le_trans I.ok.bsz I.sz, I.stack, I.stkFree, I.hok, I.bare⟩
theorem Inv.after {Q : VK} {u : Value} (I : Inv X pins σ H s) (h : CE X.stack X.prog X.w H s Q u s') : EP X pins σ Q u s' := by
 obtain ⟨v, H', os, bare, un, hok, r, q⟩ := h
 obtain ⟨hh, g, d, t, os'⟩ := s'
 obtain rfl : os' = s.os := os
 exact ⟨v, H', I.call (h' := hh) (g' := g) (d' := d) (t' := t) (ch := []) un hok bare (λ b z => absurd z (by simp)), r, q⟩
end
def zvd (sp : Sp) (dvs : List V) (E : XK) (t : TA) : TE := λ σ H Q => t σ H λ vs H1 => sp (vs ++ dvs) H1 Q E
def zwp (C : Addr) (m : Str) (sp : Sp) (dvs : List V) (E : XK) (ta : TE) (t : TA) : TE := λ σ H Q => ta σ H λ x H1 => ∃ a dx fs, x = .ref a /\ H1 a = some (.ins C dx fs) /\ fs.lookup m = none /\
 t σ H1 λ vs H2 => sp (x :: (vs ++ dvs)) H2 Q E
def zw3 (C : Addr) (sp : Sp) (dvs : List V) (E : XK) (t : TA) : TE := λ σ H Q => t σ H λ vs H1 => ∀ x dx, H1 x = none -> H1 dx = none -> dx ≠ x ->
 sp (.ref x :: (vs ++ dvs)) (upd (upd H1 dx (.own x)) x (.ins C dx [])) (λ v H2 => v = .non /\ Q (.ref x) H2) E
def zg7 (K : W.Frag) (fd : FuncData) (ps : List Str) (ds : List Value) : Prop :=
 ∀ (s : Shared) (us : List Value), K.In s.heap -> (us ++ ds).length = ps.length -> BindsTo s fd ⟨us, []⟩ (ps.zip (us ++ ds))
theorem zg7.all {K : W.Frag} {fd : FuncData} {ps : List Str} (h : ∀ us : List Value, us.length = ps.length -> bindArgs fd ⟨us, []⟩ = pure (ps.zip us)) : zg7 K fd ps [] := λ s us _ hl => by
 rw [List.append_nil] at hl ⊢
 exact .of_eq (h us hl)
def zig (CX : CXT) (X : Cx) (E : XK) : Prop := ∀ (pins : List (Addr × Obj)) (σ : St) (H : Hp) (s : Shared) (e : Value) (s' : Shared), Inv X pins σ H s -> CX X.stack H s E e s' -> X.xe e s'
section
variable {X : Cx} {CX : CXT} {k : Nat} {f C : Addr} {fd : FuncData} {ps : List Str} {sp : Sp} {dvs : List V} {ds : List Value} {E : XK} {x m : Str} {p pos apos : Pos} {e o : Expr} {es : List Expr} {ta : TE} {t : TA}
theorem zou {pins : List (Addr × Obj)} {σ : St} {H : Hp} {s : Shared} {Q : VK} {us : List Value} {vs : List V} (F : FnOk X.prog X.w X.K X.mg X.base CX k f fd ps sp) (hr : Room k X.A) (hb : zg7 X.K fd ps ds) (hd : zcm dvs ds) (hx : zig CX X E)
   (I : Inv X pins σ H s) (r : zcm vs us) (h : sp (vs ++ dvs) H Q E) : wpAny (model X.prog X.w) X.A (call (.ref f) us) (EP X pins σ Q) X.xe s := by
 have r2 : zcm (vs ++ dvs) (us ++ ds) := r.append hd
 have hl : (us ++ ds).length = ps.length := by rw [<- r2.length]; exact F.len _ _ _ _ h
 refine wpAny_call (codeAny_mono (F.run X.A X.stack s H ⟨us, []⟩ (us ++ ds) (vs ++ dvs) Q E hr I.env0 (hb s us I.kIn hl) r2 h) λ r s' hq => ?_)
 cases r with
 | error e => exact hx pins σ H s e s' I hq
 | ok fl =>
   cases fl with
   | ret u => exact I.after hq
   | next => exact False.elim hq
   | brk => exact False.elim hq
   | cont => exact False.elim hq
theorem zva (F : FnOk X.prog X.w X.K X.mg X.base CX k f fd ps sp) (hr : Room k X.A) (hg : Gl X x) (hm : X.mg x = some (.ref f)) (hk : PySem.W.keepIn X.K (.ref f) = true) (hb : zg7 X.K fd ps ds) (hd : zcm dvs ds) (hx : zig CX X E)
   (ha : PA X (e :: es) t) (hdb : (x == ("__debug__" : Str)) = false := by decide) (he : starEach (e :: es) X.env = (false, eval e X.env) :: starEach es X.env := by rfl) (hpl : (backTo pos (starEach es X.env)).any (·.1) = false := by rfl) :
   PE X (.Call (.Name x p) (e :: es) [] pos) (zvd sp dvs E t) := by
 intro pins s σ H Q I h
 refine wpAny_Call_Name_kw (zno I hg hm ?_ hdb)
 refine PySem.W.callWith_K (h₀ := X.base) I.ok.mod.kin hk (thn (ha pos pins s σ H _ I h) λ us s1 ⟨vs, H1, I1, r, q⟩ => ⟨I1.kIn, ?_⟩) he hpl
 exact zou F hr hb hd hx I1 r q
theorem zbi {pl : Sem Bool} (he : PE X o ta) (c : Cls X.K C) (hm : Meth X.K C m f) (F : FnOk X.prog X.w X.K X.mg X.base CX k f fd ps sp) (hr : Room k X.A) (hb : zg7 X.K fd ps ds) (hd : zcm dvs ds) (hx : zig CX X E) (ha : PA X (e :: es) t)
   (hst : starEach (e :: es) X.env = (false, eval e X.env) :: starEach es X.env := by rfl) (hpl : (backTo pos (starEach es X.env)).any (·.1) = false := by rfl)
   (ht : eval (.Call (.Attribute o m apos) (e :: es) [] pos) X.env = (do
     let ov <- eval o X.env
     standAt apos.atName
     let (f, first) <- holding [ov] (getMethod ov m pl)
     callWith pos f first (backTo pos (starEach (e :: es) X.env)) (backToKw pos (keywordEach [] X.env))) := by rfl) :
   PE X (.Call (.Attribute o m apos) (e :: es) [] pos) (zwp C m sp dvs E ta t) := by
 intro pins s σ H Q I h
 refine PySem.W.methodCall_KW (pl := pl) (thn (he pins s σ H _ I h) λ u s1 ⟨x, H1, I1, rx, a, dx, fs, ex, ea, l, q⟩ => ?_) ht
 subst ex
 obtain rfl : u = Value.ref a := rx
 refine zj8 I1 ea c hm l ?_
 refine PySem.W.callWith_K (first := [.ref a]) (h₀ := X.base) I.ok.mod.kin hm.kp (thn (ha pos pins s1 σ H1 _ I1 q) λ us s2 ⟨vs, H2, I2, r, q2⟩ => ⟨I2.kIn, ?_⟩) hst hpl
 exact zou (us := .ref a :: us) (vs := .ref a :: vs) F hr hb hd hx I2 (.cons rfl r) q2
theorem zdb {pl : Sem Bool} (he : PE X o ta) (c : Cls X.K C) (hm : Meth X.K C m f) (F : FnOk X.prog X.w X.K X.mg X.base CX k f fd ps sp) (hr : Room k X.A) (hb : zg7 X.K fd ps ds) (hd : zcm dvs ds) (hx : zig CX X E)
   (ht : eval (.Call (.Attribute o m apos) [] [] pos) X.env = (do
     let ov <- eval o X.env
     standAt apos.atName
     let (f, first) <- holding [ov] (getMethod ov m pl)
     callWith pos f first (backTo pos (starEach [] X.env)) (backToKw pos (keywordEach [] X.env))) := by rfl) :
   PE X (.Call (.Attribute o m apos) [] [] pos) (zwp C m sp dvs E ta tNil) := by
 intro pins s σ H Q I h
 refine PySem.W.methodCall_KW (pl := pl) (thn (he pins s σ H _ I h) λ u s1 ⟨x, H1, I1, rx, a, dx, fs, ex, ea, l, q⟩ => ?_) ht
 subst ex
 obtain rfl : u = Value.ref a := rx
 refine zj8 I1 ea c hm l ?_
 exact PySem.W.callWith_K0 (first := [.ref a]) I1.kIn hm.kp (zou (us := [.ref a]) (vs := [.ref a]) F hr hb hd hx I1 (.cons rfl .nil) q)
structure Mk (K : W.Frag) (C f : Addr) : Prop where
 makes : PySem.W.makesIn K C = true
 init : PySem.W.findIn K (.ref C) "__init__" = some (some (.ref f))
 fn : PySem.W.isFn K (.ref f) = true
 kp : PySem.W.keepIn K (.ref C) = true
theorem zt4 {pins : List (Addr × Obj)} {σ : St} {H : Hp} {s : Shared} {Q : VK} {us : List Value} {vs : List V} (M : Mk X.K C f) (F : FnOk X.prog X.w X.K X.mg X.base CX k f fd ps sp) (hr : Room (k + 1) X.A) (hb : zg7 X.K fd ps ds) (hd : zcm dvs ds)
   (hx : zig CX X E) (I : Inv X pins σ H s) (r : zcm vs us)
   (h : ∀ x dx, H x = none -> H dx = none -> dx ≠ x -> sp (.ref x :: (vs ++ dvs)) (upd (upd H dx (.own x)) x (.ins C dx [])) (λ v H2 => v = .non /\ Q (.ref x) H2) E) :
   wpAny (model X.prog X.w) X.A (call (.ref C) us) (EP X pins σ Q) X.xe s := by
 have hq := h (s.heap.objs.size + 1) s.heap.objs.size (I.hok.fresh (Nat.le_succ _)) (I.hok.fresh (Nat.le_refl _)) (Nat.ne_of_lt (Nat.lt_succ_self _))
 have I2 := Inv.made (C := C) I
 have r2 : zcm (V.ref (s.heap.objs.size + 1) :: (vs ++ dvs)) (Value.ref (s.heap.objs.size + 1) :: (us ++ ds)) := .cons rfl (r.append hd)
 have hl : (Value.ref (s.heap.objs.size + 1) :: us ++ ds).length = ps.length := by
   have e := r2.length
   rw [F.len _ _ _ _ hq] at e
   exact e.symm
 refine wpAny_call (zs6 (f := f) I.kIn M.makes M.init (beq_iff_eq.mp M.fn) (codeAny_mono (F.run _ X.stack _ _ ⟨Value.ref (s.heap.objs.size + 1) :: us, []⟩ (Value.ref (s.heap.objs.size + 1) :: (us ++ ds)) _ _ E (hr.make C us [])
   (I2.env0.make C us []) (hb _ (Value.ref (s.heap.objs.size + 1) :: us) I2.kIn hl) r2 hq) λ r s' hq' => ?_))
 cases r with
 | error e => exact hx pins σ _ _ e s' I2 hq'
 | ok fl =>
   cases fl with
   | ret u =>
     obtain ⟨v, H', I3, rv, ev, q3⟩ := I2.after hq'
     subst ev
     exact ⟨rv, ⟨V.ref (s.heap.objs.size + 1), H', I3, rfl, q3⟩⟩
   | next => exact False.elim hq'
   | brk => exact False.elim hq'
   | cont => exact False.elim hq'
theorem zvj (M : Mk X.K C f) (F : FnOk X.prog X.w X.K X.mg X.base CX k f fd ps sp) (hr : Room (k + 1) X.A) (hg : Gl X x) (hm : X.mg x = some (.ref C)) (hb : zg7 X.K fd ps ds) (hd : zcm dvs ds) (hx : zig CX X E)
   (ha : PA X (e :: es) t) (hdb : (x == ("__debug__" : Str)) = false := by decide) (he : starEach (e :: es) X.env = (false, eval e X.env) :: starEach es X.env := by rfl) (hpl : (backTo pos (starEach es X.env)).any (·.1) = false := by rfl) :
   PE X (.Call (.Name x p) (e :: es) [] pos) (zw3 C sp dvs E t) := by
 intro pins s σ H Q I h
 refine wpAny_Call_Name_kw (zno I hg hm ?_ hdb)
 refine PySem.W.callWith_K (h₀ := X.base) I.ok.mod.kin M.kp (thn (ha pos pins s σ H _ I h) λ us s1 ⟨vs, H1, I1, r, q⟩ => ⟨I1.kIn, ?_⟩) he hpl
 exact zt4 M F hr hb hd hx I1 r q
end
structure FnScope (N P : List Str) (sc : Scope) : Prop where
 kind : sc.kind = .function
 co : sc.isCoroutine = false
 gen : sc.isGenerator = false
 nd : N.Nodup
 pre : N.take P.length = P
 par : ∀ x ∈ P, sc.names.lookup x = some .local \/ sc.names.lookup x = some .cell
 nofree : ∀ y ∈ sc.names, y.2 ≠ .free
theorem zme {kindOf : Str -> Option NameKind} {x : Str} : ∀ {binds : List (Str × Value)} {m : Str -> Option Value}, (∀ v, (x, v) ∉ binds) -> bindL kindOf binds m x = m x
 | [], _, _ => rfl
 | (n, v) :: r, m, h => by
   unfold bindL
   rw [zme λ w hw => h w (List.mem_cons_of_mem _ hw)]
   split
   . have : x ≠ n := by rintro rfl; exact h v List.mem_cons_self
     simp [this]
   . rfl
theorem zl7 {kindOf : Str -> Option NameKind} {x : Str} : ∀ {binds : List (Str × Value)} {m : Str -> Option Value}, (∀ v, (x, v) ∉ binds) -> bindC kindOf binds m x = m x
 | [], _, _ => rfl
 | (n, v) :: r, m, h => by
   unfold bindC
   rw [zl7 λ w hw => h w (List.mem_cons_of_mem _ hw)]
   split
   . rfl
   . have : x ≠ n := by rintro rfl; exact h v List.mem_cons_self
     simp [this]
theorem zla {kindOf : Str -> Option NameKind} {x : Str} {v : Value} : ∀ {P : List Str} {vs : List Value} {i : Nat} {m : Str -> Option Value}, P.Nodup -> P[i]? = some x -> vs[i]? = some v -> kindOf x = some .local ->
   bindL kindOf (P.zip vs) m x = some v
 | [], _, _, _, _, h, _, _ => by simp at h
 | _ :: _, [], _, _, _, _, h, _ => by simp at h
 | p :: P, w :: vs, 0, m, nd, h1, h2, hk => by
   simp at h1 h2; subst h1; subst h2
   show bindL kindOf ((p, w) :: P.zip vs) m p = _
   unfold bindL
   rw [zme λ v hv => (List.nodup_cons.mp nd).1 (List.of_mem_zip hv).1, if_pos hk]
   simp
 | p :: P, w :: vs, i + 1, m, nd, h1, h2, hk => by
   show bindL kindOf ((p, w) :: P.zip vs) m x = _
   unfold bindL
   exact zla (i := i) (List.nodup_cons.mp nd).2 (by simpa using h1) (by simpa using h2) hk
theorem zlk {kindOf : Str -> Option NameKind} {x : Str} {v : Value} : ∀ {P : List Str} {vs : List Value} {i : Nat} {m : Str -> Option Value}, P.Nodup -> P[i]? = some x -> vs[i]? = some v -> kindOf x ≠ some .local ->
   bindC kindOf (P.zip vs) m x = some v
 | [], _, _, _, _, h, _, _ => by simp at h
 | _ :: _, [], _, _, _, _, h, _ => by simp at h
 | p :: P, w :: vs, 0, m, nd, h1, h2, hk => by
   simp at h1 h2; subst h1; subst h2
   show bindC kindOf ((p, w) :: P.zip vs) m p = _
   unfold bindC
   rw [zl7 λ v hv => (List.nodup_cons.mp nd).1 (List.of_mem_zip hv).1, if_neg hk]
   simp
 | p :: P, w :: vs, i + 1, m, nd, h1, h2, hk => by
   show bindC kindOf ((p, w) :: P.zip vs) m x = _
   unfold bindC
   exact zlk (i := i) (List.nodup_cons.mp nd).2 (by simpa using h1) (by simpa using h2) hk
def zlp (N : List Str) (vs : List V) : St := vs.map some ++ List.replicate (N.length - vs.length) none
def zwn (CX : CXT) (P : Program) (w : World) (K : W.Frag) (mg : Str -> Option Value) (base : Heap) (N : List Str) (qual : Str) (scope : Scope) (f : Addr) (cd : Value) (A : Around) (outer : List Env) (s : Shared) (H : Hp) (E : XK) : Cx where
 prog := P
 w := w
 K := K
 mg := mg
 base := base
 A := A.deeper (envOfC qual scope s.heap.objs.size f cd)
 N := N
 s₀ := s
 H₀ := H
 env := envOfC qual scope s.heap.objs.size f cd
 outer := outer
 stack := envOfC qual scope s.heap.objs.size f cd :: outer
 ex := []
 calm := true
 fn := λ _ => true
 pn := []
 xe := λ e s' => wpAny (model P w) (A.deeper (envOfC qual scope s.heap.objs.size f cd)) (leaving (envOfC qual scope s.heap.objs.size f cd) e) (λ _ s'' => CX outer H s E e s'') (λ e' s'' => CX outer H s E e' s'') s'
theorem zo6 {sc : Scope} {n : Nat} {x : Str} (h : sc.names.lookup x = some .cell) : ∃ c, (cellsFrom n sc.names []).lookup x = some c := by
 have q := PySem.W.cellsFrom_some sc.names n [] (.inl h)
 exact Option.isSome_iff_exists.mp q
theorem zr1 {CX : CXT} {P : Program} {w : World} {K : W.Frag} {mg : Str -> Option Value} {base : Heap} {N ps : List Str} {qual : Str} {scope : Scope} {f : Addr} {cd : Value} {A : Around} {outer : List Env} {s s1 : Shared} {H : Hp} {E : XK} {us : List Value} {vs : List V}
   (S : FnScope N ps scope) (hd : A.handled = none) (e0 : Env0 P w K mg base A outer s H) (hl : vs.length = ps.length) (r : zcm vs us)
   (x : InCallC s s.heap.objs.size (bindL (envOfC qual scope s.heap.objs.size f cd).kindOf (ps.zip us) λ _ => none) (cellsFrom (s.heap.objs.size + 1) scope.names []) (bindC (envOfC qual scope s.heap.objs.size f cd).kindOf (ps.zip us) λ _ => none) s1) :
   Inv (zwn CX P w K mg base N qual scope f cd A outer s H E) [] (zlp N vs) H s1 := by
 have hpl : ps.length <= N.length := by have := congrArg List.length S.pre; rw [List.length_take] at this; omega
 obtain ⟨h1, tk, rfl, hk⟩ := x.done
 have noA : ∀ b : Addr, b ∉ (zwn CX P w K mg base N qual scope f cd A outer s H E).ex := λ b z => absurd (show b ∈ ([] : List Addr) from z) (by simp)
 refine ⟨⟨e0.mod, S.kind, rfl, rfl, Nat.le_refl _, λ y z c h1 h2 => ?_, λ y hy => ?_, λ y c _ h => ?_, λ _ => hd, Around.frames_deeper e0.frames, .inr ⟨rfl, rfl⟩, λ b z => absurd z (noA b), e0.bs, e0.bsz, λ b _ _ => noA b, λ b z => absurd z (noA b), e0.funs, e0.frf⟩,
   rfl, e0.bare, Un.kept hk, ⟨_, x.toInCall.ns, λ i y v h1 h2 h3 => ?_⟩, λ y c h => ⟨_, x.cell y c h⟩, e0.hok.fresh (Nat.le_refl _), λ y c h => ?_, λ p hp => absurd (show p ∈ ([] : List (Addr × Obj)) from hp) (by simp), e0.hok.kept hk, ?_⟩
 . exact name_of_addr x.apart (PySem.mem_of_lookup h1) (PySem.mem_of_lookup h2)
 . have hy : scope.names.lookup y = some .cell \/ scope.names.lookup y = some .free := hy
   rcases hy with hy | hy
   . exact zo6 hy
   . exact absurd rfl (S.nofree _ (PySem.mem_of_lookup hy))
 . exact Nat.le_of_lt (x.above y c (PySem.mem_of_lookup h))
 . have hi : i < vs.length := by
     unfold zlp at h2
     by_cases hi : i < vs.length
     . exact hi
     . rw [List.getElem?_append_right (by simpa using hi)] at h2
       rw [List.getElem?_replicate] at h2
       split at h2 <;> cases h2
   have ha : vs[i]? = some v := by
     unfold zlp at h2
     rw [List.getElem?_append_left (by simpa using hi), List.getElem?_map] at h2
     cases e : vs[i]? with
     | none => rw [e] at h2; cases h2
     | some a => rw [e] at h2; cases h2; rfl
   obtain ⟨u, hu, rv⟩ := r.get ha
   have hp : ps[i]? = some y := by
     rw [<- S.pre, List.getElem?_take_of_lt (by omega)]; exact h1
   have ndP : ps.Nodup := by rw [<- S.pre]; exact S.nd.sublist (List.take_sublist _ _)
   refine ⟨u, rv, ?_⟩
   rcases S.par y (List.mem_of_getElem? hp) with k | k
   . exact .inl ⟨k, zla ndP hp hu k⟩
   . obtain ⟨c, e⟩ := zo6 (n := s.heap.objs.size + 1) k
     refine .inr ⟨.inl k, c, e, ?_⟩
     have q := x.cell y c e
     rw [zlk ndP hp hu (by show scope.names.lookup y ≠ _; rw [k]; decide)] at q
     exact q
 . exact e0.hok.fresh (Nat.le_of_lt (x.above y c (PySem.mem_of_lookup h)))
 . unfold zlp
   show _ = N.length
   rw [List.length_append, List.length_map, List.length_replicate]
   omega
theorem zt7 {CX : CXT} {P : Program} {w : World} {K : W.Frag} {mg : Str -> Option Value} {base : Heap} {k : Nat} {f : Addr} {name qual : Str} {params : Arguments} {body : List Stmt} {scope : Scope} {dV kV doc pm cdv ct oc : Value} {an od : Option Addr}
   {osl : Array (Option Value)} {N ps : List Str} {sp : Sp} (lk : K.lookup f = some ⟨oc, od, .func (PySem.W.fnOf name qual params body scope dV kV doc pm an cdv ct), osl⟩) (hcd : PySem.W.codeIn K cdv qual = true) (S : FnScope N ps scope)
   (len : ∀ vs H Q E, sp vs H Q E -> vs.length = ps.length)
   (hbody : ∀ (A : Around) (outer : List Env) (s : Shared) (H : Hp) (vs : List V) (Q : VK) (E : XK), Room k (A.deeper (envOfC qual scope s.heap.objs.size f cdv)) -> sp vs H Q E ->
     ∃ t, PSs (zwn CX P w K mg base N qual scope f cdv A outer s H E) body t /\ t { nx := λ _ H' => Q .non H', rt := Q } (zlp N vs) H) :
   FnOk P w K mg base CX (k + 1) f (PySem.W.fnOf name qual params body scope dV kV doc pm an cdv ct) ps sp := by
 refine ⟨len, λ A outer s H args us vs Q E hr e0 hb r hsp => ?_⟩
 have hl := len _ _ _ _ hsp
 have KX : K.In s.heap := e0.mod.kin.keeps λ b o e => (e0.bs b o e).1
 have lim : s.heap.NoLimit := e0.mod.nolimit.keeps λ b o e => (e0.bs b o e).1
 have hkind : ∀ y ∈ ps.zip us, scope.names.lookup y.1 = some .local \/ (scope.names.lookup y.1 = some .cell /\ ((cellsFrom (s.heap.objs.size + 1) scope.names []).lookup y.1).isSome = true) := λ ⟨n, v⟩ hy => by
   rcases S.par n (List.of_mem_zip hy).1 with q | q
   . exact .inl q
   . exact .inr ⟨q, PySem.W.cellsFrom_some _ _ _ (.inl q)⟩
 refine codeAny_call_function hr.depth (KX _ _ lk) rfl S.co S.gen rfl (PySem.W.codeRec_of KX hcd) (hb _ _ _ _ ?_)
 refine wpAny_newFunctionEnv_cells S.kind hkind λ env he s1 x => ?_
 subst he
 refine ⟨lim.keeps x.toInCall.keep, codeAny_func ?_⟩
 obtain ⟨t, ht, hq⟩ := hbody A outer s H vs Q E (hr.deeper _) hsp
 have I : Inv (zwn CX P w K mg base N qual scope f cdv A outer s H E) [] (zlp N vs) H s1 := zr1 S hr.hd e0 hl r x
 refine wpAny_mono (ht [] s1 (zlp N vs) H _ I hq) (λ fl s' hs => ?_) λ e s' hs => hs
 have fin : ∀ {σ' : St} {H' : Hp} {v : V} {u : Value}, Inv (zwn CX P w K mg base N qual scope f cdv A outer s H E) [] σ' H' s' -> zcw v u -> Q v H' -> CE outer P w H s Q u s' :=
   λ {σ' H' v u} J rv q => ⟨v, H', J.os, J.bare, J.base, J.hok, rv, q⟩
 cases fl with
 | ret u =>
   obtain ⟨v, σ', H', J, rv, q⟩ := hs
   exact fin J rv q
 | next =>
   obtain ⟨σ', H', J, q⟩ := hs
   exact fin (v := V.non) (u := Value.none) J rfl q
 | brk =>
   obtain ⟨_, _, _, q⟩ := hs
   exact False.elim q
 | cont =>
   obtain ⟨_, _, _, q⟩ := hs
   exact False.elim q
end L2
namespace L2
open PySem PySem.Spec PyProof.Rows
section
variable {X : Cx} {x : Str} {p pos : Pos} {e : Expr} {es : List Expr} {t : TA} {id T : String} {r : List V -> Hp -> VK -> Prop}
def tCB (r : List V -> Hp -> VK -> Prop) (t : TA) : TE := λ σ H Q => t σ H λ vs H1 => r vs H1 Q
theorem zbz (hc : zjn X (.builtin id) r) (hg : Gl X x) (hm : X.mg x = none) (hv : bootBuiltins x = some (.builtin id)) (ha : PA X (e :: es) t) (hn : x ≠ "__name__" := by decide) (hdb : (x == ("__debug__" : Str)) = false := by decide)
   (he : starEach (e :: es) X.env = (false, eval e X.env) :: starEach es X.env := by rfl) (hpl : (backTo pos (starEach es X.env)).any (·.1) = false := by rfl) : PE X (.Call (.Name x p) (e :: es) [] pos) (tCB r t) := by
 intro pins s σ H Q I h
 refine wpAny_Call_Name_kw (zie I hg hm hv ?_ hn hdb)
 exact PyProof.Rows.callWith_builtin1 (thn (ha pos pins s σ H _ I h) λ us s1 ⟨vs, H1, I1, r1, q1⟩ => hc pins s1 σ H1 vs us Q I1 r1 q1) he hpl
theorem zcg (hc : zjn X (.type T) r) (hg : Gl X x) (hm : X.mg x = none) (hv : bootBuiltins x = some (.type T)) (ha : PA X (e :: es) t) (hn : x ≠ "__name__" := by decide) (hdb : (x == ("__debug__" : Str)) = false := by decide)
   (he : starEach (e :: es) X.env = (false, eval e X.env) :: starEach es X.env := by rfl) (hpl : (backTo pos (starEach es X.env)).any (·.1) = false := by rfl) : PE X (.Call (.Name x p) (e :: es) [] pos) (tCB r t) := by
 intro pins s σ H Q I h
 refine wpAny_Call_Name_kw (zie I hg hm hv ?_ hn hdb)
 exact PyProof.Rows.callWith_type1 (thn (ha pos pins s σ H _ I h) λ us s1 ⟨vs, H1, I1, r1, q1⟩ => hc pins s1 σ H1 vs us Q I1 r1 q1) he hpl
end
end L2
namespace HT
open PySem PyProof.Rows
section
variable {prog : Program} {w : World} {A : Around} {E : Value -> Shared -> Prop} {s : Shared}
def sIx (n d : Nat) : Option Int -> Nat
 | none => d
 | some v => if v < 0 then (v + (n : Int)).toNat else min v.toNat n
theorem sIx_none (n d : Nat) : sIx n d none = d := rfl
theorem sIx_nat (n d k : Nat) : sIx n d (some (k : Int)) = min k n := by
 show (if (k : Int) < 0 then ((k : Int) + (n : Int)).toNat else min (k : Int).toNat n) = min k n
 rw [if_neg (by omega), Int.toNat_natCast]
theorem zxp (n d : Nat) (hd : d <= n) (o : Option Int) : sIx n d o <= n := by
 cases o with
 | none => exact hd
 | some v =>
   show (if v < 0 then (v + (n : Int)).toNat else min v.toNat n) <= n
   by_cases hv : v < 0
   . rw [if_pos hv]; omega
   . rw [if_neg hv]; exact Nat.min_le_right _ _
theorem zr3 (v : Int) (n d : Nat) : (if v < 0 then max (v + (n : Int)) 0 else min v (n : Int)) = ((sIx n d (some v) : Nat) : Int) := by
 show (if v < 0 then max (v + (n : Int)) 0 else min v (n : Int)) = (((if v < 0 then (v + (n : Int)).toNat else min v.toNat n) : Nat) : Int)
 by_cases hv : v < 0
 . simp only [if_pos hv]; omega
 . simp only [if_neg hv]; omega
theorem zpj (lo hi : Option Int) (n : Nat) : Builtin.Slice.sliceAdjust lo hi 1 (n : Int) = (((sIx n 0 lo : Nat) : Int), ((sIx n n hi : Nat) : Int)) := by
 have h1 : ¬ ((1 : Int) < 0) := by omega
 unfold Builtin.Slice.sliceAdjust
 simp only [h1, if_false]
 refine Prod.ext ?_ ?_
 . cases lo with
   | none => rfl
   | some v => exact zr3 v n 0
 . cases hi with
   | none => rfl
   | some v => exact zr3 v n n
theorem zpy (i j : Nat) : Builtin.Slice.slicePlaces (i : Int) (j : Int) 1 = j - i := by
 unfold Builtin.Slice.slicePlaces
 have h1 : (1 : Int) > 0 := by omega
 simp only [h1, if_true, Int.ediv_one]
 split <;> omega
theorem zkk {v : Value} {o : Option Int} {Q : Option Int -> Shared -> Prop} (p : IsPart v o) (h : Q o s) : wpAny (model prog w) A (Builtin.Slice.slicePartIndex v) Q E s := by
 cases p with
 | none => exact slicePart_none h
 | int i t => exact slicePart_int h
theorem zfm {sl : Addr} {vl vu : Value} {lo hi : Option Int} {n : Nat} {Q : Int × Int × Nat -> Shared -> Prop} (hs : s.heap.IsSliceOf sl vl vu .none) (pl : IsPart vl lo) (pu : IsPart vu hi)
   (h : Q (((sIx n 0 lo : Nat) : Int), 1, sIx n n hi - sIx n 0 lo) s) : wpAny (model prog w) A (Builtin.Slice.sliceApplied (.ref sl) (pure (n : Int))) Q E s := by
 obtain ⟨os, hos, hcs, hds⟩ := id hs
 unfold Builtin.Slice.sliceApplied Builtin.Slice.sliceFields
 refine wpAny_bind (wpAny_bind (wpAny_field hos hds (x := vl) rfl (wpAny_bind (wpAny_field hos hds (x := vu) rfl (wpAny_bind (wpAny_field hos hds (x := .none) rfl (wpAny_pure ?_)))))))
 refine wpAny_bind (slicePart_none ?_)
 show wpAny _ _ (if ((1 : Int) == 0) = true then _ else _) _ _ s
 rw [if_neg (by decide)]
 refine wpAny_bind (zkk pl (wpAny_bind (zkk pu (wpAny_bind (wpAny_pure ?_)))))
 show wpAny _ _ (match Builtin.Slice.sliceAdjust lo hi 1 (n : Int) with | (lo, hi) => pure (lo, (1 : Int), Builtin.Slice.slicePlaces lo hi 1)) _ _ s
 rw [zpj lo hi n]
 show wpAny _ _ (pure (((sIx n 0 lo : Nat) : Int), (1 : Int), Builtin.Slice.slicePlaces ((sIx n 0 lo : Nat) : Int) ((sIx n n hi : Nat) : Int) 1)) _ _ s
 rw [zpy]
 exact wpAny_pure h
theorem ztc (xs : Array Value) (i k : Nat) : ((List.range k).filterMap λ (m : Nat) => xs[((i : Int) + (m : Int) * 1).toNat]?).toArray = ((xs.toList.drop i).take k).toArray := by
 have e : (λ (m : Nat) => xs[((i : Int) + (m : Int) * 1).toNat]?) = λ m => xs[i + m]? := by
   funext m
   have : ((i : Int) + (m : Int) * 1).toNat = i + m := by omega
   rw [this]
 rw [e]
 have := pick_run xs i k
 rw [List.filterMap_map] at this
 have e2 : ((λ x => xs[x]?) ∘ λ x => i + x) = λ m => xs[i + m]? := rfl
 rw [e2] at this
 rw [this]
theorem getItem_tuple_cut {t sl : Addr} {items : Array Value} {vl vu : Value} {lo hi : Option Int} {Q : Value -> Shared -> Prop} (ht : IsTup s.heap t items) (hs : s.heap.IsSliceOf sl vl vu .none) (pl : IsPart vl lo) (pu : IsPart vu hi)
   (hw : ¬ (sIx items.size 0 lo = 0 /\ sIx items.size items.size hi = items.size))
   (h : Q (.ref s.heap.objs.size) { s with heap := s.heap.push { cls := .type "tuple", data := .seq ((items.toList.drop (sIx items.size 0 lo)).take (sIx items.size items.size hi - sIx items.size 0 lo)).toArray } })
   (hsz : items.size <= sizeLine) : wpAny (model prog w) A (getItem (.ref t) (.ref sl)) Q E s := by
 have htake : sizeOk (.seq ((items.toList.drop (sIx items.size 0 lo)).take (sIx items.size items.size hi - sIx items.size 0 lo)).toArray) := by
   show ((items.toList.drop (sIx items.size 0 lo)).take (sIx items.size items.size hi - sIx items.size 0 lo)).toArray.size <= sizeLine
   rw [List.size_toArray, List.length_take, List.length_drop, Array.length_toList]
   omega
 have hj : sIx items.size items.size hi <= items.size := zxp _ _ (Nat.le_refl _) hi
 obtain ⟨os, hos, hcs, hds⟩ := id hs
 have hTs : s.TypeIs (.ref sl) "slice" := ⟨os, hos, hcs⟩
 unfold getItem
 try with_reducible refine wpAny_holding ?_
 first | refine wpAny_bind (wpAny_pure ?_) | skip
 refine wpAny_bind (wpAny_sequenceKey ht.typeIs (by decide) ?_)
 refine wpAny_bind (wpAny_callSpecial?_slot (name := Str.ofString "__getitem__") ht.typeIs PyProof.Rows.slot_tuple_getitem
   (wpAny_call_entry PyProof.Rows.slot_tuple_getitem ht.typeIs entry_tuple_getitem ?_ (args_tuple_getitem _ _)))
 show wpAny _ _ (Builtin.Tuple.tupleItemsOf (.ref t) >>= _) _ _ s
 refine wpAny_bind (tupleItemsOf_ ht ?_)
 refine wpAny_bind (wpAny_typeOf hTs ?_)
 rw [if_pos (by decide)]
 refine wpAny_bind (zfm hs pl pu ?_)
 have hno : ¬ ((((sIx items.size 0 lo : Nat) : Int) == 0 && (1 : Int) == 1 && (sIx items.size items.size hi - sIx items.size 0 lo) == items.size) = true) := by
   intro q
   rw [Bool.and_eq_true, Bool.and_eq_true] at q
   have q1 : ((sIx items.size 0 lo : Nat) : Int) = 0 := eq_of_beq q.1.1
   have q2 : sIx items.size items.size hi - sIx items.size 0 lo = items.size := eq_of_beq q.2
   exact hw ⟨by omega, by omega⟩
 show wpAny _ _ (if (((sIx items.size 0 lo : Nat) : Int) == 0 && (1 : Int) == 1 && (sIx items.size items.size hi - sIx items.size 0 lo) == items.size) = true then _ else _) _ _ s
 rw [if_neg hno, ztc]
 first
   | exact wpAny_bind (m := Builtin.Tuple.tupleExact _) (wpAny_newObj_type (wpAny_pure ⟨_, rfl, wpAny_pure h⟩) htake)
   | exact wpAny_bind (m := Builtin.Tuple.tupleExact _) (wpAny_newObj_type (wpAny_bind (wpAny_pure (wpAny_pure ⟨_, rfl, wpAny_pure h⟩))) htake)
   | exact wpAny_bind (wpAny_bind (m := Builtin.Tuple.tupleExact _) (wpAny_newObj_type (wpAny_pure (wpAny_pure ⟨_, rfl, wpAny_pure h⟩)) htake))
   | exact wpAny_bind (wpAny_bind (m := Builtin.Tuple.tupleExact _) (wpAny_newObj_type (wpAny_pure ⟨_, rfl, wpAny_pure h⟩) htake))
end
end HT
namespace L2
open PySem PySem.Spec PyProof.Rows
abbrev TO := St -> Hp -> (Option Int -> Hp -> Prop) -> Prop
def PO (X : Cx) (e : Option Expr) (t : TO) : Prop :=
 ∀ (pins : List (Addr × Obj)) (s : Shared) (σ : St) (H : Hp) (Q : Option Int -> Hp -> Prop), Inv X pins σ H s -> t σ H Q ->
   wpAny (model X.prog X.w) X.A (evalPart e X.env) (λ u s' => ∃ o H', Inv X pins σ H' s' /\ IsPart u o /\ Q o H') X.xe s
def zwi : TO := λ _ H Q => Q none H
def zys (t : TE) : TO := λ σ H Q => t σ H λ x H1 => ∃ i, x = .int i /\ Q (some i) H1
section
variable {X : Cx} {e : Expr} {te : TE} {lo hi : Option Expr} {tl th : TO} {pos p2 : Pos}
theorem zg1 : PO X none zwi := by
 intro pins s σ H Q I h
 rw [evalPart_none]
 exact wpAny_pure ⟨none, H, I, .none, h⟩
theorem zfe (h : PE X e te) : PO X (some e) (zys te) := by
 intro pins s σ H Q I hw
 rw [evalPart_some]
 refine thn (h pins s σ H _ I hw) λ u s1 ⟨x, H1, I1, r1, q1⟩ => ?_
 obtain ⟨i, rfl, q⟩ := q1
 obtain ⟨t, rfl⟩ := r1
 exact ⟨some i, H1, I1, .int i t, q⟩
def SlR (X : Cx) (r : V -> Option Int -> Option Int -> Hp -> VK -> Prop) : Prop :=
 ∀ (pins : List (Addr × Obj)) (s : Shared) (σ : St) (H : Hp) (x : V) (v vl vu : Value) (lo hi : Option Int) (sl : Addr) (Q : VK), Inv X pins σ H s -> zcw x v -> s.heap.IsSliceOf sl vl vu .none -> IsPart vl lo -> IsPart vu hi -> r x lo hi H Q ->
   ∃ T id, typeLookup (.type T) "__getitem__" = pure (some (.builtin id)) /\ s.TypeIs v T /\ wpAny (model X.prog X.w) X.A (getItem v (.ref sl)) (EP X pins σ Q) X.xe s
theorem SlR.or {r r' : V -> Option Int -> Option Int -> Hp -> VK -> Prop} (h : SlR X r) (h' : SlR X r') : SlR X (λ x lo hi H Q => r x lo hi H Q \/ r' x lo hi H Q) := by
 intro pins s σ H x v vl vu lo hi sl Q I rx hs pl pu q
 rcases q with q | q
 . exact h pins s σ H x v vl vu lo hi sl Q I rx hs pl pu q
 . exact h' pins s σ H x v vl vu lo hi sl Q I rx hs pl pu q
def tSl (r : V -> Option Int -> Option Int -> Hp -> VK -> Prop) (te : TE) (tl th : TO) : TE := λ σ H Q => te σ H λ x H1 => tl σ H1 λ l H2 => th σ H2 λ u H3 => r x l u H3 Q
theorem ze4 {r : V -> Option Int -> Option Int -> Hp -> VK -> Prop} (hr : SlR X r) (he : PE X e te) (hl : PO X lo tl) (hu : PO X hi th) : PE X (.Subscript e (.Slice lo hi none p2) pos) (tSl r te tl th) := by
 intro pins s σ H Q I h
 refine Subscript_ (thn (he pins s σ H _ I h) λ v s1 ⟨x, H1, I1, r1, q1⟩ => ?_)
 refine wpAny_Slice (thn (hl pins s1 σ H1 _ I1 q1) λ vl s2 ⟨l, H2, I2, pl, q2⟩ => thn (hu pins s2 σ H2 _ I2 q2) λ vu s3 ⟨u, H3, I3, pu, q3⟩ => ?_)
 rw [evalPart_none]
 refine wpAny_pure ?_
 have I4 : Inv X pins σ H3 { s3 with heap := s3.heap.push { cls := .type "slice", data := .fields #[vl, vu, .none] } } := I3.kept (t' := s3.toks) λ b ob q => Heap.get?_push_of_some _ q
 obtain ⟨T, id, hT, ht, hg⟩ := hr pins { s3 with heap := s3.heap.push { cls := .type "slice", data := .fields #[vl, vu, .none] } } σ H3 x v vl vu l u s3.heap.objs.size Q I4 r1 (Heap.IsSliceOf.new ..) pl pu q3
 show wpAny (model X.prog X.w) X.A (subscriptTail e (.Slice lo hi none p2) v (.ref s3.heap.objs.size)) (EP X pins σ Q) X.xe { s3 with heap := s3.heap.push { cls := .type "slice", data := .fields #[vl, vu, .none] } }
 exact tail_any (ops := [.ref s3.heap.objs.size, v]) ht hT hg (by with_unfolding_all rfl)
def zew (xs : List V) (lo hi : Option Int) : List V := (xs.drop (HT.sIx xs.length 0 lo)).take (HT.sIx xs.length xs.length hi - HT.sIx xs.length 0 lo)
theorem zjl (xs : List V) (lo hi : Option Int) : (zew xs lo hi).length <= xs.length := by
 unfold zew
 rw [List.length_take, List.length_drop]
 omega
def rSlT (K : W.Frag) : V -> Option Int -> Option Int -> Hp -> VK -> Prop := λ x lo hi H Q => ∃ a xs, x = .ref a /\ SqT K H a xs /\
 ¬ (HT.sIx xs.length 0 lo = 0 /\ HT.sIx xs.length xs.length hi = xs.length) /\ ∀ p, H p = none -> Q (.ref p) (upd H p (.tup (zew xs lo hi)))
theorem zx3 : SlR X (rSlT X.K) := by
 intro pins s σ H x v vl vu lo hi sl Q I rx hs pl pu h
 obtain ⟨a, xs, rfl, hx, hw, q⟩ := h
 cases rx
 obtain ⟨its, r, ht, hz⟩ := I.tuple hx
 have hlen : its.toArray.size = xs.length := by rw [List.size_toArray]; exact r.length.symm
 refine ⟨"tuple", _, PyProof.Rows.slot_tuple_getitem.lookup, ht.typeIs, ?_⟩
 refine HT.getItem_tuple_cut ht hs pl pu (by rw [hlen]; exact hw) ?_ (by rw [hlen]; exact hz)
 rw [hlen]
 refine ⟨.ref s.heap.objs.size, _, I.laid (t' := s.toks) (o := .tup (zew xs lo hi)) (λ b ob q => Heap.get?_push_of_some _ q) (Nat.le_refl _) ?_, rfl, q _ (I.hok.fresh (Nat.le_refl _))⟩
 exact ⟨Nat.le_trans (zjl xs lo hi) hz, _, (r.drop (HT.sIx xs.length 0 lo)).take (HT.sIx xs.length xs.length hi - HT.sIx xs.length 0 lo), IsTup.new _ _⟩
end
end L2
namespace L2
open PySem PySem.Spec PyProof.Rows
def ixN (n : Nat) (i : Int) : Option Nat := if 0 <= i then (if i < n then some i.toNat else none) else if -(n : Int) <= i then some (i + n).toNat else none
def atI {α : Type} (xs : List α) (i : Int) : Option α := (ixN xs.length i).bind λ j => xs[j]?
theorem zr5 {n : Nat} {i : Int} {j : Nat} (h : ixN n i = some j) : seqIndex? i n = some j /\ j < n /\ -(n : Int) <= i /\ i < n := by
 unfold ixN at h
 by_cases h0 : 0 <= i
 . rw [if_pos h0] at h
   by_cases h1 : i < n
   . rw [if_pos h1] at h
     have e : i.toNat = j := Option.some.inj h
     exact ⟨by rw [seqIndex_of h0 h1, e], by omega, by omega, h1⟩
   . rw [if_neg h1] at h; cases h
 . rw [if_neg h0] at h
   by_cases h1 : -(n : Int) <= i
   . rw [if_pos h1] at h
     have e : (i + n).toNat = j := Option.some.inj h
     exact ⟨by rw [seqIndex_neg (by omega) h1, e], by omega, h1, by omega⟩
   . rw [if_neg h1] at h; cases h
theorem zne {α : Type} {xs : List α} {i : Int} {v : α} (h : atI xs i = some v) : ∃ j, seqIndex? i xs.length = some j /\ xs[j]? = some v /\ j < xs.length /\ -(xs.length : Int) <= i /\ i < xs.length := by
 unfold atI at h
 cases e : ixN xs.length i with
 | none => rw [e] at h; cases h
 | some j =>
   rw [e] at h
   obtain ⟨h1, h2, h3, h4⟩ := zr5 e
   exact ⟨j, h1, h, h2, h3, h4⟩
theorem zen {α : Type} {xs : List α} {j : Nat} {v : α} (h : xs[j]? = some v) : atI xs (j : Int) = some v := by
 have hj : j < xs.length := (List.getElem?_eq_some_iff.mp h).1
 have e : ixN xs.length (j : Int) = some j := by
   unfold ixN
   rw [if_pos (by omega), if_pos (by omega)]; simp
 unfold atI; rw [e]; exact h
theorem zn1 {α : Type} (xs : List α) (v : α) : atI (xs ++ [v]) (-1) = some v := by
 have hl : (xs ++ [v]).length = xs.length + 1 := by simp
 have e : ixN (xs ++ [v]).length (-1) = some xs.length := by
   unfold ixN
   rw [hl, if_neg (by decide), if_pos (by omega)]
   congr 1
   omega
 unfold atI
 rw [e]
 show (xs ++ [v])[xs.length]? = some v
 simp
def zv4 (b : Expr) : Prop := ∀ o i, subscripted b false o i = operate [o, i] (getItem o i)
def IxR (X : Cx) (r : R2) : Prop :=
 ∀ (value slice : Expr) (pins : List (Addr × Obj)) (s : Shared) (σ : St) (H : Hp) (x y : V) (v u : Value) (Q : VK), Inv X pins σ H s -> zcw x v -> zcw y u -> r x y H Q ->
   subscripted slice false v u = operate [v, u] (getItem v u) -> wpAny (model X.prog X.w) X.A (subscriptTail value slice v u) (EP X pins σ Q) X.xe s
def MtR (X : Cx) (id : String) (r : V -> List V -> Hp -> VK -> Prop) : Prop :=
 ∀ (pins : List (Addr × Obj)) (s : Shared) (σ : St) (H : Hp) (x : V) (xs : List V) (v : Value) (us : List Value) (Q : VK), Inv X pins σ H s -> zcw x v -> zcm xs us -> r x xs H Q ->
   wpAny (model X.prog X.w) X.A (call (.builtin id) (v :: us)) (EP X pins σ Q) X.xe s
section
variable {X : Cx} {a b : Expr} {ta tb : TE} {pos : Pos}
theorem zao {r : R2} (hr : IxR X r) (ha : PE X a ta) (hb : PE X b tb) (hs : zv4 b) : PE X (.Subscript a b pos) (tOp r ta tb) := by
 intro pins s σ H Q I h
 exact Subscript_ (zyx ha hb I h λ v u s2 x y H2 I2 rx ry q => hr a b pins s2 σ H2 x y v u Q I2 rx ry q (hs _ _))
def rIxL (K : W.Frag) : R2 := λ x y H Q => ∃ p xs i v, x = .ref p /\ y = .int i /\ SqL K H p xs /\ atI xs i = some v /\ Q v H
def zyd (K : W.Frag) : R2 := λ x y H Q => ∃ p xs i v, x = .ref p /\ y = .int i /\ SqT K H p xs /\ atI xs i = some v /\ Q v H
def rIxS : R2 := λ x y H Q => ∃ z i c, x = .str z /\ y = .int i /\ z.length <= sizeLine /\ atI z.cps.toList i = some c /\ Q (.str ⟨#[c]⟩) H
theorem za1 : IxR X (rIxL X.K) := by
 intro value slice pins s σ H x y v u Q I rx ry h hs
 obtain ⟨p, xs, i, z, rfl, rfl, hq, he, q⟩ := h
 cases rx
 obtain ⟨t, rfl⟩ := ry
 obtain ⟨its, r, pl, hz⟩ := I.list hq
 obtain ⟨j, h1, h2, h3, h4, h5⟩ := zne he
 obtain ⟨w, ew, rw'⟩ := r.get h2
 have hl := r.length
 have hn := zj6
 have fin : EP X pins σ Q w s := ⟨z, H, I, rw', q⟩
 by_cases h0 : 0 <= i
 . have hj : i.toNat = j := by
     rw [seqIndex_of h0 h5] at h1
     exact Option.some.inj h1
   exact item_listR pl.isList h0 (by omega) (by rw [hj]; simpa using ew) fin hs
 . have hj : (i + (its.toArray.size : Int)).toNat = j := by
     rw [seqIndex_neg (by omega) h4] at h1
     rw [List.size_toArray, <- hl]
     exact Option.some.inj h1
   exact subscriptTail_builtinR (x := w) pl.isList.typeIs slot_list_getitem.lookup
     (wpAny_getItem_list_neg (Q := λ r s' => r = w /\ EP X pins σ Q r s') pl.isList (by omega) (by rw [List.size_toArray] <;> omega) (by omega) (by rw [hj]; simpa using ew) ⟨rfl, fin⟩) hs
theorem zaq : IxR X (zyd X.K) := by
 intro value slice pins s σ H x y v u Q I rx ry h hs
 obtain ⟨p, xs, i, z, rfl, rfl, hq, he, q⟩ := h
 cases rx
 obtain ⟨t, rfl⟩ := ry
 obtain ⟨its, r, pl, hz⟩ := I.tuple hq
 obtain ⟨j, h1, h2, h3, h4, h5⟩ := zne he
 obtain ⟨w, ew, rw'⟩ := r.get h2
 have hl := r.length
 have hn := zj6
 have fin : EP X pins σ Q w s := ⟨z, H, I, rw', q⟩
 exact subscriptTail_builtinR (x := w) pl.typeIs slot_tuple_getitem.lookup
   (getItem_tuple (j := j) (Q := λ r s' => r = w /\ EP X pins σ Q r s') pl (by omega) (by omega) (by rw [List.size_toArray, <- hl]; exact h1) (by simpa using ew) ⟨rfl, fin⟩) hs
theorem zo1 : IxR X rIxS := by
 intro value slice pins s σ H x y v u Q I rx ry h hs
 obtain ⟨z, i, c, rfl, rfl, hz, he, q⟩ := h
 obtain ⟨t, rfl⟩ := rx
 obtain ⟨t', rfl⟩ := ry
 obtain ⟨j, h1, h2, h3, h4, h5⟩ := zne he
 have hl : z.cps.toList.length = z.length := by simp [Str.length]
 rw [hl] at h1 h4 h5
 have hn := zj6
 exact tail_any (typeIs_str s z t) slot_str_getitem.lookup (getItem_str (c := c) (by
   have e1 : decide (i < -(2 ^ 63 : Int)) = false := decide_eq_false (by omega)
   have e2 : decide (i >= 2 ^ 63) = false := decide_eq_false (by omega)
   rw [e1, e2, Bool.or_false]) (by rw [h1]; simpa using h2) ⟨.str ⟨#[c]⟩, H, I.tok _, ⟨_, rfl⟩, q⟩) hs
theorem zpk (its : List Value) (n j : Nat) (u : Value) : Obj.mapSeq (·.setIfInBounds j u) { cls := .type "list", data := .seq its.toArray n } = { cls := .type "list", data := .seq (its.set j u).toArray n } := by
 simp [Obj.mapSeq]
theorem Inv.lst {pins : List (Addr × Obj)} {σ : St} {H : Hp} {s : Shared} {p : Addr} {xs : List V} (I : Inv X pins σ H s) (h : H p = some (.lst xs)) :
   ∃ (its : List Value) (n : Nat), zcm xs its /\ s.heap.get? p = some { cls := .type "list", data := .seq its.toArray n } /\ xs.length <= sizeLine := by
 obtain ⟨z, its, n, r, e⟩ := I.hok p _ h
 exact ⟨its, n, r, e, z⟩
theorem Inv.lstUpd {pins : List (Addr × Obj)} {σ : St} {H : Hp} {s : Shared} {p : Addr} {xs ys : List V} {its its' : List Value} {n n' : Nat} {f : Obj -> Obj} (I : Inv X pins σ H s) (h : H p = some (.lst xs))
   (ho : s.heap.get? p = some { cls := .type "list", data := .seq its.toArray n }) (hf : f { cls := .type "list", data := .seq its.toArray n } = { cls := .type "list", data := .seq its'.toArray n' }) (r : zcm ys its') (hz : ys.length <= sizeLine) (t : Nat) :
   Inv X pins σ (upd H p (.lst ys)) { s with heap := s.heap.update p f, toks := t } := by
 have e : (s.heap.update p f).get? p = some { cls := .type "list", data := .seq its'.toArray n' } := by
   rw [Heap.get?_update_self f ho (by rw [hf] <;> rfl), hf]
 refine I.write (x := p) (e := p) (by rw [h]; trivial) (.inl rfl) (λ b u hb q => (Heap.get?_update_other _ _ (Ne.symm hb)).trans q) ⟨_, e⟩ ?_
 exact ⟨hz, its', n', r, e⟩
def zyw : V -> V -> V -> Hp -> (Hp -> Prop) -> Prop := λ o i v H Q => ∃ p xs k j, o = .ref p /\ i = .int k /\ H p = some (.lst xs) /\ ixN xs.length k = some j /\ Q (upd H p (.lst (xs.set j v)))
theorem zin : PSet X zyw := by
 intro pins s σ H o i v ov iv u Q I ro ri rv h
 obtain ⟨p, xs, k, j, rfl, rfl, hp, hj, q⟩ := h
 cases ro
 obtain ⟨t, rfl⟩ := ri
 obtain ⟨its, n, r, ho, hz⟩ := I.lst hp
 obtain ⟨h1, h2, h3, h4⟩ := zr5 hj
 have hl := r.length
 have hn := zj6
 have I' : Inv X pins σ (upd H p (.lst (xs.set j v))) { s with heap := s.heap.update p (Obj.mapSeq (·.setIfInBounds j u)) } :=
   I.lstUpd hp ho (zpk its n j u) (r.set rv j) (by rw [List.length_set]; exact hz) s.toks
 by_cases h0 : 0 <= k
 . have hk : k.toNat = j := by
     rw [seqIndex_of h0 h4] at h1
     exact Option.some.inj h1
   exact PySem.W.ki_setAt ho h0 (by omega) (by rw [List.size_toArray, <- hl]; exact h4) (by rw [hk]; exact ⟨_, I', q⟩)
 . have hk : (k + (its.toArray.size : Int)).toNat = j := by
     rw [seqIndex_neg (by omega) h3] at h1
     rw [List.size_toArray, <- hl]
     exact Option.some.inj h1
   exact PySem.W.ki_setBack ho (by omega) (by rw [List.size_toArray, <- hl]; exact h3) (by omega) (by rw [hk]; exact ⟨_, I', q⟩)
theorem zl0 (lo hi : Option Int) (n : Nat) : (sliceBounds lo hi none n).1 = ((HT.sIx n 0 lo : Nat) : Int) /\ (sliceBounds lo hi none n).2.1 = ((HT.sIx n n hi : Nat) : Int) /\ (sliceBounds lo hi none n).2.2 = 1 := by
 refine ⟨?_, ?_, rfl⟩
 . cases lo with
   | none => simp [sliceBounds, HT.sIx]
   | some i =>
     simp only [sliceBounds, HT.sIx, Option.getD_none, show (1 : Int) > 0 by decide, if_true]
     by_cases h : i < 0
     . simp only [h, if_true] <;> omega
     . simp only [h, if_false] <;> omega
 . cases hi with
   | none => simp [sliceBounds, HT.sIx]
   | some i =>
     simp only [sliceBounds, HT.sIx, Option.getD_none, show (1 : Int) > 0 by decide, if_true]
     by_cases h : i < 0
     . simp only [h, if_true] <;> omega
     . simp only [h, if_false] <;> omega
theorem zk0 (its : List Value) (lo hi : Option Int) : slicePick its.toArray lo hi none = ((its.drop (HT.sIx its.length 0 lo)).take (HT.sIx its.length its.length hi - HT.sIx its.length 0 lo)).toArray := by
 obtain ⟨h1, h2, h3⟩ := zl0 lo hi its.toArray.size
 unfold slicePick
 rw [h1, h2, h3]
 simp only [sliceRange_one, pick_run, List.size_toArray] <;> rfl
def rSlL (K : W.Frag) : V -> Option Int -> Option Int -> Hp -> VK -> Prop := λ x lo hi H Q => ∃ a xs, x = .ref a /\ SqL K H a xs /\ ∀ p, H p = none -> Q (.ref p) (upd H p (.lst (zew xs lo hi)))
theorem zjh : SlR X (rSlL X.K) := by
 intro pins s σ H x v vl vu lo hi sl Q I rx hs pl pu h
 obtain ⟨a, xs, rfl, hx, q⟩ := h
 cases rx
 obtain ⟨its, r, ht, hz⟩ := I.list hx
 have hlen := r.length
 refine ⟨"list", _, slot_list_getitem.lookup, ht.isList.typeIs, ?_⟩
 refine wpAny_getItem_list_slice ht.isList hs pl pu .none (by simp) ?_ (by rw [List.size_toArray] <;> omega)
 rw [zk0, <- hlen]
 refine ⟨.ref s.heap.objs.size, _, I.laid (t' := s.toks) (o := .lst (zew xs lo hi)) (λ b ob q => Heap.get?_push_of_some _ q) (Nat.le_refl _) ?_, rfl, q _ (I.hok.fresh (Nat.le_refl _))⟩
 exact ⟨Nat.le_trans (zjl xs lo hi) hz, _, 0, (r.drop (HT.sIx xs.length 0 lo)).take (HT.sIx xs.length xs.length hi - HT.sIx xs.length 0 lo), Heap.get?_push_size _ rfl⟩
def zjw : V -> Bool
 | .non => true
 | .bl _ => true
 | .int _ => true
 | .str _ => true
 | _ => false
def eqV : V -> V -> Bool
 | .non, .non => true
 | .bl a, .bl b => a == b
 | .bl a, .int b => (if a then 1 else 0) == b
 | .int a, .bl b => a == (if b then 1 else 0)
 | .int a, .int b => a == b
 | .str a, .str b => a == b
 | _, _ => false
theorem zw2 {A : Around} {s : Shared} {y x : V} {u v : Value} (ry : zcw y u) (rx : zcw x v) (fy : zjw y = true) (fx : zjw x = true) : SeqAt.EqAt A s u v (eqV y x) := by
 cases y with
 | non =>
   cases ry
   cases x with
   | non => cases rx; exact SeqAt.EqAt.same _
   | bl b => cases rx; exact SeqAt.EqAt.none_bool b
   | int b => obtain ⟨t, rfl⟩ := rx; exact SeqAt.EqAt.none_int b t
   | str b => obtain ⟨t, rfl⟩ := rx; exact SeqAt.EqAt.none_str b t
   | _ => exact absurd (show false = true from fx) Bool.false_ne_true
 | bl a =>
   cases ry
   cases x with
   | non => cases rx; exact SeqAt.EqAt.bool_none a
   | bl b => cases rx; exact SeqAt.EqAt.bool_bool a b
   | int b => obtain ⟨t, rfl⟩ := rx; exact SeqAt.EqAt.bool_int a b t
   | str b => obtain ⟨t, rfl⟩ := rx; exact SeqAt.EqAt.bool_str a b t
   | _ => exact absurd (show false = true from fx) Bool.false_ne_true
 | int a =>
   obtain ⟨t', rfl⟩ := ry
   cases x with
   | non => cases rx; exact SeqAt.EqAt.int_none a t'
   | bl b => cases rx; exact SeqAt.EqAt.int_bool a t' b
   | int b => obtain ⟨t, rfl⟩ := rx; exact SeqAt.EqAt.int_int a t' b t
   | str b => obtain ⟨t, rfl⟩ := rx; exact SeqAt.EqAt.int_str a t' b t
   | _ => exact absurd (show false = true from fx) Bool.false_ne_true
 | str a =>
   obtain ⟨t', rfl⟩ := ry
   cases x with
   | non => cases rx; exact SeqAt.EqAt.str_none a t'
   | bl b => cases rx; exact SeqAt.EqAt.str_bool a t' b
   | int b => obtain ⟨t, rfl⟩ := rx; exact SeqAt.EqAt.str_int a t' b t
   | str b => obtain ⟨t, rfl⟩ := rx; exact SeqAt.EqAt.str_str a t' b t
   | _ => exact absurd (show false = true from fx) Bool.false_ne_true
 | _ => exact absurd (show false = true from fy) Bool.false_ne_true
def eqU (x : V) (u : Value) : Bool := match u with
 | .none => eqV .non x
 | .bool b => eqV (.bl b) x
 | .int i _ => eqV (.int i) x
 | .str z _ => eqV (.str z) x
 | _ => false
theorem zum {x y : V} {u : Value} (r : zcw y u) (f : zjw y = true) : eqU x u = eqV y x := by
 cases y with
 | non => cases r; rfl
 | bl b => cases r; rfl
 | int i => obtain ⟨t, rfl⟩ := r; rfl
 | str z => obtain ⟨t, rfl⟩ := r; rfl
 | _ => exact absurd (show false = true from f) Bool.false_ne_true
theorem zi9 {x : V} : ∀ {xs : List V} {us : List Value}, zcm xs us -> xs.all zjw = true -> us.any (eqU x) = xs.any λ y => eqV y x
 | _, _, .nil, _ => rfl
 | y :: xs, u :: us, .cons r t, f => by
   rw [List.all_cons, Bool.and_eq_true] at f
   rw [List.any_cons, List.any_cons, zum r f.1, zi9 t f.2]
theorem zhl {A : Around} {s : Shared} {x : V} {v : Value} (rx : zcw x v) (fx : zjw x = true) : ∀ {xs : List V} {us : List Value}, zcm xs us -> xs.all zjw = true -> ∀ u ∈ us, SeqAt.EqAt A s u v (eqU x u)
 | _, _, .nil, _ => λ u hu => by cases hu
 | y :: xs, u :: us, .cons r t, f => λ u' hu => by
   rw [List.all_cons, Bool.and_eq_true] at f
   rcases List.mem_cons.mp hu with rfl | hu
   . rw [zum r f.1]; exact zw2 r rx f.1 fx
   . exact zhl rx fx t f.2 u' hu
def inV (x : V) (xs : List V) : Bool := xs.any λ y => eqV y x
def rIn (K : W.Frag) (neg : Bool) : R2 := λ x y H Q => ∃ p xs, y = .ref p /\ (SqL K H p xs \/ SqT K H p xs) /\ zjw x = true /\ xs.all zjw = true /\ Q (.bl (if neg then !inV x xs else inV x xs)) H
theorem zf9 : OpR X (compareOp .In) (rIn X.K false) := by
 intro pins s σ H x y v u Q I rx ry h
 obtain ⟨p, xs, rfl, hq, fx, fs, q⟩ := h
 cases ry
 rcases hq with hq | hq
 . obtain ⟨its, r, pl, hz⟩ := I.list hq
   refine SeqAt.in_listAt (eqU x) pl.isList (λ w hw => zhl rx fx r fs w (by simpa using hw)) ⟨.bl _, H, I, rfl, ?_⟩
   rw [show its.toArray.any (eqU x) = its.any (eqU x) by simp, zi9 r fs]
   exact q
 . obtain ⟨its, r, pl, hz⟩ := I.tuple hq
   refine SeqAt.in_tupleAt (eqU x) pl (λ w hw => zhl rx fx r fs w (by simpa using hw)) ⟨.bl _, H, I, rfl, ?_⟩
   rw [show its.toArray.any (eqU x) = its.any (eqU x) by simp, zi9 r fs]
   exact q
theorem zl9 : OpR X (compareOp .NotIn) (rIn X.K true) := by
 intro pins s σ H x y v u Q I rx ry h
 obtain ⟨p, xs, rfl, hq, fx, fs, q⟩ := h
 cases ry
 rcases hq with hq | hq
 . obtain ⟨its, r, pl, hz⟩ := I.list hq
   refine SeqAt.notIn_listAt (eqU x) pl.isList (λ w hw => zhl rx fx r fs w (by simpa using hw)) ⟨.bl _, H, I, rfl, ?_⟩
   rw [show its.toArray.any (eqU x) = its.any (eqU x) by simp, zi9 r fs]
   exact q
 . obtain ⟨its, r, pl, hz⟩ := I.tuple hq
   refine SeqAt.notIn_tupleAt (eqU x) pl (λ w hw => zhl rx fx r fs w (by simpa using hw)) ⟨.bl _, H, I, rfl, ?_⟩
   rw [show its.toArray.any (eqU x) = its.any (eqU x) by simp, zi9 r fs]
   exact q
theorem zbv : zjn X (.builtin "len") (λ xs H Q => ∃ p ys, xs = [.ref p] /\ (SqL X.K H p ys \/ SqT X.K H p ys) /\ Q (.int ys.length) H) := by
 intro pins s σ H xs us Q I r h
 obtain ⟨p, ys, rfl, hq, q⟩ := h
 obtain ⟨u, rfl, rx⟩ := zlx r
 cases rx
 have hn := zj6
 rcases hq with hq | hq
 . obtain ⟨its, r', pl, hz⟩ := I.list hq
   have hlen := r'.length
   exact Calls.call_len_list pl.isList (by simp only [List.size_toArray] <;> omega) ⟨.int ys.length, H, I.tok _, ⟨s.toks + 1, by rw [List.size_toArray, hlen]⟩, q⟩
 . obtain ⟨its, r', pl, hz⟩ := I.tuple hq
   have hlen := r'.length
   exact len_tuple pl (by simp only [List.size_toArray] <;> omega) ⟨.int ys.length, H, I.tok _, ⟨s.toks + 1, by rw [List.size_toArray, hlen]⟩, q⟩
theorem zdh : zjn X (.type "list") (λ xs H Q => ∃ p ys, xs = [.ref p] /\ (SqL X.K H p ys \/ SqT X.K H p ys) /\ ∀ l, H l = none -> Q (.ref l) (upd H l (.lst ys))) := by
 intro pins s σ H xs us Q I r h
 obtain ⟨p, ys, rfl, hq, q⟩ := h
 obtain ⟨u, rfl, rx⟩ := zlx r
 cases rx
 have fin : ∀ (its : List Value), zcm ys its -> ys.length <= sizeLine -> ∀ (h' : Heap) (c' : Nat), (∀ b o', s.heap.get? b = some o' -> h'.get? b = some o') ->
     h'.get? s.heap.objs.size = some { cls := .type "list", dict := none, data := .seq its.toArray c', slots := #[] } -> EP X pins σ Q (.ref s.heap.objs.size) { s with heap := h' } := λ its r' hz h' c' kp e =>
   ⟨.ref s.heap.objs.size, _, I.laid (t' := s.toks) kp (Nat.le_refl _) (show zdu X.prog X.w _ h' _ (.lst ys) from ⟨hz, its, c', r', e⟩), rfl, q _ (I.hok.fresh (Nat.le_refl _))⟩
 rcases hq with hq | hq
 . obtain ⟨its, r', pl, hz⟩ := I.list hq
   have hlen := r'.length
   obtain ⟨o, ho, hc, n, hd⟩ := pl.isList
   exact call_list_seq p (.inl rfl) ho hc hd (λ h' c' kp e => fin its r' hz h' c' kp e) (by simp only [List.size_toArray] <;> omega)
 . obtain ⟨its, r', pl, hz⟩ := I.tuple hq
   have hlen := r'.length
   obtain ⟨o, ho, hc, n, hd⟩ := pl
   exact call_list_seq p (.inr rfl) ho hc hd (λ h' c' kp e => fin its r' hz h' c' kp e) (by simp only [List.size_toArray] <;> omega)
theorem zhi : zjn X (.type "tuple") (λ xs H Q => ∃ p ys, xs = [.ref p] /\ ((SqL X.K H p ys /\ ∀ l, H l = none -> Q (.ref l) (upd H l (.tup ys))) \/ (SqT X.K H p ys /\ Q (.ref p) H))) := by
 intro pins s σ H xs us Q I r h
 obtain ⟨p, ys, rfl, h⟩ := h
 obtain ⟨u, rfl, rx⟩ := zlx r
 cases rx
 rcases h with ⟨hq, q⟩ | ⟨hq, q⟩
 . obtain ⟨its, r', pl, hz⟩ := I.list hq
   have hlen := r'.length
   refine call_tuple_list pl.isList (λ h' kp => ?_) (by simp only [List.size_toArray] <;> omega)
   have I1 : Inv X pins σ H { s with heap := h' } := I.kept (t' := s.toks) kp
   have I2 : Inv X pins σ (upd H h'.objs.size (.tup ys)) { s with heap := h'.push { cls := .type "tuple", data := .seq its.toArray } } :=
     I1.laid (t' := s.toks) (λ b o e => Heap.get?_push_of_some _ e) (Nat.le_refl _) (show zdu X.prog X.w _ _ _ (.tup ys) from ⟨hz, its, r', IsTup.new _ _⟩)
   exact ⟨.ref h'.objs.size, _, I2, rfl, q _ (I1.hok.fresh (Nat.le_refl _))⟩
 . obtain ⟨its, r', pl, hz⟩ := I.tuple hq
   exact call_tuple_same pl ⟨.ref p, H, I, rfl, q⟩
def tyV (K : W.Frag) (T : String) (x : V) (H : Hp) : Prop := match x with
 | .str _ => T = "str"
 | .int _ => T = "int"
 | .ref p => (T = "list" /\ ∃ xs, SqL K H p xs) \/ (T = "tuple" /\ ∃ o, K.lookup p = some o /\ o.cls = .type "tuple" /\ o.dict = none) \/
     (T = "dict" /\ ((∃ kvs, H p = some (.dK kvs)) \/ ∃ kvs, H p = some (.dT kvs))) \/ (T = "set" /\ ∃ S n, H p = some (.set S n))
 | _ => False
theorem zup {pins : List (Addr × Obj)} {σ : St} {H : Hp} {s : Shared} {T : String} {x : V} {v : Value} (I : Inv X pins σ H s) (r : zcw x v) (ty : tyV X.K T x H) :
   s.TypeIs v T /\ ∀ a, v = .ref a -> ∃ ob, s.heap.get? a = some ob /\ ob.dict = none := by
 cases x with
 | str z =>
   obtain ⟨t, rfl⟩ := r
   cases (show T = "str" from ty)
   exact ⟨typeIs_str s z t, λ _ e => nomatch e⟩
 | int i =>
   obtain ⟨t, rfl⟩ := r
   cases (show T = "int" from ty)
   exact ⟨typeIs_int s i t, λ _ e => nomatch e⟩
 | ref p =>
   cases r
   rcases ty with ⟨rfl, xs, hq⟩ | ⟨rfl, o, hk, hc, hd⟩ | ⟨rfl, hk⟩ | ⟨rfl, S, n, hk⟩
   . obtain ⟨its, _, pl, _⟩ := I.list hq
     refine ⟨pl.isList.typeIs, λ a e => ?_⟩
     cases e
     obtain ⟨o, n, e, c, hd, _⟩ := pl
     exact ⟨o, e, hd⟩
   . refine ⟨⟨o, I.kIn p o hk, hc⟩, λ a e => ?_⟩
     cases e
     exact ⟨o, I.kIn _ o hk, hd⟩
   . have z : ∃ o, s.heap.get? p = some o /\ o.ExactDict := by
       rcases hk with ⟨kvs, hk⟩ | ⟨kvs, hk⟩
       . obtain ⟨_, _, _, _, o, _, _, e, ex, _⟩ := I.hok p _ hk
         exact ⟨o, e, ex⟩
       . obtain ⟨_, _, _, _, o, _, _, e, ex, _⟩ := I.hok p _ hk
         exact ⟨o, e, ex⟩
     obtain ⟨o, e, ex⟩ := z
     refine ⟨⟨o, e, ex.1⟩, λ a e2 => ?_⟩
     cases e2
     exact ⟨o, e, ex.2.1⟩
   . obtain ⟨o, _, _, _, e, ex, _⟩ := I.hok p _ hk
     refine ⟨⟨o, e, ex.1⟩, λ a e2 => ?_⟩
     cases e2
     exact ⟨o, e, ex.2.1⟩
 | _ => exact False.elim ty
def tBM0 (K : W.Frag) (T : String) (r : V -> List V -> Hp -> VK -> Prop) (to : TE) : TE := λ σ H Q => to σ H λ x H1 => tyV K T x H1 /\ r x [] H1 Q
def tBM (K : W.Frag) (T : String) (r : V -> List V -> Hp -> VK -> Prop) (to : TE) (t : TA) : TE := λ σ H Q => to σ H λ x H1 => tyV K T x H1 /\ t σ H1 λ xs H2 => r x xs H2 Q
variable {o e : Expr} {es : List Expr} {to : TE} {t : TA} {name : Str} {apos cpos : Pos} {T id : String} {r : V -> List V -> Hp -> VK -> Prop}
theorem zl4 (pa : PlainAttrs T) (slot : Slot T name id) (hty : typeOf (.builtin id) = pure (.type "method_descriptor")) (hm : MtR X id r) (ho : PE X o to)
   (hbase : attributeBase o name X.env (eval o X.env) = eval o X.env := by rfl) (hline : (apos.endLine == cpos.line) = true := by rfl) : PE X (.Call (.Attribute o name apos) [] [] cpos) (tBM0 X.K T r to) := by
 intro pins s σ H Q I h
 refine wpAny_Call_method0_late hbase hline (thn (ho pins s σ H _ I h) λ v s1 ⟨x, H1, I1, r1, ty, q1⟩ => ?_)
 obtain ⟨h1, h2⟩ := zup I1 r1 ty
 exact ⟨T, id, pa, slot, hty, h1, h2, Calls.callWith_builtin rfl (PySem.evalArgs_none (hm pins s1 σ H1 x [] v [] Q I1 r1 .nil q1))⟩
theorem zgo (pa : PlainAttrs T) (slot : Slot T name id) (hty : typeOf (.builtin id) = pure (.type "method_descriptor")) (hm : MtR X id r) (ho : PE X o to) (ha : PA X (e :: es) t)
   (hbase : attributeBase o name X.env (eval o X.env) = eval o X.env := by rfl)
   (hfew : ((backTo cpos (starEach (e :: es) X.env)).all (λ x => !x.1) && (backToKw cpos (keywordEach [] X.env)).all (λ x => x.1.isSome)
     && decide ((e :: es).length + ([] : List Keyword).length + (if ([] : List Keyword).isEmpty then 0 else 1) < 30)) = true := by rfl)
   (hline : (apos.endLine == cpos.line) = true := by rfl) (hs : starEach (e :: es) X.env = (false, eval e X.env) :: starEach es X.env := by rfl) (hplain : (backTo cpos (starEach es X.env)).any (·.1) = false := by rfl) :
   PE X (.Call (.Attribute o name apos) (e :: es) [] cpos) (tBM X.K T r to t) := by
 intro pins s σ H Q I h
 refine wpAny_Call_method_late hbase hfew hline rfl (thn (ho pins s σ H _ I h) λ v s1 ⟨x, H1, I1, r1, ty, q1⟩ => ?_)
 obtain ⟨h1, h2⟩ := zup I1 r1 ty
 refine ⟨T, id, pa, slot, hty, h1, h2, ?_⟩
 have hA := ha cpos pins s1 σ H1 _ I1 q1
 rw [hs] at hA ⊢
 refine Calls.callWith_builtin (by show (false || (backTo cpos (starEach es X.env)).any (·.1)) = false; rw [hplain] <;> rfl) (Calls.evalArgs_plain ?_)
 exact thn hA λ us s2 ⟨vs, H2, I2, r2, q2⟩ => hm pins s2 σ H2 x vs v us Q I2 r1 r2 q2
end
end L2
namespace L2
open PySem PySem.Spec PyProof.Rows
def MtM (X : Cx) (id : String) (r : V -> List V -> Hp -> VK -> Prop) : Prop :=
 ∀ (pins : List (Addr × Obj)) (s : Shared) (σ : St) (H : Hp) (x : V) (xs : List V) (v : Value) (us : List Value) (Q : VK), Inv X pins σ H s -> zcw x v -> zcm xs us -> r x xs H Q ->
   wpAny (model X.prog X.w) X.A (call (.builtin id) (v :: us)) (EP X pins σ Q) X.xe s
theorem zcm.one : ∀ {x : V} {us : List Value}, zcm [x] us -> ∃ u, us = [u] /\ zcw x u
 | _, _, .cons r .nil => ⟨_, rfl, r⟩
theorem zcm.zero : ∀ {us : List Value}, zcm [] us -> us = []
 | _, .nil => rfl
theorem zcm.dropLast {xs : List V} {us : List Value} (h : zcm xs us) : zcm xs.dropLast us.dropLast := by
 induction h with
 | nil => exact .nil
 | cons r t ih =>
   cases t with
   | nil => exact .nil
   | cons q t' => exact .cons r ih
theorem zcm.rep {xs : List V} {us : List Value} (h : zcm xs us) : ∀ k : Nat, zcm (List.replicate k xs).flatten (List.replicate k us).flatten
 | 0 => .nil
 | k + 1 => by
   rw [List.replicate_succ, List.replicate_succ, List.flatten_cons, List.flatten_cons]
   exact zcm.append h (zcm.rep h k)
theorem zp7 {α : Type} (l : List α) : l.eraseIdx (l.length - 1) = l.dropLast := by
 induction l with
 | nil => rfl
 | cons a r ih =>
   cases r with
   | nil => rfl
   | cons b r =>
     have e : (a :: b :: r).length - 1 = ((b :: r).length - 1) + 1 := by
       have h1 : (a :: b :: r).length = r.length + 2 := rfl
       have h2 : (b :: r).length = r.length + 1 := rfl
       omega
     rw [e, List.eraseIdx_cons_succ, ih]
     all_goals rfl
theorem zlf (its : List Value) : ∀ (k : Nat) (acc : List Value),
   List.foldl (λ x1 x2 => x1 ++ x2) acc.toArray (List.replicate k its.toArray) = (acc ++ (List.replicate k its).flatten).toArray
 | 0, acc => by simp
 | k + 1, acc => by
   have e : acc.toArray ++ its.toArray = (acc ++ its).toArray := by simp
   have e2 : (acc ++ its) ++ (List.replicate k its).flatten = acc ++ (List.replicate (k + 1) its).flatten := by
     rw [List.replicate_succ, List.flatten_cons, List.append_assoc]
   rw [<- e2, <- zlf its k (acc ++ its), <- e, List.replicate_succ, List.foldl_cons]
section
variable {X : Cx} {pins : List (Addr × Obj)} {σ : St} {H : Hp} {s : Shared} {l b : Addr} {xs ys zs : List V}
theorem Inv.lset {its its' : List Value} {n : Nat} {f : Array Value -> Array Value} {t' : Nat} (I : Inv X pins σ H s) (hH : H l = some (.lst xs))
   (e : s.heap.get? l = some { cls := .type "list", data := .seq its.toArray n }) (hf : f its.toArray = its'.toArray) (hv : zcm ys its') (hz : ys.length <= sizeLine) :
   Inv X pins σ (upd H l (.lst ys)) { s with heap := s.heap.update l (Obj.mapSeq f), toks := t' } := by
 have q := PySem.IsL.update e f
 rw [hf] at q
 refine I.write (x := l) (e := l) (by rw [hH]; exact trivial) (.inl rfl) (λ b' u hb hu => (Heap.get?_update_other s.heap (Obj.mapSeq f) (Ne.symm hb)).trans hu) ⟨_, q⟩ ?_
 exact ⟨hz, its', _, hv, q⟩
theorem Inv.lnew {its : List Value} {t' : Nat} (I : Inv X pins σ H s) (hv : zcm ys its) (hz : ys.length <= sizeLine) :
   Inv X pins σ (upd H s.heap.objs.size (.lst ys)) { s with heap := s.heap.push { cls := .type "list", data := .seq its.toArray }, toks := t' } :=
 I.laid (λ _ _ q => Heap.get?_push_of_some _ q) (Nat.le_refl _) ⟨hz, its, 0, hv, Heap.get?_push_size _ rfl⟩
theorem Inv.fresh (I : Inv X pins σ H s) : H s.heap.objs.size = none := I.hok.fresh (Nat.le_refl _)
theorem Inv.lstM (I : Inv X pins σ H s) (hH : H l = some (.lst xs)) : xs.length <= sizeLine /\ ∃ (its : List Value) (n : Nat), zcm xs its /\ xs.length = its.length /\ s.heap.get? l = some { cls := .type "list", data := .seq its.toArray n } := by
 obtain ⟨z, its, n, r, e⟩ := I.hok l _ hH
 exact ⟨z, its, n, r, r.length, e⟩
theorem zol {n : Nat} (h : n <= sizeLine) : Builtin.List.listTooLong n = false := by
 unfold Builtin.List.listTooLong
 exact decide_eq_false (by omega)
end
section
variable {X : Cx}
def zuy : V -> List V -> Hp -> VK -> Prop := λ x vs H Q => ∃ l xs y, x = .ref l /\ vs = [y] /\ H l = some (.lst xs) /\ xs.length < sizeLine /\ Q .non (upd H l (.lst (xs ++ [y])))
theorem zcj : MtM X "list.append" zuy := by
 intro pins s σ H x vs v us Q I rx rv h
 obtain ⟨l, xs, y, rfl, rfl, hH, hz, q⟩ := h
 cases rx
 obtain ⟨u, rfl, ru⟩ := rv.one
 obtain ⟨z, its, n, r, hl, e⟩ := I.lstM hH
 refine call_meets F.slot_list_append ⟨_, e, rfl⟩ F.entry_list_append (F.args_list_append_2 _ _) (PySem.list_append l its.toArray n u (by rw [List.size_toArray]; omega)) ⟨e, ?_⟩
 refine ⟨.non, _, I.lset (its' := its ++ [u]) hH e (by simp) (r.append (.cons ru .nil)) ?_, rfl, q⟩
 rw [List.length_append, List.length_singleton]
 omega
def zwa : V -> List V -> Hp -> VK -> Prop := λ x vs H Q => ∃ l b xs zs, x = .ref l /\ vs = [.ref b] /\ H l = some (.lst xs) /\ H b = some (.lst zs) /\ xs.length + zs.length <= sizeLine /\ Q .non (upd H l (.lst (xs ++ zs)))
theorem zmd : MtM X "list.extend" zwa := by
 intro pins s σ H x vs v us Q I rx rv h
 obtain ⟨l, b, xs, zs, rfl, rfl, hH, hB, hz, q⟩ := h
 cases rx
 obtain ⟨u, rfl, ru⟩ := rv.one
 cases ru
 obtain ⟨z, its, n, r, hl, e⟩ := I.lstM hH
 obtain ⟨z2, its2, n2, r2, hl2, e2⟩ := I.lstM hB
 have hsz : its.toArray.size + its2.toArray.size <= sizeLine := by rw [List.size_toArray, List.size_toArray]; omega
 have hlong : ¬ (!its.toArray.isEmpty && Builtin.List.listTooLong (its.toArray.size + its2.toArray.size)) = true := by
   rw [zol hsz, Bool.and_false]
   exact Bool.false_ne_true
 refine call_meets F.slot_list_extend ⟨_, e, rfl⟩ F.entry_list_extend (F.args_list_extend_2 _ _)
   (AutoSeq1.list_extend_list_list_0 l its.toArray n b its2.toArray n2 hlong (by rw [List.size_toArray]; omega) (by omega)) ⟨e, e2, ?_⟩
 refine ⟨.non, _, I.lset (its' := its ++ its2) hH e (by simp) (r.append r2) ?_, rfl, q⟩
 rw [List.length_append]
 omega
def rPop : V -> List V -> Hp -> VK -> Prop := λ x vs H Q => ∃ l xs y, x = .ref l /\ vs = [] /\ H l = some (.lst xs) /\ xs[xs.length - 1]? = some y /\ Q y (upd H l (.lst xs.dropLast))
theorem zuf : MtM X "list.pop" rPop := by
 intro pins s σ H x vs v us Q I rx rv h
 obtain ⟨l, xs, y, rfl, rfl, hH, hy, q⟩ := h
 cases rx
 have hus := rv.zero
 subst hus
 obtain ⟨z, its, n, r, hl, e⟩ := I.lstM hH
 obtain ⟨u, hu, ru⟩ := r.get hy
 have hy' : its.toArray[its.toArray.size - 1]? = some u := by
   show its.toArray[its.length - 1]? = some u
   rw [<- Array.getElem?_toList, <- hl]
   exact hu
 refine call_meets F.slot_list_pop ⟨_, e, rfl⟩ F.entry_list_pop (F.args_list_pop_1 _) (MeetsSeq.list_pop_last l its.toArray n u hy' (by rw [List.size_toArray]; omega)) ⟨e, ?_⟩
 refine ⟨y, _, I.lset (its' := its.dropLast) hH e ?_ r.dropLast ?_, ru, q⟩
 . show its.toArray.eraseIdxIfInBounds (its.toArray.size - 1) = its.dropLast.toArray
   rw [List.size_toArray, List.eraseIdxIfInBounds_toArray, zp7]
 . rw [List.length_dropLast]
   omega
def zxr : V -> List V -> Hp -> VK -> Prop := λ x vs H Q => ∃ l xs, x = .ref l /\ vs = [] /\ H l = some (.lst xs) /\ Q .non (upd H l (.lst []))
theorem zk8 : MtM X "list.clear" zxr := by
 intro pins s σ H x vs v us Q I rx rv h
 obtain ⟨l, xs, rfl, rfl, hH, q⟩ := h
 cases rx
 have hus := rv.zero
 subst hus
 obtain ⟨z, its, n, r, hl, e⟩ := I.lstM hH
 refine call_meets F.slot_list_clear ⟨_, e, rfl⟩ F.entry_list_clear (F.args_list_clear_1 _) (AutoSeq1.list_clear_list_0 l its.toArray n (by rw [List.size_toArray]; omega)) ⟨e, ?_⟩
 exact ⟨.non, _, I.lset (its' := []) (ys := []) hH e rfl .nil (Nat.zero_le _), rfl, q⟩
def rCat : R2 := λ x y H Q => ∃ l b xs zs, x = .ref l /\ y = .ref b /\ H l = some (.lst xs) /\ H b = some (.lst zs) /\ xs.length + zs.length <= sizeLine /\ ∀ p, H p = none -> Q (.ref p) (upd H p (.lst (xs ++ zs)))
theorem zuk : OpR X (binaryOp .Add) rCat := by
 intro pins s σ H x y v u Q I rx ry h
 obtain ⟨l, b, xs, zs, rfl, rfl, hH, hB, hz, q⟩ := h
 cases rx
 cases ry
 obtain ⟨z, its, n, r, hl, e⟩ := I.lstM hH
 obtain ⟨z2, its2, n2, r2, hl2, e2⟩ := I.lstM hB
 refine PySem.P.add_list e e2 ?_ (by rw [List.size_toArray, List.size_toArray]; omega)
 have ea : its.toArray ++ its2.toArray = (its ++ its2).toArray := by simp
 rw [ea]
 exact ⟨.ref _, _, I.lnew (t' := s.toks) (r.append r2) (by rw [List.length_append]; omega), rfl, q _ I.fresh⟩
def rRep : R2 := λ x y H Q => ∃ l k xs, x = .ref l /\ y = .int k /\ H l = some (.lst xs) /\ -(2 ^ 63) <= k /\ k < 2 ^ 63 /\ xs.length * k.toNat <= sizeLine /\
 ∀ p, H p = none -> Q (.ref p) (upd H p (.lst (List.replicate k.toNat xs).flatten))
theorem zqo {α : Type} (xs : List α) (k : Nat) : (List.replicate k xs).flatten.length = k * xs.length := by
 induction k with
 | zero => simp
 | succ k ih => rw [List.replicate_succ, List.flatten_cons, List.length_append, ih, Nat.succ_mul, Nat.add_comm]
theorem zx4 : OpR X (binaryOp .Mult) rRep := by
 intro pins s σ H x y v u Q I rx ry h
 obtain ⟨l, k, xs, rfl, rfl, hH, h1, h2, hz, q⟩ := h
 cases rx
 obtain ⟨t, rfl⟩ := ry
 obtain ⟨z, its, n, r, hl, e⟩ := I.lstM hH
 have hlen : its.toArray.size * k.toNat <= sizeLine := by rw [List.size_toArray, <- hl]; exact hz
 have hcap : ¬ its.toArray.size * k.toNat > (2 ^ 63 - 1) / 8 := by
   have : (sizeLine : Nat) <= (2 ^ 63 - 1) / 8 := by decide
   omega
 have hfit : ¬ (!Builtin.List.listFitsIndex k) = true := by
   rw [fitsIndex_both h1 h2]
   exact Bool.false_ne_true
 have hlong : ¬ Builtin.List.listTooLong (its.toArray.size * k.toNat) = true := by
   rw [zol hlen]
   exact Bool.false_ne_true
 have hnew : List.foldl (λ x1 x2 => x1 ++ x2) #[] (List.replicate (if its.toArray.isEmpty = true then 0 else k.toNat) its.toArray) = (List.replicate k.toNat its).flatten.toArray := by
   have f0 : ∀ m : Nat, List.foldl (λ x1 x2 => x1 ++ x2) #[] (List.replicate m its.toArray) = (List.replicate m its).flatten.toArray := λ m => by
     have := zlf its m []
     rw [List.nil_append] at this
     exact this
   rw [f0]
   cases its with
   | nil => simp
   | cons a r' => rw [if_neg (by simp)]
 refine wpAny_binaryOp_repeat_ref (T := "list") (U := "int") (by decide) ⟨_, e, rfl⟩ (λ s' => typeIs_int s' k t) noFill_list_mul F.fills_int_mul F.slot_int_rmul repeat_list F.slot_int_index.lookup
   (call_meets F.slot_int_rmul (typeIs_int s k t) F.entry_int_rmul (F.args_int_rmul_2 _ _) (int___rmul___int_list k t l its.toArray n)
     ⟨e, rfl, ⟨_, e, rfl⟩, call_meets F.slot_list_mul ⟨_, e, rfl⟩ F.entry_list_mul (F.args_list_mul_2 _ _) (AutoListH.list___mul___list_int_3 l its.toArray n k t hfit hcap hlong) ⟨e, ?_⟩⟩)
 rw [hnew]
 exact ⟨.ref _, _, I.lnew (t' := s.toks) (r.rep k.toNat) (by rw [zqo, Nat.mul_comm]; exact hz), rfl, q _ I.fresh⟩
end
end L2
namespace Att
open PySem PySem.W PySem.Calls PyProof.Rows
theorem zji {P : Params} {h : Heap} : ∀ (ns : List Int) (vs : List Value), WellAll P h vs (ns.map WData.int) -> IntsAre vs ns := by
 intro ns
 induction ns with
 | nil =>
   intro vs w
   rw [List.map_nil] at w
   cases w
   exact .nil
 | cons n ns ih =>
   intro vs w
   rw [List.map_cons] at w
   cases w with
   | cons a b =>
     cases a
     exact .cons _ _ (ih _ b)
theorem zql {l : OpenLaw} {n : Nat} (hn : l.most = some n) {P : Params} {h : Heap} {args : List WData} {vals : List Value}
   (hpre : l.row.toRowW.claim.pre args = true) (hwl : WellAll P h vals args) :
   ∃ a vs ns, vals = [Value.ref a] /\ args = [WData.list (ns.map WData.int)] /\ h.get? a = some { cls := .type "list", data := .seq vs.toArray } /\ IntsAre vs ns /\ ns.length <= n := by
 have hsh : WShape.hasAll [] args [.list .int] = true := (pre_splitW hpre).1
 have hc : l.pre.holds [] { args := args } = true := (pre_splitW hpre).2
 obtain ⟨d, r, rfl, h1, h2⟩ := hasAllW_cons hsh
 obtain rfl := hasAllW_nil h2
 obtain ⟨xs, rfl, h3⟩ := hasW_list h1
 obtain ⟨ns, rfl⟩ := items_int h3
 have hlen : ns.length <= n := by
   unfold OpenLaw.pre at hc
   have h4 : (WTm.not (.lt (.lit (.int (n : Int))) (.len (.arg 0)))).holds [] { args := [.list (ns.map .int)] } = true := by
     have h4 := (holds_andW hc).1
     rw [hn] at h4
     exact h4
   have h5 := condW_of h4 (w_not (w_lt w_lit (w_len_list (w_arg rfl))))
   rw [List.length_map] at h5
   refine Nat.le_of_not_lt λ q => ?_
   have q' : (n : Int) < ((ns.length : Nat) : Int) := by omega
   first
     | (rw [decide_eq_true q'] at h5; exact absurd h5 (by decide))
     | (simp at h5; omega)
 cases hwl with
 | cons w1 w2 =>
   cases w2
   cases w1 with
   | list ho hall => exact ⟨_, _, ns, rfl, rfl, ho, zji ns _ hall, hlen⟩
theorem zqz (l : OpenLaw) (args : List WData) : l.row.toRowW.claim.post args (.bool true) args = true :=
 postW_of (r := l.row.toRowW) (X := (true == true))
   (show WShape.has [] (.bool true) .bool = true by first | rfl | decide | simp [WShape.has, WShape.arms, WShape.armsAll])
   (show (WTm.eq .res (.lit (.bool true))).value [] { args := args, res := some (.bool true), after := args } = some (.bool (true == true)) from w_eq_bool (w_res rfl) w_lit) rfl
theorem attach_call {l : OpenLaw} {n : Nat} {q : Program} {loose : List Str} {XP : (Str -> Option Value) -> Heap -> Prop} {YP : World -> Heap -> Prop} {d : DefRec}
   (hn : l.most = some n) (hdf : d.params.defaults = [])
   (call : ∀ (w : World) (s₀ s₁ : Shared) (mg mb : Str -> Option Value) (fa : Addr) (o : Obj) (pm cd doc : Value) (a : Addr) (vs : List Value) (ns : List Int),
     Ground q loose [] XP w s₀ mg mb s₁.heap -> YP w s₁.heap ->
     s₁.heap.get? fa = some o -> o.data = .func (docDef d.name d.params d.body d.scope pm cd doc) -> s₁.heap.CodeRec cd d.name -> mg d.name = some (.ref fa) ->
     s₁.heap.get? a = some { cls := .type "list", data := .seq vs.toArray } -> IntsAre vs ns -> ns.length <= n -> s₁.gens = #[] ->
     codeAny (model l.prog w) callerA (.call (.ref fa) ⟨[.ref a], []⟩) (λ r s' => r = .ok (.ret (.bool true)) /\ OldK s₁.heap s'.heap /\ s'.os = s₁.os /\ AllBare s'.gens) s₁) :
   WalkO q loose XP YP l.row.toRowW d [] (λ f vs => PySem.call f vs) := by
 intro w s₀ s₁ mg mb G Y fa o pm cd doc dV kV ho hd hcd hD hmg hg args vals as hpre hlay hrd hwl hlo
 obtain rfl : dV = .none := Dflts.none hD hdf
 obtain rfl : kV = .none := Dflts.noKw hD
 obtain ⟨a, vs, ns, rfl, rfl, hobj, hints, hlen⟩ := zql hn hpre hwl
 refine enter_call (codeAny_mono (call w s₀ s₁ mg mb fa o pm cd doc a vs ns G Y ho (fd_plain hd) hcd hmg hobj hints hlen hg) λ r s' hq => ?_)
 obtain ⟨rfl, h2, h3, h4⟩ := hq
 exact ⟨.inl ⟨.bool true, .bool true, [], rfl, λ _ => rfl, .bool true, zqz l _, λ _ => ⟨List.Pairwise.nil, λ _ hm => (nomatch hm)⟩⟩, h2, h3, h4⟩
end Att
namespace L2
open PySem PySem.Spec PyProof.Rows
theorem zlr : ∀ {vs : List Value} {ns : List Int}, IntsAre vs ns -> zcm (ns.map V.int) vs
 | _, _, .nil => .nil
 | _, _, .cons n t h => .cons ⟨t, rfl⟩ (zlr h)
def zyf (H : Hp) : Prop := ∀ b, H b = none \/ ∃ o xs, H b = some (.frz o (.lst xs))
theorem zsv {P : Program} {w : World} {K : W.Frag} {mg mb : Str -> Option Value} {CX : CXT} {k : Nat} {fa a : Addr} {fd : FuncData} {x : Str} {sp : Sp} {s₁ : Shared} {vs : List Value} {ns : List Int}
   (KX : K.In s₁.heap) (hns : s₁.heap.Ns mainGlobals mg) (hb : s₁.heap.Ns builtinsNs mb) (hbb : ∀ x : Str, x ≠ "__name__" -> mb x = bootBuiltins x) (hlim : s₁.heap.NoLimit) (hg : s₁.gens = #[])
   (ha : s₁.heap.get? a = some { cls := .type "list", data := .seq vs.toArray }) (hi : IntsAre vs ns) (hl : ns.length <= sizeLine) (hr : Room k callerA)
   (F : ∀ base : Heap, K.In base -> base.Ns mainGlobals mg -> FnOk P w K mg base CX k fa fd [x] sp) (hbind : ∀ (s : Shared) (u : Value), BindsTo s fd ⟨[u], []⟩ [(x, u)])
   (hsp : ∀ H : Hp, zyf H -> SqL K H a (ns.map V.int) -> sp [.ref a] H (λ v _ => v = .bl true) λ _ _ _ => False)
   (hCX : ∀ H e s', CX [] H s₁ (λ _ _ _ => False) e s' -> False) :
   codeAny (model P w) callerA (.call (.ref fa) ⟨[.ref a], []⟩) (λ r s' => r = .ok (.ret (.bool true)) /\ OldK s₁.heap s'.heap /\ s'.os = s₁.os /\ AllBare s'.gens) s₁ := by
 have rv := zlr hi
 have lenV := hi.length
 -- from an abstract heap in which nothing but the script may be tracked
 have core : ∀ H : Hp, zyf H -> SqL K H a (ns.map V.int) -> HOk P w H s₁.heap -> (∀ b, H b ≠ none -> b = a) -> (H a ≠ none -> K.lookup a = none) ->
     codeAny (model P w) callerA (.call (.ref fa) ⟨[.ref a], []⟩) (λ r s' => r = .ok (.ret (.bool true)) /\ OldK s₁.heap s'.heap /\ s'.os = s₁.os /\ AllBare s'.gens) s₁ := by
   intro H hO hS hok hA hK
   have base_of : ∀ {b : Addr} {o : Obj}, s₁.heap.get? b = some o -> H b = none -> (ztp s₁.heap H).get? b = some o := λ e n => zs8 e n
   have noA : ∀ {b : Addr} {o : Obj} {es : Array DictEntry} {ep : Nat}, s₁.heap.get? b = some o -> o.data = .dict es ep -> H b = none := λ {b o es ep} e d => by
     cases q : H b with
     | none => rfl
     | some u =>
       have e' : b = a := hA b (by rw [q]; simp)
       subst e'
       rw [ha] at e; cases e
       have d' : Data.seq vs.toArray _ = Data.dict es ep := d
       cases d'
   have nsK : ∀ {b : Addr} {m : Str -> Option Value}, s₁.heap.Ns b m -> (ztp s₁.heap H).Ns b m := λ {b m} ⟨o, es, ep, e, d, r⟩ => ⟨o, es, ep, base_of e (noA e d), d, r⟩
   have hKb : K.In (ztp s₁.heap H) := λ b o e => base_of (KX b o e) (by
     cases q : H b with
     | none => rfl
     | some u =>
       have e' : b = a := hA b (by rw [q]; simp)
       subst e'
       rw [hK (by rw [q]; simp)] at e; cases e)
   have hM : Mod K mg (ztp s₁.heap H) := ⟨hKb, nsK hns, ⟨mb, nsK hb, hbb⟩, let ⟨mc, h1, h2⟩ := hlim; ⟨mc, nsK h1, h2⟩⟩
   have e0 : Env0 P w K mg (ztp s₁.heap H) callerA [] s₁ H := ⟨rfl, hM, λ b o e => zu5 e, Nat.le_of_eq (zsf _ _), trivial, λ b hb => absurd (show b ∈ ([] : List Addr) from hb) (by simp), hok, .of_eq hg⟩
   refine codeAny_mono ((F _ hKb (nsK hns)).run callerA [] s₁ H ⟨[.ref a], []⟩ [.ref a] [.ref a] _ _ hr e0 (hbind s₁ (.ref a)) (.cons rfl .nil) (hsp H hO hS)) λ r s' h => ?_
   cases r with
   | error e => exact (hCX H e s' h).elim
   | ok fl =>
     cases fl with
     | next => exact False.elim h
     | brk => exact False.elim h
     | cont => exact False.elim h
     | ret u =>
       obtain ⟨v, H', os, bare, un, hok', r', q⟩ := h
       have q' : v = .bl true := q
       subst q'
       obtain rfl : u = Value.bool true := r'
       refine ⟨rfl, OldK.of_keep λ b o e => ?_, os, bare⟩
       cases q : H b with
       | none => exact un.keep b o e q (by intro z; exact absurd (show b ∈ ([] : List Addr) from z) (by simp)) (by simp)
       | some u =>
         rcases hO b with z | ⟨ob, xs, z⟩
         . rw [q] at z; cases z
         . have z2 := un.frzs b ob _ z
           obtain ⟨e1, _⟩ := hok b _ z
           obtain ⟨e2, _⟩ := hok' b _ z2
           rw [e] at e1; cases e1
           exact e2
 cases hk : K.lookup a with
 | some o =>
   -- the script is one of the module's own objects
   have e := KX a o hk
   rw [ha] at e
   cases e
   refine core (λ _ => none) (λ _ => .inl rfl) (.inr ⟨_, vs.toArray, _, hk, rfl, rfl, rfl, by rw [List.size_toArray, lenV]; exact hl, by simpa using rv⟩) (λ b u z => by have z' : (none : Option HO) = some u := z; cases z') (λ b z => absurd rfl z) λ z => absurd rfl z
 | none =>
   refine core (λ b => if b = a then some (.frz { cls := .type "list", data := .seq vs.toArray } (.lst (ns.map V.int))) else none) (λ b => ?_) (.inl (.inr ⟨{ cls := .type "list", data := .seq vs.toArray }, if_pos rfl⟩)) (λ b u z => ?_) (λ b z => ?_) λ _ => hk
   . by_cases hb : b = a
     . exact .inr ⟨_, _, if_pos hb⟩
     . exact .inl (if_neg hb)
   . by_cases hb : b = a
     . have z' := (if_pos hb).symm.trans z
       cases z'
       subst hb
       exact ⟨ha, by rw [List.length_map]; exact hl, vs, _, rv, ha⟩
     . have z' := (if_neg hb).symm.trans z
       cases z'
   . by_cases hb : b = a
     . exact hb
     . exact absurd (if_neg hb) z
end L2
namespace L2
open PySem PySem.Spec PyProof.Rows
abbrev KOf {K : W.Frag} {h : Heap} (_ : K.In h) : W.Frag := K
theorem zwf {l : PySem.W.OpenLaw} {n k : Nat} {q : Program} {loose : List Str} {XP : (Str -> Option Value) -> Heap -> Prop} {YP : World -> Heap -> Prop} {d : DefRec} {K : Params -> W.Frag} {CX : World -> CXT} {sp : World -> Sp} {x : Str}
   (hn : l.most = some n) (hn2 : n <= sizeLine) (hdf : d.params.defaults = []) (hr : Room k callerA)
   (hY : ∀ (w : World) (h : Heap), YP w h -> (K w.params).In h)
   (F : ∀ (w : World) (mg : Str -> Option Value) (fa : Addr) (h : Heap), (K w.params).In h -> h.Ns mainGlobals mg -> mg d.name = some (.ref fa) ->
     ∃ fd : FuncData, (∀ (s : Shared) (u : Value), BindsTo s fd ⟨[u], []⟩ [(x, u)]) /\
       ∀ base : Heap, (K w.params).In base -> base.Ns mainGlobals mg -> FnOk l.prog w (K w.params) mg base (CX w) k fa fd [x] (sp w))
   (hsp : ∀ (w : World) (H : Hp) (a : Addr) (ns : List Int), ns.length <= n -> zyf H -> SqL (K w.params) H a (ns.map V.int) -> sp w [.ref a] H (λ v _ => v = .bl true) λ _ _ _ => False)
   (hCX : ∀ (w : World) (H : Hp) (s : Shared) (e : Value) (s' : Shared), CX w [] H s (λ _ _ _ => False) e s' -> False) :
   PySem.W.WalkO q loose XP YP l.row.toRowW d [] (λ f vs => PySem.call f vs) := by
 refine Att.attach_call hn hdf λ w s₀ s₁ mg mb fa o pm cd doc a vs ns G Y ho hd hcd hmg hobj hints hlen hg => ?_
 have KX := hY w _ Y
 obtain ⟨fd, hb, hF⟩ := F w mg fa _ KX G.T.g hmg
 exact zsv KX G.T.g G.T.b G.T.builtins G.T.nolimit hg hobj hints (Nat.le_trans hlen hn2) hr hF hb (λ H hO hS => hsp w H a ns hlen hO hS) λ H e s' => hCX w H s₁ e s'
theorem walk_ofK {l : PySem.W.OpenLaw} {n k : Nat} {q : Program} {loose : List Str} {XP : (Str -> Option Value) -> Heap -> Prop} {YP : World -> Heap -> Prop} {d : DefRec} {K : Params -> W.Frag} {CX : CXT} {sp : W.Frag -> Sp} {x : Str}
   (hn : l.most = some n) (hn2 : n <= sizeLine) (hdf : d.params.defaults = []) (hr : Room k callerA)
   (hY : ∀ (w : World) (h : Heap), YP w h -> (K w.params).In h)
   (F : ∀ (w : World) (mg : Str -> Option Value) (fa : Addr) (h : Heap), (K w.params).In h -> h.Ns mainGlobals mg -> mg d.name = some (.ref fa) ->
     ∃ fd : FuncData, (∀ (s : Shared) (u : Value), BindsTo s fd ⟨[u], []⟩ [(x, u)]) /\
       ∀ base : Heap, (K w.params).In base -> base.Ns mainGlobals mg -> FnOk l.prog w (K w.params) mg base CX k fa fd [x] (sp (K w.params)))
   (hsp : ∀ (K : W.Frag) (H : Hp) (a : Addr) (ns : List Int), ns.length <= n -> zyf H -> SqL K H a (ns.map V.int) -> sp K [.ref a] H (λ v _ => v = .bl true) λ _ _ _ => False)
   (hCX : ∀ (H : Hp) (s : Shared) (e : Value) (s' : Shared), CX [] H s (λ _ _ _ => False) e s' -> False) :
   PySem.W.WalkO q loose XP YP l.row.toRowW d [] (λ f vs => PySem.call f vs) :=
 zwf (K := K) (CX := λ _ => CX) (sp := λ w => sp (K w.params)) hn hn2 hdf hr hY F (λ w H a ns h1 h2 h3 => hsp (K w.params) H a ns h1 h2 h3) λ _ H s e s' => hCX H s e s'
end L2
namespace L2
open PySem PySem.Spec PyProof.Rows
def zby (s : Stmt) (j : Nat) : Stmt := match s with
 | .ClassDef _ _ _ body _ _ _ _ _ _ _ => body.getD j (.Pass ⟨0, 0, 0, 0⟩)
 | _ => .Pass ⟨0, 0, 0, 0⟩
def zaj (s : Stmt) : Arguments := match s with
 | .FunctionDef _ a _ _ _ _ _ _ _ _ => a
 | _ => { posonlyargs := [], args := [], vararg := none, kwonlyargs := [], kw_defaults := [], kwarg := none, defaults := [] }
def zai (s : Stmt) : List Stmt := match s with
 | .FunctionDef _ _ b _ _ _ _ _ _ _ => b
 | _ => []
def zac (s : Stmt) : Scope := match s with
 | .FunctionDef _ _ _ _ _ _ sc _ _ _ => sc
 | _ => { kind := .function, names := [], isGenerator := false, isCoroutine := false }
abbrev CX0 : CXT := λ _ _ _ _ _ _ => False
abbrev E0 : XK := λ _ _ _ => False
theorem zcb {X : Cx} : zig CX0 X E0 := λ _ _ _ _ _ _ _ h => h.elim
structure Fun (K : W.Frag) (x qual : Str) (st : Stmt) (f : Addr) (fd : FuncData) : Prop where
 ex : ∃ (oc : Value) (od : Option Addr) (kV doc pm : Value) (an : Option Addr) (cdv ct : Value) (osl : Array (Option Value)),
   fd = PySem.W.fnOf x qual (zaj st) (zai st) (zac st) .none kV doc pm an cdv ct /\ K.lookup f = some ⟨oc, od, .func fd, osl⟩ /\ PySem.W.codeIn K cdv qual = true
 kp : PySem.W.keepIn K (.ref f) = true
section
variable {P : Program} {w : World} {K : W.Frag} {mg : Str -> Option Value} {base : Heap}
theorem Fun.ok {x qual : Str} {st : Stmt} {f : Addr} {fd : FuncData} {N ps : List Str} {k : Nat} {sp : Sp} (F : Fun K x qual st f fd) (S : FnScope N ps (zac st)) (len : ∀ vs H Q E, sp vs H Q E -> vs.length = ps.length)
   (hbody : ∀ (cdv : Value) (A : Around) (outer : List Env) (s : Shared) (H : Hp) (vs : List V) (Q : VK) (E : XK), Room k (A.deeper (envOfC qual (zac st) s.heap.objs.size f cdv)) -> sp vs H Q E ->
     ∃ t, PSs (zwn CX0 P w K mg base N qual (zac st) f cdv A outer s H E).nox (zai st) t /\ t { nx := λ _ H' => Q .non H', rt := Q } (zlp N vs) H) : FnOk P w K mg base CX0 (k + 1) f fd ps sp := by
 obtain ⟨oc, od, kV, doc, pm, an, cdv, ct, osl, rfl, lk, hcd⟩ := F.ex
 refine zt7 lk hcd S len λ A outer s H vs Q E hr hsp => ?_
 obtain ⟨t, h, q⟩ := hbody cdv A outer s H vs Q E hr hsp
 exact ⟨t, h.nox, q⟩
theorem Fun.binds {x qual : Str} {st : Stmt} {f : Addr} {fd : FuncData} {ps : List Str} (F : Fun K x qual st f fd)
   (h : ∀ (kV doc pm : Value) (an : Option Addr) (cdv ct : Value) (us : List Value), us.length = ps.length -> bindArgs (PySem.W.fnOf x qual (zaj st) (zai st) (zac st) .none kV doc pm an cdv ct) ⟨us, []⟩ = pure (ps.zip us)) : zg7 K fd ps [] := by
 obtain ⟨oc, od, kV, doc, pm, an, cdv, ct, osl, rfl, lk, hcd⟩ := F.ex
 exact .all (h kV doc pm an cdv ct)
theorem zif {x qual : Str} {st : Stmt} {f : Addr} {oc : Value} {od an : Option Addr} {osl : Array (Option Value)} {kV doc pm cdv ct : Value} (l : K.lookup f = some ⟨oc, od, .func (PySem.W.fnOf x qual (zaj st) (zai st) (zac st) .none kV doc pm an cdv ct), osl⟩)
   (c : PySem.W.codeIn K cdv qual = true) (k : PySem.W.keepIn K (.ref f) = true) : Fun K x qual st f (PySem.W.fnOf x qual (zaj st) (zai st) (zac st) .none kV doc pm an cdv ct) := ⟨⟨oc, od, kV, doc, pm, an, cdv, ct, osl, rfl, l, c⟩, k⟩
end
theorem zsc {n : Nat} (h : n <= 1000) : n < sizeLine := Nat.lt_of_le_of_lt h (by decide)
section
variable {X : Cx}
theorem pv (i : Nat) {x : Str} {pos : Pos} (hN : X.N[i]? = some x := by rfl) (hv : Vis X.env.scope x := by first | exact Or.inl rfl | exact Or.inr (Or.inl rfl) | exact Or.inr (Or.inr rfl)) (hd : (x == ("__debug__" : Str)) = false := by decide)
   (hcd : (x == ("__classdict__" : Str)) = false := by decide) : PE X (.Name x pos) (tVar i) := zxa hN hv hd hcd
end
theorem zun {A B : Prop} (h : B) : if false = true then A else B := by
 rw [if_neg Bool.false_ne_true]
 exact h
theorem zu3 {A B : Prop} (h : A) : if true = true then A else B := by
 rw [if_pos rfl]
 exact h
theorem zud {c A B : Prop} [Decidable c] (h1 : c -> A) (h2 : ¬ c -> B) : if c then A else B := by
 by_cases h : c
 . rw [if_pos h]
   exact h1 h
 . rw [if_neg h]
   exact h2 h
def zak (H H' : Hp) : Prop := ∀ b o, H b = some o -> H' b = some o
theorem zak.refl (H : Hp) : zak H H := λ _ _ h => h
theorem zak.trans {H H1 H2 : Hp} (a : zak H H1) (b : zak H1 H2) : zak H H2 := λ c o h => b c o (a c o h)
theorem zak.free {H H' : Hp} (e : zak H H') {l : Addr} (h : H' l = Option.none) : H l = Option.none := by
 cases q : H l with
 | none => rfl
 | some o =>
   rw [e l o q] at h
   cases h
theorem zak.seq {K : W.Frag} {H H' : Hp} {a : Addr} {xs : List V} (e : zak H H') (h : SqL K H a xs) : SqL K H' a xs := by
 rcases h with (h | ⟨o, h⟩) | h
 . exact .inl (.inl (e _ _ h))
 . exact .inl (.inr ⟨o, e _ _ h⟩)
 . exact .inr h
end L2
set_option maxHeartbeats 4000000
namespace L2
open PySem PySem.Spec PyProof.Rows
def zg2 : List (Str × NameKind) -> List (Str × Addr) -> List (Str × Addr) -> List (Str × Addr)
 | [], _, acc => acc
 | (n, k) :: r, cells, acc => if k == .free then zg2 r cells ((n, (cells.lookup n).getD 0) :: acc) else zg2 r cells acc
theorem zls {env : Env} : ∀ (names : List (Str × NameKind)) (acc : List (Str × Addr)), (∀ y ∈ names, y.2 = .free -> ∃ c, env.cells.lookup y.1 = some c) ->
   (forIn names acc λ x r => (match x with | (name, kind) => if (kind == NameKind.free) = true then do let a <- cellOf env name; pure (ForInStep.yield ((name, a) :: r)) else pure (ForInStep.yield r) : Sem (ForInStep (List (Str × Addr))))) = (pure (zg2 names env.cells acc) : Sem (List (Str × Addr)))
 | [], acc, _ => rfl
 | (n, k) :: r, acc, h => by
   have ih := λ acc => zls (env := env) r acc λ y hy => h y (List.mem_cons_of_mem _ hy)
   rw [List.forIn_cons]
   unfold zg2
   cases hk : (k == NameKind.free) with
   | true =>
     obtain ⟨c, hc⟩ := h (n, k) List.mem_cons_self (by simpa using hk)
     have hc : env.cells.lookup n = some c := hc
     have e : cellOf env n = pure c := by unfold cellOf; rw [hc]
     simp only [hk, if_true, e, pure_bind, hc, Option.getD_some]
     exact ih _
   | false =>
     simp only [hk, Bool.false_eq_true, if_false, pure_bind]
     exact ih _
theorem zsx {scope : Scope} {env : Env} (h : ∀ y ∈ scope.names, y.2 = .free -> ∃ c, env.cells.lookup y.1 = some c) : closureFor scope env = pure (zg2 scope.names env.cells []) := by
 have e := zls (env := env) scope.names [] h
 unfold closureFor
 first
   | (rw [e]; rfl)
   | (simp only [e]; rfl)
   | exact (congrArg (λ t => t >>= λ r => pure r) e)
theorem zja {cells : List (Str × Addr)} : ∀ (names : List (Str × NameKind)) (acc : List (Str × Addr)), (∀ y ∈ names, y.2 = .free -> ∃ c, cells.lookup y.1 = some c) -> (∀ x c, acc.lookup x = some c -> cells.lookup x = some c) ->
   ∀ x c, (zg2 names cells acc).lookup x = some c -> cells.lookup x = some c
 | [], acc, _, h2 => h2
 | (n, k) :: r, acc, h, h2 => by
   unfold zg2
   cases hk : (k == NameKind.free) with
   | true =>
     rw [if_pos rfl]
     refine zja r _ (λ y hy => h y (List.mem_cons_of_mem _ hy)) λ x c e => ?_
     obtain ⟨c', hc⟩ := h (n, k) List.mem_cons_self (by simpa using hk)
     have hc : cells.lookup n = some c' := hc
     rw [List.lookup_cons] at e
     cases hx : x == n with
     | true =>
       have hx' : x = n := by simpa using hx
       rw [hx] at e
       rw [hx', hc]
       simpa [hc] using e
     | false =>
       rw [hx] at e
       exact h2 x c e
   | false =>
     rw [if_neg (by simp)]
     exact zja r _ (λ y hy => h y (List.mem_cons_of_mem _ hy)) h2
theorem zje {cells : List (Str × Addr)} {x : Str} : ∀ (names : List (Str × NameKind)) (acc : List (Str × Addr)), (acc.lookup x).isSome = true -> ((zg2 names cells acc).lookup x).isSome = true
 | [], _, h => h
 | (n, k) :: r, acc, h => by
   unfold zg2
   split
   . refine zje r _ ?_
     rw [List.lookup_cons]
     cases x == n <;> simp [h]
   . exact zje r _ h
theorem zi4 {cells : List (Str × Addr)} {x : Str} : ∀ (names : List (Str × NameKind)) (acc : List (Str × Addr)), (x, NameKind.free) ∈ names -> ((zg2 names cells acc).lookup x).isSome = true
 | (n, k) :: r, acc, h => by
   unfold zg2
   rcases List.mem_cons.mp h with e | e
   . cases e
     rw [if_pos (by rfl)]
     exact zje r _ (by rw [List.lookup_cons]; simp)
   . split
     . exact zi4 r _ e
     . exact zi4 r _ e
def zdv (X : Cx) (N' : List Str) (scope : Scope) (C : Addr) (s : Shared) (H : Hp) (fp : List Addr) : Cx :=
 { X with N := N', s₀ := s, H₀ := H, env := compEnvC scope (zg2 scope.names X.env.cells []) C X.env, outer := X.stack, stack := X.stack, ex := fp, fn := λ _ => false, pn := [], xe := λ _ _ => False }
def cap (js : List (Option Nat)) (σ : St) : St := js.map λ o => o.bind λ j => (σ[j]?).join
def zmj (scope osc : Scope) (N' N : List Str) (js : List (Option Nat)) : Bool :=
 (scope.kind == .function) && (scope.names.all λ y => y.2 != .cell && (if y.2 == .local then scope.names.lookup y.1 == some .local else true) &&
   (if y.2 == .free then osc.names.lookup y.1 == some .cell || osc.names.lookup y.1 == some .free else true)) &&
 js.length == N'.length && ((js.zip N').all λ q => match q.1 with
   | none => true
   | some j => N[j]? == some q.2 && (osc.names.lookup q.2 == some .cell || osc.names.lookup q.2 == some .free) && scope.names.lookup q.2 == some .free)
structure CompOk (scope osc : Scope) (N' N : List Str) (js : List (Option Nat)) : Prop where
 kind : scope.kind = .function
 nocell : ∀ y ∈ scope.names, y.2 ≠ .cell
 names : ∀ y ∈ scope.names, y.2 = .local -> scope.names.lookup y.1 = some .local
 free : ∀ y ∈ scope.names, y.2 = .free -> osc.names.lookup y.1 = some .cell \/ osc.names.lookup y.1 = some .free
 len : js.length = N'.length
 slots : ∀ (i j : Nat) (x : Str), js[i]? = some (some j) -> N'[i]? = some x -> N[j]? = some x /\ (osc.names.lookup x = some .cell \/ osc.names.lookup x = some .free) /\ scope.names.lookup x = some .free
theorem zru {scope osc : Scope} {N' N : List Str} {js : List (Option Nat)} (h : zmj scope osc N' N js = true) : CompOk scope osc N' N js := by
 unfold zmj at h
 rw [Bool.and_eq_true, Bool.and_eq_true, Bool.and_eq_true, List.all_eq_true, List.all_eq_true] at h
 obtain ⟨⟨⟨h1, h2⟩, h3⟩, h4⟩ := h
 refine ⟨by cases hk : scope.kind <;> first | rfl | (rw [hk] at h1; cases h1), λ y hy e => ?_, λ y hy e => ?_, λ y hy e => ?_, by simpa using h3, λ i j x e1 e2 => ?_⟩
 . have q := h2 y hy
   rw [e] at q
   simp at q
 . have q := h2 y hy
   rw [Bool.and_eq_true, Bool.and_eq_true] at q
   have q2 := q.1.2
   rw [e] at q2
   simpa using q2
 . have q := h2 y hy
   rw [Bool.and_eq_true, Bool.and_eq_true] at q
   have q2 := q.2
   rw [e] at q2
   simpa using q2
 . have hm : (some j, x) ∈ js.zip N' := by
     refine List.mem_of_getElem? (i := i) ?_
     rw [List.getElem?_zip_eq_some]
     exact ⟨e1, e2⟩
   have q := h4 _ hm
   simp only [Bool.and_eq_true, Bool.or_eq_true, beq_iff_eq] at q
   exact ⟨q.1.1, q.1.2, q.2⟩
theorem zgr {env : Env} : ∀ (names : List (Str × NameKind)) (x : Str), names.lookup x = some .free ->
   ((names.map λ (n, k) => if (k == NameKind.free && env.scope.kind == .function && env.kindOf n == some .cell) then (n, NameKind.cell) else (n, k)).lookup x = some .cell \/
     (names.map λ (n, k) => if (k == NameKind.free && env.scope.kind == .function && env.kindOf n == some .cell) then (n, NameKind.cell) else (n, k)).lookup x = some .free)
 | [], x, h => by simp at h
 | (n, k) :: r, x, h => by
   have ih := zgr (env := env) r x
   rw [List.map_cons]
   rw [List.lookup_cons] at h
   by_cases hb : (k == NameKind.free && env.scope.kind == .function && env.kindOf n == some .cell) = true
   . have e1 : (if (k == NameKind.free && env.scope.kind == .function && env.kindOf n == some .cell) = true then (n, NameKind.cell) else (n, k)) = (n, NameKind.cell) := if_pos hb
     simp only [e1, List.lookup_cons]
     cases hx : x == n with
     | true => exact .inl rfl
     | false =>
       rw [hx] at h
       exact ih h
   . have e1 : (if (k == NameKind.free && env.scope.kind == .function && env.kindOf n == some .cell) = true then (n, NameKind.cell) else (n, k)) = (n, k) := if_neg hb
     simp only [e1, List.lookup_cons]
     cases hx : x == n with
     | true =>
       rw [hx] at h
       exact .inr h
     | false =>
       rw [hx] at h
       exact ih h
theorem zh5 {scope : Scope} {env : Env} : ∀ (names : List (Str × NameKind)) (x : Str), (∀ y ∈ names, y.2 ≠ .cell) ->
   ((names.map λ (n, k) => if (k == NameKind.free && env.scope.kind == .function && env.kindOf n == some .cell) then (n, NameKind.cell) else (n, k)).lookup x = some .cell \/
     (names.map λ (n, k) => if (k == NameKind.free && env.scope.kind == .function && env.kindOf n == some .cell) then (n, NameKind.cell) else (n, k)).lookup x = some .free) -> (x, NameKind.free) ∈ names
 | [], x, _, h => by simp at h
 | (n, k) :: r, x, hc, h => by
   have ih := zh5 (scope := scope) (env := env) r x λ y hy => hc y (List.mem_cons_of_mem _ hy)
   rw [List.map_cons] at h
   by_cases hb : (k == NameKind.free && env.scope.kind == .function && env.kindOf n == some .cell) = true
   . have hkf : k = .free := by
       rw [Bool.and_eq_true, Bool.and_eq_true] at hb
       simpa using hb.1.1
     have e1 : (if (k == NameKind.free && env.scope.kind == .function && env.kindOf n == some .cell) = true then (n, NameKind.cell) else (n, k)) = (n, NameKind.cell) := if_pos hb
     simp only [e1, List.lookup_cons] at h
     cases hx : x == n with
     | true =>
       have hx' : x = n := by simpa using hx
       rw [hx', hkf]
       exact List.mem_cons_self
     | false =>
       rw [hx] at h
       exact List.mem_cons_of_mem _ (ih h)
   . have e1 : (if (k == NameKind.free && env.scope.kind == .function && env.kindOf n == some .cell) = true then (n, NameKind.cell) else (n, k)) = (n, k) := if_neg hb
     simp only [e1, List.lookup_cons] at h
     cases hx : x == n with
     | true =>
       have hx' : x = n := by simpa using hx
       rw [hx] at h
       rcases h with h | h
       . exact absurd (Option.some.inj h) (hc (n, k) List.mem_cons_self)
       . have hkf : k = .free := Option.some.inj h
         rw [hx', hkf]
         exact List.mem_cons_self
     | false =>
       rw [hx] at h
       exact List.mem_cons_of_mem _ (ih h)
theorem Un.sameBut {fs ex : List Addr} {H H' : Hp} {h h1 h2 : Heap} {C : Addr} (u : Un fs ex H H' h h1) (hs : Heap.SameBut C h1 h2) (hC : h.objs.size <= C) : Un fs ex H H' h h2 := by
 have ne : ∀ b o, h.get? b = some o -> b ≠ C := λ b o e => Nat.ne_of_lt (Nat.lt_of_lt_of_le (Heap.lt_size e) hC)
 refine ⟨λ b o e n hb hx => (hs.2 b (ne b o e)).trans (u.keep b o e n hb hx), λ b o e n hb hx => ?_, u.free, λ b o e hx => ?_, u.tups, u.frzs, u.tbls⟩
 . obtain ⟨sl, q⟩ := u.slot b o e n hb hx
   exact ⟨sl, (hs.2 b (ne b o e)).trans q⟩
 . obtain ⟨o', q⟩ := u.there b o e hx
   exact ⟨o', (hs.2 b (ne b o e)).trans q⟩
theorem zwm {α : Type} {t : Sem α} {Q Q' : α -> Shared -> Prop} {M : Model} {A : Around} {E : Value -> Shared -> Prop} {s : Shared} (h : wpAny M A t Q (λ _ _ => False) s) (hQ : ∀ a s, Q a s -> Q' a s) : wpAny M A t Q' E s := wpAny_mono h hQ λ _ _ f => f.elim
theorem zqq {prog : Program} {w : World} {A : Around} {R : Result -> Shared -> Prop} {s : Shared} {elt target iter : Expr} {ifs : List Expr} {scope : Scope} {pos : Pos} {it acc : Value} {env : Env} (I : Nat -> Shared -> Prop)
   (turn : ∀ n s, I n s -> wpAny (model prog w) A (pyNext it) (λ r s₁ => match r with
     | none => R (.ok .next) s₁
     | some v => wpAny (model prog w) A (letOwnedTupleGo target it v) (λ _ s₂ => wpAny (model prog w) A (assign target env v) (λ _ s₃ =>
         wpAny (model prog w) A (forIn ifs true λ c r => if r = true then do let ok <- isTrue c env (eval c env); pure (ForInStep.yield ok) else pure (ForInStep.yield r)) (λ ok s₄ =>
           if ok = true then wpAny (model prog w) A (eval elt env) (λ x s₅ =>
             wpAny (model prog w) A (call (.builtin "list.append") [acc, x]) (λ _ s₆ => ∃ m, m < n /\ I m s₆) (λ _ _ => False) s₅) (λ _ _ => False) s₄
           else ∃ m, m < n /\ I m s₄) (λ _ _ => False) s₃) (λ _ _ => False) s₂) (λ _ _ => False) s₁) (λ _ _ => False) s)
   (n : Nat) (h : I n s) : codeAny (model prog w) A (.compLoop (.ListComp elt [⟨target, iter, ifs, 0⟩] scope pos) 0 it acc env) R s := by
 refine codeAny_loop rfl I (λ n s hI => ?_) n h
 show wpAny _ A ((compTurn (.ListComp elt [⟨target, iter, ifs, 0⟩] scope pos) 0 it acc env).onRaise (λ x => do noteFrame x env; theTreesLotGoes x)) _ _ s
 refine wpAny_noted ?_
 rw [compTurn_list]
 refine wpAny_bind (wpAny_standAt (wpAny_bind (zwm (turn n s hI) λ r s₁ h₁ => ?_)))
 cases r with
 | none => exact wpAny_pure h₁
 | some v =>
   refine wpAny_bind (zwm h₁ λ _ s₂ h₂ => wpAny_bind (zwm h₂ λ _ s₃ h₃ => wpAny_bind (zwm h₃ λ ok s₄ h₄ => ?_)))
   cases ok with
   | false => exact wpAny_pure ⟨rfl, h₄⟩
   | true =>
     exact wpAny_bind (wpAny_bind (zwm h₄ λ x s₅ h₅ => wpAny_bind (zwm h₅ λ _ s₆ h₆ => wpAny_pure (wpAny_pure ⟨rfl, h₆⟩))))
def PIf (X : Cx) (ifs : List Expr) (t : TT) : Prop :=
 ∀ (pins : List (Addr × Obj)) (s : Shared) (σ : St) (H : Hp) (Q : Bool -> Hp -> Prop), Inv X pins σ H s -> t σ H Q ->
   wpAny (model X.prog X.w) X.A (forIn ifs true λ c r => if r = true then do let ok <- isTrue c X.env (eval c X.env); pure (ForInStep.yield ok) else pure (ForInStep.yield r)) (TP X pins σ Q) X.xe s
def tYes : TT := λ _ H Q => Q true H
theorem zge {X : Cx} : PIf X [] tYes := λ _ _ _ H _ I h => wpAny_tests_nil ⟨H, I, h⟩
theorem zvy {X : Cx} {c : Expr} {t : TT} (h : PT X c t) : PIf X [c] t := λ pins s σ H Q I hq => wpAny_tests_one (h pins s σ H Q I hq)
def zye (js : List (Option Nat)) (g : TG) : Prop := ∀ (x : V) (σ : St) (H : Hp) (Q : St -> Hp -> Prop), σ.length = js.length -> g x σ H Q -> g x σ H λ σ' H' => Q σ' H' /\ σ'.length = js.length /\ ∀ (i j : Nat), js[i]? = some (some j) -> σ'[i]? = σ[i]?
theorem zek {js : List (Option Nat)} {i : Nat} (h : js[i]? = some none := by rfl) : zye js (zrk i) := λ x σ H Q hl q => ⟨q, by rw [List.length_set]; exact hl, λ k j e => by
 rw [List.getElem?_set_ne]
 intro z
 subst z
 rw [h] at e
 cases e⟩
def zpb (J : It) (g : TG) (tif : TT) (te : TE) (js : List (Option Nat)) (σ : St) (Q : VK) (p : Addr) (H1 : Hp) : Prop :=
 ∃ W : Nat -> Nat -> List V -> Hp -> Prop, (∃ m, W 0 m [] (upd H1 p (.lst []))) /\ ∀ i m acc H2, W i m acc H2 -> H2 p = some (.lst acc) /\
   ((J.stop i H2 /\ Q (.ref p) H2) \/ (J.go i H2 /\ acc.length < sizeLine /\ ∃ N : List V -> Hp -> Prop, (∀ acc' H', N acc' H' -> ∃ m', m' < m /\ W (i + 1) m' acc' H') /\
     ∀ x H', J.yld i H2 x H' -> g x (cap js σ) H' λ σ2 H3 => tif σ2 H3 λ c H4 =>
       if c = true then te σ2 H4 λ y H5 => H5 p = some (.lst acc) /\ N (acc ++ [y]) (upd H5 p (.lst (acc ++ [y]))) else N acc H4))
def zux (wi : TI) (g : TG) (tif : TT) (te : TE) (js : List (Option Nat)) : TE := λ σ H Q => wi σ H λ J H1 => ∀ p, H1 p = none -> zpb J g tif te js σ Q p H1
theorem zlw {X : Cx} {use : Option (Value -> Sem Unit)} {Q' : Value -> Shared -> Prop} {Q : VK} {pins : List (Addr × Obj)} {s : Shared} {σ : St} {H : Hp} {elt target iter : Expr} {ifs : List Expr} {scope : Scope} {pos : Pos} {wi : TI} {g : TG} {tif : TT} {te : TE} {N' : List Str} {js : List (Option Nat)} (hok : zmj scope X.env.scope N' X.N js = true) (hc : X.calm = true)
   (hi : PI X target iter wi) (ho : zye js g) (hg : ∀ C s H fp, PG (zdv X N' scope C s H fp) target g) (hif : ∀ C s H fp, PIf (zdv X N' scope C s H fp) ifs tif) (he : ∀ C s H fp, PE (zdv X N' scope C s H fp) elt te)
   (hs : ∀ x, foldedSetIterable iter X.env x = pure x) (I : Inv X pins σ H s) (h : zux wi g tif te js σ H Q)
   (hfin : ∀ (s2 : Shared) (H2 : Hp) (fp : List Addr) (C : Addr), Inv X pins σ H2 s2 -> (∀ b ∈ fp, zqi X pins H2 b) -> s2.heap.objs.size <= C -> ∀ (σ' : St) (H' : Hp) (s' : Shared), Inv (zdv X N' scope C s2 H2 fp) [] σ' H' s' -> Q (.ref s2.heap.objs.size) H' ->
     compPost (model X.prog X.w) X.A X.xe use Q' (.ref s2.heap.objs.size) C (.ok .next) s') :
   wpAny (model X.prog X.w) X.A (comprehension (.ListComp elt [⟨target, iter, ifs, 0⟩] scope pos) scope X.env (firstIterPos [⟨target, iter, ifs, 0⟩] pos) (newList []) false (eval iter X.env) use) Q' X.xe s := by
 have O := zru hok
 have hfr : ∀ y ∈ scope.names, y.2 = .free -> ∃ c, X.env.cells.lookup y.1 = some c := λ y hy e => I.ok.has y.1 (O.free y hy e)
 refine wpAny_comprehension_free (use := use) rfl hs (zsx hfr) O.kind O.names (thn (hi pins s σ H _ I h) λ v s1 h1 => thn h1 λ itv s2 h2 => ?_)
 obtain ⟨it, fp, tn, J, H2, e, I2, T, st2, f2, hq⟩ := h2
 subst e
 have hf0 : H2 s2.heap.objs.size = none := I2.hok.fresh (Nat.le_refl _)
 obtain ⟨W, ⟨m0, w0⟩, turn⟩ := hq _ hf0
 refine wpAny_newObj_type (wpAny_newFunctionEnv O.nocell (by intro y hy; simp at hy) (λ h₁ hns₁ hsb₁ => ?_) O.kind)
 dsimp only at hns₁ hsb₁ ⊢
 generalize hH2 : s2.heap.push { cls := .type "list", dict := none, data := .seq ([] : List Value).toArray } = B at hns₁ hsb₁ ⊢
 have hC : B.objs.size = s2.heap.objs.size + 1 := by rw [<- hH2, Heap.size_push]
 have hCle : s2.heap.objs.size <= B.objs.size := by rw [hC]; exact Nat.le_succ _
 have old : ∀ b o, s2.heap.get? b = some o -> h₁.get? b = some o := λ b o e => hsb₁.extBut b o (by rw [hC]; exact Nat.ne_of_lt (Nat.lt_succ_of_lt (Heap.lt_size e))) (Heap.get?_push_of_some _ (hH2 ▸ Heap.get?_push_of_some _ e))
 have hDC : s2.heap.objs.size ≠ B.objs.size := by rw [hC]; exact Nat.ne_of_lt (Nat.lt_succ_self _)
 have hacc : h₁.get? s2.heap.objs.size = some { cls := .type "list", dict := none, data := .seq ([] : List Value).toArray } := hsb₁.extBut _ _ hDC (Heap.get?_push_of_some _ (hH2 ▸ Heap.get?_push_size _ rfl))
 have fpO : ∀ b ∈ fp, b < s2.heap.objs.size := λ b hb => by
   obtain ⟨o, e, _⟩ := T.obj 0 _ st2 b hb
   exact Heap.lt_size e
 have sub : ∀ x c, (zg2 scope.names X.env.cells []).lookup x = some c -> X.env.cells.lookup x = some c := zja scope.names [] hfr (λ x c e => by cases e)
 have hasC : ∀ x, ((relabel scope X.env).names.lookup x = some .cell \/ (relabel scope X.env).names.lookup x = some .free) -> ∃ c, (zg2 scope.names X.env.cells []).lookup x = some c := λ x hx =>
   Option.isSome_iff_exists.mp (zi4 scope.names [] (zh5 (scope := scope) (env := X.env) scope.names x O.nocell hx))
 -- the block's context at its begin
 have IY : ∀ t, Inv (zdv X N' scope B.objs.size s2 H2 fp) [] (cap js σ) (upd H2 s2.heap.objs.size (.lst [])) { s2 with heap := h₁, toks := t } := by
   intro t
   refine ⟨⟨I2.ok.mod, O.kind, I2.ok.glob, I2.ok.blt, hCle, λ x y c h1 h2 => I2.ok.inj x y c (sub x c h1) (sub y c h2), λ x hx => hasC x hx, λ x c h => (by cases h), I2.ok.hd, I2.ok.frames, .inl rfl, λ b hb => ⟨Nat.ne_of_lt (Nat.lt_of_lt_of_le (fpO b hb) hCle), λ x c e => (f2 b hb).2.2.2.2.1 x c (sub x c e)⟩,
     I2.bs, Nat.le_trans I2.ok.bsz I2.sz, λ b o e hb => ?_, λ b hb z => ?_, I2.stack, I2.stkFree⟩, rfl, I2.bare, Un.laid old (Nat.le_refl _) hf0, ⟨_, hns₁, λ i x v e1 e2 e3 => ?_⟩, λ x c e => ?_, ?_, λ x c e => ?_, λ p hp => absurd (show p ∈ ([] : List (Addr × Obj)) from hp) (by simp), ?_, ?_⟩
   . rcases (f2 b hb).2.2.2.1 with z | z
     . exact I2.ok.noex b o e z
     . exact absurd (Nat.lt_of_lt_of_le (Nat.lt_of_lt_of_le (Heap.lt_size e) I2.ok.bsz) z) (Nat.lt_irrefl _)
   . rcases List.mem_cons.mp (I2.stkSub b z) with q | q
     . exact (f2 b hb).2.1 q
     . exact (f2 b hb).2.2.1 q
   . have e1 : N'[i]? = some x := e1
     unfold cap at e2
     rw [List.getElem?_map] at e2
     cases q : js[i]? with
     | none => rw [q] at e2; cases e2
     | some o =>
       rw [q] at e2
       cases o with
       | none => cases e2
       | some j =>
         have e2 : (σ[j]?).join = some v := by simpa using e2
         have e2' : σ[j]? = some (some v) := by
           cases z : σ[j]? with
           | none => rw [z] at e2; cases e2
           | some a => rw [z] at e2; cases a with
             | none => cases e2
             | some a => cases e2; rfl
         obtain ⟨hN, hk, hsf⟩ := O.slots i j x q e1
         obtain ⟨m, hn, hl⟩ := I2.loc
         obtain ⟨u, r, l⟩ := hl j x v hN e2' (.inr hk)
         refine ⟨u, r, ?_⟩
         have hkX : X.env.kindOf x = some .cell \/ X.env.kindOf x = some .free := hk
         rcases l with ⟨k, _⟩ | ⟨k, c, hc', hcell⟩
         . rcases hkX with z | z
           . rw [k] at z; cases z
           . rw [k] at z; cases z
         . have hky : (relabel scope X.env).names.lookup x = some .cell \/ (relabel scope X.env).names.lookup x = some .free := zgr (env := X.env) scope.names x hsf
           obtain ⟨c2, hc2⟩ := hasC x hky
           have : c2 = c := by
             have := sub x c2 hc2
             rw [hc'] at this
             exact (Option.some.inj this).symm
           subst this
           obtain ⟨ob, ho, hd⟩ := hcell
           exact .inr ⟨hky, c2, hc2, ob, old _ _ ho, hd⟩
   . obtain ⟨v, ob, ho, hd⟩ := I2.cell x c (sub x c e)
     exact ⟨v, ob, old _ _ ho, hd⟩
   . show upd H2 s2.heap.objs.size (.lst []) B.objs.size = none
     rw [zaf (Ne.symm hDC)]
     exact I2.hok.fresh hCle
   . obtain ⟨v, ob, ho, hd⟩ := I2.cell x c (sub x c e)
     rw [zaf (Nat.ne_of_lt (Heap.lt_size ho))]
     exact I2.freeC x c (sub x c e)
   . exact I2.hok.laid old (Nat.le_refl _) ⟨Nat.zero_le _, [], 0, .nil, hacc⟩
   . unfold cap
     rw [List.length_map]
     exact O.len
 have hcl : (cap js σ).length = js.length := by unfold cap; rw [List.length_map]
 have fin : ∀ {σ' : St} {H' : Hp} {s' : Shared}, Inv (zdv X N' scope B.objs.size s2 H2 fp) [] σ' H' s' -> Q (.ref s2.heap.objs.size) H' -> compPost (model X.prog X.w) X.A X.xe use Q' (.ref s2.heap.objs.size) B.objs.size (.ok .next) s' :=
   λ {σ' H' s'} J q => hfin s2 H2 fp B.objs.size I2 f2 hCle σ' H' s' J q
 have loop : ∀ t, codeAny (model X.prog X.w) X.A (.compLoop (.ListComp elt [⟨target, iter, ifs, 0⟩] scope pos) 0 (.ref it) (.ref s2.heap.objs.size) (compEnvC scope (zg2 scope.names X.env.cells []) B.objs.size X.env))
     (compPost (model X.prog X.w) X.A X.xe use Q' (.ref s2.heap.objs.size) B.objs.size) { s2 with heap := h₁, toks := t } := by
   intro t
   have stat : ∀ {H' : Hp}, (∀ b ∈ fp, H' b = none) -> ∀ b ∈ fp, zqi (zdv X N' scope B.objs.size s2 H2 fp) [] H' b := λ hn b hb =>
     ⟨hn b hb, Nat.ne_of_lt (Nat.lt_of_lt_of_le (fpO b hb) hCle), (IY t).ok.exfs b hb, .inl hb, λ x c e => ((IY t).ok.exf b hb).2 x c e, λ p hp => absurd (show p ∈ ([] : List (Addr × Obj)) from hp) (by simp)⟩
   refine zqq (λ n s' => ∃ i acc H', Inv (zdv X N' scope B.objs.size s2 H2 fp) [] (cap js σ) H' s' /\ tn i s'.heap /\ (∀ b ∈ fp, H' b = none) /\ W i n acc H') ?_ m0
     ⟨0, [], _, IY t, T.keep 0 _ _ st2 (λ b _ o e => old b o e), λ b hb => by rw [zaf (Nat.ne_of_lt (fpO b hb))]; exact (f2 b hb).1, w0⟩
   rintro n s3 ⟨i, acc, H3, I3, st3, fr3, w3⟩
   obtain ⟨hD, turn⟩ := turn i n acc H3 w3
   rcases turn with ⟨stop, qn⟩ | ⟨go, hlen, N, hN, step⟩
   . refine thn (T.done (zdv X N' scope B.objs.size s2 H2 fp) rfl rfl rfl hc i [] s3 (cap js σ) H3 (λ _ _ => False) I3 (stat fr3) st3 stop) λ r s4 ⟨hr, I4⟩ => ?_
     subst hr
     exact fin I4 qn
   . refine thn (T.item (zdv X N' scope B.objs.size s2 H2 fp) rfl rfl rfl hc i [] s3 (cap js σ) H3 (λ _ _ => False) I3 (stat fr3) st3 go) λ r s4 ⟨u, hr, h4⟩ => ?_
     subst hr
     refine thn h4 λ _ s5 ⟨x, H5, I5, r5, y5, st5, fr5⟩ => ?_
     have I5' := I5.pinned (stat fr5) (T.obj _ _ st5)
     refine thn (hg _ _ _ _ _ s5 (cap js σ) H5 x u _ I5' r5 (ho x (cap js σ) H5 _ hcl (step x H5 y5))) λ _ s6 ⟨σ6, H6, I6, q6, hl6, hk6⟩ => ?_
     refine thn (hif _ _ _ _ _ s6 σ6 H6 _ I6 q6) λ ok s7 ⟨H7, I7, q7⟩ => ?_
     have again : ∀ {H8 : Hp} {acc8 : List V} {s8 : Shared}, Inv (zdv X N' scope B.objs.size s2 H2 fp) ([] ++ zmm fp s5.heap) σ6 H8 s8 -> N acc8 H8 ->
         ∃ m, m < n /\ ∃ i acc H', Inv (zdv X N' scope B.objs.size s2 H2 fp) [] (cap js σ) H' s8 /\ tn i s8.heap /\ (∀ b ∈ fp, H' b = none) /\ W i m acc H' := by
       intro H8 acc8 s8 I8 n8
       obtain ⟨m', hm, w8⟩ := hN acc8 H8 n8
       refine ⟨m', hm, i + 1, acc8, H8, ?_, T.keep _ _ _ st5 λ b hb o e => (I8.pin (b, o) (List.mem_append_right _ (List.mem_append_right _ (zgk hb e)))).1, λ b hb => ?_, w8⟩
       . refine Inv.weak I8.unpinned (by rw [hl6, hcl]) λ k v e => ?_
         have e' := e
         unfold cap at e
         rw [List.getElem?_map] at e
         cases q : js[k]? with
         | none => rw [q] at e; cases e
         | some o =>
           cases o with
           | none => rw [q] at e; cases e
           | some j => rw [hk6 k j q]; exact e'
       . obtain ⟨o, e, d⟩ := T.obj _ _ st5 b hb
         exact (I8.pin (b, o) (List.mem_append_right _ (List.mem_append_right _ (zgk hb e)))).2.1
     cases ok with
     | false => exact again I7 q7
     | true =>
       refine thn (he _ _ _ _ _ s7 σ6 H7 _ I7 q7) λ y s8 ⟨yv, H8, I8, r8, hD8, q8⟩ => ?_
       refine thn (zcj _ s8 σ6 H8 (.ref s2.heap.objs.size) [yv] (.ref s2.heap.objs.size) [y] (λ _ H9 => N (acc ++ [yv]) H9) I8 rfl (.cons r8 .nil) ⟨_, acc, yv, rfl, rfl, hD8, hlen, q8⟩) λ _ s9 ⟨_, H9, I9, _, q9⟩ => ?_
       exact again I9 q9
 exact codeAny_compStart_list (loop _) (T.self X.A 0 _ _ _ (T.keep 0 _ _ st2 (λ b _ o e => old b o e)) (loop _))
theorem zgv {X : Cx} {elt target iter : Expr} {ifs : List Expr} {scope : Scope} {pos : Pos} {wi : TI} {g : TG} {tif : TT} {te : TE} {N' : List Str} {js : List (Option Nat)} (hok : zmj scope X.env.scope N' X.N js = true) (hc : X.calm = true)
   (hi : PI X target iter wi) (ho : zye js g) (hg : ∀ C s H fp, PG (zdv X N' scope C s H fp) target g) (hif : ∀ C s H fp, PIf (zdv X N' scope C s H fp) ifs tif) (he : ∀ C s H fp, PE (zdv X N' scope C s H fp) elt te)
   (hs : ∀ x, foldedSetIterable iter X.env x = pure x := by intro _; rfl) : PE X (.ListComp elt [⟨target, iter, ifs, 0⟩] scope pos) (zux wi g tif te js) := by
 intro pins s σ H Q I h
 rw [eval_ListComp]
 refine zlw (use := none) hok hc hi ho hg hif he hs I h λ s2 H2 fp C I2 f2 hCle σ' H' s' J q => ?_
 obtain ⟨m, hn, _⟩ := J.loc
 refine ⟨m, hn, λ h' hs' => ⟨.ref s2.heap.objs.size, H', ?_, rfl, q⟩⟩
 refine I2.call' (s' := { s' with heap := h' }) (ch := fp) J.os (J.base.sameBut hs' hCle) (λ b ob e => ?_) J.bare λ b hb => ⟨(f2 b hb).2.2.2.1, (f2 b hb).2.1, (f2 b hb).2.2.2.2.1, (f2 b hb).2.2.2.2.2⟩
 refine (J.hok b ob e).stay (λ c w' hc q => (hs'.2 c ?_).trans q) (λ _ q => q) λ _ _ q => q
 have hfree : H' C = none := J.free
 intro hcC
 rw [hcC] at hc
 rcases hc with z | z
 . rw [<- z, hfree] at e; cases e
 . rw [hfree] at z; cases z
theorem zqh {X : Cx} {i : Nat} {y : Str} {elt target iter : Expr} {ifs : List Expr} {scope : Scope} {pos py spos : Pos} {wi : TI} {g : TG} {tif : TT} {te : TE} {N' : List Str} {js : List (Option Nat)} (hN : X.N.Nodup) (hi' : X.N[i]? = some y) (hx : Loc X.env.scope y)
   (hok : zmj scope X.env.scope N' X.N js = true) (hc : X.calm = true)
   (hi : PI X target iter wi) (ho : zye js g) (hg : ∀ C s H fp, PG (zdv X N' scope C s H fp) target g) (hif : ∀ C s H fp, PIf (zdv X N' scope C s H fp) ifs tif) (he : ∀ C s H fp, PE (zdv X N' scope C s H fp) elt te)
   (hsw : swapsWith (.ListComp elt [⟨target, iter, ifs, 0⟩] scope pos) (some (.Name y py)) spos.line X.env = pure true)
   (hs : ∀ x, foldedSetIterable iter X.env x = pure x := by intro _; rfl) (hf : X.fn y = true \/ X.env.scope.names.lookup y = some .local := by first | exact .inl rfl | exact .inr rfl | assumption) :
   PS X (.Assign [.Name y py] (.ListComp elt [⟨target, iter, ifs, 0⟩] scope pos) spos) (zyz (zux wi g tif te js) (zrk i)) := by
 intro pins s σ H D I h
 rw [exec_Assign_Name_used _ _ _ _ hsw]
 refine wpAny_bind (wpAny_standAt (wpAny_bind ?_))
 show wpAny _ X.A (do let _ <- comprehension (.ListComp elt [⟨target, iter, ifs, 0⟩] scope pos) scope X.env _ (newList []) false (eval iter X.env) (some (assign (.Name y py) X.env))) _ _ s
 refine wpAny_bind (thn (zlw (use := some (assign (.Name y py) X.env)) (Q' := λ _ s' => SP X pins D .next s') hok hc hi ho hg hif he hs I h λ s2 H2 fp C I2 f2 hCle σ' H' s' J q => ?_) λ _ s' q => ?_)
 . obtain ⟨m, hn, _⟩ := J.loc
   have I3 : Inv X pins σ H' s' := I2.call' (ch := fp) J.os J.base J.hok J.bare λ b hb => ⟨(f2 b hb).2.2.2.1, (f2 b hb).2.1, (f2 b hb).2.2.2.2.1, (f2 b hb).2.2.2.2.2⟩
   have hCL : C ≠ X.env.locals := λ z => absurd (Nat.lt_of_lt_of_le I2.lt hCle) (by rw [z]; exact Nat.lt_irrefl _)
   have hCc : ∀ x c, X.env.cells.lookup x = some c -> c ≠ C := λ x c e z => by
     obtain ⟨v, ob, ho, _⟩ := I2.cell x c e
     exact absurd (Nat.lt_of_lt_of_le (Heap.lt_size ho) hCle) (by rw [z]; exact Nat.lt_irrefl _)
   have hCp : ∀ p ∈ X.pn ++ pins, p.1 ≠ C := λ p hp z => by
     have e := (I2.pin p hp).1
     exact absurd (Nat.lt_of_lt_of_le (Heap.lt_size e) hCle) (by rw [z]; exact Nat.lt_irrefl _)
   show wpAny _ X.A (assign (.Name y py) X.env (.ref s2.heap.objs.size)) _ _ s'
   refine wpAny_assign_Name (zl6 I3 hN hi' hx (v := .ref s2.heap.objs.size) rfl (λ s'' I4 ⟨a, hsb, ha⟩ => ?_) hf)
   have hna : C ≠ a := by
     rcases ha with z | z
     . rw [z]; exact hCL
     . exact (hCc _ _ z).symm
   refine ⟨m, hn.sameBut hsb hna, λ h' hs' => ⟨_, H', ?_, q⟩⟩
   exact I4.turned (t' := s''.toks) (h' := h') (it := C) (λ b o hb e => (hs'.2 b hb).trans e) J.free hCL (.inr (Nat.le_trans I2.sz hCle)) hCc hCp
 . exact wpAny_pure (wpAny_pure q)
end L2
namespace L2
open PySem PySem.Spec PyProof.Rows
section
variable {g : TG} {tif : TT} {te : TE} {js : List (Option Nat)} {σ : St} {H : Hp} {Q : VK}
def zvh (g : TG) (tif : TT) (te : TE) (σ : St) (p : Addr) (acc : List V) (N : List V -> Hp -> Prop) (x : V) (H : Hp) : Prop :=
 g x σ H λ σ2 H3 => tif σ2 H3 λ c H4 => if c = true then te σ2 H4 λ y H5 => H5 p = some (.lst acc) /\ N (acc ++ [y]) (upd H5 p (.lst (acc ++ [y]))) else N acc H4
theorem zpo {lo : Int} {n : Nat} {p : Addr} (hn : n <= 1000000) (Pv : Nat -> List V -> Hp -> Prop) (h0 : Pv 0 [] (upd H p (.lst [])))
   (hl : ∀ i acc H2, i <= n -> Pv i acc H2 -> H2 p = some (.lst acc) /\ acc.length <= i)
   (hs : ∀ i acc H2, i < n -> Pv i acc H2 -> zvh g tif te (cap js σ) p acc (Pv (i + 1)) (.int (lo + i)) H2) (hd : ∀ acc H2, Pv n acc H2 -> Q (.ref p) H2) :
   zpb (Itr lo n) g tif te js σ Q p H := by
 refine ⟨λ i m acc H => m = n - i /\ i <= n /\ Pv i acc H, ⟨n, by simp, Nat.zero_le _, h0⟩, ?_⟩
 rintro i m acc H2 ⟨rfl, hi, q⟩
 obtain ⟨q1, q2⟩ := hl i acc H2 hi q
 refine ⟨q1, ?_⟩
 by_cases hlt : i < n
 . refine .inr ⟨hlt, ?_, Pv (i + 1), λ acc' H' p' => ⟨n - (i + 1), by omega, rfl, hlt, p'⟩, λ x H' y => ?_⟩
   . have : (1000000 : Nat) < sizeLine := by decide
     omega
   . obtain ⟨e, y⟩ := y
     subst e y
     exact hs i acc _ hlt q
 . have e : i = n := by omega
   subst e
   exact .inl ⟨Nat.le_refl _, hd acc H2 q⟩
theorem ziv {K : W.Frag} {a : Addr} {xs : List V} {p : Addr} (hn : xs.length <= 1000000) (Pv : Nat -> List V -> Hp -> Prop) (h0 : Pv 0 [] (upd H p (.lst [])))
   (hl : ∀ i acc H2, i <= xs.length -> Pv i acc H2 -> H2 p = some (.lst acc) /\ acc.length <= i /\ SqL K H2 a xs)
   (hs : ∀ i x acc H2, xs[i]? = some x -> Pv i acc H2 -> zvh g tif te (cap js σ) p acc (Pv (i + 1)) x H2) (hd : ∀ acc H2, Pv xs.length acc H2 -> Q (.ref p) H2) :
   zpb (Itl K a) g tif te js σ Q p H := by
 refine ⟨λ i m acc H => m = xs.length - i /\ i <= xs.length /\ Pv i acc H, ⟨xs.length, by simp, Nat.zero_le _, h0⟩, ?_⟩
 rintro i m acc H2 ⟨rfl, hi, q⟩
 obtain ⟨q1, q2, q3⟩ := hl i acc H2 hi q
 refine ⟨q1, ?_⟩
 by_cases hlt : i < xs.length
 . refine .inr ⟨⟨xs, xs[i], q3, by simp [hlt]⟩, ?_, Pv (i + 1), λ acc' H' p' => ⟨xs.length - (i + 1), by omega, rfl, hlt, p'⟩, λ x H' y => ?_⟩
   . have : (1000000 : Nat) < sizeLine := by decide
     omega
   . obtain ⟨e, y⟩ := y
     subst e
     exact hs i x acc _ (y xs q3) q
 . have e : i = xs.length := by omega
   subst e
   exact .inl ⟨⟨xs, q3, Nat.le_refl _⟩, hd acc H2 q⟩
theorem zsq {K : W.Frag} {a : Addr} {xs : List V} {p : Addr} (hn : xs.length <= 1000000) (Pv : Nat -> List V -> Hp -> Prop) (h0 : Pv 0 [] (upd H p (.lst [])))
   (hl : ∀ i acc H2, i <= xs.length -> Pv i acc H2 -> H2 p = some (.lst acc) /\ acc.length <= i /\ SqT K H2 a xs)
   (hs : ∀ i x acc H2, xs[i]? = some x -> Pv i acc H2 -> zvh g tif te (cap js σ) p acc (Pv (i + 1)) x H2) (hd : ∀ acc H2, Pv xs.length acc H2 -> Q (.ref p) H2) :
   zpb (Itt K a) g tif te js σ Q p H := by
 refine ⟨λ i m acc H => m = xs.length - i /\ i <= xs.length /\ Pv i acc H, ⟨xs.length, by simp, Nat.zero_le _, h0⟩, ?_⟩
 rintro i m acc H2 ⟨rfl, hi, q⟩
 obtain ⟨q1, q2, q3⟩ := hl i acc H2 hi q
 refine ⟨q1, ?_⟩
 by_cases hlt : i < xs.length
 . refine .inr ⟨⟨xs, xs[i], q3, by simp [hlt]⟩, ?_, Pv (i + 1), λ acc' H' p' => ⟨xs.length - (i + 1), by omega, rfl, hlt, p'⟩, λ x H' y => ?_⟩
   . have : (1000000 : Nat) < sizeLine := by decide
     omega
   . obtain ⟨e, y⟩ := y
     subst e
     exact hs i x acc _ (y xs q3) q
 . have e : i = xs.length := by omega
   subst e
   exact .inl ⟨⟨xs, q3, Nat.le_refl _⟩, hd acc H2 q⟩
end
section
variable {X : Cx}
theorem zpa {h : Heap} {sl : Addr} {vl vu : Value} {lo hi : Option Int} (hs : h.IsSliceOf sl vl vu .none) (pl : IsPart vl lo) (pu : IsPart vu hi) : ∃ l u : Option (Int × Tok), l.map (·.1) = lo /\ u.map (·.1) = hi /\ h.IsSlice sl l u none := by
 obtain ⟨o, ho, hc, hd⟩ := hs
 cases pl with
 | none =>
   cases pu with
   | none => exact ⟨none, none, rfl, rfl, o, ho, hc, hd⟩
   | int j t => exact ⟨none, some (j, t), rfl, rfl, o, ho, hc, hd⟩
 | int i t =>
   cases pu with
   | none => exact ⟨some (i, t), none, rfl, rfl, o, ho, hc, hd⟩
   | int j t' => exact ⟨some (i, t), some (j, t'), rfl, rfl, o, ho, hc, hd⟩
def rSlS : V -> Option Int -> Option Int -> Hp -> VK -> Prop := λ x lo hi H Q => ∃ z, x = .str z /\ z.length <= sizeLine /\ Q (.str (Txt.slice z lo hi)) H
theorem zut : SlR X rSlS := by
 intro pins s σ H x v vl vu lo hi sl Q I rx hs pl pu h
 obtain ⟨z, rfl, hz, q⟩ := h
 obtain ⟨t, rfl⟩ := rx
 obtain ⟨l, u, rfl, rfl, hsl⟩ := zpa hs pl pu
 refine ⟨"str", _, F.slot_str_getitem.lookup, typeIs_str _ _ _, wpAny_getItem_str_slice (l := l) (u := u) (st := none) hsl rfl
   (post_val_or_str ⟨Nat.le_trans (Txt.slice_le z _ _) hz, λ t' k => ⟨.str (Txt.slice z (l.map (·.1)) (u.map (·.1))), H, I.tok _, ⟨_, rfl⟩, q⟩⟩)⟩
theorem zvu {ys : List Str} : ∀ {us : List Value}, zcm (ys.map V.str) us -> StrsAre us ys := by
 induction ys with
 | nil => intro us h; cases h; exact .nil
 | cons y r ih =>
   intro us h
   cases h with
   | cons r1 h =>
     obtain ⟨t, rfl⟩ := r1
     exact .cons y t (ih h)
def zy5 (K : W.Frag) : V -> List V -> Hp -> VK -> Prop := λ x xs H Q => ∃ sep p ys, x = .str sep /\ xs = [.ref p] /\ SqL K H p (ys.map V.str) /\ (ys.map (·.length)).sum + ys.length * sep.length <= 16777216 /\ Q (.str (Txt.join sep ys)) H
theorem zu0 : MtR X "str.join" (zy5 X.K) := by
 intro pins s σ H x xs v us Q I rx r h
 obtain ⟨sep, p, ys, rfl, rfl, hp, hl, q⟩ := h
 obtain ⟨t, rfl⟩ := rx
 obtain ⟨u, rfl, ru⟩ := zlx r
 cases (show u = Value.ref p from ru)
 obtain ⟨its, rv, pl, hz⟩ := I.list hp
 exact join_list pl.isList (by simpa using zvu rv) hl λ t' k => ⟨.str (Txt.join sep ys), H, I.tok _, ⟨_, rfl⟩, q⟩
theorem zcu : zjn X (.builtin "isinstance") (λ xs H Q => ∃ x c t b, xs = [x, .ty c] /\ TyOf X.K H x t /\ PySem.W.kitOne X.K t (.type c) = some b /\ Q (.bl b) H) := by
 intro pins s σ H xs us Q I r h
 obtain ⟨x, c, t, b, rfl, ty, hk, q⟩ := h
 obtain ⟨u, w', rfl, rx, rc⟩ := zw9 r
 cases (show w' = Value.type c from rc)
 exact zr2 I rx ty hk λ tk => ⟨.bl b, H, I.tok _, rfl, q⟩
end
def zxw : Expr -> Option V
 | .Constant (.str x) _ _ => some (.str x)
 | .Constant (.int i) _ _ => some (.int i)
 | .Constant (.bool b) _ _ => some (.bl b)
 | .Constant .none _ _ => some .non
 | _ => none
def zo7 : List Expr -> Option (List V)
 | [] => some []
 | e :: r => match zxw e, zo7 r with
   | some v, some vs => some (v :: vs)
   | _, _ => none
theorem zxt {X : Cx} {e : Expr} {v : V} (h : zxw e = some v) : PE X e (tC v) := by
 unfold zxw at h
 split at h
 . cases h; exact zav
 . cases h; exact zae
 . cases h; exact zh1
 . cases h; exact zfo
 . cases h
theorem zs0 {X : Cx} {e : Expr} {es : List Expr} {v : V} (h : zxw e = some v) : starEach (e :: es) X.env = (false, eval e X.env) :: starEach es X.env := by
 unfold zxw at h
 split at h <;> first | rfl | cases h
theorem zq5 {X : Cx} : ∀ {es : List Expr} {vs : List V}, zo7 es = some vs -> PA X es (λ _ H Q => Q vs H)
 | [], vs, h => by
   cases h
   exact zag
 | e :: r, vs, h => by
   unfold zo7 at h
   split at h
   . rename_i v vs' h1 h2
     cases h
     exact zaa (zxt h1) (zq5 h2) (zs0 h1)
   . cases h
theorem zak.tup {K : W.Frag} {H H' : Hp} {a : Addr} {xs : List V} (e : zak H H') (h : SqT K H a xs) : SqT K H' a xs := by
 rcases h with (h | ⟨o, h⟩) | h
 . exact .inl (.inl (e _ _ h))
 . exact .inl (.inr ⟨o, e _ _ h⟩)
 . exact .inr h
theorem zak.new {H : Hp} {p : Addr} {o : HO} (h : H p = none) : zak H (upd H p o) := λ b u e => by
 rw [zaf (zbg e h)]
 exact e
theorem zak.upd {H H' : Hp} {p : Addr} {o : HO} (e : zak H H') (h : H p = none) : zak H (upd H' p o) := λ b u q => by
 rw [zaf (zbg q h)]
 exact e b u q
end L2
namespace L2
open PySem PySem.Spec PyProof.Rows
structure DefOk (K : W.Frag) (mg : Str -> Option Value) (name : Str) (st : Stmt) (ps : List Str) (f : Addr) (fd : FuncData) : Prop where
 F : Fun K name name st f fd
 g : mg name = some (.ref f)
 b : zg7 K fd ps []
section
variable {X : Cx} {k : Nat} {f : Addr} {fd : FuncData} {ps : List Str} {sp : Sp} {x : Str} {st : Stmt} {p pos : Pos} {e : Expr} {es : List Expr} {t : TA}
theorem zcr (D : DefOk X.K X.mg x st ps f fd) (G : FnOk X.prog X.w X.K X.mg X.base CX0 k f fd ps sp) (hr : Room k X.A) (ha : PA X (e :: es) t) (hg : Gl X x := by rfl)
   (hdb : (x == ("__debug__" : Str)) = false := by decide) (he : starEach (e :: es) X.env = (false, eval e X.env) :: starEach es X.env := by rfl) (hpl : (backTo pos (starEach es X.env)).any (·.1) = false := by rfl) :
   PE X (.Call (.Name x p) (e :: es) [] pos) (zvd sp [] E0 t) := zva G hr hg D.g D.F.kp D.b .nil zcb ha hdb he hpl
theorem zm5 {z : Int} (h : ∃ t, X.mg x = some (.int z t)) (hg : Gl X x := by rfl) (hd : (x == ("__debug__" : Str)) = false := by decide) : PE X (.Name x pos) (tC (.int z)) := by
 obtain ⟨t, h⟩ := h
 exact znh hg h ⟨t, rfl⟩ hd
theorem zlc {a : Addr} (h : X.mg x = some (.ref a)) (hg : Gl X x := by rfl) (hd : (x == ("__debug__" : Str)) = false := by decide) : PE X (.Name x pos) (tC (.ref a)) := znh hg h rfl hd
end
theorem zbr {K : W.Frag} {mg : Str -> Option Value} {h : Heap} {name : Str} {st : Stmt} {ps : List Str} {f : Addr} {oc : Value} {od an : Option Addr} {osl : Array (Option Value)} {kV doc pm cdv ct : Value} (X : K.In h) (G : h.Ns mainGlobals mg)
   (a : PySem.W.nsIn K mainGlobals name = some (some (.ref f))) (l : K.lookup f = some ⟨oc, od, .func (PySem.W.fnOf name name (zaj st) (zai st) (zac st) .none kV doc pm an cdv ct), osl⟩) (c : PySem.W.codeIn K cdv name = true) (k : PySem.W.keepIn K (.ref f) = true)
   (b : ∀ (kV doc pm : Value) (an : Option Addr) (cdv ct : Value) (us : List Value), us.length = ps.length -> bindArgs (PySem.W.fnOf name name (zaj st) (zai st) (zac st) .none kV doc pm an cdv ct) ⟨us, []⟩ = pure (ps.zip us)) :
   DefOk K mg name st ps f (PySem.W.fnOf name name (zaj st) (zai st) (zac st) .none kV doc pm an cdv ct) :=
 ⟨zif l c k, PySem.W.mg_of X G a, (zif l c k).binds b⟩
theorem zio {α : Type} {xs : List α} {i : Int} (h0 : 0 <= i) (h1 : i < xs.length) : ∃ v, atI xs i = some v /\ v ∈ xs := by
 have hi : i.toNat < xs.length := by omega
 refine ⟨xs[i.toNat], ?_, List.getElem_mem hi⟩
 have := zen (xs := xs) (j := i.toNat) (v := xs[i.toNat]) (by simp [hi])
 have e : ((i.toNat : Nat) : Int) = i := by omega
 rwa [e] at this
theorem zvt {ns : List Int} {i : Int} (h0 : 0 <= i) (h1 : i < ns.length) : ∃ z, atI (ns.map V.int) i = some (.int z) := by
 obtain ⟨v, e, hv⟩ := zio (xs := ns.map V.int) h0 (by rw [List.length_map]; exact h1)
 obtain ⟨z, _, rfl⟩ := List.mem_map.mp hv
 exact ⟨z, e⟩
theorem za7 {p : Prop} [Decidable p] (h : decide p = true) : p := of_decide_eq_true h
end L2
namespace L2
open PySem PySem.Spec PyProof.Rows
theorem zeu {c A B : Prop} [Decidable c] (hc : c) (h : A) : if c then A else B := by
 rw [if_pos hc]
 exact h
theorem zco {c A B : Prop} [Decidable c] (hc : ¬ c) (h : B) : if c then A else B := by
 rw [if_neg hc]
 exact h
end L2
namespace L2
open PySem
theorem zfp : bootBuiltins "len" = some (.builtin "len") := by decide +kernel
theorem zb4 : bootBuiltins "isinstance" = some (.builtin "isinstance") := by decide +kernel
theorem zx9 : bootBuiltins "max" = some (.builtin "max") := by decide +kernel
theorem zop : bootBuiltins "str" = some (.type "str") := by decide +kernel
theorem zow : bootBuiltins "int" = some (.type "int") := by decide +kernel
theorem zrm : bootBuiltins "bool" = some (.type "bool") := by decide +kernel
theorem zf7 : bootBuiltins "list" = some (.type "list") := by decide +kernel
theorem zky : bootBuiltins "tuple" = some (.type "tuple") := by decide +kernel
theorem zr8 : bootBuiltins "dict" = some (.type "dict") := by decide +kernel
theorem zmr : bootBuiltins "enumerate" = some (.type "enumerate") := by decide +kernel
theorem zxe : bootBuiltins "zip" = some (.type "zip") := by decide +kernel
theorem zwr {b : Bool} (h : b = false) : ¬ b = true := by rw [h]; decide
end L2
namespace L2
open PySem PySem.Spec PyProof.Rows
mutual
def zev (K : W.Frag) (H : Hp) : PyData -> V -> Prop
 | .none, v => v = .non
 | .bool b, v => v = .bl b
 | .int i, v => v = .int i
 | .str x, v => v = .str x
 | .list ds, v => ∃ a xs, v = .ref a /\ SqL K H a xs /\ zb6 K H ds xs
 | .tuple ds, v => ∃ a xs, v = .ref a /\ SqT K H a xs /\ zb6 K H ds xs
 | .dict _, _ => False
def zb6 (K : W.Frag) (H : Hp) : List PyData -> List V -> Prop
 | [], xs => xs = []
 | d :: ds, xs => ∃ x r, xs = x :: r /\ zev K H d x /\ zb6 K H ds r
end
section
variable {X : Cx} {pins : List (Addr × Obj)} {σ : St} {H : Hp} {s : Shared}
mutual
theorem zhm (I : Inv X pins σ H s) : ∀ (d : PyData) (v : V) (u : Value), zev X.K H d v -> zcw v u -> ∃ as, Reads s.heap u d as
 | .none, v, u, h, r => by
   unfold zev at h
   subst h
   cases (show u = Value.none from r)
   exact ⟨_, .none⟩
 | .bool b, v, u, h, r => by
   unfold zev at h
   subst h
   cases (show u = Value.bool b from r)
   exact ⟨_, .bool b⟩
 | .int i, v, u, h, r => by
   unfold zev at h
   subst h
   obtain ⟨t, rfl⟩ := (show ∃ t, u = Value.int i t from r)
   exact ⟨_, .int i t⟩
 | .str x, v, u, h, r => by
   unfold zev at h
   subst h
   obtain ⟨t, rfl⟩ := (show ∃ t, u = Value.str x t from r)
   exact ⟨_, .str x t⟩
 | .list ds, v, u, h, r => by
   unfold zev at h
   obtain ⟨a, xs, rfl, hq, hd⟩ := h
   cases (show u = Value.ref a from r)
   obtain ⟨its, rv, ⟨o, n, ho, hc, _, hdt⟩, _⟩ := I.list hq
   obtain ⟨as, ra⟩ := zg3 I ds xs its hd rv
   exact ⟨_, .list ho hc hdt (by simpa using ra)⟩
 | .tuple ds, v, u, h, r => by
   unfold zev at h
   obtain ⟨a, xs, rfl, hq, hd⟩ := h
   cases (show u = Value.ref a from r)
   obtain ⟨its, rv, ⟨o, ho, hc, n, hdt⟩, _⟩ := I.tuple hq
   obtain ⟨as, ra⟩ := zg3 I ds xs its hd rv
   exact ⟨_, .tuple ho hc hdt (by simpa using ra)⟩
 | .dict _, v, u, h, r => by
   unfold zev at h
   exact h.elim
theorem zg3 (I : Inv X pins σ H s) : ∀ (ds : List PyData) (xs : List V) (us : List Value), zb6 X.K H ds xs -> zcm xs us -> ∃ as, ReadsAll s.heap us ds as
 | [], xs, us, h, r => by
   unfold zb6 at h
   subst h
   cases r
   exact ⟨_, .nil⟩
 | d :: ds, xs, us, h, r => by
   unfold zb6 at h
   obtain ⟨x, rest, rfl, hd, hds⟩ := h
   cases r with
   | cons r1 r2 =>
     obtain ⟨as, ra⟩ := zhm I d _ _ hd r1
     obtain ⟨bs, rb⟩ := zg3 I ds _ _ hds r2
     exact ⟨_, .cons ra rb⟩
end
end
def rEqD (K : W.Frag) : R2 := λ x y H Q => ∃ d e, zev K H d x /\ zev K H e y /\ SeqAt.shaped d = true /\ SeqAt.shaped e = true /\ Q (.bl (PyData.eqv d e)) H
def rNeD (K : W.Frag) : R2 := λ x y H Q => ∃ d e, zev K H d x /\ zev K H e y /\ SeqAt.shaped d = true /\ SeqAt.shaped e = true /\ Q (.bl (!PyData.eqv d e)) H
theorem zwv {X : Cx} (hu : X.A.units + 64 < cLine) : OpR X (compareOp .Eq) (rEqD X.K) := by
 intro pins s σ H x y v u Q I rx ry h
 obtain ⟨d, e, hd, he, sd, se, q⟩ := h
 obtain ⟨as, ra⟩ := zhm I d x v hd rx
 obtain ⟨bs, rb⟩ := zhm I e y u he ry
 exact SeqAt.compareEq_shaped ra rb sd se hu ⟨.bl _, H, I, rfl, q⟩
theorem zq9 {X : Cx} (hu : X.A.units + 64 < cLine) : OpR X (compareOp .NotEq) (rNeD X.K) := by
 intro pins s σ H x y v u Q I rx ry h
 obtain ⟨d, e, hd, he, sd, se, q⟩ := h
 obtain ⟨as, ra⟩ := zhm I d x v hd rx
 obtain ⟨bs, rb⟩ := zhm I e y u he ry
 exact SeqAt.compareNe_shaped ra rb sd se hu ⟨.bl _, H, I, rfl, q⟩
end L2
namespace L2
open PySem PySem.Spec PyProof.Rows
theorem zn4 {X : Cx} : OpR X (binaryOp .FloorDiv) (rI (λ _ j => 0 < j /\ j < 2 ^ 64) λ i j => .int (i / j)) := opI λ i j _ _ _ _ _ hc q => by
 have h1 : (0 : Int) < j := hc.1
 have h2 : j < 2 ^ 64 := hc.2
 refine floordiv_int (by omega) (by rw [Int.fdiv_eq_ediv_of_nonneg i (by omega)]; exact q) (.inl (PyProof.noPylong_of_log2 ?_))
 have h0 : j.natAbs ≠ 0 := by omega
 refine Nat.lt_trans (m := 64) ((Nat.log2_lt h0).mpr ?_) (by decide)
 have : (2 : Int) ^ 64 = ((2 ^ 64 : Nat) : Int) := by decide
 omega
end L2
namespace L2
open PySem PySem.Spec PyProof.Rows
section
variable {κ : Type} [DecidableEq κ]
def zc2 (kvs : List (κ × V)) (k : κ) : Option V := (kvs.find? λ kv => decide (kv.1 = k)).map (·.2)
def zbu (kvs : List (κ × V)) (k : κ) (v : V) : List (κ × V) :=
 if (kvs.any λ kv => decide (kv.1 = k)) = true then kvs.map (λ kv => if kv.1 = k then (kv.1, v) else kv) else kvs ++ [(k, v)]
theorem zdq {p : κ × V} {r : List (κ × V)} {k : κ} (e : p.1 = k) : zc2 (p :: r) k = some p.2 := by simp [zc2, List.find?_cons, e]
theorem zdr {p : κ × V} {r : List (κ × V)} {k : κ} (e : ¬ p.1 = k) : zc2 (p :: r) k = zc2 r k := by simp [zc2, List.find?_cons, e]
theorem zgj (k : κ) : ∀ kvs : List (κ × V), (kvs.any λ kv => decide (kv.1 = k)) = (zc2 kvs k).isSome
 | [] => rfl
 | p :: r => by
   rw [List.any_cons]
   by_cases e : p.1 = k
   . simp only [zdq e, decide_eq_true e, Bool.true_or, Option.isSome_some]
   . rw [zdr e, decide_eq_false e, Bool.false_or]; exact zgj k r
theorem zok (k j : κ) (y : V) : ∀ kvs : List (κ × V), zc2 (kvs.map λ kv => if kv.1 = k then (kv.1, y) else kv) j = (zc2 kvs j).map λ x => if j = k then y else x
 | [] => rfl
 | p :: r => by
   have ih := zok k j y r
   rw [List.map_cons]
   by_cases h : p.1 = k
   . rw [if_pos h]
     by_cases e : p.1 = j
     . rw [zdq (p := (p.1, y)) e, zdq e, Option.map_some, if_pos (e.symm.trans h)]
     . rw [zdr (p := (p.1, y)) e, zdr e, ih]
   . rw [if_neg h]
     by_cases e : p.1 = j
     . rw [zdq (p := p) e, zdq e, Option.map_some, if_neg (λ z => h (e.trans z))]
     . rw [zdr (p := p) e, zdr e, ih]
theorem zle (k j : κ) (y : V) : ∀ kvs : List (κ × V), zc2 kvs k = none -> zc2 (kvs ++ [(k, y)]) j = if j = k then some y else zc2 kvs j
 | [], _ => by
   by_cases e : k = j
   . rw [if_pos e.symm]; exact zdq (p := (k, y)) e
   . rw [if_neg (λ z => e z.symm)]; exact zdr (p := (k, y)) e
 | p :: r, hn => by
   rw [List.cons_append]
   have hk : ¬ p.1 = k := λ z => by rw [zdq z] at hn; cases hn
   rw [zdr hk] at hn
   have ih := zle k j y r hn
   by_cases e : p.1 = j
   . rw [zdq e, zdq e, if_neg (λ z => hk (e.trans z))]
   . rw [zdr e, zdr e, ih]
theorem zcq (kvs : List (κ × V)) (k j : κ) (y : V) : zc2 (zbu kvs k y) j = if j = k then some y else zc2 kvs j := by
 unfold zbu
 by_cases a : (kvs.any λ kv => decide (kv.1 = k)) = true
 . rw [if_pos a, zok]
   rw [zgj] at a
   by_cases e : j = k
   . obtain ⟨x, hx⟩ := Option.isSome_iff_exists.mp a
     rw [if_pos e, e, hx, Option.map_some, if_pos rfl]
   . rw [if_neg e]
     cases zc2 kvs j with
     | none => rfl
     | some x => rw [Option.map_some, if_neg e]
 . rw [if_neg a]
   refine zle k j y kvs ?_
   rw [zgj] at a
   cases q : zc2 kvs k with
   | none => rfl
   | some x => rw [q] at a; exact (a rfl).elim
theorem za2 (kvs : List (κ × V)) (k : κ) (v : V) : (zbu kvs k v).length <= kvs.length + 1 := by
 unfold zbu
 split
 . rw [List.length_map]; omega
 . rw [List.length_append, List.length_cons, List.length_nil]; omega
theorem zn0 {kvs : List (κ × V)} {k : κ} (v : V) (h : zc2 kvs k = none) : zbu kvs k v = kvs ++ [(k, v)] := by
 unfold zbu
 rw [zgj, h]
 exact if_neg (by decide)
theorem zk9.isSome_eq {o : Option V} {u : Option Value} (r : zk9 o u) : o.isSome = u.isSome := by
 cases o with
 | none => cases u with
   | none => rfl
   | some _ => exact (show False from r).elim
 | some _ => cases u with
   | none => exact (show False from r).elim
   | some _ => rfl
theorem zk9.getD {o : Option V} {u : Option Value} {d : V} {d' : Value} (r : zk9 o u) (rd : zcw d d') : zcw (o.getD d) (u.getD d') := by
 cases o with
 | none => cases u with
   | none => exact rd
   | some _ => exact (show False from r).elim
 | some _ => cases u with
   | none => exact (show False from r).elim
   | some _ => exact r
theorem KV.val {kvs : List (κ × V)} {vs : List (κ × Value)} (r : KV kvs vs) (k : κ) : zk9 (zc2 kvs k) (valueAt vs k) := by
 unfold KV at r
 induction r with
 | nil => exact True.intro
 | @cons p q ps qs h t ih =>
   obtain ⟨h1, h2⟩ := h
   by_cases e : p.1 = k
   . have e' : q.1 = k := h1.symm.trans e
     have b : valueAt (q :: qs) k = some q.2 := by simp [valueAt, List.find?_cons, e']
     rw [zdq e, b]; exact h2
   . have e' : ¬ q.1 = k := λ z => e (h1.trans z)
     have b : valueAt (q :: qs) k = valueAt qs k := by simp [valueAt, List.find?_cons, e']
     rw [zdr e, b]; exact ih
theorem KV.any {kvs : List (κ × V)} {vs : List (κ × Value)} (r : KV kvs vs) (k : κ) : (kvs.any λ kv => decide (kv.1 = k)) = vs.any λ kv => decide (kv.1 = k) := by
 unfold KV at r
 induction r with
 | nil => rfl
 | cons h t ih => rw [List.any_cons, List.any_cons, ih, h.1]
theorem KV.repl {kvs : List (κ × V)} {vs : List (κ × Value)} (r : KV kvs vs) (k : κ) {y : V} {u : Value} (ry : zcw y u) :
   KV (kvs.map λ kv => if kv.1 = k then (kv.1, y) else kv) (vs.map λ kv => if kv.1 = k then (kv.1, u) else kv) := by
 unfold KV at r ⊢
 induction r with
 | nil => exact .nil
 | @cons p q ps qs h t ih =>
   rw [List.map_cons, List.map_cons]
   refine .cons ?_ ih
   obtain ⟨h1, h2⟩ := h
   by_cases e : p.1 = k
   . rw [if_pos e, if_pos (h1.symm.trans e)]; exact ⟨h1, ry⟩
   . rw [if_neg e, if_neg (λ z => e (h1.trans z))]; exact ⟨h1, h2⟩
theorem KV.put {kvs : List (κ × V)} {vs : List (κ × Value)} (r : KV kvs vs) (k : κ) {y : V} {u : Value} (ry : zcw y u) : KV (zbu kvs k y) (stored vs k u) := by
 unfold zbu stored
 rw [r.any k]
 by_cases e : (vs.any λ kv => decide (kv.1 = k)) = true
 . rw [if_pos e, if_pos e]; exact r.repl k ry
 . rw [if_neg e, if_neg e]; exact Paired.snoc r ⟨rfl, ry⟩
theorem KV.length {kvs : List (κ × V)} {vs : List (κ × Value)} (r : KV kvs vs) : kvs.length = vs.length := Paired.length r
end
theorem zmh {P : Program} {w : World} {k : Key} {u : Value} (r : zcw (kV k) u) : (zbh P w).is k u = true := by
 cases k with
 | inl i => obtain ⟨t, e⟩ := (show ∃ t, u = Value.int i t from r); subst e; exact zm9 P w i t
 | inr x => obtain ⟨t, e⟩ := (show ∃ t, u = Value.str x t from r); subst e; exact znr P w x t
theorem zl8 {P : Program} {w : World} : ∀ {ks : List Key} {us : List Value}, zcm (ks.map kV) us -> ItemsAre (zbh P w) ks us
 | [], _, r => by rw [List.map_nil] at r; cases r; exact .nil
 | k :: ks, _, r => by
   rw [List.map_cons] at r
   cases r with
   | cons h t => exact .cons (zmh h) (zl8 t)
abbrev KT (H : Hp) : List (List Key × V) -> List (List Key × Addr × Value) -> Prop := Paired λ p q => p.1 = q.1 /\ H q.2.1 = some (.tup (p.1.map kV)) /\ zcw p.2 q.2.2
theorem KT.val {H : Hp} {kvs : List (List Key × V)} {xs : List (List Key × Addr × Value)} (r : KT H kvs xs) (k : List Key) : zk9 (zc2 kvs k) ((atKey xs k).map (·.2)) := by
 induction r with
 | nil => exact True.intro
 | @cons p q ps qs h t ih =>
   obtain ⟨h1, _, h2⟩ := h
   by_cases e : p.1 = k
   . have e' : q.1 = k := h1.symm.trans e
     have b : atKey (q :: qs) k = some q.2 := by simp [atKey, List.find?_cons, e']
     rw [zdq e, b]; exact h2
   . have e' : ¬ q.1 = k := λ z => e (h1.trans z)
     have b : atKey (q :: qs) k = atKey qs k := by simp [atKey, List.find?_cons, e']
     rw [zdr e, b]; exact ih
theorem KT.repl {H : Hp} {kvs : List (List Key × V)} {xs : List (List Key × Addr × Value)} (r : KT H kvs xs) (k : List Key) {y : V} {u : Value} (ry : zcw y u) :
   KT H (kvs.map λ kv => if kv.1 = k then (kv.1, y) else kv) (xs.map (putAt k u)) := by
 induction r with
 | nil => exact .nil
 | @cons p q ps qs h t ih =>
   rw [List.map_cons, List.map_cons]
   refine .cons ?_ ih
   obtain ⟨h1, h2, h3⟩ := h
   unfold putAt
   by_cases e : p.1 = k
   . rw [if_pos e, if_pos (h1.symm.trans e)]; exact ⟨h1, h2, ry⟩
   . rw [if_neg e, if_neg (λ z => e (h1.trans z))]; exact ⟨h1, h2, h3⟩
theorem KT.put {H : Hp} {kvs : List (List Key × V)} {xs : List (List Key × Addr × Value)} (r : KT H kvs xs) (k : List Key) {b : Addr} {y : V} {u : Value} (hb : H b = some (.tup (k.map kV))) (ry : zcw y u) :
   KT H (zbu kvs k y) (storedH xs k b u) := by
 have e : (kvs.any λ kv => decide (kv.1 = k)) = (atKey xs k).isSome := by
   rw [zgj, (r.val k).isSome_eq, Option.isSome_map]
 unfold zbu storedH
 rw [e]
 by_cases q : (atKey xs k).isSome = true
 . rw [if_pos q, if_pos q]; exact r.repl k ry
 . rw [if_neg q, if_neg q]; exact Paired.snoc r ⟨rfl, hb, ry⟩
theorem KT.keeps {H H' : Hp} {kvs : List (List Key × V)} {xs : List (List Key × Addr × Value)} (r : KT H kvs xs) (ht : ∀ b ys, H b = some (.tup ys) -> H' b = some (.tup ys)) : KT H' kvs xs :=
 Paired.mapP r λ _ _ z => ⟨z.1, ht _ _ z.2.1, z.2.2⟩
section
variable {P : Program} {w : World} {H : Hp} {h : Heap} {a : Addr}
theorem zxy {u : HO} (ok : HOk P w H h) (e : Rd H a u) : zdu P w H h a u := e.ok ok
theorem zpi {kvs : List (Key × V)} (ok : HOk P w H h) (e : Rd H a (.dK kvs)) : kvs.length <= sizeLine /\ (a == sysModules) = false /\ ∃ vs, KV kvs vs /\ h.DictOf (zbh P w) a vs :=
 show zdu P w H h a (.dK kvs) from zxy ok e
theorem zqv {kvs : List (Key × V)} (ok : HOk P w H h) (e : H a = some (.dK kvs)) : kvs.length <= sizeLine /\ (a == sysModules) = false /\ ∃ vs, KV kvs vs /\ h.DictOf (zbh P w) a vs := zpi ok (.inl e)
theorem zmg {ks : List Key} (ok : HOk P w H h) (e : H a = some (.tup (ks.map kV))) : (tupleKind (zbh P w)).is h ks a := by
 obtain ⟨_, its, r, o, h1, h2, n, h3⟩ := (show zdu P w H h a (.tup (ks.map kV)) from ok a _ e)
 exact ⟨o, its.toArray, n, h1, h2, h3, by simpa using zl8 r⟩
theorem zps {kvs : List (List Key × V)} (ok : HOk P w H h) (e : Rd H a (.dT kvs)) : kvs.length <= sizeLine /\ (a == sysModules) = false /\
   ∃ xs, KT H kvs xs /\ h.DictOfH (tupleKind (zbh P w)) a xs := by
 obtain ⟨z, y, xs, r, o, es, ep, h1, h2, h3, h4, h5⟩ := (show zdu P w H h a (.dT kvs) from zxy ok e)
 refine ⟨z, y, xs, r, o, es, ep, h1, h2, h3, h4, λ x hx => ?_, h5⟩
 have all : ∀ {l : List (List Key × V)} {m : List (List Key × Addr × Value)}, KT H l m -> ∀ x ∈ m, (tupleKind (zbh P w)).is h x.1 x.2.1 := by
   intro l m q
   induction q with
   | nil => intro x hx; exact nomatch hx
   | @cons p q ps qs hq t ih =>
     intro x hx
     rcases List.mem_cons.mp hx with e | hx
     . subst e
       exact zmg ok (by rw [<- hq.1]; exact hq.2.1)
     . exact ih x hx
 exact all r x hx
theorem zy1 {kvs : List (List Key × V)} (ok : HOk P w H h) (e : H a = some (.dT kvs)) : kvs.length <= sizeLine /\ (a == sysModules) = false /\
   ∃ xs, KT H kvs xs /\ h.DictOfH (tupleKind (zbh P w)) a xs := zps ok (.inl e)
end
def zj9 (H : Hp) (a : Addr) (y : V) (r : Option V) : Prop :=
 (∃ kvs k, Rd H a (.dK kvs) /\ y = kV k /\ r = zc2 kvs k) \/ ∃ kvs k b, Rd H a (.dT kvs) /\ y = .ref b /\ H b = some (.tup (k.map kV)) /\ r = zc2 kvs k
def zi0 (H : Hp) (a : Addr) (y v : V) (H' : Hp) : Prop :=
 (∃ kvs k, H a = some (.dK kvs) /\ y = kV k /\ kvs.length < sizeLine /\ H' = upd H a (.dK (zbu kvs k v))) \/
 ∃ kvs k b, H a = some (.dT kvs) /\ y = .ref b /\ H b = some (.tup (k.map kV)) /\ kvs.length < sizeLine /\ H' = upd H a (.dT (zbu kvs k v))
theorem zj9.k {H : Hp} {a : Addr} {kvs : List (Key × V)} {k : Key} (e : H a = some (.dK kvs)) : zj9 H a (kV k) (zc2 kvs k) := .inl ⟨kvs, k, .inl e, rfl, rfl⟩
theorem zi0.k {H : Hp} {a : Addr} {kvs : List (Key × V)} {k : Key} {v : V} (e : H a = some (.dK kvs)) (hl : kvs.length < sizeLine) : zi0 H a (kV k) v (upd H a (.dK (zbu kvs k v))) := .inl ⟨kvs, k, e, rfl, hl, rfl⟩
section
variable {X : Cx} {pins : List (Addr × Obj)} {σ : St} {H : Hp} {s : Shared} {a : Addr} {y v : V} {u r : Value} {o : Option V} {A : Around} {E : Value -> Shared -> Prop}
theorem Inv.big (I : Inv X pins σ H s) : sysModules < s.heap.objs.size := by
 have h : mainGlobals < s.heap.objs.size := (I.mod.glob.keeps I.bk).lt
 exact Nat.lt_trans (by decide) h
theorem zrt {Q : Value -> Shared -> Prop} (hu : A.units + 1 < cLine) (I : Inv X pins σ H s) (g : zj9 H a y (some v)) (ry : zcw y u) (h : ∀ w' s', Inv X pins σ H s' -> zcw v w' -> Q w' s') :
   wpAny (model X.prog X.w) A (getItem (.ref a) u) Q E s := by
 rcases g with ⟨kvs, k, e, ey, l⟩ | ⟨kvs, k, b, e, ey, eb, l⟩
 . subst ey
   obtain ⟨z, hd, vs, rel, dd⟩ := zpi I.hok e
   obtain ⟨w', hw, rw'⟩ := zk9.some_of (v := v) (o := valueAt vs k) (by rw [l]; exact rel.val k)
   exact wpAny_getItem_of (zmh ry) dd.mapOf hw (h w' _ (I.tok _) rw')
 . subst ey
   cases (show u = Value.ref b from ry)
   obtain ⟨z, hd, xs, rel, dd⟩ := zps I.hok e
   obtain ⟨w', hw, rw'⟩ := zk9.some_of (v := v) (o := (atKey xs k).map (·.2)) (by rw [l]; exact rel.val k)
   obtain ⟨p, hp, hp2⟩ := Option.map_eq_some_iff.mp hw
   refine wpAny_getItem_heap (tupleKind_room_in1 hu) (zmg I.hok eb) dd hp ?_
   rw [hp2]
   exact h w' _ (I.tok _) rw'
theorem d_in {Q : Value -> Shared -> Prop} (hu : A.units + 1 < cLine) (I : Inv X pins σ H s) (g : zj9 H a y o) (ry : zcw y u) (h : ∀ s', Inv X pins σ H s' -> Q (.bool o.isSome) s') :
   wpAny (model X.prog X.w) A (compareOp .In u (.ref a)) Q E s := by
 rcases g with ⟨kvs, k, e, ey, l⟩ | ⟨kvs, k, b, e, ey, eb, l⟩
 . subst ey
   obtain ⟨z, hd, vs, rel, dd⟩ := zpi I.hok e
   refine wpAny_in_of (zmh ry) hd dd.mapOf ?_
   rw [<- (rel.val k).isSome_eq, <- l]
   exact h _ (I.tok _)
 . subst ey
   cases (show u = Value.ref b from ry)
   obtain ⟨z, hd, xs, rel, dd⟩ := zps I.hok e
   refine wpAny_in_heap (tupleKind_room_in1 hu) (zmg I.hok eb) hd dd ?_
   have q := (rel.val k).isSome_eq
   rw [Option.isSome_map] at q
   rw [<- q, <- l]
   exact h _ (I.tok _)
theorem zi1 {h' : Heap} {t' : Nat} {ob : HO} (I : Inv X pins σ H s) (mu : Mut (H a)) (hs : Heap.SameBut a s.heap h') (he : ∃ q, h'.get? a = some q) (new : zdu X.prog X.w (upd H a ob) h' a ob) :
   Inv X pins σ (upd H a ob) { s with heap := h', toks := t' } :=
 I.write (x := a) (e := a) mu (.inl rfl) (λ b q hb z => (hs.2 b hb).trans z) he new
theorem zo2 {P : Program} {w : World} {H' : Hp} {h' : Heap} {kvs : List (Key × V)} {vs : List (Key × Value)} (z : kvs.length <= sizeLine) (hd : (a == sysModules) = false) (rel : KV kvs vs) (dd : h'.DictOf (zbh P w) a vs) :
   zdu P w H' h' a (.dK kvs) := ⟨z, hd, vs, rel, dd⟩
theorem zqw {H' : Hp} {Q : Unit -> Shared -> Prop} (hu : A.units + 1 < cLine) (I : Inv X pins σ H s) (g : zi0 H a y v H') (ry : zcw y u) (rv : zcw v r) (h : ∀ s', Inv X pins σ H' s' -> Q () s') :
   wpAny (model X.prog X.w) A (setItem (.ref a) u r) Q E s := by
 rcases g with ⟨kvs, k, e, ey, l, eH⟩ | ⟨kvs, k, b, e, ey, eb, l, eH⟩
 . subst ey eH
   obtain ⟨z, hd, vs, rel, dd⟩ := zqv I.hok e
   have hz : vs.length <= sizeLine := by rw [<- rel.length]; exact z
   have hl : (zbu kvs k v).length <= sizeLine := by have := za2 kvs k v; omega
   refine wpAny_setItem_pairs (hsz := hz) (zmh ry) dd λ h' dd' hs => h _ ?_
   have he : ∃ q, h'.get? a = some q := let ⟨q, _, _, hq, _⟩ := dd'; ⟨q, hq⟩
   exact zi1 I (by rw [e]; exact True.intro) hs he (zo2 hl hd (rel.put k rv) dd')
 . subst ey eH
   cases (show u = Value.ref b from ry)
   obtain ⟨z, hd, xs, rel, dd⟩ := zy1 I.hok e
   have hz : xs.length <= sizeLine := by rw [<- Paired.length rel]; exact z
   have hl : (zbu kvs k v).length <= sizeLine := by have := za2 kvs k v; omega
   refine wpAny_setItem_heap (hsz := hz) (tupleKind_room_in1 hu) (zmg I.hok eb) dd λ h' dd' hs => h _ ?_
   obtain ⟨q, es, ep, hq, h2, h3, h4, _, h5⟩ := dd'
   refine zi1 I (by rw [e]; exact True.intro) hs ⟨q, hq⟩ ⟨hl, hd, _, (rel.put k eb rv).keeps λ c ys ec => ?_, q, es, ep, hq, h2, h3, h4, h5⟩
   rw [zaf (zmz ec e (λ z => nomatch z))]
   exact ec
end
def NoSl (i : Expr) : Prop := ∀ ov iv, subscripted i false ov iv = operate [ov, iv] (getItem ov iv)
theorem zwb {prog : Program} {w : World} {A : Around} {E : Value -> Shared -> Prop} {s : Shared} {env : Env} {value slice : Expr} {pos : Pos} {T id : String} {Q : Value -> Shared -> Prop}
   (hl : typeLookup (.type T) "__getitem__" = pure (some (.builtin id))) (hs : NoSl slice)
   (h : wpAny (model prog w) A (eval value env) (λ o s₁ => wpAny (model prog w) A (eval slice env) (λ i s₂ => s₂.TypeIs o T /\ wpAny (model prog w) A (getItem o i) Q E s₂) E s₁) E s) :
   wpAny (model prog w) A (eval (.Subscript value slice pos) env) Q E s := by
 refine Subscript_ (wpAny_mono h (λ o s₁ h₁ => wpAny_mono h₁ (λ i s₂ h₂ => ?_) λ _ _ x => x) λ _ _ x => x)
 obtain ⟨hT, h₂⟩ := h₂
 unfold subscriptTail
 refine wpAny_bind ?_
 rw [getitemInPython_of_ne hT.not_modules]
 refine wpAny_bind (wpAny_specialOf hT hl ?_)
 have fin : wpAny (model prog w) A (subscripted slice false o i) (λ r s₃ => wpAny (model prog w) A (letTemporaryGo value o r >>= λ _ => pure r) Q E s₃) E s₂ := by
   rw [hs o i]
   exact wpAny_operating (wpAny_mono h₂ (λ r s₃ h₃ => wpAny_bind (wpAny_letTemporaryGo (wpAny_pure h₃))) λ _ _ x => x)
 first
   | exact wpAny_pure (wpAny_bind fin)
   | exact wpAny_bind (wpAny_pure (wpAny_bind fin))
   | exact wpAny_bind fin
theorem znq {X : Cx} {pins : List (Addr × Obj)} {σ : St} {H : Hp} {s : Shared} {a : Addr} {y : V} {o : Option V} (I : Inv X pins σ H s) (g : zj9 H a y o) : s.TypeIs (.ref a) "dict" := by
 rcases g with ⟨kvs, k, e, _, _⟩ | ⟨kvs, k, b, e, _, _, _⟩
 . obtain ⟨_, _, vs, _, dd⟩ := zpi I.hok e
   exact dd.typeIs
 . obtain ⟨_, _, xs, _, dd⟩ := zps I.hok e
   exact dd.typeIs
def zzg (td ty : TE) : TE := λ σ H Q => td σ H λ x H1 => ty σ H1 λ y H2 => ∃ a v, x = .ref a /\ zj9 H2 a y (some v) /\ Q v H2
def tDIn (ty td : TE) : TE := λ σ H Q => ty σ H λ y H1 => td σ H1 λ x H2 => ∃ a o, x = .ref a /\ zj9 H2 a y o /\ Q (.bl o.isSome) H2
def zym (td ty tv : TE) : TS := λ D σ H => tv σ H λ v H1 => td σ H1 λ x H2 => ty σ H2 λ y H3 => ∃ a H4, x = .ref a /\ zi0 H3 a y v H4 /\ D.nx σ H4
section
variable {X : Cx} {o i e value : Expr} {pos pos' tpos : Pos} {td ty tv : TE}
theorem zdm (hu : X.A.units + 1 < cLine) (ho : PE X o td) (hi : PE X i ty) (hs : NoSl i) : PE X (.Subscript o i pos) (zzg td ty) := by
 intro pins s σ H Q I h
 refine zwb PySem.F.slot_dict_getitem.lookup hs (thn (ho pins s σ H _ I h) λ u s1 ⟨x, H1, I1, rx, q1⟩ => thn (hi pins s1 σ H1 _ I1 q1) λ iv s2 ⟨y, H2, I2, ry, a, v, ex, g, q2⟩ => ?_)
 subst ex
 obtain rfl : u = Value.ref a := rx
 exact ⟨znq I2 g, zrt hu I2 g ry λ w' s3 I3 rw' => ⟨v, H2, I3, rw', q2⟩⟩
theorem zw5 (hu : X.A.units + 1 < cLine) (hi : PE X i ty) (ho : PE X o td) : PC X .In i o (tDIn ty td) := by
 intro pins s σ H Q I h
 refine thn (hi pins s σ H _ I h) λ iv s1 ⟨y, H1, I1, ry, q1⟩ => thn (ho pins s1 σ H1 _ I1 q1) λ u s2 ⟨x, H2, I2, rx, a, ov, ex, g, q2⟩ => ?_
 subst ex
 obtain rfl : u = Value.ref a := rx
 exact d_in hu I2 g ry λ s3 I3 => ⟨.bl ov.isSome, H2, I3, rfl, q2⟩
theorem zc1 (hu : X.A.units + 1 < cLine) (ho : PE X o td) (hi : PE X i ty) (hv : PE X value tv) (hs : swapsWith value (some (.Subscript o i pos')) pos.line X.env = pure false) :
   PS X (.Assign [.Subscript o i pos'] value pos) (zym td ty tv) := by
 intro pins s σ H D I h
 refine wpAny_Assign_Subscript (thn (hv pins s σ H _ I h) λ r s1 ⟨v, H1, I1, rv, q1⟩ => thn (ho pins s1 σ H1 _ I1 q1) λ u s2 ⟨x, H2, I2, rx, q2⟩ => thn (hi pins s2 σ H2 _ I2 q2) λ iv s3 ⟨y, H3, I3, ry, a, H4, ex, g, q3⟩ => ?_) hs
 subst ex
 obtain rfl : u = Value.ref a := rx
 exact zqw hu I3 g ry rv λ s4 I4 => ⟨σ, H4, I4, q3⟩
end
theorem zks {P : Program} {w : World} {H : Hp} (h : Heap) (hb : sysModules < h.objs.size) : zdu P w H (h.push { cls := .type "dict", data := .dict #[] }) h.objs.size (.dK []) :=
 ⟨Nat.zero_le _, beq_eq_false_iff_ne.mpr (Ne.symm (Nat.ne_of_lt hb)), [], .nil, Heap.DictOf.new h⟩
def zyb : TE := λ _ H Q => ∀ p, H p = none -> Q (.ref p) (upd H p (.dK []))
section
variable {X : Cx} {pos : Pos}
theorem zdp : PE X (.Dict [] [] pos) zyb := λ pins s σ H Q I h =>
 wpAny_Dict_empty ⟨.ref s.heap.objs.size, _, I.laid (a := s.heap.objs.size) (o := .dK []) (t' := s.toks) (λ _ _ q => Heap.get?_push_of_some _ q) (Nat.le_refl _) (zks s.heap I.big), rfl, h _ (I.hok.fresh (Nat.le_refl _))⟩
end
def zrf : List (TE × TE) -> St -> Hp -> (List (V × V) -> Hp -> Prop) -> Prop
 | [], _, H, Q => Q [] H
 | (tk, tv) :: r, σ, H, Q => tk σ H λ x H1 => tv σ H1 λ y H2 => zrf r σ H2 λ ps H3 => Q ((x, y) :: ps) H3
abbrev VV : List (V × V) -> List (Value × Value) -> Prop := Paired λ p q => zcw p.1 q.1 /\ zcw p.2 q.2
def PPs (X : Cx) (pos : Pos) (keys : List (Option Expr)) (values : List Expr) (trs : List (TE × TE)) : Prop :=
 ∀ (pins : List (Addr × Obj)) (s : Shared) (σ : St) (H : Hp) (Q : List (V × V) -> Hp -> Prop), Inv X pins σ H s -> zrf trs σ H Q ->
   wpAny (model X.prog X.w) X.A (evalPairs (pairTrees keys values X.env pos)) (λ vs s' => ∃ ps H', Inv X pins σ H' s' /\ VV ps vs /\ Q ps H') X.xe s
theorem zv3 {X : Cx} {pos : Pos} : PPs X pos [] [] [] := λ pins s σ H Q I h => pairTrees_nil_walk ⟨[], H, I, .nil, h⟩
theorem zk4 {X : Cx} {pos : Pos} {k v : Expr} {ks : List (Option Expr)} {vs : List Expr} {tk tv : TE} {trs : List (TE × TE)} (hk : PE X k tk) (hv : PE X v tv) (hr : PPs X pos ks vs trs) :
   PPs X pos (some k :: ks) (v :: vs) ((tk, tv) :: trs) := λ pins s σ H Q I h =>
 pairTrees_cons_walk (thn (hk pins s σ H _ I h) λ u s1 ⟨x, H1, I1, rx, q1⟩ => thn (hv pins s1 σ H1 _ I1 q1) λ w2 s2 ⟨y, H2, I2, ry, q2⟩ =>
   thn (hr pins s2 σ H2 _ I2 q2) λ ws s3 ⟨ps, H3, I3, rel, q3⟩ => ⟨(x, y) :: ps, H3, I3, .cons ⟨rx, ry⟩ rel, q3⟩)
def zmo (kvs more : List (Key × V)) : List (Key × V) := more.foldl (λ acc kv => zbu acc kv.1 kv.2) kvs
theorem KV.merge : ∀ {more : List (Key × V)} {rs : List (Key × Value)} {kvs : List (Key × V)} {vs : List (Key × Value)}, KV more rs -> KV kvs vs -> KV (zmo kvs more) (merged vs rs) := by
 intro more rs kvs vs r
 unfold KV at r
 induction r generalizing kvs vs with
 | nil => intro q; exact q
 | @cons p q ps qs h t ih =>
   intro r0
   have e : KV (zbu kvs p.1 p.2) (stored vs q.1 q.2) := by
     have := r0.put p.1 h.2
     rw [<- h.1]; exact this
   exact ih e
theorem zg6 : ∀ (more kvs : List (Key × V)), (zmo kvs more).length <= kvs.length + more.length
 | [], kvs => by show kvs.length <= kvs.length + 0; omega
 | p :: r, kvs => by
   have h1 := zg6 r (zbu kvs p.1 p.2)
   have h2 := za2 kvs p.1 p.2
   show (zmo (zbu kvs p.1 p.2) r).length <= _
   rw [List.length_cons]; omega
theorem zkc {P : Program} {w : World} : ∀ {kvs : List (Key × V)} {ws : List (Value × Value)}, VV (kvs.map λ kv => (kV kv.1, kv.2)) ws -> ∃ rs, Carries (zbh P w) ws rs /\ KV kvs rs
 | [], _, r => by rw [List.map_nil] at r; cases r; exact ⟨[], True.intro, .nil⟩
 | p :: kvs, _, r => by
   rw [List.map_cons] at r
   cases r with
   | @cons a b as bs h t =>
     obtain ⟨rs, c, q⟩ := zkc (P := P) (w := w) t
     obtain ⟨b1, b2⟩ := b
     exact ⟨(p.1, b2) :: rs, ⟨zmh h.1, rfl, c⟩, .cons ⟨rfl, h.2⟩ q⟩
def zzb (trs : List (TE × TE)) : TE := λ σ H Q => ∀ p, H p = none -> zrf trs σ (upd H p (.dK [])) λ ps H2 => H2 p = some (.dK []) /\ ∃ kvs : List (Key × V), ps = kvs.map (λ kv => (kV kv.1, kv.2)) /\ kvs.length <= 15 /\ Q (.ref p) (upd H2 p (.dK (zmo [] kvs)))
theorem zvp {X : Cx} {pos : Pos} {keys : List (Option Expr)} {values : List Expr} {trs : List (TE × TE)} (h : PPs X pos keys values trs) (hall : keys.all (·.isSome) = true) (hl : keys.length = values.length) (h0 : keys ≠ [])
   (h15 : keys.length <= 15) : PE X (.Dict keys values pos) (zzb trs) := by
 intro pins s σ H Q I q
 have hn := I.hok.fresh (Nat.le_refl s.heap.objs.size)
 have I1 := I.laid (a := s.heap.objs.size) (o := .dK []) (h' := s.heap.push { cls := .type "dict", data := .dict #[] }) (t' := s.toks) (λ _ _ q => Heap.get?_push_of_some _ q) (Nat.le_refl _) (zks s.heap I.big)
 refine wpAny_Dict_walk (knd := zbh X.prog X.w) hall hl h0 h15 (thn (h pins _ σ _ _ I1 (q _ hn)) λ ws s2 ⟨ps, H2, I2, rel, e, kvs, ep, lk, q2⟩ => ?_)
 subst ep
 obtain ⟨rs, c, rk⟩ := zkc (P := X.prog) (w := X.w) rel
 obtain ⟨z, hd, vs0, r0, dd⟩ := zqv I2.hok e
 cases r0
 refine ⟨rs, c, dd, λ h' dd' hs => ⟨.ref s.heap.objs.size, _, ?_, rfl, q2⟩⟩
 have hz : (zmo [] kvs).length <= sizeLine := by
   have h1 := zg6 kvs []
   rw [List.length_nil] at h1
   rw [sizeLine_eq]; omega
 have he : ∃ q, h'.get? s.heap.objs.size = some q := let ⟨q, _, _, hq, _⟩ := dd'; ⟨q, hq⟩
 exact zi1 I2 (by rw [e]; exact True.intro) hs he (zo2 hz hd (rk.merge .nil) dd')
structure M2 (X : Cx) (o : Expr) (m : Str) (apos : Pos) (e f : Expr) (cpos : Pos) : Prop where
 base : attributeBase o m X.env (eval o X.env) = eval o X.env
 few : ((backTo cpos (starEach [e, f] X.env)).all (λ x => !x.1) && (backToKw cpos (keywordEach [] X.env)).all (λ x => x.1.isSome)
   && decide (([e, f] : List Expr).length + ([] : List Keyword).length + (if ([] : List Keyword).isEmpty then 0 else 1) < 30)) = true
 line : (apos.endLine == cpos.line) = true
 trees : backTo cpos (starEach [e, f] X.env) = [(false, eval e X.env), (false, eval f X.env)]
def IsD (H : Hp) (a : Addr) : Prop := (∃ kvs, Rd H a (.dK kvs)) \/ ∃ kvs, Rd H a (.dT kvs)
theorem zuu {X : Cx} {pins : List (Addr × Obj)} {σ : St} {H : Hp} {s : Shared} {a : Addr} (I : Inv X pins σ H s) (d : IsD H a) :
   s.TypeIs (.ref a) "dict" /\ (∀ b, Value.ref a = .ref b -> ∃ ob, s.heap.get? b = some ob /\ ob.dict = none) /\ (a == sysModules) = false := by
 rcases d with ⟨kvs, e⟩ | ⟨kvs, e⟩
 . obtain ⟨_, hd, vs, _, dd⟩ := zpi I.hok e
   refine ⟨dd.typeIs, λ b q => ?_, hd⟩
   cases q
   obtain ⟨ob, _, _, h1, h2, _⟩ := dd
   exact ⟨ob, h1, h2.2.1⟩
 . obtain ⟨_, hd, xs, _, dd⟩ := zps I.hok e
   refine ⟨dd.typeIs, λ b q => ?_, hd⟩
   cases q
   obtain ⟨ob, _, _, h1, h2, _⟩ := dd
   exact ⟨ob, h1, h2.2.1⟩
section
variable {X : Cx} {pins : List (Addr × Obj)} {σ : St} {H : Hp} {s : Shared} {a : Addr} {y d : V} {u r : Value} {o : Option V} {A : Around} {E : Value -> Shared -> Prop}
theorem zwq {Q : Value -> Shared -> Prop} (hu : A.units + 1 < cLine) (I : Inv X pins σ H s) (g : zj9 H a y o) (ry : zcw y u) (rd : zcw d r) (h : ∀ w' s', Inv X pins σ H s' -> zcw (o.getD d) w' -> Q w' s') :
   wpAny (model X.prog X.w) A (call (.builtin "dict.get") [.ref a, u, r]) Q E s := by
 rcases g with ⟨kvs, k, e, ey, l⟩ | ⟨kvs, k, b, e, ey, eb, l⟩
 . subst ey
   obtain ⟨z, hd, vs, rel, dd⟩ := zpi I.hok e
   refine call_meetsIn PySem.F.slot_dict_get dd.typeIs PySem.F.entry_dict_get (PySem.F.args_dict_get_3 _ _ _) (meets_dict_get_default (zbh X.prog X.w) a (zmh ry) hd r) ⟨_, dd.mapOf, h _ _ (I.tok _) ?_⟩
   rw [l]
   exact (rel.val k).getD rd
 . subst ey
   cases (show u = Value.ref b from ry)
   obtain ⟨z, hd, xs, rel, dd⟩ := zps I.hok e
   refine call_meetsIn PySem.F.slot_dict_get dd.typeIs PySem.F.entry_dict_get (PySem.F.args_dict_get_3 _ _ _) (meetsH_dict_get_default (tupleKind (zbh X.prog X.w)) a b hd r) ⟨tupleKind_room_in1 hu, k, xs, zmg I.hok eb, dd, h _ _ (I.tok _) ?_⟩
   rw [l]
   exact (rel.val k).getD rd
end
def zxh (td ty tx : TE) : TE := λ σ H Q => td σ H λ x H1 => ∃ a, x = .ref a /\ IsD H1 a /\ ty σ H1 λ y H2 => tx σ H2 λ z H3 => ∃ o, zj9 H3 a y o /\ Q (o.getD z) H3
section
variable {X : Cx} {o e f : Expr} {apos cpos : Pos} {td ty tx : TE}
theorem zt2 (hu : X.A.units + 1 < cLine) (ho : PE X o td) (he : PE X e ty) (hf : PE X f tx) (m : M2 X o "get" apos e f cpos) : PE X (.Call (.Attribute o "get" apos) [e, f] [] cpos) (zxh td ty tx) := by
 intro pins s σ H Q I h
 refine wpAny_Call_method m.base m.few m.line PySem.F.plainAttrs_dict PySem.F.slot_dict_get PySem.F.type_dict_get (thn (ho pins s σ H _ I h) λ u s1 ⟨x, H1, I1, rx, a, ex, d, q1⟩ => ?_)
 subst ex
 obtain rfl : u = Value.ref a := rx
 obtain ⟨t1, t2, _⟩ := zuu I1 d
 refine ⟨t1, t2, ?_⟩
 rw [m.trees]
 refine Calls.callWith_builtin rfl (Calls.evalArgs_plain (Calls.spliced_cons (thn (he pins s1 σ H1 _ I1 q1) λ iv s2 ⟨y, H2, I2, ry, q2⟩ =>
   Calls.spliced_cons (thn (hf pins s2 σ H2 _ I2 q2) λ fv s3 ⟨z, H3, I3, rz, ov, g, q3⟩ => Calls.spliced_nil ?_))))
 exact zwq hu I3 g ry rz λ w' s4 I4 rw' => ⟨_, H3, I4, rw', q3⟩
end
end L2
namespace PySem
theorem zlt : typeLookup (.type "list") "keys" = pure none := by rw [typeLookup_type, builtinLookup_eq_fast]; kernel_rfl
theorem zhd : entryFor table "dict.update.loop" = some Builtin.«dict.update.loop» := entryFor_of_tree (by kernel_rfl)
theorem zej : plainId "dict.update.loop" = true := by decide +kernel
theorem zqj {prog : Program} {w : World} {A : Around} {E : Value -> Shared -> Prop} {s : Shared} {a : Addr} {o : Obj} {xs : Array Value} {k : Nat} {Q : Option Value -> Shared -> Prop}
   (hx : s.heap.get? a = some o) (hc : o.cls = .type "list") (hdat : o.data = .seq xs k) (hd : o.dict = none) (hA : A.handled = none)
   (h : ∀ h' tk, (∀ b ob, s.heap.get? b = some ob -> h'.get? b = some ob) -> Q none { s with heap := h', toks := tk }) :
   wpAny (model prog w) A (getAttr? (.ref a) "keys") Q E s := by
 obtain ⟨c, dct, dat, sl⟩ := o
 simp only at hc hdat hd
 subst hc hdat hd
 obtain ⟨hp, g, d, tk, os⟩ := s
 have hT : ∀ tk', (⟨hp, g, d, tk', os⟩ : Shared).TypeIs (.ref a) "list" := λ _ => ⟨_, hx, rfl⟩
 have f1 := sub_AttributeError
 have f3 := F.slot_list_getattribute.lookup
 have f4 := F.slot_list_getattribute.bind (.ref a)
 have f5 := am_list_getattr_none
 unfold getAttr? getAttrBy? getAttrBy
 repeat (any_goals (first | assumption | exact hT _ | ((with_reducible show wpAny _ _ (call (Value.builtin "list.__getattribute__") _ _) _ _ _); refine call_meets F.slot_list_getattribute (hT _) am_entry_list_getattribute (F.args_list_getattribute_2 _ _) (meets_getattribute_miss_list a xs k sl "keys" _ zlt (by decide +kernel) (by decide +kernel)) ⟨hx, hA, λ h' tk' e hx' => ?_⟩) | wp_step))
 obtain ⟨t', u', he⟩ := hx'.there
 try (show wpAny _ _ (getattributeRaised _ _ _ _ _ _ _) _ _ _)
 try unfold getattributeRaised
 repeat (any_goals (first | assumption | wp_step))
 all_goals (first | exact h _ _ hx'.keeps | trace_state)
end PySem
namespace L2
open PySem PySem.Spec PyProof.Rows
section
variable {X : Cx} {pins : List (Addr × Obj)} {σ : St} {H : Hp}
theorem zfy {α β : Type} {F : α -> β -> Prop} : ∀ {l : List α} {m : List β}, Paired F l m -> ∀ {i : Nat} (h1 : i < l.length) (h2 : i < m.length), F l[i] m[i]
 | _, _, .cons h _, 0, _, _ => h
 | _, _, .cons _ t, i + 1, h1, h2 => by
   have := zfy t (i := i) (by simpa using h1) (by simpa using h2)
   simpa using this
theorem zsh {A : Around} {R : Result -> Shared -> Prop} {p D it : Addr} {ps : List Addr} {kvs : List (Key × V)} (hA : A.handled = none) (hpD : p ≠ D) (hS : SqL X.K H p (ps.map V.ref)) (hps : Paired (λ a (kv : Key × V) => SqT X.K H a [kV kv.1, kv.2]) ps kvs)
   (hD : H D = none) (hz : kvs.length <= 100000) (hit0 : it ≠ D)
   (hR : ∀ s', Inv X pins σ (upd H D (.dK (kvs.foldl (λ acc kv => zbu acc kv.1 kv.2) []))) s' -> R (.ok (.ret .none)) s') :
   ∀ (k i : Nat) (t : Tok) (s : Shared), kvs.length - i = k -> i <= kvs.length -> Inv X pins σ (upd H D (.dK ((kvs.take i).foldl (λ acc kv => zbu acc kv.1 kv.2) []))) s -> s.heap.IsListIter it p i ->
     (∀ H', H' it = none -> zqi X pins H' it) -> H it = none -> codeAny (model X.prog X.w) A (.builtin "dict.update.loop" ⟨[.ref D, .ref it, .int (i : Nat) t, .none], []⟩) R s := by
 have sameD : ∀ o, zak H (upd H D o) := λ o => zak.new hD
 have hlen : ps.length = kvs.length := hps.length
 have flen : ∀ (l : List (Key × V)) (acc : List (Key × V)), (l.foldl (λ acc kv => zbu acc kv.1 kv.2) acc).length <= acc.length + l.length := by
   intro l
   induction l with
   | nil => intro acc; simp
   | cons x r ih =>
     intro acc
     rw [List.foldl_cons]
     have h1 := ih (zbu acc x.1 x.2)
     have h2 := za2 acc x.1 x.2
     simp only [List.length_cons]
     omega
 have big : (100000 : Nat) < sizeLine := by decide
 intro k
 induction k with
 | zero =>
   intro i t s hk hi I hit hfp hHit
   have e : i = kvs.length := by omega
   subst e
   rw [List.take_length] at I
   obtain ⟨its, rv, pl, hz'⟩ := I.list ((sameD _).seq hS)
   obtain ⟨f0, f1, f2, f3, f4, f5⟩ := hfp (upd H D (.dK (kvs.foldl (λ acc kv => zbu acc kv.1 kv.2) []))) (by rw [zaf hit0]; exact hHit)
   refine codeAny_builtin zhd ?_
   rw [Around.under_plainId zej _]
   show wpAny _ A.in1 (pyNext (.ref it) >>= _) _ _ s
   have hl := rv.length
   rw [List.length_map] at hl
   refine wpAny_bind (wpAny_pyNext_list_end hA hit pl.isList (by simp; omega) λ h' eb => ?_)
   have I1 : Inv X pins σ (upd H D (.dK (kvs.foldl (λ acc kv => zbu acc kv.1 kv.2) []))) { s with heap := h' } := I.turned (t' := s.toks) (λ b o hb e => eb b o hb e) f0 f1 f3 f4 f5
   show wpAny _ _ (Builtin.Dict.addKeywords D [] >>= _) _ _ _
   exact wpAny_bind (wpAny_pure (wpAny_pure (hR _ I1)))
 | succ k ih =>
   intro i t s hk hi I hit hfp hHit
   have hlt : i < kvs.length := by omega
   obtain ⟨its, rv, pl, hz'⟩ := I.list ((sameD _).seq hS)
   have hpi : (ps.map V.ref)[i]? = some (.ref (ps[i]'(by omega))) := by simp [show i < ps.length by omega]
   obtain ⟨u, hu, ru⟩ := rv.get hpi
   cases (show u = Value.ref _ from ru)
   obtain ⟨f0, f1, f2, f3, f4, f5⟩ := hfp (upd H D (.dK ((kvs.take i).foldl (λ acc kv => zbu acc kv.1 kv.2) []))) (by rw [zaf hit0]; exact hHit)
   refine codeAny_builtin zhd ?_
   rw [Around.under_plainId zej _]
   show wpAny _ A.in1 (pyNext (.ref it) >>= _) _ _ s
   refine wpAny_bind (wpAny_pyNext_list_item hit pl.isList (x := .ref ps[i]) (by simpa using hu) λ h' hit' sb => ?_)
   have I1 : Inv X pins σ (upd H D (.dK ((kvs.take i).foldl (λ acc kv => zbu acc kv.1 kv.2) []))) { s with heap := h' } := I.turned (t' := s.toks) (λ b o hb e => (sb.2 b hb).trans e) f0 f1 f3 f4 f5
   have hpair : SqT X.K H ps[i] [kV (kvs[i]).1, (kvs[i]).2] := zfy hps (by omega) hlt
   obtain ⟨its2, rv2, ⟨o2, ho2, hc2, n2, hd2⟩, _⟩ := I1.tuple ((sameD _).tup hpair)
   cases rv2 with
   | cons r1 rr =>
     cases rr with
     | cons r2 rr =>
       cases rr
       rename_i ku vu
       refine wpAny_bind (wpAny_holding (wpAny_bind (wpAny_tryCatch ?_)))
       show wpAny _ _ (Builtin.Dict.pairItems (.ref ps[i])) _ _ _
       unfold Builtin.Dict.pairItems
       refine wpAny_bind (wpAny_typeOf (T := "tuple") ⟨o2, ho2, hc2⟩ ?_)
       rw [if_pos (by decide)]
       refine wpAny_bind ?_
       show wpAny _ _ (load ps[i] >>= _) _ _ _
       refine wpAny_bind (wpAny_load ho2 ?_)
       rw [hd2]
       refine wpAny_pure (wpAny_pure ?_)
       show wpAny _ _ (holding [ku, vu] (dictSet D ku vu)) _ _ _
       refine wpAny_holding ?_
       obtain ⟨z, hd, vs, rel, dd⟩ := zqv I1.hok zab
       have hl1 := flen (kvs.take i) []
       have hl2 : (kvs.take i).length <= kvs.length := by rw [List.length_take]; omega
       simp only [List.length_nil, Nat.zero_add] at hl1
       have hzv : vs.length <= sizeLine := by rw [<- rel.length]; exact z
       refine wpAny_dictSet_pairs (hsz := hzv) (zmh r1) dd λ h2 dd2 hs2 => ?_
       have he : ∃ q, h2.get? D = some q := let ⟨q, _, _, hq, _⟩ := dd2; ⟨q, hq⟩
       have hl3 : (zbu ((kvs.take i).foldl (λ acc kv => zbu acc kv.1 kv.2) []) (kvs[i]).1 (kvs[i]).2).length <= sizeLine := by
         have := za2 ((kvs.take i).foldl (λ acc kv => zbu acc kv.1 kv.2) []) (kvs[i]).1 (kvs[i]).2
         omega
       have I2 := zi1 (t' := ({ s with heap := h' } : Shared).toks + 1) I1 (by rw [zab]; exact True.intro) hs2 he (zo2 hl3 hd (rel.put (kvs[i]).1 r2) dd2)
       rw [zjo] at I2
       have e3 : (kvs.take (i + 1)).foldl (λ acc kv => zbu acc kv.1 kv.2) [] = zbu ((kvs.take i).foldl (λ acc kv => zbu acc kv.1 kv.2) []) (kvs[i]).1 (kvs[i]).2 := by
         rw [List.take_add_one, List.foldl_append]
         simp [hlt]
       rw [<- e3] at I2
       have hit2 : h2.IsListIter it p (i + 1) := by
         obtain ⟨oi, hoi, ri⟩ := hit'
         exact ⟨oi, (hs2.2 it hit0).trans hoi, ri⟩
       refine wpAny_pure ⟨plainId_quiet zej _, ?_⟩
       have := ih (i + 1) 0 _ (by omega) (by omega) I2 hit2 hfp hHit
       exact this
end
end L2
namespace L2
open PySem PySem.Spec PyProof.Rows
section
variable {X : Cx}
def zvm (K : W.Frag) : List V -> Hp -> VK -> Prop := λ xs H Q => ∃ (p : Addr) (ps : List Addr) (kvs : List (Key × V)), xs = [.ref p] /\ SqL K H p (ps.map V.ref) /\ Paired (λ a (kv : Key × V) => SqT K H a [kV kv.1, kv.2]) ps kvs /\ kvs.length <= 100000 /\
 ∀ d, H d = none -> Q (.ref d) (upd H d (.dK (kvs.foldl (λ acc kv => zbu acc kv.1 kv.2) [])))
theorem zia (hc : X.calm = true) : zjn X (.type "dict") (zvm X.K) := by
 intro pins s σ H xs us Q I r h
 obtain ⟨p, ps, kvs, rfl, hS, hps, hz, q⟩ := h
 obtain ⟨u, rfl, ru⟩ := zlx r
 cases (show u = Value.ref p from ru)
 have hA := I.ok.hd hc
 have hD : H s.heap.objs.size = none := I.hok.fresh (Nat.le_refl _)
 obtain ⟨its, rv, pl, _⟩ := I.list hS
 have hplt : p < s.heap.objs.size := pl.lt
 have I0 : Inv X pins σ (upd H s.heap.objs.size (.dK [])) { s with heap := s.heap.push { cls := .type "dict", data := .dict #[] } } :=
   I.laid (a := s.heap.objs.size) (o := .dK []) (t' := s.toks) (λ _ _ q => Heap.get?_push_of_some _ q) (Nat.le_refl _) (zks s.heap I.big)
 refine callType_codes (Q₁ := λ obj s₁ => obj = .ref s.heap.objs.size /\ s₁ = { s with heap := s.heap.push { cls := .type "dict", data := .dict #[] } }) PySem.F.kt_called_dict (PySem.F.kt_typeCall_dict_1 _) PySem.F.entry_dict_init (kt_code_dict_new _ ⟨rfl, rfl⟩) ?_
 rintro obj s₁ ⟨rfl, rfl⟩
 have hnew : (s.heap.push { cls := .type "dict", data := .dict #[] }).DictOf (zbh X.prog X.w) s.heap.objs.size [] := Heap.DictOf.new s.heap
 refine ⟨hnew.typeIs, PySem.F.args_dict_init_2 _ _, ?_⟩
 unfold Builtin.«dict.__init__»
 refine wpAny_bind ?_
 unfold Builtin.Dict.selfAndRest
 refine wpAny_bind (wpAny_notOrdered_dict hnew.typeIs ?_)
 show wpAny _ _ (pure (s.heap.objs.size, [Value.ref p])) _ _ _
 refine wpAny_pure ?_
 show wpAny _ _ (Builtin.Dict.updateFrom "dict.__init__" s.heap.objs.size (.ref p) [] .none) _ _ _
 unfold Builtin.Dict.updateFrom
 obtain ⟨o, n, ho, hcl, hdi, hda⟩ := pl
 have ho1 : (s.heap.push { cls := .type "dict", data := .dict #[] }).get? p = some o := Heap.get?_push_of_some _ ho
 refine wpAny_bind (wpAny_typeOf (T := "list") ⟨o, ho1, hcl⟩ ?_)
 rw [if_pos (by decide)]
 refine wpAny_bind (zqj (s := { s with heap := s.heap.push { cls := .type "dict", data := .dict #[] } }) ho1 hcl hda hdi hA λ h' tk hk => ?_)
 have I1 : Inv X pins σ (upd H s.heap.objs.size (.dK [])) { s with heap := h', toks := tk } := I0.kept hk
 rw [if_pos (by rfl)]
 refine wpAny_bind (wpAny_rule ?_)
 have ho2 : h'.get? p = some o := hk _ _ ho1
 refine wpAny_bind (wpAny_pyIter_list (s := { s with heap := h', toks := tk }) (items := its.toArray) ⟨o, ho2, hcl, n, hda⟩ ?_)
 have I2 : Inv X pins σ (upd H s.heap.objs.size (.dK [])) { s with heap := h'.push { cls := .type "list_iterator", data := .fields #[.ref p, .int 0 0] }, toks := tk } := I1.kept (t' := tk) λ b o e => Heap.get?_push_of_some _ e
 have hsz : s.heap.objs.size < h'.objs.size := by
   have e : (s.heap.push { cls := .type "dict", data := .dict #[] }).get? s.heap.objs.size = some { cls := .type "dict", data := .dict #[] } := Heap.get?_push_size _ rfl
   exact Heap.lt_size (hk _ _ e)
 have hit0 : h'.objs.size ≠ s.heap.objs.size := Nat.ne_of_gt hsz
 have hHit : H h'.objs.size = none := I.hok.fresh (Nat.le_of_lt hsz)
 refine wpAny_pure ⟨plainId_quiet zej _, ?_⟩
 refine zsh (A := X.A.in1) (it := h'.objs.size) hA (Nat.ne_of_lt hplt) hS hps hD hz hit0 (λ s' J => ⟨rfl, .ref s.heap.objs.size, _, J, rfl, q _ hD⟩) kvs.length 0 0 _ (by omega) (Nat.zero_le _) (by simpa using I2) ⟨_, Heap.get?_push_size _ rfl, rfl, rfl⟩ (λ H' hn => I1.fpOk (Nat.le_refl _) hn) hHit
theorem zrg : ∀ (xs : List V) (us : List Value), xs.length = us.length -> (∀ (i : Nat) (x : V) (u : Value), xs[i]? = some x -> us[i]? = some u -> zcw x u) -> zcm xs us
 | [], [], _, _ => .nil
 | [], _ :: _, h, _ => by simp at h
 | _ :: _, [], h, _ => by simp at h
 | x :: xs, u :: us, h, k => .cons (k 0 x u rfl rfl) (zrg xs us (by simpa using h) λ i y v e1 e2 => k (i + 1) y v (by simpa using e1) (by simpa using e2))
theorem zrn {P : Program} {w : World} {k : Key} {v : Value} (h : (zbh P w).is k v = true) : zcw (kV k) v := by
 rcases zcl (show znm k v = true from h) with ⟨i, t, rfl, rfl⟩ | ⟨x, t, rfl, rfl⟩
 . exact ⟨t, rfl⟩
 . exact ⟨t, rfl⟩
theorem zri {P : Program} {w : World} {kvs : List (Key × V)} {vs : List (Key × Value)} {acc : Array Value} (rel : KV kvs vs) (h : ItemsOf (λ i v => ∃ k x, vs[i]? = some (k, x) /\ (zbh P w).is k v = true) acc vs.length) :
   zcm (kvs.map λ kv => kV kv.1) acc.toList := by
 have hl := rel.length
 have el : acc.toList.length = acc.size := by simp
 have hlen : (kvs.map λ kv => kV kv.1).length = acc.toList.length := by rw [List.length_map, el, h.1]; exact hl
 refine zrg _ _ hlen λ i x u e1 e2 => ?_
 obtain ⟨k, y, e3, e4⟩ := h.2 i u (by simpa using e2)
 rw [List.getElem?_map] at e1
 cases e5 : kvs[i]? with
 | none => rw [e5] at e1; cases e1
 | some kv =>
   rw [e5] at e1
   have e1 : kV kv.1 = x := by simpa using e1
   have e6 : kv.1 = k := by
     have h1 : i < kvs.length := (List.getElem?_eq_some_iff.mp e5).1
     have h2 : i < vs.length := by omega
     have e7 := zfy rel h1 h2
     have e8 : kvs[i] = kv := by have := List.getElem?_eq_some_iff.mp e5; exact this.2
     have e9 : vs[i] = (k, y) := by have := List.getElem?_eq_some_iff.mp e3; exact this.2
     rw [e8, e9] at e7
     exact e7.1
   rw [<- e1, e6]
   exact zrn e4
theorem zlg (hc : X.calm = true) : zjn X (.type "list") (λ xs H Q => ∃ d kvs, xs = [.ref d] /\ H d = some (.dK kvs) /\ ∀ l, H l = none -> Q (.ref l) (upd H l (.lst (kvs.map λ kv => kV kv.1)))) := by
 intro pins s σ H xs us Q I r h
 obtain ⟨d, kvs, rfl, hd, q⟩ := h
 obtain ⟨u, rfl, ru⟩ := zlx r
 cases (show u = Value.ref d from ru)
 obtain ⟨z, lo, vs, rel, dd⟩ := zqv I.hok hd
 have hlen := rel.length
 obtain ⟨ep, dat⟩ : ∃ ep, s.heap.DictAt (zbh X.prog X.w) d vs ep := dd.dictAt
 refine PySem.W.kdl_call (PySem.W.kdl_dict (knd := zbh X.prog X.w) (kvs := vs) (ep := ep) lo) (I.ok.hd hc) dat (by rw [<- hlen]; exact z) λ h' tk acc' c' hk hS hit => ?_
 have hv : zcm (kvs.map λ kv => kV kv.1) acc'.toList := zri rel hit
 refine ⟨.ref s.heap.objs.size, _, I.laid (a := s.heap.objs.size) (o := .lst (kvs.map λ kv => kV kv.1)) hk (Nat.le_refl _) ⟨by rw [List.length_map]; exact z, acc'.toList, c', hv, by simpa using hS⟩, rfl, q _ (I.hok.fresh (Nat.le_refl _))⟩
end
end L2
namespace L2
open PySem PySem.Spec PyProof.Rows PySem.W
section
variable {prog : Program} {w : World} {A : Around} {E : Value -> Shared -> Prop} {s : Shared} {δ : Type} {R : δ -> Value -> Prop} {a : Addr} {D : List (Str × δ)} {k : Str} {tk : Tok} {d : δ}
theorem zj7 (T : KTD.TabOf R s.heap a D) : s.TypeIs (.ref a) "dict" := let ⟨_, o, _, _, ho, hc, _⟩ := T; ⟨o, ho, hc.1⟩
theorem zm4 {Q : Value -> Shared -> Prop} (T : KTD.TabOf R s.heap a D) (hd : KTD.datumAt k D = some d) (h : ∀ v, R d v -> Q v { s with toks := s.toks + 1 }) :
   wpAny (model prog w) A (getItem (.ref a) (.str k tk)) Q E s := by
 have ty := zj7 T
 obtain ⟨_, o, es, ep, ho, hc, hdt, hr⟩ := T
 unfold getItem
 try with_reducible refine wpAny_holding ?_
 refine wpAny_bind (wpAny_sequenceKey ty (by decide) ?_)
 refine wpAny_bind (wpAny_callSpecial?_slot (name := Str.ofString "__getitem__") ty slot_dict_getitem
   (wpAny_call_entry slot_dict_getitem ty entry_dict_getitem ?_ (args_dict_getitem _ _)))
 show wpAny _ _ (dictGet a (.str k tk) >>= _) _ _ s
 refine wpAny_bind ?_
 unfold dictGet
 try with_reducible refine wpAny_holding ?_
 refine wpAny_bind (wpAny_pyHash_str (wpAny_bind (KTD.kt_dictFind_strs (s := { s with toks := s.toks + 1 }) ho hdt (by obtain ⟨l⟩ := es; simpa using hr.exact) ?_)))
 have hq : ∃ v, findBy (λ k v => v.isStr k) es k = some v /\ R d v := by
   have hf : findBy (λ k v => v.isStr k) es k = (es.toList.find? λ e => e.key.isStr k).map (·.val) := by
     obtain ⟨l⟩ := es
     simp [findBy]
   rw [hf]
   exact hr.find_some hd
 obtain ⟨v, hv, hR⟩ := hq
 rw [findBy_of_findIdx?] at hv
 cases hi : es.findIdx? λ e => e.key.isStr k with
 | none => rw [hi] at hv; cases hv
 | some i =>
   rw [hi] at hv
   have hv : es[i]?.map (·.val) = some v := hv
   refine wpAny_bind (wpAny_dictEntries (s := { s with toks := s.toks + 1 }) ho hdt (wpAny_pure ?_))
   show wpAny _ _ _ _ _ _
   rw [hv]
   exact wpAny_pure ⟨v, rfl, wpAny_pure (h v hR)⟩
end
def zy7 (K : W.Frag) (d : Addr) (rows : List (Str × List V)) : Prop :=
 ∃ (o : Obj) (es : Array DictEntry) (ep : Nat), K.lookup d = some o /\ (d == sysModules) = false /\ o.ExactDict /\ o.data = .dict es ep /\ KTD.Rows (λ (xs : List V) v => ∃ a, v = .ref a /\ ∀ H : Hp, SqT K H a xs) es.toList rows
def zxb (K : W.Frag) : R2 := λ x y H Q => ∃ d rows k xs, x = .ref d /\ y = .str k /\ zy7 K d rows /\ KTD.datumAt k rows = some xs /\ ∀ a, SqT K H a xs -> Q (.ref a) H
theorem zx8 {X : Cx} : IxR X (zxb X.K) := by
 intro value slice pins s σ H x y v u Q I rx ry h hs
 obtain ⟨d, rows, k, xs, rfl, rfl, ⟨o, es, ep, ho, lo, hc, hd, hr⟩, hk, q⟩ := h
 cases (show v = Value.ref d from rx)
 obtain ⟨t, rfl⟩ := (show ∃ t, u = Value.str k t from ry)
 have T : KTD.TabOf (λ (xs : List V) v => ∃ a, v = .ref a /\ ∀ H : Hp, SqT X.K H a xs) s.heap d rows := ⟨lo, o, es, ep, I.kIn d o ho, hc, hd, hr⟩
 refine tail_any (zj7 T) slot_dict_getitem.lookup (zm4 T hk λ v hv => ?_) hs
 obtain ⟨a, rfl, hsq⟩ := hv
 exact ⟨.ref a, H, I.tok _, rfl, q a (hsq H)⟩
end L2
namespace L2
open PySem PySem.Spec PyProof.Rows
def zm1 : V -> Value -> Bool
 | .non, .none => true
 | .bl b, .bool c => b == c
 | .int i, .int j _ => i == j
 | .str x, .str y _ => x == y
 | _, _ => false
theorem zni : ∀ {x : V} {v : Value}, zm1 x v = true -> zcw x v := by
 intro x v h
 unfold zm1 at h
 split at h
 . rfl
 . obtain rfl := beq_iff_eq.mp h; rfl
 . obtain rfl := beq_iff_eq.mp h; exact ⟨_, rfl⟩
 . obtain rfl := beq_iff_eq.mp h; exact ⟨_, rfl⟩
 . cases h
def zgg : List V -> List Value -> Bool
 | [], [] => true
 | x :: xs, v :: vs => zm1 x v && zgg xs vs
 | _, _ => false
theorem zib : ∀ {xs : List V} {vs : List Value}, zgg xs vs = true -> zcm xs vs
 | [], [], _ => .nil
 | x :: xs, v :: vs, h => by
   simp only [zgg, Bool.and_eq_true] at h
   exact .cons (zni h.1) (zib h.2)
 | [], _ :: _, h => by simp [zgg] at h
 | _ :: _, [], h => by simp [zgg] at h
def zkw (K : W.Frag) (xs : List V) (v : Value) : Bool := match v with
 | .ref a => match K.lookup a with
   | some o => o.cls == .type "tuple" && (match o.data with | .seq its _ => decide (its.size <= sizeLine) && zgg xs its.toList | _ => false)
   | none => false
 | _ => false
theorem zm8 {K : W.Frag} (xs : List V) (v : Value) (h : zkw K xs v = true) : ∃ a, v = .ref a /\ ∀ H : Hp, SqT K H a xs := by
 unfold zkw at h
 split at h
 . rename_i a
   split at h
   . rename_i o ho
     rw [Bool.and_eq_true] at h
     obtain ⟨h1, h2⟩ := h
     split at h2
     . rename_i its n hd
       rw [Bool.and_eq_true] at h2
       exact ⟨a, rfl, λ H => .inr ⟨o, its, n, ho, beq_iff_eq.mp h1, hd, of_decide_eq_true h2.1, zib h2.2⟩⟩
     . cases h2
   . cases h
 . cases h
theorem zlo {K : W.Frag} {d : Addr} {rows : List (Str × List V)} (h : KTD.tabLook (zkw K) (λ a => K.lookup a) d rows = true) : zy7 K d rows := by
 simp only [KTD.tabLook, Bool.and_eq_true] at h
 obtain ⟨h0, hl⟩ := h
 split at hl
 . rename_i o ho
   simp only [Bool.and_eq_true] at hl
   obtain ⟨⟨⟨e1, e2⟩, e3⟩, e4⟩ := hl
   split at e4
   . rename_i es ep hd
     exact ⟨o, es, ep, ho, by simpa using h0, ⟨beq_iff_eq.mp e1, by simpa using e2, by simpa using e3⟩, hd, KTD.rows_of_look zm8 e4⟩
   . cases e4
 . cases hl
end L2
namespace L2
open PySem
def zug : Expr -> Option (List V)
 | .Tuple es _ _ => zo7 es
 | _ => none
theorem zvo {X : Cx} {e : Expr} {vs : List V} (h : zug e = some vs) : PE X e (tTup λ _ H Q => Q vs H) := by
 unfold zug at h
 split at h
 . exact zcz (zq5 h)
 . cases h
end L2
namespace L2
open PySem PySem.Spec PyProof.Rows
section
variable {prog : Program} {w : World} {A : Around} {E : Value -> Shared -> Prop} {s : Shared}
theorem gx_nextOf_tup {it t : Addr} {i : Nat} {items : Array Value} {x : Value} {Q : Value -> Shared -> Prop} (hit : s.heap.IsTupleIter it t i) (ht : s.heap.IsTuple t items) (hx : items[i]? = some x)
   (hQ : ∀ h', h'.IsTupleIter it t (i + 1) -> Heap.SameBut it s.heap h' -> Q x { s with heap := h' }) : wpAny (model prog w) A (Builtin.SmallTypes.nextOf (.ref it)) Q E s := by
 obtain ⟨⟨o, ho, hc, hd⟩, ⟨ol, hol, _, nl, hdl⟩⟩ := (⟨id hit, ht⟩ : _ /\ _)
 unfold Builtin.SmallTypes.nextOf; refine wpAny_bind (wpAny_callSpecial?_slot (name := Str.ofString "__next__") hit.typeIs F.slot_tuple_iterator_next (wpAny_call_entry F.slot_tuple_iterator_next hit.typeIs F.entry_tuple_iterator_next ?_ (F.args_tuple_iterator_next_1 _)))
 show wpAny (model prog w) _ (field (.ref it) 0 >>= _) _ _ s; refine wpAny_bind (wpAny_field ho hd (x := .ref t) rfl ?_)
 show wpAny (model prog w) _ (if (Value.ref t == Value.none) = true then _ else _) _ _ s; rw [if_neg (by exact Bool.false_ne_true)]
 show wpAny (model prog w) _ (field (.ref it) 1 >>= _) _ _ s; refine wpAny_bind (wpAny_field ho hd (x := .int i 0) rfl ?_)
 show wpAny (model prog w) _ (seqItems? (.ref t) >>= _) _ _ s; refine wpAny_bind (wpAny_seqItems hol hdl ?_); simp only [Int.toNat_natCast, hx]
 refine wpAny_bind (wpAny_setField ho hd (by simp) (wpAny_pure ⟨x, rfl, wpAny_pure (hQ _ ⟨_, Heap.get?_update_self _ ho (Obj.isFreed_of_fields (Obj.data_mapFields hd _)), (Obj.cls_mapFields ..).trans hc, by rw [Obj.data_mapFields hd]; simp [rawInt]⟩ (Heap.SameBut.update ..))⟩))
theorem gx_nextOf_tup_end {it t : Addr} {i : Nat} {items : Array Value} {Q : Value -> Shared -> Prop} (hh : A.handled = none) (hit : s.heap.IsTupleIter it t i) (ht : s.heap.IsTuple t items) (hx : items[i]? = none)
   (hE : ∀ h' e, Heap.ExtBut it s.heap h' -> (∃ o, h'.get? e = some o /\ o.cls = .type "StopIteration") -> E (.ref e) { s with heap := h' }) : wpAny (model prog w) A (Builtin.SmallTypes.nextOf (.ref it)) Q E s := by
 obtain ⟨⟨o, ho, hc, hd⟩, ⟨ol, hol, _, nl, hdl⟩⟩ := (⟨id hit, ht⟩ : _ /\ _)
 unfold Builtin.SmallTypes.nextOf; refine wpAny_bind (wpAny_callSpecial?_slot (name := Str.ofString "__next__") hit.typeIs F.slot_tuple_iterator_next (wpAny_call_entry F.slot_tuple_iterator_next hit.typeIs F.entry_tuple_iterator_next ?_ (F.args_tuple_iterator_next_1 _)))
 show wpAny (model prog w) _ (field (.ref it) 0 >>= _) _ _ s; refine wpAny_bind (wpAny_field ho hd (x := .ref t) rfl ?_)
 show wpAny (model prog w) _ (if (Value.ref t == Value.none) = true then _ else _) _ _ s; rw [if_neg (by exact Bool.false_ne_true)]
 show wpAny (model prog w) _ (field (.ref it) 1 >>= _) _ _ s; refine wpAny_bind (wpAny_field ho hd (x := .int i 0) rfl ?_)
 show wpAny (model prog w) _ (seqItems? (.ref t) >>= _) _ _ s; refine wpAny_bind (wpAny_seqItems hol hdl ?_); simp only [Int.toNat_natCast, hx]
 refine wpAny_bind (wpAny_rule (wpAny_bind (wpAny_setField ho hd (by simp) ?_))); show wpAny (model prog w) _ (newExc (.type "StopIteration") [] >>= _) _ _ _
 refine wpAny_bind ?_; simp only [newExc, newTuple]; refine wpAny_bind (wpAny_newObj_type ?_ (by size_fits))
 refine wpAny_bind (m := firstArgMember _ _) (wpAny_of_eq (a := Value.none) (by first | rfl | (simp only [firstArgMember]; rfl)) (wpAny_newObj_type ?_ (by size_fits)))
 simp only [raiseNew]; refine wpAny_bind (wpAny_handled ?_); first | rw [show A.in1.handled = none from hh] | rw [hh]
 refine wpAny_bind (wpAny_pure (wpAny_throw (hE _ _ (((Heap.SameBut.update ..).extBut.push _).push _) ⟨_, Heap.get?_push_size _ rfl, rfl⟩)))
end
theorem zh7 {prog : Program} {w : World} {A : Around} (hh : A.handled = none) (it t : Addr) (hne : t ≠ it) (items : Array Value) :
   Draws prog w A it [it, t] items.size (λ i v => items[i]? = some v) (λ i h => h.IsTupleIter it t i /\ h.IsTuple t items) where
 live := λ _ _ ⟨⟨o, ho, _⟩, _⟩ => ⟨o, ho⟩
 frame := λ _ _ _ ⟨⟨o, ho, r⟩, ⟨o2, ho2, r2⟩⟩ hk => ⟨⟨o, hk it (by simp) o ho, r⟩, ⟨o2, hk t (by simp) o2 ho2, r2⟩⟩
 item := λ i s Q E hi ⟨s1, s2⟩ hQ => gx_nextOf_tup s1 s2 (x := items[i]) (by simp [hi]) λ h' hit' hs' => hQ _ h' s.toks (by simp [hi]) ⟨hit', s2.extBut hs'.extBut hne⟩ hs'
 done := λ s Q E ⟨s1, s2⟩ hE => gx_nextOf_tup_end hh s1 s2 (by simp) hE
end L2
namespace L2
open PySem PySem.Spec PyProof.Rows
section
variable {X : Cx} {pins : List (Addr × Obj)} {σ : St} {H : Hp} {s : Shared} {h' : Heap}
theorem Inv.turnedL {t' : Nat} {ch : List Addr} (I : Inv X pins σ H s) (k : ∀ b o, b ∉ ch -> s.heap.get? b = some o -> h'.get? b = some o) (hf : ∀ b ∈ ch, zqi X pins H b) : Inv X pins σ H { s with heap := h', toks := t' } := by
 have nit : ∀ b u, H b = some u -> b ∉ ch := λ b u e z => by rw [(hf b z).1] at e; cases e
 refine I.step (g' := s.gens) (d' := s.drawn) (ch := ch) (λ b hb => ⟨(hf b hb).2.2.2.1, (hf b hb).2.1, (hf b hb).2.2.2.2.1, (hf b hb).2.2.2.2.2⟩) (λ b o _ _ hc e _ => k b o hc e) (λ b o _ _ hc e _ => ⟨o.slots, k b o hc e⟩) (λ _ _ _ _ n => n) (λ b o hc e => ⟨o, k b o hc e⟩) (λ _ _ e => e) (λ _ _ _ e => e) (λ b ps e => ⟨#[], by rw [e]; simp⟩) (λ m hm => ?_) (λ b u e => ?_) I.bare
 . obtain ⟨o, es, ep, ho, r⟩ := hm
   exact ⟨o, es, ep, k _ _ (λ z => (hf _ z).2.1 rfl) ho, r⟩
 . have key : ∀ c, c = b \/ H c = some (.own b) -> c ∉ ch := λ c hc => by
     rcases hc with z | z
     . subst z; exact nit _ u e
     . exact nit c _ z
   exact (I.hok b u e).stay (λ c v hc q => k c v (key c hc) q) (λ _ q => q) λ _ _ q => q
theorem Inv.turnLaid {t' : Nat} {ch : List Addr} {a : Addr} {o : HO} (I : Inv X pins σ H s) (k : ∀ b o, b ∉ ch -> s.heap.get? b = some o -> h'.get? b = some o) (hf : ∀ b ∈ ch, zqi X pins H b) (hp : s.heap.objs.size <= a) (new : zdu X.prog X.w (upd H a o) h' a o) :
   Inv X pins σ (upd H a o) { s with heap := h', toks := t' } := by
 have nit : ∀ b u, H b = some u -> b ∉ ch := λ b u e z => by rw [(hf b z).1] at e; cases e
 have hn : H a = none := I.hok.fresh hp
 refine I.step (g' := s.gens) (d' := s.drawn) (ch := ch) (λ b hb => ⟨(hf b hb).2.2.2.1, (hf b hb).2.1, (hf b hb).2.2.2.2.1, (hf b hb).2.2.2.2.2⟩) (λ b o _ _ hc e _ => k b o hc e) (λ b o _ _ hc e _ => ⟨o.slots, k b o hc e⟩) (λ b u _ q n => by rw [zaf (λ z => by subst z; exact absurd (Nat.lt_of_lt_of_le (Heap.lt_size q) hp) (Nat.lt_irrefl _))]; exact n) (λ b o hc e => ⟨o, k b o hc e⟩) (λ b xs q => by rw [zaf (zbg q hn)]; exact q) (λ b u xs q => by rw [zaf (zbg q hn)]; exact q) (λ b ps q => ⟨#[], by rw [zaf (zbg q hn), q]; simp⟩) (λ m hm => ?_) (λ b u e => ?_) I.bare
 . obtain ⟨o, es, ep, ho, r⟩ := hm
   exact ⟨o, es, ep, k _ _ (λ z => (hf _ z).2.1 rfl) ho, r⟩
 . by_cases hb : b = a
   . subst hb
     rw [zab] at e
     cases e
     exact new
   . rw [zaf hb] at e
     have key : ∀ c, c = b \/ H c = some (.own b) -> c ∉ ch := λ c hc => by
       rcases hc with z | z
       . subst z; exact nit _ u e
       . exact nit c _ z
     exact (I.hok b u e).stay (λ c v hc q => k c v (key c hc) q) (λ c q => (zaf (zbg q hn)).trans q) λ c xs q => (zaf (zbg q hn)).trans q
end
theorem zhs (l : Addr) (items : Array Value) (n : Nat) (dct : Option Addr) (sl : Array (Option Value)) :
   Meets (Builtin.«enumerate.__new__» ⟨[.type "enumerate", .ref l], []⟩) (λ _ R s => s.heap.get? l = some { cls := .type "tuple", dict := dct, data := .seq items n, slots := sl } /\
     R (.ok (.ret (.ref (s.heap.push { cls := .type "tuple_iterator", data := .fields #[.ref l, .int 0 0] }).objs.size)))
       { s with heap := (s.heap.push { cls := .type "tuple_iterator", data := .fields #[.ref l, .int 0 0] }).push { cls := .type "enumerate", data := .fields #[.none, .bool false, .ref s.heap.objs.size, rawInt 0, .none, .none] } }) :=
 .of_wp λ prog w A R s h => by
   obtain ⟨h0, g0, d0, t0, o0⟩ := s
   obtain ⟨hl, h⟩ := h
   have hsub := sub_enumerate
   have hL : Heap.IsTuple (Shared.heap ⟨h0, g0, d0, t0, o0⟩) l items := ⟨_, hl, rfl, n, rfl⟩
   wp_walk using AutoSeq1.wpAny_loadPart' hl
   refine wpAny_stack_any λ st => wpAny_pure ?_
   split
   . rename_i c _ _ _ _ _
     cases (c == Value.type "enumerate") <;> (wp_walk using AutoSeq1.wpAny_loadPart' hl, wpAny_pyIter_tuple hL; exact ⟨_, rfl, h⟩)
   . wp_walk using AutoSeq1.wpAny_loadPart' hl, wpAny_pyIter_tuple hL; exact ⟨_, rfl, h⟩
theorem zij {prog : Program} {w : World} {A : Around} {E : Value -> Shared -> Prop} {s : Shared} {l : Addr} {items : Array Value} {Q : Value -> Shared -> Prop} (hL : s.heap.IsTuple l items)
   (h : ∀ h', IsEnum h' (s.heap.objs.size + 1) s.heap.objs.size 0 .none -> h'.IsTupleIter s.heap.objs.size l 0 -> (∀ b o, s.heap.get? b = some o -> h'.get? b = some o) -> Q (.ref (s.heap.objs.size + 1)) { s with heap := h' }) :
   wpAny (model prog w) A (call (.type "enumerate") [.ref l]) Q E s := by
 obtain ⟨⟨c, dct, dt, sl⟩, hl, hc, n, hd⟩ := hL
 cases (show c = .type "tuple" from hc); cases (show dt = .seq items n from hd)
 refine callType_new F.called_enumerate (by decide) (F.typeCall_enumerate_1 _) (F.newCall_enumerate_1 _) (λ obj => F.args_object_init_2 obj _) F.entry_enumerate_new (zhs l items n dct sl) ⟨hl, ?_⟩
 have hz : (s.heap.push { cls := .type "tuple_iterator", data := .fields #[.ref l, .int 0 0] }).objs.size = s.heap.objs.size + 1 := Heap.size_push ..
 have he : IsEnum ((s.heap.push { cls := .type "tuple_iterator", data := .fields #[.ref l, .int 0 0] }).push { cls := .type "enumerate", data := .fields #[.none, .bool false, .ref s.heap.objs.size, rawInt 0, .none, .none] }) (s.heap.objs.size + 1) s.heap.objs.size 0 .none := by
   have e := Heap.get?_push_size (s.heap.push { cls := .type "tuple_iterator", data := .fields #[.ref l, .int 0 0] }) (o := { cls := .type "enumerate", data := .fields #[.none, .bool false, .ref s.heap.objs.size, rawInt 0, .none, .none] }) rfl
   rw [hz] at e
   exact e
 show _ /\ _
 rw [hz]
 exact ⟨⟨_, he, rfl⟩, h _ he ⟨_, Heap.get?_push_of_some _ (Heap.get?_push_size _ rfl), rfl, rfl⟩ λ b o x => Heap.get?_push_of_some _ (Heap.get?_push_of_some _ x)⟩
def Ite (K : W.Frag) (a : Addr) : It :=
 ⟨λ i H => ∃ xs x, SqT K H a xs /\ xs[i]? = some x, λ i H y H' => ∃ b, y = .ref b /\ H b = none /\ ∀ xs x, SqT K H a xs -> xs[i]? = some x -> H' = upd H b (.tup [.int i, x]), λ i H => ∃ xs, SqT K H a xs /\ xs.length = i⟩
theorem zrr {P : Program} {w : World} {K : W.Frag} {elts : List Expr} {k : Nat} {pos : Pos} (a e it : Addr) (hne : e ≠ it) : Turn P w K (.Tuple elts k pos) (Ite K a) [e, it] e (λ i h => (∃ old, IsEnum h e it i old) /\ h.IsTupleIter it a i) where
 mem := by simp
 obj := λ i h st b hb => by
   obtain ⟨⟨old, he⟩, ⟨o, ho, hc, hd⟩⟩ := st
   rcases List.mem_cons.mp hb with z | z
   . subst z
     exact ⟨_, he, λ v z => by cases (show Data.fields _ = Data.cell v from z)⟩
   . have z : b = it := by simpa using z
     subst z
     exact ⟨o, ho, λ v z => by rw [hd] at z; cases z⟩
 keep := λ i h h' st kk => by
   obtain ⟨⟨old, he⟩, ⟨o, ho, r⟩⟩ := st
   exact ⟨⟨old, kk e (by simp) _ he⟩, ⟨o, kk it (by simp) o ho, r⟩⟩
 item := by
   intro X hP hw hK hc i pins s σ H E I hf st hg
   subst hP hw hK
   obtain ⟨⟨old, he⟩, hit⟩ := st
   obtain ⟨xs, x, hq, hx⟩ := hg
   obtain ⟨its, rv, p, hz⟩ := I.tuple hq
   have pt : s.heap.IsTuple a its.toArray := p
   obtain ⟨u, hu, ru⟩ := rv.get hx
   have hia : a ≠ it := λ z => by
     subst z
     obtain ⟨o1, h1, c1, _⟩ := hit
     obtain ⟨o2, h2, c2, _⟩ := pt
     rw [h1] at h2
     cases h2
     rw [c1] at c2
     injection c2 with c2
     exact absurd c2 (by decide)
   have hea : e ∉ [it, a] := λ z => by
     rcases List.mem_cons.mp z with z | z
     . exact hne z
     . have z : e = a := by simpa using z
       subst z
       obtain ⟨o2, h2, c2, _⟩ := pt
       rw [he] at h2
       cases h2
       injection (show Value.type "enumerate" = Value.type "tuple" from c2) with c2
       exact absurd c2 (by decide)
   have hlt : i < its.toArray.size := by
     have := (List.getElem?_eq_some_iff.mp hu).1
     simpa using this
   refine wpAny_pyNext_enum_itemD (zh7 (A := X.A.in1) (I.ok.hd hc) it a hia its.toArray) he ⟨hit, pt⟩ hlt hne hea λ y h' tk hy hout hst hT hsz hk => ?_
   refine ⟨_, rfl, wpAny_letOwnedTupleGo_enum hout λ h2 he2 hs2 => ?_⟩
   have hs2 : Heap.SameBut e h' h2 := hs2
   have hyu : y = u := by
     have hy : its.toArray[i]? = some y := hy
     have : its[i]? = some y := by simpa using hy
     rw [hu] at this
     exact (Option.some.inj this).symm
   subst hyu
   have helt : e < s.heap.objs.size := Heap.lt_size he
   have hfr : H s.heap.objs.size = none := I.hok.fresh (Nat.le_refl _)
   have hnS : s.heap.objs.size ≠ e := Nat.ne_of_gt helt
   have hT2 : h2.get? s.heap.objs.size = some { cls := .type "tuple", data := .seq #[.int i tk, y] } := (hs2.2 _ hnS).trans hT
   refine ⟨.ref s.heap.objs.size, upd H s.heap.objs.size (.tup [.int i, x]), I.turnLaid (t' := tk + 1) (ch := [e, it]) (λ b o hb q => ?_) hf (Nat.le_refl _) ?_, rfl, ⟨s.heap.objs.size, rfl, hfr, λ xs' x' hq' hx' => ?_⟩, ⟨⟨y, by exact_mod_cast he2⟩, ?_⟩, λ b hb => ?_⟩
   . have h1 : b ≠ e := λ z => hb (by simp [z])
     have h3 : b ≠ it := λ z => hb (by simp [z])
     exact (hs2.2 b h1).trans (hk b o h1 h3 q)
   . exact ⟨by show 2 <= sizeLine; decide, [.int i tk, y], .cons ⟨tk, rfl⟩ (.cons ru .nil), ⟨_, hT2, rfl, _, rfl⟩⟩
   . have := I.tuple_inj hq' hq
     subst this
     rw [hx] at hx'
     cases hx'
     rfl
   . obtain ⟨⟨o, ho, r⟩, _⟩ := hst
     exact ⟨o, (hs2.2 it hne.symm).trans ho, r⟩
   . have hb0 := (hf b hb).1
     rw [zaf]
     . exact hb0
     . intro z
       subst z
       obtain ⟨o, ho, _⟩ := hit
       rcases List.mem_cons.mp hb with z | z
       . exact hnS z
       . have z : s.heap.objs.size = it := by simpa using z
         exact absurd (Heap.lt_size ho) (by rw [<- z]; exact Nat.lt_irrefl _)
 done := by
   intro X hP hw hK hc i pins s σ H E I hf st hg
   subst hP hw hK
   obtain ⟨⟨old, he⟩, hit⟩ := st
   obtain ⟨xs, hq, hx⟩ := hg
   obtain ⟨its, rv, p, hz⟩ := I.tuple hq
   have pt : s.heap.IsTuple a its.toArray := p
   have hl := rv.length
   have hia : a ≠ it := λ z => by
     subst z
     obtain ⟨o1, h1, c1, _⟩ := hit
     obtain ⟨o2, h2, c2, _⟩ := pt
     rw [h1] at h2
     cases h2
     rw [c1] at c2
     injection c2 with c2
     exact absurd c2 (by decide)
   have hi : i = its.toArray.size := by simp; omega
   refine wpAny_pyNext_enum_endD (zh7 (A := X.A.in1) (I.ok.hd hc) it a hia its.toArray) he (by rw [<- hi]; exact ⟨hit, pt⟩) λ h' eb => ⟨rfl, ?_⟩
   exact I.turnedL (t' := s.toks) (ch := [e, it]) (λ b o hb q => eb b o (λ z => hb (by simp [z])) q) hf
 self := λ _ _ _ _ _ st h => by
   obtain ⟨⟨old, he⟩, _⟩ := st
   exact wpAny_pyIter_enum he h
end L2
namespace L2
open PySem PySem.Spec PyProof.Rows
section
variable {X : Cx}
theorem zmq : bootBuiltins "enumerate" = some (.type "enumerate") := zmr
def zxj (K : W.Frag) (ta : TA) : TI := λ σ H R => ta σ H λ vs H1 => ∃ a, vs = [.ref a] /\ (∃ xs, SqT K H1 a xs) /\ R (Ite K a) H1
theorem zoc {a : Expr} {ta : TA} {p pos tpos : Pos} {elts : List Expr} {k : Nat} (hg : Gl X "enumerate") (hm : X.mg "enumerate" = none) (ha : PA X [a] ta) (hs : starEach [a] X.env = [(false, eval a X.env)] := by rfl) : PI X (.Tuple elts k tpos) (.Call (.Name "enumerate" p) [a] [] pos) (zxj X.K ta) := by
 intro pins s σ H R I h
 refine Call_ (zie I hg hm zmq (PyProof.Rows.callWith_type1 (thn (ha pos pins s σ H _ I h) λ us s1 ⟨vs, H1, I1, r1, q1⟩ => ?_) hs rfl))
 obtain ⟨a, e, ⟨xs, hq⟩, q⟩ := q1
 subst e
 cases r1 with
 | cons r rr =>
   cases rr
   cases r
   obtain ⟨its, rv, p, hz⟩ := I1.tuple hq
   refine zij (show s1.heap.IsTuple a its.toArray from p) λ h' he hit hk => ?_
   refine wpAny_pyIter_enum he ?_
   refine ⟨s1.heap.objs.size + 1, [s1.heap.objs.size + 1, s1.heap.objs.size], _, _, H1, rfl, I1.kept (t' := s1.toks) hk, zrr a (s1.heap.objs.size + 1) s1.heap.objs.size (Nat.succ_ne_self _), ⟨⟨.none, he⟩, hit⟩, λ b hb => ?_, q⟩
   rcases List.mem_cons.mp hb with z | z
   . subst z
     exact I1.fpOk (Nat.le_succ _) (I1.hok.fresh (Nat.le_succ _))
   . have z : b = s1.heap.objs.size := by simpa using z
     subst z
     exact I1.fpOk (Nat.le_refl _) (I1.hok.fresh (Nat.le_refl _))
theorem zmi {K : W.Frag} {a : Addr} {xs : List V} {g : TG} {tb : TS} {D : zhp} {σ : St} {H : Hp} (Pv : Nat -> St -> Hp -> Prop) (h0 : Pv 0 σ H) (hl : ∀ i σ H, i <= xs.length -> Pv i σ H -> SqT K H a xs)
   (hs : ∀ i x σ H b, xs[i]? = some x -> Pv i σ H -> H b = none -> g (.ref b) σ (upd H b (.tup [.int i, x])) λ σ2 H2 => tb { D with nx := Pv (i + 1), ct := Pv (i + 1), bk := D.nx } σ2 H2) (hd : ∀ σ H, Pv xs.length σ H -> D.nx σ H) :
   ∃ W : Nat -> Nat -> St -> Hp -> Prop, (∃ m, W 0 m σ H) /\ ∀ i m σ H, W i m σ H -> ((Ite K a).stop i H /\ D.nx σ H) \/ ((Ite K a).go i H /\ ∃ N : St -> Hp -> Prop, (∀ σ' H', N σ' H' -> ∃ m', m' < m /\ W (i + 1) m' σ' H') /\ ∀ x H', (Ite K a).yld i H x H' -> g x σ H' λ σ2 H2 => tb { D with nx := N, ct := N, bk := D.nx } σ2 H2) := by
 refine ⟨λ i m σ H => m = xs.length - i /\ i <= xs.length /\ Pv i σ H, ⟨xs.length, by simp, Nat.zero_le _, h0⟩, ?_⟩
 rintro i m σ H ⟨rfl, hi, p⟩
 have q := hl i σ H hi p
 by_cases hlt : i < xs.length
 . refine .inr ⟨⟨xs, xs[i], q, by simp [hlt]⟩, Pv (i + 1), λ σ' H' p' => ⟨xs.length - (i + 1), by omega, rfl, hlt, p'⟩, λ x H' y => ?_⟩
   obtain ⟨b, rfl, hb, y⟩ := y
   rw [y xs xs[i] q (by simp [hlt])]
   exact hs i xs[i] σ H b (by simp [hlt]) p hb
 . have e : i = xs.length := by omega
   subst e
   exact .inl ⟨⟨xs, q, rfl⟩, hd σ H p⟩
end
end L2
namespace L2
open PySem PySem.Spec PyProof.Rows
section
variable {X : Cx} {pins : List (Addr × Obj)} {σ : St} {H : Hp} {s : Shared}
theorem Inv.freeze {d : Addr} {kvs : List (Key × V)} (I : Inv X pins σ H s) (e : H d = some (.dK kvs)) : ∃ o, s.heap.get? d = some o /\ Inv X pins σ (upd H d (.frz o (.dK kvs))) s := by
 obtain ⟨z, hd, vs, rel, ⟨o, es, ep, ho, r⟩⟩ := I.hok d _ e
 refine ⟨o, ho, ?_⟩
 have nd : ∀ b u, H b = some u -> u ≠ .dK kvs -> b ≠ d := λ b u q n z => by
   subst z
   rw [e] at q
   cases q
   exact n rfl
 refine I.step (g' := s.gens) (t' := s.toks) (d' := s.drawn) (h' := s.heap) (ch := []) (λ _ z => nomatch z) (λ b o _ _ _ q _ => q) (λ b o _ _ _ q _ => ⟨o.slots, q⟩) (λ b o _ _ n => ?_) (λ b o _ q => ⟨o, q⟩) (λ b xs q => ?_) (λ b o u q => ?_) (λ b ps q => ⟨#[], ?_⟩) (λ m hm => hm) (λ b u q => ?_) I.bare
 . rw [zaf (λ z => by subst z; rw [e] at n; cases n)]
   exact n
 . rw [zaf (nd b _ q (by intro z; cases z))]
   exact q
 . rw [zaf (nd b _ q (by intro z; cases z))]
   exact q
 . rw [zaf (nd b _ q (by intro z; cases z)), q]
   simp
 . have own : ∀ c b, H c = some (.own b) -> (upd H d (.frz o (.dK kvs))) c = some (.own b) := λ c b q => (zaf (nd c _ q (by intro z; cases z))).trans q
   have tup : ∀ c xs, H c = some (.tup xs) -> (upd H d (.frz o (.dK kvs))) c = some (.tup xs) := λ c xs q => (zaf (nd c _ q (by intro z; cases z))).trans q
   by_cases hb : b = d
   . subst hb
     rw [zab] at q
     cases q
     exact ⟨ho, (I.hok _ _ e).stay (λ _ _ _ q => q) (λ c q => own c _ q) tup⟩
   . rw [zaf hb] at q
     exact (I.hok b u q).stay (λ _ _ _ q => q) (λ c q => own c _ q) tup
end
theorem zjs : entryFor table "dict_itemiterator.__iter__" = some Builtin.«dict_keyiterator.__iter__» := entryFor_alias (id' := "dict_keyiterator.__iter__") (by kernel_rfl) (by first | rfl | decide +kernel | (unfold String.splitOn; simp +decide [String.splitOnAux])) (by decide +kernel) (by kernel_rfl)
def Itd (o : Obj) (d : Addr) (kvs : List (Key × V)) : It :=
 ⟨λ i H => H d = some (.frz o (.dK kvs)) /\ i < kvs.length, λ i H y H' => ∃ b, y = .ref b /\ H b = none /\ ∀ kv, kvs[i]? = some kv -> H' = upd H b (.tup [kV kv.1, kv.2]), λ i H => H d = some (.frz o (.dK kvs)) /\ i = kvs.length⟩
theorem zj4 {X : Cx} {pins : List (Addr × Obj)} {σ : St} {H : Hp} {s : Shared} {o : Obj} {d : Addr} {kvs : List (Key × V)} (I : Inv X pins σ H s) (e : H d = some (.frz o (.dK kvs))) {es0 : Array DictEntry} {ep : Nat} (hep : o.data = .dict es0 ep) :
   ∃ vs, KV kvs vs /\ s.heap.DictAt (zbh X.prog X.w) d vs ep := by
 obtain ⟨h1, z, hd, vs, rel, ⟨o', es, ep', ho, hx, hdat, r⟩⟩ := I.hok d _ e
 rw [h1] at ho
 cases ho
 rw [hep] at hdat
 cases hdat
 exact ⟨vs, rel, o, es0, h1, hx, hep, r⟩
theorem zpq {P : Program} {w : World} {K : W.Frag} {elts : List Expr} {k : Nat} {pos : Pos} (o : Obj) (d it : Addr) (kvs : List (Key × V)) (es0 : Array DictEntry) (ep : Nat) (hep : o.data = .dict es0 ep) :
   Turn P w K (.Tuple elts k pos) (Itd o d kvs) [it] it (λ i h => ∃ ok ov, IsItemIter h it d i kvs.length ep ok ov) where
 mem := by simp
 obj := λ i h st b hb => by
   obtain ⟨ok, ov, he⟩ := st
   have z : b = it := by simpa using hb
   subst z
   exact ⟨_, he, λ v z => by cases (show Data.fields _ = Data.cell v from z)⟩
 keep := λ i h h' st kk => by
   obtain ⟨ok, ov, he⟩ := st
   exact ⟨ok, ov, kk it (by simp) _ he⟩
 item := by
   intro X hP hw hK hc i pins s σ H E I hf st hg
   subst hP hw hK
   obtain ⟨ok, ov, he⟩ := st
   obtain ⟨hfz, hi⟩ := hg
   obtain ⟨vs, rel, hD⟩ := zj4 I hfz hep
   have hlen : kvs.length = vs.length := KV.length rel
   have hi' : i < vs.length := by omega
   have rk : kvs[i].1 = vs[i].1 /\ zcw kvs[i].2 vs[i].2 := zfy rel hi hi'
   refine wpAny_pyNext_items_item (knd := zbh X.prog X.w) (k := vs[i].1) (v := vs[i].2) (kvs := vs) (by rw [<- hlen]; exact he) hD (by simp [hi']) λ key h' hkey hout hT hsz hk => ?_
   refine ⟨_, rfl, wpAny_letOwnedTupleGo_items hout λ h2 he2 hs2 => ?_⟩
   have hs2 : Heap.SameBut it h' h2 := hs2
   have hilt : it < s.heap.objs.size := Heap.lt_size he
   have hnS : s.heap.objs.size ≠ it := Nat.ne_of_gt hilt
   have hfr : H s.heap.objs.size = none := I.hok.fresh (Nat.le_refl _)
   have hT2 : h2.get? s.heap.objs.size = some { cls := .type "tuple", data := .seq #[key, vs[i].2] } := (hs2.2 _ hnS).trans hT
   refine ⟨.ref s.heap.objs.size, upd H s.heap.objs.size (.tup [kV kvs[i].1, kvs[i].2]), I.turnLaid (t' := s.toks) (ch := [it]) (λ b o hb q => ?_) hf (Nat.le_refl _) ?_, rfl, ⟨s.heap.objs.size, rfl, hfr, λ kv hkv => ?_⟩, ⟨_, _, by rw [hlen]; exact he2⟩, λ b hb => ?_⟩
   . have h1 : b ≠ it := λ z => hb (by simp [z])
     exact (hs2.2 b h1).trans (hk b o h1 q)
   . exact ⟨by show 2 <= sizeLine; decide, [key, vs[i].2], .cons (by rw [rk.1]; exact zrn hkey) (.cons rk.2 .nil), ⟨_, hT2, rfl, _, rfl⟩⟩
   . have : kvs[i] = kv := by simpa [hi] using hkv
     rw [<- this]
   . have z : b = it := by simpa using hb
     subst z
     rw [zaf hnS.symm]
     exact (hf _ hb).1
 done := by
   intro X hP hw hK hc i pins s σ H E I hf st hg
   subst hP hw hK
   obtain ⟨ok, ov, he⟩ := st
   obtain ⟨hfz, hi⟩ := hg
   obtain ⟨vs, rel, hD⟩ := zj4 I hfz hep
   have hlen : kvs.length = vs.length := KV.length rel
   refine wpAny_pyNext_items_end (knd := zbh X.prog X.w) (kvs := vs) (I.ok.hd hc) (by rw [<- hlen]; exact he) hD (by simp; omega) λ h' eb => ⟨rfl, ?_⟩
   exact I.turnedL (t' := s.toks) (ch := [it]) (λ b o hb q => eb b o (λ z => hb (by simp [z])) q) hf
 self := λ A i s Q E st h => by
   obtain ⟨ok, ov, he⟩ := st
   have hT : s.TypeIs (.ref it) "dict_itemiterator" := ⟨_, he, rfl⟩
   exact wpAny_pyIter_slot hT F.slot_dict_itemiterator_iter (wpAny_call_entry F.slot_dict_itemiterator_iter hT zjs (show wpAny _ _ (ret (.ref it)) _ _ s from wpAny_pure ⟨_, rfl, "dict_itemiterator", _, hT, F.slot_dict_itemiterator_next.lookup, h⟩) (F.args_dict_itemiterator_iter_1 _))
section
variable {X : Cx}
def zwx (td : TE) : TI := λ σ H R => td σ H λ x H1 => ∃ d kvs, x = .ref d /\ ((H1 d = some (.dK kvs) /\ ∀ o, R (Itd o d kvs) (upd H1 d (.frz o (.dK kvs)))) \/ ∃ o, H1 d = some (.frz o (.dK kvs)) /\ R (Itd o d kvs) H1)
theorem zog {l : Expr} {td : TE} {apos cpos tpos : Pos} {elts : List Expr} {k : Nat} (hl : PE X l td) (hbase : attributeBase l "items" X.env (eval l X.env) = eval l X.env := by rfl) (hline : (apos.endLine == cpos.line) = true := by rfl) :
   PI X (.Tuple elts k tpos) (.Call (.Attribute l "items" apos) [] [] cpos) (zwx td) := by
 intro pins s σ H R I h
 refine wpAny_Call_method0_late hbase hline (thn (hl pins s σ H _ I h) λ v s1 ⟨x, H1, I1, r1, q1⟩ => ?_)
 obtain ⟨d, kvs, rfl, q1⟩ := q1
 cases r1
 have key : ∃ o H2, Inv X pins σ H2 s1 /\ H2 d = some (.frz o (.dK kvs)) /\ R (Itd o d kvs) H2 := by
   rcases q1 with ⟨e, q⟩ | ⟨o, e, q⟩
   . obtain ⟨o, ho, I2⟩ := I1.freeze e
     exact ⟨o, _, I2, zab, q o⟩
   . exact ⟨o, H1, I1, e, q⟩
 obtain ⟨o, H2, I2, e2, q⟩ := key
 obtain ⟨ho, z, hd, vs, rel, dd⟩ := I2.hok d _ e2
 obtain ⟨o', es, ep, ho', hx, hdat, r⟩ := id dd
 rw [ho] at ho'
 cases ho'
 refine ⟨"dict", "dict.items", PySem.F.plainAttrs_dict, PySem.F.slot_dict_items, PySem.F.type_dict_items, dd.typeIs, λ b q => ?_, Calls.callWith_builtin rfl (PySem.evalArgs_none ?_)⟩
 . cases q
   exact ⟨o, ho, hx.2.1⟩
 refine call_meetsIn PySem.F.slot_dict_items dd.typeIs PySem.F.entry_dict_items (PySem.F.args_dict_items_1 _) (meets_dict_items (zbh X.prog X.w) d hd) ⟨⟨vs, dd⟩, ?_⟩
 have I3 : Inv X pins σ H2 { s1 with heap := s1.heap.push { cls := .type "dict_items", data := .fields #[.ref d] } } := I2.kept (t' := s1.toks) λ b o e => Heap.get?_push_of_some _ e
 obtain ⟨vs3, rel3, hD3⟩ := zj4 I3 e2 hdat
 refine wpAny_pyIter_items (knd := zbh X.prog X.w) (kvs := vs3) (ep := ep) ⟨_, Heap.get?_push_size _ rfl, rfl, rfl⟩ hD3 ?_
 have hlen : kvs.length = vs3.length := KV.length rel3
 rw [<- hlen]
 generalize hh3 : s1.heap.push { cls := .type "dict_items", data := .fields #[.ref d] } = h3 at I3 ⊢
 refine ⟨h3.objs.size, [h3.objs.size], _, _, H2, rfl, I3.kept (t' := s1.toks) λ b o e => Heap.get?_push_of_some _ e, zpq o d h3.objs.size kvs es ep hdat, ⟨_, _, Heap.get?_push_size _ rfl⟩, λ b hb => ?_, q⟩
 have z : b = h3.objs.size := by simpa using hb
 subst z
 exact I3.fpOk (Nat.le_refl _) (I3.hok.fresh (Nat.le_refl _))
theorem zlm {o : Obj} {d : Addr} {kvs : List (Key × V)} {g : TG} {tb : TS} {D : zhp} {σ : St} {H : Hp} (Pv : Nat -> St -> Hp -> Prop) (h0 : Pv 0 σ H) (hl : ∀ i σ H, i <= kvs.length -> Pv i σ H -> H d = some (.frz o (.dK kvs)))
   (hs : ∀ i kv σ H b, kvs[i]? = some kv -> Pv i σ H -> H b = none -> g (.ref b) σ (upd H b (.tup [kV kv.1, kv.2])) λ σ2 H2 => tb { D with nx := Pv (i + 1), ct := Pv (i + 1), bk := D.nx } σ2 H2) (hd : ∀ σ H, Pv kvs.length σ H -> D.nx σ H) :
   ∃ W : Nat -> Nat -> St -> Hp -> Prop, (∃ m, W 0 m σ H) /\ ∀ i m σ H, W i m σ H -> ((Itd o d kvs).stop i H /\ D.nx σ H) \/ ((Itd o d kvs).go i H /\ ∃ N : St -> Hp -> Prop, (∀ σ' H', N σ' H' -> ∃ m', m' < m /\ W (i + 1) m' σ' H') /\ ∀ x H', (Itd o d kvs).yld i H x H' -> g x σ H' λ σ2 H2 => tb { D with nx := N, ct := N, bk := D.nx } σ2 H2) := by
 refine ⟨λ i m σ H => m = kvs.length - i /\ i <= kvs.length /\ Pv i σ H, ⟨kvs.length, by simp, Nat.zero_le _, h0⟩, ?_⟩
 rintro i m σ H ⟨rfl, hi, p⟩
 have q := hl i σ H hi p
 by_cases hlt : i < kvs.length
 . refine .inr ⟨⟨q, hlt⟩, Pv (i + 1), λ σ' H' p' => ⟨kvs.length - (i + 1), by omega, rfl, hlt, p'⟩, λ x H' y => ?_⟩
   obtain ⟨b, rfl, hb, y⟩ := y
   rw [y kvs[i] (by simp [hlt])]
   exact hs i kvs[i] σ H b (by simp [hlt]) p hb
 . have e : i = kvs.length := by omega
   subst e
   exact .inl ⟨⟨q, rfl⟩, hd σ H p⟩
end
section
variable {X : Cx} {o e f : Expr} {apos cpos : Pos} {td ty tx : TE}
def zxg (td ty tx : TE) : TE := λ σ H Q => td σ H λ x H1 => ∃ a, x = .ref a /\ IsD H1 a /\ ty σ H1 λ y H2 => tx σ H2 λ z H3 => ∃ kvs k, H3 a = some (.dK kvs) /\ y = kV k /\ kvs.length < sizeLine /\
 (∀ v, zc2 kvs k = some v -> Q v H3) /\ (zc2 kvs k = none -> Q z (upd H3 a (.dK (zbu kvs k z))))
theorem zty (ho : PE X o td) (he : PE X e ty) (hf : PE X f tx) (m : M2 X o "setdefault" apos e f cpos) : PE X (.Call (.Attribute o "setdefault" apos) [e, f] [] cpos) (zxg td ty tx) := by
 intro pins s σ H Q I h
 refine wpAny_Call_method m.base m.few m.line PySem.F.plainAttrs_dict PySem.F.slot_dict_setdefault PySem.F.type_dict_setdefault (thn (ho pins s σ H _ I h) λ u s1 ⟨x, H1, I1, rx, a, ex, d, q1⟩ => ?_)
 subst ex
 obtain rfl : u = Value.ref a := rx
 obtain ⟨t1, t2, _⟩ := zuu I1 d
 refine ⟨t1, t2, ?_⟩
 rw [m.trees]
 refine Calls.callWith_builtin rfl (Calls.evalArgs_plain (Calls.spliced_cons (thn (he pins s1 σ H1 _ I1 q1) λ iv s2 ⟨y, H2, I2, ry, q2⟩ => Calls.spliced_cons (thn (hf pins s2 σ H2 _ I2 q2) λ fv s3 ⟨z, H3, I3, rz, kvs, k, ea, ey, hl, q3, q4⟩ => Calls.spliced_nil ?_))))
 subst ey
 obtain ⟨hz, hd, vs, rel, dd⟩ := zqv I3.hok ea
 refine call_meetsIn PySem.F.slot_dict_setdefault dd.typeIs PySem.F.entry_dict_setdefault (PySem.F.args_dict_setdefault_3 _ _ _) (kt_meets_setdefault (zbh X.prog X.w) a (zmh ry) hd fv) ⟨vs, dd, by rw [<- rel.length]; exact hz, λ v hv => ?_, λ hn h' dd' hs => ?_⟩
 . have rv := rel.val k
   rw [hv] at rv
   cases l : zc2 kvs k with
   | none => rw [l] at rv; exact absurd rv (by intro z; cases z)
   | some v' =>
     rw [l] at rv
     exact ⟨v', H3, I3.tok _, rv, q3 v' l⟩
 . have rv := rel.val k
   rw [hn] at rv
   have l : zc2 kvs k = none := by
     cases l : zc2 kvs k with
     | none => rfl
     | some v' => rw [l] at rv; exact absurd rv (by intro z; cases z)
   have hex : ∃ q, h'.get? a = some q := let ⟨q, _, _, hq, _⟩ := dd'; ⟨q, hq⟩
   have hlp : (zbu kvs k z).length <= sizeLine := by have := za2 kvs k z; omega
   exact ⟨z, _, zi1 I3 (by rw [ea]; exact True.intro) hs hex (zo2 hlp hd (rel.put k rz) dd'), rz, q4 l⟩
end
end L2
namespace L2
open PySem PySem.Spec PyProof.Rows
def Itn (hi : Int) (n : Nat) : It := ⟨λ i _ => i < n, λ i H x H' => H' = H /\ x = .int (hi - i), λ i _ => n <= i⟩
theorem zsb {P : Program} {w : World} {K : W.Frag} {tg : Expr} (it : Addr) (hi : Int) (n : Nat) : Turn P w K tg (Itn hi n) [it] it (λ i h => IsRangeIter h it (hi + (i : Nat) * (-1)) ((n : Int) - (i : Nat)) (-1)) where
 mem := by simp
 obj := λ i h st b hb => by
   have e : b = it := by simpa using hb
   subst e
   exact ⟨_, st, λ v z => by cases (show Data.fields _ = Data.cell v from z)⟩
 keep := λ i h h' st k => k it (by simp) _ st
 item := by
   intro X hP hw hK hc i pins s σ H E I hf st hg
   subst hP hw hK
   refine (Walks.range (prog := X.prog) (w := X.w) (I.ok.hd hc) it hi (-1) n).item i s _ _ hg st λ v h' tk hv st' kk => ?_
   obtain ⟨t, rfl⟩ := hv
   have I1 : Inv X pins σ H { s with heap := h', toks := tk } := I.turnedL (ch := [it]) (λ b o hb e => kk b o hb e) hf
   have e : hi + (i : Int) * (-1) = hi - (i : Int) := by omega
   exact ⟨_, rfl, ztg (s := { s with heap := h', toks := tk }) (n := "range_iterator") st' rfl rfl (by decide) ⟨.int (hi - i), H, I1, ⟨t, by rw [e]⟩, ⟨rfl, rfl⟩, st', λ b hb => (hf b hb).1⟩⟩
 done := by
   intro X hP hw hK hc i pins s σ H E I hf st hg
   subst hP hw hK
   exact wpAny_pyNext_range_end (I.ok.hd hc) st (by have : n <= i := hg; omega) λ h' eb => ⟨rfl, I.turnedL (t' := s.toks) (ch := [it]) (λ b o hb e => eb b o (λ z => hb (by simp [z])) e) hf⟩
 self := λ _ _ _ _ _ st h => wpAny_pyIter_rangeiter st h
theorem zgp (a b : Int) : Builtin.Range.rangeSize a b (-1) = if b < a then a - b else 0 := by
 unfold Builtin.Range.rangeSize
 rw [if_neg (by decide)]
 have : (-(-1) : Int) = 1 := by decide
 rw [this]
 rw [Int.ediv_one]
 by_cases h : b < a
 . rw [if_pos h, if_pos h]; omega
 . rw [if_neg h, if_neg h]
theorem zpz {a b : Int} (ha : -(2 ^ 60) <= a) (ha' : a < 2 ^ 60) (hb : -(2 ^ 60) <= b) (hb' : b < 2 ^ 60) : Builtin.Range.small a b (-1) = true := by
 unfold Builtin.Range.small
 rw [zgp]
 simp only [Builtin.Range.rangeFitsLong, Bool.and_eq_true, Bool.or_eq_true, decide_eq_true_eq, beq_iff_eq, show ¬ ((-1 : Int) > 0) by decide, if_false]
 by_cases h : b < a
 . simp only [if_pos h]; omega
 . simp only [if_neg h]; omega
section
variable {X : Cx} {tg : Expr}
def zzh (ta : TA) : TI := λ σ H R => ta σ H λ vs H1 => ∃ i j : Int, vs = [.int i, .int j, .int (-1)] /\ (-(2 ^ 60) <= i /\ i < 2 ^ 60 /\ -(2 ^ 60) <= j /\ j < 2 ^ 60) /\ R (Itn i (i - j).toNat) H1
theorem zv7 {a b c : Expr} {ta : TA} {p pos : Pos} (hg : Gl X "range") (hm : X.mg "range" = none) (ha : PA X [a, b, c] ta) (hs : starEach [a, b, c] X.env = (false, eval a X.env) :: starEach [b, c] X.env := by rfl) (hs2 : (backTo pos (starEach [b, c] X.env)).any (·.1) = false := by rfl) :
   PI X tg (.Call (.Name "range" p) [a, b, c] [] pos) (zzh ta) := by
 intro pins s σ H R I h
 refine Call_ (zie I hg hm boot_range (PyProof.Rows.callWith_type1 (thn (ha pos pins s σ H _ I h) λ us s1 ⟨vs, H1, I1, r1, q1⟩ => ?_) hs hs2))
 obtain ⟨i, j, e, ⟨q1, q2, q3, q4⟩, q⟩ := q1
 subst e
 cases r1 with
 | cons r rr =>
   cases rr with
   | cons r' rr =>
     cases rr with
     | cons r'' rr =>
       cases rr
       obtain ⟨t, rfl⟩ := r
       obtain ⟨t', rfl⟩ := r'
       obtain ⟨t'', rfl⟩ := r''
       refine call_range_3 (by decide) ?_ (.inl (PyProof.noPylong_small (by omega)))
       refine wpAny_pyIter_range (IsRange.new ..) (zpz q1 q2 q3 q4) ?_
       have I2 : Inv X pins σ H1 { s1 with heap := s1.heap.push { cls := .type "range", data := .fields #[.int i t, .int j t', .int (-1) t''] }, toks := s1.toks } := I1.kept λ b o e => Heap.get?_push_of_some _ e
       refine ⟨_, [(s1.heap.push { cls := .type "range", data := .fields #[.int i t, .int j t', .int (-1) t''] }).objs.size], _, _, H1, rfl, I2.kept (t' := s1.toks) λ b o e => Heap.get?_push_of_some _ e, zsb _ i (i - j).toNat, ?_, λ b hb => ?_, q⟩
       . have e1 : i + ((0 : Nat) : Int) * (-1) = i := by omega
         have e2 : (((i - j).toNat : Nat) : Int) - ((0 : Nat) : Int) = Builtin.Range.rangeSize i j (-1) := by rw [zgp]; split <;> omega
         show IsRangeIter _ _ (i + ((0 : Nat) : Int) * (-1)) ((((i - j).toNat : Nat) : Int) - ((0 : Nat) : Int)) (-1)
         rw [e1, e2]
         exact Heap.get?_push_size _ rfl
       . have e : b = (s1.heap.push { cls := .type "range", data := .fields #[.int i t, .int j t', .int (-1) t''] }).objs.size := by simpa using hb
         subst e
         exact I2.fpOk (Nat.le_refl _) (I2.hok.fresh (Nat.le_refl _))
theorem ztu {hi : Int} {n : Nat} {g : TG} {tb : TS} {D : zhp} {σ : St} {H : Hp} (Pv : Nat -> St -> Hp -> Prop) (h0 : Pv 0 σ H) (hs : ∀ i σ H, i < n -> Pv i σ H -> g (.int (hi - i)) σ H λ σ2 H2 => tb { D with nx := Pv (i + 1), ct := Pv (i + 1), bk := D.nx } σ2 H2) (hd : ∀ σ H, Pv n σ H -> D.nx σ H) :
   ∃ W : Nat -> Nat -> St -> Hp -> Prop, (∃ m, W 0 m σ H) /\ ∀ i m σ H, W i m σ H -> ((Itn hi n).stop i H /\ D.nx σ H) \/ ((Itn hi n).go i H /\ ∃ N : St -> Hp -> Prop, (∀ σ' H', N σ' H' -> ∃ m', m' < m /\ W (i + 1) m' σ' H') /\ ∀ x H', (Itn hi n).yld i H x H' -> g x σ H' λ σ2 H2 => tb { D with nx := N, ct := N, bk := D.nx } σ2 H2) := by
 refine ⟨λ i m σ H => m = n - i /\ i <= n /\ Pv i σ H, ⟨n, by simp, Nat.zero_le _, h0⟩, ?_⟩
 rintro i m σ H ⟨rfl, hi', p⟩
 by_cases hlt : i < n
 . refine .inr ⟨hlt, Pv (i + 1), λ σ' H' p' => ⟨n - (i + 1), by omega, rfl, hlt, p'⟩, λ x H' y => ?_⟩
   obtain ⟨e, y⟩ := y
   subst e y
   exact hs i σ _ hlt p
 . have e : i = n := by omega
   subst e
   exact .inl ⟨Nat.le_refl _, hd σ H p⟩
end
end L2
namespace L2
open PySem PySem.Spec PyProof.Rows
theorem zq8 {X : Cx} {st : Stmt} {rest : List Stmt} {t u : TS} (h1 : PS X st t) (h2 : PSs X rest u) : PSs X (st :: rest) (λ D σ H => ∃ M : St -> Hp -> Prop, t { D with nx := M } σ H /\ ∀ σ' H', M σ' H' -> u D σ' H') := by
 intro pins s σ H D I h
 obtain ⟨M, h, hm⟩ := h
 refine wpAny_execs_cons (thn (h1 pins s σ H { D with nx := M } I h) λ f s1 q => ?_)
 cases f with
 | next =>
   obtain ⟨σ', H', I', q⟩ := q
   exact h2 pins s1 σ' H' D I' (hm _ _ q)
 | ret v => exact q
 | brk => exact q
 | cont => exact q
end L2
namespace L2
open PySem PySem.Spec PyProof.Rows
theorem zuq {X : Cx} : OpR X (compareOp .Is) (λ x y H Q => ∃ a b, x = .bl a /\ y = .bl b /\ Q (.bl (decide (a = b))) H) := by
 intro pins s σ H x y v u Q I rx ry h
 obtain ⟨a, b, rfl, rfl, q⟩ := h
 cases rx
 cases ry
 exact wpAny_is_plain rfl (zb8 I q (by cases a <;> cases b <;> rfl))
def Lay (n : Nat) (d : PyData) : Prop := PyData.canLay0 d = true /\ PyData.depth d <= n
theorem Lay.int {n : Nat} (i : Int) : Lay n (.int i) := ⟨by unfold PyData.canLay0; rfl, by unfold PyData.depth; exact Nat.zero_le _⟩
theorem Lay.bool {n : Nat} (b : Bool) : Lay n (.bool b) := ⟨by unfold PyData.canLay0; rfl, by unfold PyData.depth; exact Nat.zero_le _⟩
theorem Lay.str {n : Nat} {x : Str} (h : PyData.strOk x = true) : Lay n (.str x) := ⟨by unfold PyData.canLay0; exact h, by unfold PyData.depth; exact Nat.zero_le _⟩
theorem zyu {n : Nat} : ∀ {ds : List PyData}, (∀ d ∈ ds, Lay n d) -> PyData.canLayAll0 ds = true /\ PyData.depthAll ds <= n
 | [], _ => ⟨by unfold PyData.canLayAll0; rfl, by unfold PyData.depthAll; exact Nat.zero_le _⟩
 | d :: ds, h => by
   have h1 := h d List.mem_cons_self
   have h2 := zyu (λ x hx => h x (List.mem_cons_of_mem _ hx))
   constructor
   . unfold PyData.canLayAll0; rw [h1.1, h2.1]; rfl
   . unfold PyData.depthAll; exact Nat.max_le.mpr ⟨h1.2, h2.2⟩
theorem Lay.list {n : Nat} {ds : List PyData} (h : ∀ d ∈ ds, Lay n d) : Lay (n + 1) (.list ds) := by
 have h2 := zyu h
 exact ⟨by unfold PyData.canLay0; exact h2.1, by unfold PyData.depth; have := h2.2; omega⟩
theorem Lay.tuple {n : Nat} {ds : List PyData} (h : ∀ d ∈ ds, Lay n d) : Lay (n + 1) (.tuple ds) := by
 have h2 := zyu h
 exact ⟨by unfold PyData.canLay0; exact h2.1, by unfold PyData.depth; have := h2.2; omega⟩
theorem Lay.shaped {n : Nat} {d : PyData} (h : Lay n d) (hn : n <= 64) : SeqAt.shaped d = true := by
 unfold SeqAt.shaped
 rw [h.1, decide_eq_true (Nat.le_trans h.2 hn)]
 rfl
theorem Lay.refl {n : Nat} {d : PyData} (h : Lay n d) : PyData.eqv d d = true := SeqAt.eqv_refl d h.1
theorem zq2 {K : W.Frag} {x y : V} {H : Hp} {Q : VK} {d : PyData} {n : Nat} (hn : n <= 64) (l : Lay n d) (hx : zev K H d x) (hy : zev K H d y) (q : Q (.bl true) H) : rEqD K x y H Q :=
 ⟨d, d, hx, hy, l.shaped hn, l.shaped hn, by rw [l.refl]; exact q⟩
theorem zjm {K : W.Frag} {x y : V} {H : Hp} {Q : VK} {d : PyData} {n : Nat} (hn : n <= 64) (l : Lay n d) (hx : zev K H d x) (hy : zev K H d y) (q : Q (.bl false) H) : rNeD K x y H Q :=
 ⟨d, d, hx, hy, l.shaped hn, l.shaped hn, by rw [l.refl]; exact q⟩
mutual
theorem zev.mono {K : W.Frag} {H H' : Hp} (e : zak H H') : ∀ (d : PyData) (v : V), zev K H d v -> zev K H' d v
 | .none, v, h => by unfold zev at h ⊢; exact h
 | .bool b, v, h => by unfold zev at h ⊢; exact h
 | .int i, v, h => by unfold zev at h ⊢; exact h
 | .str x, v, h => by unfold zev at h ⊢; exact h
 | .list ds, v, h => by
   unfold zev at h ⊢
   obtain ⟨a, xs, rfl, hq, hd⟩ := h
   exact ⟨a, xs, rfl, e.seq hq, zb6.mono e ds xs hd⟩
 | .tuple ds, v, h => by
   unfold zev at h ⊢
   obtain ⟨a, xs, rfl, hq, hd⟩ := h
   exact ⟨a, xs, rfl, e.tup hq, zb6.mono e ds xs hd⟩
 | .dict _, v, h => by unfold zev at h; exact h.elim
theorem zb6.mono {K : W.Frag} {H H' : Hp} (e : zak H H') : ∀ (ds : List PyData) (xs : List V), zb6 K H ds xs -> zb6 K H' ds xs
 | [], xs, h => by unfold zb6 at h ⊢; exact h
 | d :: ds, xs, h => by
   unfold zb6 at h ⊢
   obtain ⟨x, r, rfl, hd, hds⟩ := h
   exact ⟨x, r, rfl, zev.mono e d x hd, zb6.mono e ds r hds⟩
end
def ers (l : Addr) (H : Hp) : Hp := λ b => if b = l then none else H b
theorem zec {l b : Addr} {H : Hp} (h : b ≠ l) : ers l H b = H b := by unfold ers; rw [if_neg h]
theorem zis {l : Addr} {H : Hp} : zak (ers l H) H := λ b o h => by
 unfold ers at h
 split at h
 . cases h
 . exact h
theorem zak.ers {l : Addr} {H H' : Hp} (e : zak H H') : zak (ers l H) (ers l H') := λ b o h => by
 unfold L2.ers at h ⊢
 split at h
 . cases h
 . rename_i hb
   rw [if_neg hb]
   exact e b o h
end L2
namespace Gx
open PySem L2
theorem le0 : 0 <= sizeLine := by decide
theorem le1 : 1 <= sizeLine := by decide
theorem le2 : 2 <= sizeLine := by decide
theorem le3 : 3 <= sizeLine := by decide
theorem le4 : 4 <= sizeLine := by decide
theorem le5 : 5 <= sizeLine := by decide
theorem at0 {x : V} {r : List V} : atI (x :: r) 0 = some x := by
 unfold atI ixN
 rw [if_pos (by decide), if_pos (by simp)]
 rfl
theorem vq {Q : VK} {H : Hp} {x y : V} (h : x = y) (q : Q y H) : Q x H := by subst h; exact q
theorem zy6 : ((2 : Int) ^ (48 : Int).toNat) = 281474976710656 := by decide
theorem zvb : (0 : Int) < (2 : Int) ^ (48 : Int).toNat := by decide
theorem zdn (z n : Int) (h : 0 < n) : 0 <= z % n /\ z % n < n := ⟨Int.emod_nonneg _ (by omega), Int.emod_lt_of_pos _ h⟩
theorem ziy {α : Type} {es : List α} {f : α -> V} {i : Nat} {x : V} (h : (es.map f)[i]? = some x) : ∃ e, es[i]? = some e /\ e ∈ es /\ x = f e := by
 rw [List.getElem?_map] at h
 cases he : es[i]? with
 | none => rw [he] at h; cases h
 | some e => rw [he] at h; cases h; exact ⟨e, rfl, List.mem_of_getElem? he, rfl⟩
end Gx
namespace L2
open PySem PySem.Spec PyProof.Rows
def tTru (K : W.Frag) (ta : TE) : TT := λ σ H Q => ta σ H λ x H' => ∃ k, zyj K x H' k /\ Q k H'
theorem zxo {X : Cx} {K : W.Frag} {a : Expr} {ta : TE} (hK : X.K = K) (ha : PE X a ta) (he : ∀ whole, isTrue a X.env whole = (do let v <- whole; standAt a.pos; holding [v] (truthy v))) : PT X a (tTru K ta) := by
 subst hK
 exact ztt ha he
end L2
namespace Gx
open PySem L2
def tx (l : List Nat) : Str := ⟨l.toArray⟩
theorem zhk (l : List Nat) : (tx l).cps.toList = l := by unfold tx; simp
theorem zhh (l : List Nat) : (tx l).length = l.length := by unfold tx Str.length; simp
theorem zx1 (a b : List Nat) : tx a ++ tx b = tx (a ++ b) := by
 show (⟨_ ++ _⟩ : Str) = _
 unfold tx
 simp
theorem zya {a b : List Nat} (h : tx a = tx b) : a = b := by rw [<- zhk a, h, zhk]
theorem ztj {l : List Nat} {i j : Int} (h0 : 0 <= i) (h1 : i <= j) (h2 : j <= l.length) : Txt.slice (tx l) (some i) (some j) = tx ((l.drop i.toNat).take (j - i).toNat) := by
 have := PyProof.Rows.slice_closes (x := tx l) (i := i) (j := j) ⟨h0, h1, by rw [zhk]; exact h2⟩
 rw [beq_iff_eq, zhk] at this
 exact this
theorem zrb (y : Str) (ys : List Str) : PySem.Txt.join "" (y :: ys) = y ++ PySem.Txt.join "" ys := by
 show PySem.Builtin.Str.glued ("" : Str) (y :: ys) = y ++ PySem.Builtin.Str.glued ("" : Str) ys
 rw [PySem.StrLaws.glued_eq_join, PySem.StrLaws.glued_eq_join]
 cases ys with
 | nil =>
   show y = y ++ Str.empty
   cases y
   show _ = (⟨_ ++ #[]⟩ : Str)
   simp
 | cons z zs =>
   show y ++ "" ++ Str.join "" (z :: zs) = _
   have : y ++ ("" : Str) = y := by
     cases y
     show (⟨_ ++ #[]⟩ : Str) = _
     simp
   rw [this]
theorem zqs : ∀ (ls : List (List Nat)), PySem.Txt.join "" (ls.map tx) = tx ls.flatten
 | [] => by
   show PySem.Builtin.Str.glued ("" : Str) [] = _
   rw [PySem.StrLaws.glued_eq_join]
   rfl
 | l :: ls => by rw [List.map_cons, zrb, zqs ls, zx1, List.flatten_cons]
end Gx
namespace L2
open PySem PySem.Spec PyProof.Rows
def ItE (K : W.Frag) (a : Addr) : It :=
 ⟨λ i H => ∃ xs x, SqL K H a xs /\ xs[i]? = some x, λ i H y H' => ∃ b, y = .ref b /\ H b = none /\ ∀ xs x, SqL K H a xs -> xs[i]? = some x -> H' = upd H b (.tup [.int i, x]), λ i H => ∃ xs, SqL K H a xs /\ xs.length = i⟩
theorem zp3 {P : Program} {w : World} {K : W.Frag} {elts : List Expr} {k : Nat} {pos : Pos} (a e it : Addr) (hne : e ≠ it) : Turn P w K (.Tuple elts k pos) (ItE K a) [e, it] e (λ i h => (∃ old, IsEnum h e it i old) /\ h.IsListIter it a i) where
 mem := by simp
 obj := λ i h st b hb => by
   obtain ⟨⟨old, he⟩, ⟨o, ho, hc, hd⟩⟩ := st
   rcases List.mem_cons.mp hb with z | z
   . subst z
     exact ⟨_, he, λ v z => by cases (show Data.fields _ = Data.cell v from z)⟩
   . have z : b = it := by simpa using z
     subst z
     exact ⟨o, ho, λ v z => by rw [hd] at z; cases z⟩
 keep := λ i h h' st kk => by
   obtain ⟨⟨old, he⟩, ⟨o, ho, r⟩⟩ := st
   exact ⟨⟨old, kk e (by simp) _ he⟩, ⟨o, kk it (by simp) o ho, r⟩⟩
 item := by
   intro X hP hw hK hc i pins s σ H E I hf st hg
   subst hP hw hK
   obtain ⟨⟨old, he⟩, hit⟩ := st
   obtain ⟨xs, x, hq, hx⟩ := hg
   obtain ⟨its, rv, p, hz⟩ := I.list hq
   have pt : s.heap.IsList a its.toArray := p.isList
   obtain ⟨u, hu, ru⟩ := rv.get hx
   have hia : a ≠ it := λ z => by
     subst z
     obtain ⟨o1, h1, c1, _⟩ := hit
     obtain ⟨o2, h2, c2, _⟩ := pt
     rw [h1] at h2
     cases h2
     rw [c1] at c2
     injection c2 with c2
     exact absurd c2 (by decide)
   have hea : e ∉ [it, a] := λ z => by
     rcases List.mem_cons.mp z with z | z
     . exact hne z
     . have z : e = a := by simpa using z
       subst z
       obtain ⟨o2, h2, c2, _⟩ := pt
       rw [he] at h2
       cases h2
       injection (show Value.type "enumerate" = Value.type "list" from c2) with c2
       exact absurd c2 (by decide)
   have hlt : i < its.toArray.size := by
     have := (List.getElem?_eq_some_iff.mp hu).1
     simpa using this
   refine wpAny_pyNext_enum_itemD (Draws.list (A := X.A.in1) (I.ok.hd hc) it a hia its.toArray) he ⟨hit, pt⟩ hlt hne hea λ y h' tk hy hout hst hT hsz hk => ?_
   refine ⟨_, rfl, wpAny_letOwnedTupleGo_enum hout λ h2 he2 hs2 => ?_⟩
   have hs2 : Heap.SameBut e h' h2 := hs2
   have hyu : y = u := by
     have hy : its.toArray[i]? = some y := hy
     have : its[i]? = some y := by simpa using hy
     rw [hu] at this
     exact (Option.some.inj this).symm
   subst hyu
   have helt : e < s.heap.objs.size := Heap.lt_size he
   have hfr : H s.heap.objs.size = none := I.hok.fresh (Nat.le_refl _)
   have hnS : s.heap.objs.size ≠ e := Nat.ne_of_gt helt
   have hT2 : h2.get? s.heap.objs.size = some { cls := .type "tuple", data := .seq #[.int i tk, y] } := (hs2.2 _ hnS).trans hT
   refine ⟨.ref s.heap.objs.size, upd H s.heap.objs.size (.tup [.int i, x]), I.turnLaid (t' := tk + 1) (ch := [e, it]) (λ b o hb q => ?_) hf (Nat.le_refl _) ?_, rfl, ⟨s.heap.objs.size, rfl, hfr, λ xs' x' hq' hx' => ?_⟩, ⟨⟨y, by exact_mod_cast he2⟩, ?_⟩, λ b hb => ?_⟩
   . have h1 : b ≠ e := λ z => hb (by simp [z])
     have h3 : b ≠ it := λ z => hb (by simp [z])
     exact (hs2.2 b h1).trans (hk b o h1 h3 q)
   . exact ⟨by show 2 <= sizeLine; decide, [.int i tk, y], .cons ⟨tk, rfl⟩ (.cons ru .nil), ⟨_, hT2, rfl, _, rfl⟩⟩
   . have := I.list_inj hq' hq
     subst this
     rw [hx] at hx'
     cases hx'
     rfl
   . obtain ⟨⟨o, ho, r⟩, _⟩ := hst
     exact ⟨o, (hs2.2 it hne.symm).trans ho, r⟩
   . have hb0 := (hf b hb).1
     rw [zaf]
     . exact hb0
     . intro z
       subst z
       obtain ⟨o, ho, _⟩ := hit
       rcases List.mem_cons.mp hb with z | z
       . exact hnS z
       . have z : s.heap.objs.size = it := by simpa using z
         exact absurd (Heap.lt_size ho) (by rw [<- z]; exact Nat.lt_irrefl _)
 done := by
   intro X hP hw hK hc i pins s σ H E I hf st hg
   subst hP hw hK
   obtain ⟨⟨old, he⟩, hit⟩ := st
   obtain ⟨xs, hq, hx⟩ := hg
   obtain ⟨its, rv, p, hz⟩ := I.list hq
   have pt : s.heap.IsList a its.toArray := p.isList
   have hl := rv.length
   have hia : a ≠ it := λ z => by
     subst z
     obtain ⟨o1, h1, c1, _⟩ := hit
     obtain ⟨o2, h2, c2, _⟩ := pt
     rw [h1] at h2
     cases h2
     rw [c1] at c2
     injection c2 with c2
     exact absurd c2 (by decide)
   have hi : i = its.toArray.size := by simp; omega
   refine wpAny_pyNext_enum_endD (Draws.list (A := X.A.in1) (I.ok.hd hc) it a hia its.toArray) he (by rw [<- hi]; exact ⟨hit, pt⟩) λ h' eb => ⟨rfl, ?_⟩
   exact I.turnedL (t' := s.toks) (ch := [e, it]) (λ b o hb q => eb b o (λ z => hb (by simp [z])) q) hf
 self := λ _ _ _ _ _ st h => by
   obtain ⟨⟨old, he⟩, _⟩ := st
   exact wpAny_pyIter_enum he h
end L2
namespace L2
open PySem PySem.Spec PyProof.Rows
section
variable {X : Cx}
def zx2 (K : W.Frag) (ta : TA) : TI := λ σ H R => ta σ H λ vs H1 => ∃ a, vs = [.ref a] /\ (∃ xs, SqL K H1 a xs) /\ R (ItE K a) H1
theorem zt8 {a : Expr} {ta : TA} {p pos tpos : Pos} {elts : List Expr} {k : Nat} (hg : Gl X "enumerate") (hm : X.mg "enumerate" = none) (ha : PA X [a] ta) (hs : starEach [a] X.env = [(false, eval a X.env)] := by rfl) : PI X (.Tuple elts k tpos) (.Call (.Name "enumerate" p) [a] [] pos) (zx2 X.K ta) := by
 intro pins s σ H R I h
 refine Call_ (zie I hg hm zmq (PyProof.Rows.callWith_type1 (thn (ha pos pins s σ H _ I h) λ us s1 ⟨vs, H1, I1, r1, q1⟩ => ?_) hs rfl))
 obtain ⟨a, e, ⟨xs, hq⟩, q⟩ := q1
 subst e
 cases r1 with
 | cons r rr =>
   cases rr
   cases r
   obtain ⟨its, rv, p, hz⟩ := I1.list hq
   refine call_enumerate_list p.isList λ h' he hit _ hk => ?_
   refine wpAny_pyIter_enum he ?_
   refine ⟨s1.heap.objs.size + 1, [s1.heap.objs.size + 1, s1.heap.objs.size], _, _, H1, rfl, I1.kept (t' := s1.toks) hk, zp3 a (s1.heap.objs.size + 1) s1.heap.objs.size (Nat.succ_ne_self _), ⟨⟨.none, he⟩, hit⟩, λ b hb => ?_, q⟩
   rcases List.mem_cons.mp hb with z | z
   . subst z
     exact I1.fpOk (Nat.le_succ _) (I1.hok.fresh (Nat.le_succ _))
   . have z : b = s1.heap.objs.size := by simpa using z
     subst z
     exact I1.fpOk (Nat.le_refl _) (I1.hok.fresh (Nat.le_refl _))
theorem zry {K : W.Frag} {a : Addr} {xs : List V} {g : TG} {tb : TS} {D : zhp} {σ : St} {H : Hp} (Pv : Nat -> St -> Hp -> Prop) (h0 : Pv 0 σ H) (hl : ∀ i σ H, i <= xs.length -> Pv i σ H -> SqL K H a xs)
   (hs : ∀ i x σ H b, xs[i]? = some x -> Pv i σ H -> H b = none -> g (.ref b) σ (upd H b (.tup [.int i, x])) λ σ2 H2 => tb { D with nx := Pv (i + 1), ct := Pv (i + 1), bk := D.nx } σ2 H2) (hd : ∀ σ H, Pv xs.length σ H -> D.nx σ H) :
   ∃ W : Nat -> Nat -> St -> Hp -> Prop, (∃ m, W 0 m σ H) /\ ∀ i m σ H, W i m σ H -> ((ItE K a).stop i H /\ D.nx σ H) \/ ((ItE K a).go i H /\ ∃ N : St -> Hp -> Prop, (∀ σ' H', N σ' H' -> ∃ m', m' < m /\ W (i + 1) m' σ' H') /\ ∀ x H', (ItE K a).yld i H x H' -> g x σ H' λ σ2 H2 => tb { D with nx := N, ct := N, bk := D.nx } σ2 H2) := by
 refine ⟨λ i m σ H => m = xs.length - i /\ i <= xs.length /\ Pv i σ H, ⟨xs.length, by simp, Nat.zero_le _, h0⟩, ?_⟩
 rintro i m σ H ⟨rfl, hi, p⟩
 have q := hl i σ H hi p
 by_cases hlt : i < xs.length
 . refine .inr ⟨⟨xs, xs[i], q, by simp [hlt]⟩, Pv (i + 1), λ σ' H' p' => ⟨xs.length - (i + 1), by omega, rfl, hlt, p'⟩, λ x H' y => ?_⟩
   obtain ⟨b, rfl, hb, y⟩ := y
   rw [y xs xs[i] q (by simp [hlt])]
   exact hs i xs[i] σ H b (by simp [hlt]) p hb
 . have e : i = xs.length := by omega
   subst e
   exact .inl ⟨⟨xs, q, rfl⟩, hd σ H p⟩
end
end L2
namespace PySem
open Sem (wp)
def ItB (b : Bool) (h : Heap) (it l : Addr) (k : Nat) : Prop := match b with | true => h.IsTupleIter it l k | false => h.IsListIter it l k
def SqB (b : Bool) (h : Heap) (l : Addr) (xs : Array Value) : Prop := match b with | true => h.IsTuple l xs | false => h.IsList l xs
theorem ItB.at {b : Bool} {h h' : Heap} {it l : Addr} {k : Nat} (p : ItB b h it l k) (e : ∀ o, h.get? it = some o -> h'.get? it = some o) : ItB b h' it l k := by
 cases b <;> (obtain ⟨o, ho, r⟩ := p; exact ⟨o, e o ho, r⟩)
theorem SqB.at {b : Bool} {h h' : Heap} {l : Addr} {xs : Array Value} (p : SqB b h l xs) (e : ∀ o, h.get? l = some o -> h'.get? l = some o) : SqB b h' l xs := by
 cases b <;> (obtain ⟨o, ho, r⟩ := p; exact ⟨o, e o ho, r⟩)
theorem ItB.extBut {b : Bool} {h h' : Heap} {it l c : Addr} {k : Nat} (p : ItB b h it l k) (e : Heap.ExtBut c h h') (n : it ≠ c) : ItB b h' it l k := p.at λ o ho => e _ _ n ho
theorem SqB.extBut {b : Bool} {h h' : Heap} {l c : Addr} {xs : Array Value} (p : SqB b h l xs) (e : Heap.ExtBut c h h') (n : l ≠ c) : SqB b h' l xs := p.at λ o ho => e _ _ n ho
theorem ItB.lt {b : Bool} {h : Heap} {it l : Addr} {k : Nat} (p : ItB b h it l k) : it < h.objs.size := by
 cases b <;> (obtain ⟨o, ho, r⟩ := p; exact Heap.lt_size ho)
section
variable {prog : Program} {w : World} {A : Around} {E : Value -> Shared -> Prop} {s : Shared}
theorem zhx {b : Bool} {it l : Addr} {i : Nat} {items : Array Value} {x : Value} {Q : Value -> Shared -> Prop} (p : ItB b s.heap it l i) (q : SqB b s.heap l items) (hx : items[i]? = some x)
   (hQ : ∀ h', ItB b h' it l (i + 1) -> Heap.SameBut it s.heap h' -> Q x { s with heap := h' }) : wpAny (model prog w) A (Builtin.SmallTypes.nextOf (.ref it)) Q E s := by
 cases b with
 | true => exact L2.gx_nextOf_tup p q hx hQ
 | false => exact wpAny_nextOf_list_item p q hx hQ
theorem zmu {b : Bool} {it l : Addr} {i : Nat} {items : Array Value} {Q : Value -> Shared -> Prop} (hh : A.handled = none) (p : ItB b s.heap it l i) (q : SqB b s.heap l items) (hx : items[i]? = none)
   (hE : ∀ h' e, Heap.ExtBut it s.heap h' -> (∃ o, h'.get? e = some o /\ o.cls = .type "StopIteration") -> E (.ref e) { s with heap := h' }) : wpAny (model prog w) A (Builtin.SmallTypes.nextOf (.ref it)) Q E s := by
 cases b with
 | true => exact L2.gx_nextOf_tup_end hh p q hx hE
 | false => exact wpAny_nextOf_list_end hh p q hx hE
theorem zms {b1 b2 : Bool} {z TI TO i1 i2 l1 l2 : Addr} {k1 k2 : Nat} {xs ys : Array Value} {x y a b : Value} {Q : Value -> Shared -> Prop} (D : ZipApart z TI TO i1 i2 l1 l2)
   (zZ : IsZip s.heap z TI TO .none) (zI : IsPair s.heap TI (.ref i1) (.ref i2)) (zO : IsPair s.heap TO a b)
   (p1 : ItB b1 s.heap i1 l1 k1) (p2 : ItB b2 s.heap i2 l2 k2) (q1 : SqB b1 s.heap l1 xs) (q2 : SqB b2 s.heap l2 ys) (hx : xs[k1]? = some x) (hy : ys[k2]? = some y)
   (hQ : ∀ h', IsZip h' z TI TO (rawInt s.heap.objs.size) -> IsPair h' TO x y -> ItB b1 h' i1 l1 (k1 + 1) -> ItB b2 h' i2 l2 (k2 + 1) -> IsPair h' s.heap.objs.size x y -> h'.objs.size = s.heap.objs.size + 1 ->
     (∀ c o, c ≠ z -> c ≠ TO -> c ≠ i1 -> c ≠ i2 -> s.heap.get? c = some o -> h'.get? c = some o) -> Q (.ref s.heap.objs.size) { s with heap := h' }) :
   wpAny (model prog w) A (Builtin.«zip.__next__» ⟨[.ref z], []⟩) (λ fin s' => ∃ v, fin = .done (.ret v) /\ Q v s') E s := by
 show wpAny _ _ (field (.ref z) 2 >>= _) _ _ _; refine wpAny_bind (wpAny_field zZ rfl (x := .bool false) rfl ?_); show wpAny _ _ (field (.ref z) 3 >>= _) _ _ _; refine wpAny_bind (wpAny_field zZ rfl (x := .ref TI) rfl ?_); refine wpAny_bind (wpAny_seqItems zI rfl ?_); show wpAny _ _ (Builtin.SmallTypes.ownedTupleIsFree (.ref z) >>= _) _ _ _; refine wpAny_bind ?_; unfold Builtin.SmallTypes.ownedTupleIsFree; refine wpAny_bind (wpAny_field zZ rfl (x := .none) rfl (wpAny_pure ?_)); simp only [if_true]; refine wpAny_bind (wpAny_rule ?_); refine wpAny_bind (wpAny_field zZ rfl (x := .ref TO) rfl ?_)
 refine wpAny_bind (wpAny_setField_rec zZ (by simp) λ h₁ zZ₁ hs₁ => ?_); replace zZ₁ : IsZip h₁ z TI TO .ellipsis := zZ₁; refine wpAny_bind ?_; simp only [List.zipIdx_cons, List.zipIdx_nil, List.forIn_cons, List.forIn_nil]
 refine wpAny_bind (wpAny_bind (wpAny_onRaise ?_)); show wpAny _ _ (Builtin.SmallTypes.nextOf (.ref i1) >>= _) _ _ _; refine wpAny_bind (zhx (p1.extBut hs₁.extBut D.i1z) (q1.extBut hs₁.extBut D.l1z) hx λ h₂ h1₂ hs₂ => wpAny_pure ?_); have hTO₂ : IsPair h₂ TO a b := hs₂.extBut _ _ D.TOi1 (hs₁.extBut _ _ D.TOz zO); refine wpAny_bind (wpAny_seqItems hTO₂ rfl ?_); refine wpAny_bind (wpAny_updateSeq_pair hTO₂ λ h₃ hTO₃ hs₃ => ?_); replace hTO₃ : IsPair h₃ TO x b := hTO₃; refine wpAny_bind (wpAny_letGo (wpAny_pure ?_))
 refine wpAny_bind (wpAny_bind (wpAny_onRaise ?_)); show wpAny _ _ (Builtin.SmallTypes.nextOf (.ref i2) >>= _) _ _ _; refine wpAny_bind (zhx (((p2.extBut hs₁.extBut D.i2z).extBut hs₂.extBut D.i12.symm).extBut hs₃.extBut D.TOi2.symm)
   (((q2.extBut hs₁.extBut D.l2z).extBut hs₂.extBut D.l2i1).extBut hs₃.extBut D.l2TO) hy λ h₄ h2₄ hs₄ => wpAny_pure ?_)
 have hTO₄ : IsPair h₄ TO x b := hs₄.extBut _ _ D.TOi2 hTO₃; refine wpAny_bind (wpAny_seqItems hTO₄ rfl ?_); refine wpAny_bind (wpAny_updateSeq_pair hTO₄ λ h₅ hTO₅ hs₅ => ?_); replace hTO₅ : IsPair h₅ TO x y := hTO₅; refine wpAny_bind (wpAny_letGo (wpAny_pure (wpAny_pure ?_)))
 refine wpAny_bind (wpAny_seqItems hTO₅ rfl ?_); refine wpAny_bind (wpAny_newTuple ?_); have hsz : h₅.objs.size = s.heap.objs.size := (by rw [hs₅.1, hs₄.1, hs₃.1, hs₂.1, hs₁.1]); have hz₅ : IsZip h₅ z TI TO .ellipsis := hs₅.extBut _ _ D.TOz.symm (hs₄.extBut _ _ D.i2z.symm (hs₃.extBut _ _ D.TOz.symm (hs₂.extBut _ _ D.i1z.symm zZ₁))); have hk₅ : ∀ c o, c ≠ z -> c ≠ TO -> c ≠ i1 -> c ≠ i2 -> s.heap.get? c = some o -> h₅.get? c = some o := λ c o c1 c2 c3 c4 e =>
   hs₅.extBut _ _ c2 (hs₄.extBut _ _ c4 (hs₃.extBut _ _ c2 (hs₂.extBut _ _ c3 (hs₁.extBut _ _ c1 e))))
 have h1₅ : ItB b1 h₅ i1 l1 (k1 + 1) := ((h1₂.extBut hs₃.extBut D.TOi1.symm).extBut hs₄.extBut D.i12).extBut hs₅.extBut D.TOi1.symm; have h2₅ : ItB b2 h₅ i2 l2 (k2 + 1) := h2₄.extBut hs₅.extBut D.TOi2.symm; have hzlt : z < h₅.objs.size := Heap.lt_size hz₅; have hTOlt : TO < h₅.objs.size := Heap.lt_size hTO₅; have hi1lt : i1 < h₅.objs.size := ItB.lt h1₅; have hi2lt : i2 < h₅.objs.size := ItB.lt h2₅; show wpAny _ _ (Builtin.SmallTypes.ownedTupleHandOut (.ref z) (.ref h₅.objs.size) >>= _) _ _ _; refine wpAny_bind ?_; unfold Builtin.SmallTypes.ownedTupleHandOut; have hz₆ : IsZip (h₅.push { cls := .type "tuple", data := .seq #[x, y] }) z TI TO .ellipsis := Heap.get?_push_of_some _ hz₅
 refine wpAny_bind (wpAny_setField_rec hz₆ (by simp) λ h₇ hz₇ hs₇ => ?_); replace hz₇ : IsZip h₇ z TI TO (rawInt h₅.objs.size) := hz₇; refine wpAny_setField_rec hz₇ (by simp) λ h₈ hz₈ hs₈ => ?_; replace hz₈ : IsZip h₈ z TI TO (rawInt h₅.objs.size) := hz₈; have up : ∀ c o, c ≠ z -> h₅.get? c = some o -> h₈.get? c = some o := λ c o c1 e => hs₈.extBut _ _ c1 (hs₇.extBut _ _ c1 (Heap.get?_push_of_some _ e)); have hT₈ : IsPair h₈ h₅.objs.size x y := hs₈.extBut _ _ (Nat.ne_of_gt hzlt) (hs₇.extBut _ _ (Nat.ne_of_gt hzlt) (Heap.get?_push_size _ rfl)); have hz8 : h₈.objs.size = h₅.objs.size + 1 := (by rw [hs₈.1, hs₇.1, Heap.size_push])
 rw [hsz] at hz₈ hT₈ hz8
 refine wpAny_pure ⟨_, rfl, ?_⟩; show Q (.ref h₅.objs.size) _
 rw [hsz]
 exact hQ h₈ hz₈ (up _ _ D.TOz hTO₅) (h1₅.at λ o e => up _ o D.i1z e) (h2₅.at λ o e => up _ o D.i2z e) hT₈ hz8 λ c o c1 c2 c3 c4 e => up c o c1 (hk₅ c o c1 c2 c3 c4 e)
theorem znk {b1 b2 : Bool} {z TI TO i1 i2 l1 l2 : Addr} {k1 k2 : Nat} {xs ys : Array Value} {a b : Value} {Q : Fin -> Shared -> Prop} (hh : A.handled = none) (D : ZipApart z TI TO i1 i2 l1 l2)
   (zZ : IsZip s.heap z TI TO .none) (zI : IsPair s.heap TI (.ref i1) (.ref i2)) (zO : IsPair s.heap TO a b)
   (p1 : ItB b1 s.heap i1 l1 k1) (p2 : ItB b2 s.heap i2 l2 k2) (q1 : SqB b1 s.heap l1 xs) (q2 : SqB b2 s.heap l2 ys) (hend : xs[k1]? = none \/ ys[k2]? = none)
   (hE : ∀ h' e, (∀ c o, c ≠ z -> c ≠ TO -> c ≠ i1 -> c ≠ i2 -> s.heap.get? c = some o -> h'.get? c = some o) -> (∃ o, h'.get? e = some o /\ o.cls = .type "StopIteration") -> E (.ref e) { s with heap := h' }) :
   wpAny (model prog w) A (Builtin.«zip.__next__» ⟨[.ref z], []⟩) Q E s := by
 show wpAny _ _ (field (.ref z) 2 >>= _) _ _ _; refine wpAny_bind (wpAny_field zZ rfl (x := .bool false) rfl ?_); show wpAny _ _ (field (.ref z) 3 >>= _) _ _ _; refine wpAny_bind (wpAny_field zZ rfl (x := .ref TI) rfl ?_); refine wpAny_bind (wpAny_seqItems zI rfl ?_); show wpAny _ _ (Builtin.SmallTypes.ownedTupleIsFree (.ref z) >>= _) _ _ _; refine wpAny_bind ?_; unfold Builtin.SmallTypes.ownedTupleIsFree; refine wpAny_bind (wpAny_field zZ rfl (x := .none) rfl (wpAny_pure ?_)); simp only [if_true]; refine wpAny_bind (wpAny_rule ?_); refine wpAny_bind (wpAny_field zZ rfl (x := .ref TO) rfl ?_)
 refine wpAny_bind (wpAny_setField_rec zZ (by simp) λ h₁ zZ₁ hs₁ => ?_); replace zZ₁ : IsZip h₁ z TI TO .ellipsis := zZ₁; refine wpAny_bind ?_; simp only [List.zipIdx_cons, List.zipIdx_nil, List.forIn_cons, List.forIn_nil]; refine wpAny_bind (wpAny_bind (wpAny_onRaise ?_)); show wpAny _ _ (Builtin.SmallTypes.nextOf (.ref i1) >>= _) _ _ _
 cases hx : xs[k1]? with
 | none =>
   refine wpAny_bind (zmu hh (p1.extBut hs₁.extBut D.i1z) (q1.extBut hs₁.extBut D.l1z) hx λ h₂ e hs₂ he => ?_); obtain ⟨oe, hoe, hce⟩ := he; have hz₂ : IsZip h₂ z TI TO .ellipsis := hs₂ _ _ D.i1z.symm zZ₁; have hez : e ≠ z := (λ x => by subst x; rw [hz₂] at hoe; cases hoe; simp at hce); refine wpAny_setField_rec hz₂ (by simp) λ h₃ _ hs₃ => hE h₃ e (λ c o c1 _ c3 _ x => hs₃.extBut _ _ c1 (hs₂ _ _ c3 (hs₁.extBut _ _ c1 x))) ⟨oe, hs₃.extBut _ _ hez hoe, hce⟩
 | some x =>
   have hy : ys[k2]? = none := (by rcases hend with h | h; rw [hx] at h; cases h; exact h); refine wpAny_bind (zhx (p1.extBut hs₁.extBut D.i1z) (q1.extBut hs₁.extBut D.l1z) hx λ h₂ h1₂ hs₂ => wpAny_pure ?_); have hTO₂ : IsPair h₂ TO a b := hs₂.extBut _ _ D.TOi1 (hs₁.extBut _ _ D.TOz zO); refine wpAny_bind (wpAny_seqItems hTO₂ rfl ?_); refine wpAny_bind (wpAny_updateSeq_pair hTO₂ λ h₃ hTO₃ hs₃ => ?_); refine wpAny_bind (wpAny_letGo (wpAny_pure ?_)); refine wpAny_bind (wpAny_bind (wpAny_onRaise ?_)); show wpAny _ _ (Builtin.SmallTypes.nextOf (.ref i2) >>= _) _ _ _; refine wpAny_bind (zmu hh (((p2.extBut hs₁.extBut D.i2z).extBut hs₂.extBut D.i12.symm).extBut hs₃.extBut D.TOi2.symm)
     (((q2.extBut hs₁.extBut D.l2z).extBut hs₂.extBut D.l2i1).extBut hs₃.extBut D.l2TO) hy λ h₄ e hs₄ he => ?_)
   obtain ⟨oe, hoe, hce⟩ := he; have hz₄ : IsZip h₄ z TI TO .ellipsis := hs₄ _ _ D.i2z.symm (hs₃.extBut _ _ D.TOz.symm (hs₂.extBut _ _ D.i1z.symm zZ₁)); have hez : e ≠ z := (λ x => by subst x; rw [hz₄] at hoe; cases hoe; simp at hce); refine wpAny_setField_rec hz₄ (by simp) λ h₅ _ hs₅ => hE h₅ e (λ c o c1 c2 c3 c4 x => hs₅.extBut _ _ c1 (hs₄ _ _ c4 (hs₃.extBut _ _ c2 (hs₂.extBut _ _ c3 (hs₁.extBut _ _ c1 x))))) ⟨oe, hs₅.extBut _ _ hez hoe, hce⟩
theorem zl5 {b1 b2 : Bool} {z TI TO i1 i2 l1 l2 : Addr} {k1 k2 : Nat} {xs ys : Array Value} {x y a b : Value} {Q : Option Value -> Shared -> Prop} (D : ZipApart z TI TO i1 i2 l1 l2)
   (zZ : IsZip s.heap z TI TO .none) (zI : IsPair s.heap TI (.ref i1) (.ref i2)) (zO : IsPair s.heap TO a b)
   (p1 : ItB b1 s.heap i1 l1 k1) (p2 : ItB b2 s.heap i2 l2 k2) (q1 : SqB b1 s.heap l1 xs) (q2 : SqB b2 s.heap l2 ys) (hx : xs[k1]? = some x) (hy : ys[k2]? = some y)
   (hQ : ∀ h', IsZip h' z TI TO (rawInt s.heap.objs.size) -> IsPair h' TO x y -> ItB b1 h' i1 l1 (k1 + 1) -> ItB b2 h' i2 l2 (k2 + 1) -> IsPair h' s.heap.objs.size x y -> h'.objs.size = s.heap.objs.size + 1 ->
     (∀ c o, c ≠ z -> c ≠ TO -> c ≠ i1 -> c ≠ i2 -> s.heap.get? c = some o -> h'.get? c = some o) -> Q (some (.ref s.heap.objs.size)) { s with heap := h' }) :
   wpAny (model prog w) A (pyNext (.ref z)) Q E s := by
 have hT : s.TypeIs (.ref z) "zip" := ⟨_, zZ, rfl⟩; unfold pyNext
 exact wpAny_bind (wpAny_attempt (wpAny_callSpecial?_slot (name := Str.ofString "__next__") hT F.slot_zip_next
   (wpAny_call_entry F.slot_zip_next hT F.entry_zip_next
     (zms D zZ zI zO p1 p2 q1 q2 hx hy λ h' a1 a2 a3 a4 a5 a6 a7 => wpAny_pure (hQ h' a1 a2 a3 a4 a5 a6 a7)) (F.args_zip_next_1 _))))
theorem zm7 {b1 b2 : Bool} {z TI TO i1 i2 l1 l2 : Addr} {k1 k2 : Nat} {xs ys : Array Value} {a b : Value} {Q : Option Value -> Shared -> Prop} (hh : A.handled = none) (D : ZipApart z TI TO i1 i2 l1 l2)
   (zZ : IsZip s.heap z TI TO .none) (zI : IsPair s.heap TI (.ref i1) (.ref i2)) (zO : IsPair s.heap TO a b)
   (p1 : ItB b1 s.heap i1 l1 k1) (p2 : ItB b2 s.heap i2 l2 k2) (q1 : SqB b1 s.heap l1 xs) (q2 : SqB b2 s.heap l2 ys) (hend : xs[k1]? = none \/ ys[k2]? = none)
   (hQ : ∀ h', (∀ c o, c ≠ z -> c ≠ TO -> c ≠ i1 -> c ≠ i2 -> s.heap.get? c = some o -> h'.get? c = some o) -> Q none { s with heap := h' }) : wpAny (model prog w) A (pyNext (.ref z)) Q E s := by
 have hT : s.TypeIs (.ref z) "zip" := ⟨_, zZ, rfl⟩; unfold pyNext; refine wpAny_bind (wpAny_attempt (wpAny_callSpecial?_slot (name := Str.ofString "__next__") hT F.slot_zip_next
   (wpAny_call_entry F.slot_zip_next hT F.entry_zip_next (znk hh D zZ zI zO p1 p2 q1 q2 hend λ h' e hk he => ?_) (F.args_zip_next_1 _))))
 obtain ⟨o, ho, hc⟩ := he; refine wpAny_bind (wpAny_isInstance (T := "StopIteration") (b := true) ⟨o, ho, hc⟩ isSubtype_stop ?_)
 exact wpAny_pure (hQ _ hk)
end
end PySem
namespace PySem
open Sem (wp)
def itO (b : Bool) (l : Addr) : Obj := { cls := .type (match b with | true => "tuple_iterator" | false => "list_iterator"), data := .fields #[.ref l, .int 0 0] }
theorem zpv (b1 b2 : Bool) (l1 l2 : Addr) (xs ys : Array Value) :
   Meets (Builtin.«zip.__new__» ⟨[.type "zip", .ref l1, .ref l2], []⟩) (λ _ R s => SqB b1 s.heap l1 xs /\ SqB b2 s.heap l2 ys /\
     R (.ok (.ret (.ref ((((s.heap.push (itO b1 l1)).push (itO b2 l2)).push { cls := .type "tuple", data := .seq #[.ref s.heap.objs.size, .ref (s.heap.push (itO b1 l1)).objs.size] }).push { cls := .type "tuple", data := .seq #[.none, .none] }).objs.size)))
       { s with heap := (((((s.heap.push (itO b1 l1)).push (itO b2 l2)).push { cls := .type "tuple", data := .seq #[.ref s.heap.objs.size, .ref (s.heap.push (itO b1 l1)).objs.size] }).push { cls := .type "tuple", data := .seq #[.none, .none] }).push
         { cls := .type "zip", data := .fields #[.none, .bool false, .bool false, .ref ((s.heap.push (itO b1 l1)).push (itO b2 l2)).objs.size, .ref (((s.heap.push (itO b1 l1)).push (itO b2 l2)).push { cls := .type "tuple", data := .seq #[.ref s.heap.objs.size, .ref (s.heap.push (itO b1 l1)).objs.size] }).objs.size] }) }) :=
 .of_wp λ prog w A R s h => by
   obtain ⟨hp, g, d, tk, os⟩ := s; obtain ⟨q1, q2, h⟩ := h
   have hsub := sub_zip
   have q2' : SqB b2 (hp.push (itO b1 l1)) l2 ys := q2.at λ o e => Heap.get?_push_of_some _ e
   cases b1 with
   | true =>
     have hL1 : Heap.IsTuple (Shared.heap ⟨hp, g, d, tk, os⟩) l1 xs := q1
     cases b2 with
     | true =>
       have hL2 : Heap.IsTuple (Shared.heap ⟨hp.push { cls := .type "tuple_iterator", data := .fields #[.ref l1, .int 0 0] }, g, d, tk, os⟩) l2 ys := q2'
       wp_walk using wpAny_pyIter_tuple hL1, wpAny_pyIter_tuple hL2; exact ⟨_, rfl, h⟩
     | false =>
       have hL2 : Heap.IsList (Shared.heap ⟨hp.push { cls := .type "tuple_iterator", data := .fields #[.ref l1, .int 0 0] }, g, d, tk, os⟩) l2 ys := q2'
       wp_walk using wpAny_pyIter_tuple hL1, wpAny_pyIter_list hL2; exact ⟨_, rfl, h⟩
   | false =>
     have hL1 : Heap.IsList (Shared.heap ⟨hp, g, d, tk, os⟩) l1 xs := q1
     cases b2 with
     | true =>
       have hL2 : Heap.IsTuple (Shared.heap ⟨hp.push { cls := .type "list_iterator", data := .fields #[.ref l1, .int 0 0] }, g, d, tk, os⟩) l2 ys := q2'
       wp_walk using wpAny_pyIter_list hL1, wpAny_pyIter_tuple hL2; exact ⟨_, rfl, h⟩
     | false =>
       have hL2 : Heap.IsList (Shared.heap ⟨hp.push { cls := .type "list_iterator", data := .fields #[.ref l1, .int 0 0] }, g, d, tk, os⟩) l2 ys := q2'
       wp_walk using wpAny_pyIter_list hL1, wpAny_pyIter_list hL2; exact ⟨_, rfl, h⟩
end PySem
namespace PySem
open Sem (wp)
section
variable {prog : Program} {w : World} {A : Around} {E : Value -> Shared -> Prop} {s : Shared}
theorem zui {b : Bool} {h : Heap} {it l : Addr} (e : h.get? it = some (itO b l)) : ItB b h it l 0 := by cases b <;> exact ⟨_, e, rfl, rfl⟩
theorem zm0 {b1 b2 : Bool} {l1 l2 : Addr} {xs ys : Array Value} {Q : Value -> Shared -> Prop} (q1 : SqB b1 s.heap l1 xs) (q2 : SqB b2 s.heap l2 ys)
   (h : ∀ h' (n : Nat), n = s.heap.objs.size -> IsZip h' (n + 4) (n + 2) (n + 3) .none -> IsPair h' (n + 2) (.ref n) (.ref (n + 1)) -> IsPair h' (n + 3) .none .none -> ItB b1 h' n l1 0 -> ItB b2 h' (n + 1) l2 0 ->
     (∀ c o, s.heap.get? c = some o -> h'.get? c = some o) -> Q (.ref (n + 4)) { s with heap := h' }) :
   wpAny (model prog w) A (call (.type "zip") [.ref l1, .ref l2]) Q E s := by
 refine callType_new F.called_zip (by decide) (F.typeCall_zip_2 _ _) (F.newCall_zip_2 _ _) (λ obj => F.args_object_init_3 obj _ _) F.entry_zip_new (zpv b1 b2 l1 l2 xs ys) ⟨q1, q2, ?_⟩
 generalize ho1 : itO b1 l1 = o1
 generalize ho2 : itO b2 l2 = o2
 have z1 : (s.heap.push o1).objs.size = s.heap.objs.size + 1 := Heap.size_push ..
 have z2 : ((s.heap.push o1).push o2).objs.size = s.heap.objs.size + 2 := by rw [Heap.size_push, z1]
 rw [z1, z2]
 generalize hT1 : ({ cls := .type "tuple", data := .seq #[.ref s.heap.objs.size, .ref (s.heap.objs.size + 1)] } : Obj) = t1
 generalize hT2 : ({ cls := .type "tuple", data := .seq #[.none, .none] } : Obj) = t2
 have z3 : (((s.heap.push o1).push o2).push t1).objs.size = s.heap.objs.size + 3 := by rw [Heap.size_push, z2]
 have z4 : ((((s.heap.push o1).push o2).push t1).push t2).objs.size = s.heap.objs.size + 4 := by rw [Heap.size_push, z3]
 rw [z3, z4]
 generalize hZ : ({ cls := .type "zip", data := .fields #[.none, .bool false, .bool false, .ref (s.heap.objs.size + 2), .ref (s.heap.objs.size + 3)] } : Obj) = tz
 have g5 := Heap.get?_push_size ((((s.heap.push o1).push o2).push t1).push t2) (o := tz) (by rw [<- hZ]; rfl)
 have g4 := Heap.get?_push_of_some tz (Heap.get?_push_size (((s.heap.push o1).push o2).push t1) (o := t2) (by rw [<- hT2]; rfl))
 have g3 := Heap.get?_push_of_some tz (Heap.get?_push_of_some t2 (Heap.get?_push_size ((s.heap.push o1).push o2) (o := t1) (by rw [<- hT1]; rfl)))
 have g2 := Heap.get?_push_of_some tz (Heap.get?_push_of_some t2 (Heap.get?_push_of_some t1 (Heap.get?_push_size (s.heap.push o1) (o := o2) (by rw [<- ho2]; rfl))))
 have g1 := Heap.get?_push_of_some tz (Heap.get?_push_of_some t2 (Heap.get?_push_of_some t1 (Heap.get?_push_of_some o2 (Heap.get?_push_size s.heap (o := o1) (by rw [<- ho1]; rfl)))))
 rw [z4] at g5
 rw [z3] at g4
 rw [z2] at g3
 rw [z1] at g2
 subst hZ hT1 hT2 ho1 ho2
 exact ⟨⟨_, g5, rfl⟩, h _ s.heap.objs.size rfl g5 g3 g4 (zui g1) (zui g2) λ c o x =>
   Heap.get?_push_of_some _ (Heap.get?_push_of_some _ (Heap.get?_push_of_some _ (Heap.get?_push_of_some _ (Heap.get?_push_of_some _ x))))⟩
end
end PySem
namespace L2
open PySem PySem.Spec PyProof.Rows
def SqV (b : Bool) (K : W.Frag) (H : Hp) (l : Addr) (xs : List V) : Prop := match b with | true => SqT K H l xs | false => SqL K H l xs
theorem Inv.sqv {X : Cx} {pins : List (Addr × Obj)} {σ : St} {H : Hp} {s : Shared} {b : Bool} {l : Addr} {xs : List V} (I : Inv X pins σ H s) (h : SqV b X.K H l xs) : ∃ its : List Value, zcm xs its /\ SqB b s.heap l its.toArray := by
 cases b with
 | true => obtain ⟨its, r, p, _⟩ := I.tuple h; exact ⟨its, r, p⟩
 | false => obtain ⟨its, r, p, _⟩ := I.list h; exact ⟨its, r, p.isList⟩
theorem Inv.sqv_inj {X : Cx} {pins : List (Addr × Obj)} {σ : St} {H : Hp} {s : Shared} {b : Bool} {l : Addr} {xs ys : List V} (I : Inv X pins σ H s) (h : SqV b X.K H l xs) (h' : SqV b X.K H l ys) : xs = ys := by
 cases b with
 | true => exact I.tuple_inj h h'
 | false => exact I.list_inj h h'
theorem SqB.lt {b : Bool} {h : Heap} {l : Addr} {xs : Array Value} (p : SqB b h l xs) : l < h.objs.size := by
 cases b <;> (obtain ⟨o, ho, r⟩ := p; exact Heap.lt_size ho)
def Itz (K : W.Frag) (b1 b2 : Bool) (l1 l2 : Addr) : It :=
 ⟨λ i H => ∃ xs ys x y, SqV b1 K H l1 xs /\ SqV b2 K H l2 ys /\ xs[i]? = some x /\ ys[i]? = some y,
  λ i H v H' => ∃ b, v = .ref b /\ H b = none /\ ∀ xs ys x y, SqV b1 K H l1 xs -> SqV b2 K H l2 ys -> xs[i]? = some x -> ys[i]? = some y -> H' = upd H b (.tup [x, y]),
  λ i H => ∃ xs ys, SqV b1 K H l1 xs /\ SqV b2 K H l2 ys /\ (xs[i]? = none \/ ys[i]? = none)⟩
theorem ztz {P : Program} {w : World} {K : W.Frag} {elts : List Expr} {k : Nat} {pos : Pos} (b1 b2 : Bool) (z TI TO i1 i2 l1 l2 : Addr) (D : ZipApart z TI TO i1 i2 l1 l2) :
   Turn P w K (.Tuple elts k pos) (Itz K b1 b2 l1 l2) [z, TI, TO, i1, i2] z (λ i h => IsZip h z TI TO .none /\ IsPair h TI (.ref i1) (.ref i2) /\ (∃ a b, IsPair h TO a b) /\ ItB b1 h i1 l1 i /\ ItB b2 h i2 l2 i) where
 mem := by simp
 obj := λ i h st b hb => by
   obtain ⟨hz, hTI, ⟨a, c, hTO⟩, h1, h2⟩ := st
   simp only [List.mem_cons, List.not_mem_nil, or_false] at hb
   rcases hb with rfl | rfl | rfl | rfl | rfl
   . exact ⟨_, hz, λ v z => by cases (show Data.fields _ = Data.cell v from z)⟩
   . exact ⟨_, hTI, λ v z => by cases (show Data.seq _ _ = Data.cell v from z)⟩
   . exact ⟨_, hTO, λ v z => by cases (show Data.seq _ _ = Data.cell v from z)⟩
   . cases b1 <;> (obtain ⟨o, ho, hc, hd⟩ := h1; exact ⟨o, ho, λ v z => by rw [hd] at z; cases z⟩)
   . cases b2 <;> (obtain ⟨o, ho, hc, hd⟩ := h2; exact ⟨o, ho, λ v z => by rw [hd] at z; cases z⟩)
 keep := λ i h h' st kk => by
   obtain ⟨hz, hTI, ⟨a, c, hTO⟩, h1, h2⟩ := st
   exact ⟨kk _ (by simp) _ hz, kk _ (by simp) _ hTI, ⟨a, c, kk _ (by simp) _ hTO⟩, h1.at λ o e => kk _ (by simp) o e, h2.at λ o e => kk _ (by simp) o e⟩
 item := by
   intro X hP hw hK hc i pins s σ H E I hf st hg
   subst hP hw hK
   obtain ⟨hz, hTI, ⟨oa, ob, hTO⟩, h1, h2⟩ := st
   obtain ⟨xs, ys, x, y, e1, e2, hx, hy⟩ := hg
   obtain ⟨is1, r1, p1⟩ := I.sqv e1
   obtain ⟨is2, r2, p2⟩ := I.sqv e2
   obtain ⟨u, hu, ru⟩ := r1.get hx
   obtain ⟨v, hv, rv⟩ := r2.get hy
   refine zl5 D hz hTI hTO h1 h2 p1 p2 (by simpa using hu) (by simpa using hv) λ h' a1 a2 a3 a4 a5 a6 hk => ?_
   refine ⟨_, rfl, wpAny_letOwnedTupleGo_zip a1 λ h3 hz3 hs3 => ?_⟩
   have hs3 : Heap.SameBut z h' h3 := hs3
   have hzlt : z < s.heap.objs.size := Heap.lt_size hz
   have hfr : H s.heap.objs.size = none := I.hok.fresh (Nat.le_refl _)
   have hnS : s.heap.objs.size ≠ z := Nat.ne_of_gt hzlt
   have hT3 : IsPair h3 s.heap.objs.size u v := (hs3.2 _ hnS).trans a5
   refine ⟨.ref s.heap.objs.size, upd H s.heap.objs.size (.tup [x, y]), I.turnLaid (t' := s.toks) (ch := [z, TI, TO, i1, i2]) (λ b o hb q => ?_) hf (Nat.le_refl _) ?_, rfl, ⟨s.heap.objs.size, rfl, hfr, λ xs' ys' x' y' q1 q2 hx' hy' => ?_⟩, ⟨hz3, ?_, ⟨u, v, ?_⟩, ?_, ?_⟩, λ b hb => ?_⟩
   . have n1 : b ≠ z := λ zz => hb (by simp [zz])
     have n3 : b ≠ TO := λ zz => hb (by simp [zz])
     have n4 : b ≠ i1 := λ zz => hb (by simp [zz])
     have n5 : b ≠ i2 := λ zz => hb (by simp [zz])
     exact (hs3.2 b n1).trans (hk b o n1 n3 n4 n5 q)
   . exact ⟨by show 2 <= sizeLine; decide, [u, v], .cons ru (.cons rv .nil), ⟨_, hT3, rfl, _, rfl⟩⟩
   . have t1 := I.sqv_inj q1 e1
     have t2 := I.sqv_inj q2 e2
     subst t1 t2
     rw [hx] at hx'
     rw [hy] at hy'
     cases hx'
     cases hy'
     rfl
   . exact (hs3.2 _ D.TIz).trans (hk _ _ D.TIz D.TITO D.TIi1 D.TIi2 hTI)
   . exact (hs3.2 _ D.TOz).trans a2
   . exact a3.at λ o e => (hs3.2 _ D.i1z).trans e
   . exact a4.at λ o e => (hs3.2 _ D.i2z).trans e
   . have hb0 := (hf b hb).1
     rw [zaf]
     . exact hb0
     . intro zz
       subst zz
       simp only [List.mem_cons, List.not_mem_nil, or_false] at hb
       rcases hb with e | e | e | e | e
       . exact hnS e
       . exact absurd (Heap.lt_size hTI) (by rw [<- e]; exact Nat.lt_irrefl _)
       . exact absurd (Heap.lt_size hTO) (by rw [<- e]; exact Nat.lt_irrefl _)
       . exact absurd h1.lt (by rw [<- e]; exact Nat.lt_irrefl _)
       . exact absurd h2.lt (by rw [<- e]; exact Nat.lt_irrefl _)
 done := by
   intro X hP hw hK hc i pins s σ H E I hf st hg
   subst hP hw hK
   obtain ⟨hz, hTI, ⟨oa, ob, hTO⟩, h1, h2⟩ := st
   obtain ⟨xs, ys, e1, e2, hend⟩ := hg
   obtain ⟨is1, r1, p1⟩ := I.sqv e1
   obtain ⟨is2, r2, p2⟩ := I.sqv e2
   refine zm7 (I.ok.hd hc) D hz hTI hTO h1 h2 p1 p2 ?_ λ h' hk => ⟨rfl, ?_⟩
   . rcases hend with h | h
     . left; have := r1.none_of h; simpa using this
     . right; have := r2.none_of h; simpa using this
   . exact I.turnedL (t' := s.toks) (ch := [z, TI, TO, i1, i2]) (λ b o hb q => hk b o (λ zz => hb (by simp [zz])) (λ zz => hb (by simp [zz])) (λ zz => hb (by simp [zz])) (λ zz => hb (by simp [zz])) q) hf
 self := λ _ _ _ _ _ st h => wpAny_pyIter_zip st.1 h
section
variable {X : Cx}
def iZip (b1 b2 : Bool) (K : W.Frag) (ta : TA) : TI := λ σ H R => ta σ H λ vs H1 => ∃ l1 l2, vs = [.ref l1, .ref l2] /\ (∃ xs, SqV b1 K H1 l1 xs) /\ (∃ ys, SqV b2 K H1 l2 ys) /\ R (Itz K b1 b2 l1 l2) H1
theorem zq6 (b1 b2 : Bool) {a b : Expr} {ta : TA} {p pos tpos : Pos} {elts : List Expr} {k : Nat} (hg : Gl X "zip") (hm : X.mg "zip" = none) (ha : PA X [a, b] ta) (hs : starEach [a, b] X.env = (false, eval a X.env) :: starEach [b] X.env := by rfl) (hs2 : (backTo pos (starEach [b] X.env)).any (·.1) = false := by rfl) :
   PI X (.Tuple elts k tpos) (.Call (.Name "zip" p) [a, b] [] pos) (iZip b1 b2 X.K ta) := by
 intro pins s σ H R I h
 refine Call_ (zie I hg hm zxe (PyProof.Rows.callWith_type1 (thn (ha pos pins s σ H _ I h) λ us s1 ⟨vs, H1, I1, r1, q1⟩ => ?_) hs hs2))
 obtain ⟨l1, l2, e, ⟨xs, hx⟩, ⟨ys, hy⟩, q⟩ := q1
 subst e
 cases r1 with
 | cons r rr =>
   cases rr with
   | cons r' rr =>
     cases rr
     cases r
     cases r'
     obtain ⟨is1, v1, p1⟩ := I1.sqv hx
     obtain ⟨is2, v2, p2⟩ := I1.sqv hy
     refine zm0 p1 p2 λ h' n hn hz hTI hTO h1 h2 hk => ?_
     subst hn
     refine wpAny_pyIter_zip hz ?_
     refine ⟨s1.heap.objs.size + 4, [s1.heap.objs.size + 4, s1.heap.objs.size + 2, s1.heap.objs.size + 3, s1.heap.objs.size, s1.heap.objs.size + 1], _, _, H1, rfl, I1.kept (t' := s1.toks) hk, ztz b1 b2 _ _ _ _ _ l1 l2 (zipApart_new (SqB.lt p1) (SqB.lt p2)), ⟨hz, hTI, ⟨_, _, hTO⟩, h1, h2⟩, λ b hb => ?_, q⟩
     have hb' : s1.heap.objs.size <= b := by
       simp only [List.mem_cons, List.not_mem_nil, or_false] at hb
       rcases hb with e | e | e | e | e <;> rw [e] <;> first | exact Nat.le_refl _ | exact Nat.le_add_right _ _
     exact I1.fpOk hb' (I1.hok.fresh hb')
theorem znj {b1 b2 : Bool} {K : W.Frag} {l1 l2 : Addr} {xs ys : List V} {g : TG} {tb : TS} {D : zhp} {σ : St} {H : Hp} (Pv : Nat -> St -> Hp -> Prop) (h0 : Pv 0 σ H) (hl : ∀ i σ H, i <= min xs.length ys.length -> Pv i σ H -> SqV b1 K H l1 xs /\ SqV b2 K H l2 ys)
   (hs : ∀ i x y σ H b, xs[i]? = some x -> ys[i]? = some y -> Pv i σ H -> H b = none -> g (.ref b) σ (upd H b (.tup [x, y])) λ σ2 H2 => tb { D with nx := Pv (i + 1), ct := Pv (i + 1), bk := D.nx } σ2 H2) (hd : ∀ σ H, Pv (min xs.length ys.length) σ H -> D.nx σ H) :
   ∃ W : Nat -> Nat -> St -> Hp -> Prop, (∃ m, W 0 m σ H) /\ ∀ i m σ H, W i m σ H -> ((Itz K b1 b2 l1 l2).stop i H /\ D.nx σ H) \/ ((Itz K b1 b2 l1 l2).go i H /\ ∃ N : St -> Hp -> Prop, (∀ σ' H', N σ' H' -> ∃ m', m' < m /\ W (i + 1) m' σ' H') /\ ∀ x H', (Itz K b1 b2 l1 l2).yld i H x H' -> g x σ H' λ σ2 H2 => tb { D with nx := N, ct := N, bk := D.nx } σ2 H2) := by
 refine ⟨λ i m σ H => m = min xs.length ys.length - i /\ i <= min xs.length ys.length /\ Pv i σ H, ⟨min xs.length ys.length, by simp, Nat.zero_le _, h0⟩, ?_⟩
 rintro i m σ H ⟨rfl, hi, p⟩
 obtain ⟨q1, q2⟩ := hl i σ H hi p
 by_cases hlt : i < min xs.length ys.length
 . have l1' : i < xs.length := by omega
   have l2' : i < ys.length := by omega
   refine .inr ⟨⟨xs, ys, xs[i], ys[i], q1, q2, by simp [l1'], by simp [l2']⟩, Pv (i + 1), λ σ' H' p' => ⟨min xs.length ys.length - (i + 1), by omega, rfl, hlt, p'⟩, λ x H' y => ?_⟩
   obtain ⟨b, rfl, hb, y⟩ := y
   rw [y xs ys xs[i] ys[i] q1 q2 (by simp [l1']) (by simp [l2'])]
   exact hs i xs[i] ys[i] σ H b (by simp [l1']) (by simp [l2']) p hb
 . have e : i = min xs.length ys.length := by omega
   subst e
   refine .inl ⟨⟨xs, ys, q1, q2, ?_⟩, hd σ H p⟩
   rcases Nat.le_total xs.length ys.length with h | h
   . left; rw [Nat.min_eq_left h]; exact List.getElem?_eq_none (Nat.le_refl _)
   . right; rw [Nat.min_eq_right h]; exact List.getElem?_eq_none (Nat.le_refl _)
end
end L2
namespace L2
open PySem PySem.Spec PyProof.Rows
structure ClsOk (K : W.Frag) (mg : Str -> Option Value) (name : Str) (C : Addr) : Prop where
 cl : Cls K C
 g : mg name = some (.ref C)
structure MetOk (K : W.Frag) (C : Addr) (m qual : Str) (st : Stmt) (ps : List Str) (f : Addr) (fd : FuncData) : Prop where
 F : Fun K m qual st f fd
 b : zg7 K fd ps []
 m : Meth K C m f
structure IniOk (K : W.Frag) (C : Addr) (qual : Str) (st : Stmt) (ps : List Str) (f : Addr) (fd : FuncData) : Prop where
 F : Fun K "__init__" qual st f fd
 b : zg7 K fd ps []
 M : Mk K C f
section
variable {X : Cx} {k : Nat} {C f : Addr} {fd : FuncData} {ps : List Str} {sp : Sp} {x m qual : Str} {st : Stmt} {p pos apos : Pos} {o e : Expr} {es : List Expr} {ta : TE} {t : TA}
theorem zu2 (Cc : ClsOk X.K X.mg x C) (D : IniOk X.K C qual st ps f fd) (G : FnOk X.prog X.w X.K X.mg X.base CX0 k f fd ps sp) (hr : Room (k + 1) X.A) (ha : PA X (e :: es) t) (hg : Gl X x := by rfl)
   (hdb : (x == ("__debug__" : Str)) = false := by decide) (he : starEach (e :: es) X.env = (false, eval e X.env) :: starEach es X.env := by rfl) (hpl : (backTo pos (starEach es X.env)).any (·.1) = false := by rfl) :
   PE X (.Call (.Name x p) (e :: es) [] pos) (zw3 C sp [] E0 t) := zvj D.M G hr hg Cc.g D.b .nil zcb ha hdb he hpl
theorem zbq {K : W.Frag} {C : Addr} {m qual : Str} {st : Stmt} {ps : List Str} {f : Addr} {oc : Value} {od an : Option Addr} {osl : Array (Option Value)} {kV doc pm cdv ct : Value}
   (a : PySem.W.findIn K (.ref C) m = some (some (.ref f))) (i : PySem.W.isFn K (.ref f) = true) (l : K.lookup f = some ⟨oc, od, .func (PySem.W.fnOf m qual (zaj st) (zai st) (zac st) .none kV doc pm an cdv ct), osl⟩) (c : PySem.W.codeIn K cdv qual = true) (k : PySem.W.keepIn K (.ref f) = true)
   (b : ∀ (kV doc pm : Value) (an : Option Addr) (cdv ct : Value) (us : List Value), us.length = ps.length -> bindArgs (PySem.W.fnOf m qual (zaj st) (zai st) (zac st) .none kV doc pm an cdv ct) ⟨us, []⟩ = pure (ps.zip us)) :
   MetOk K C m qual st ps f (PySem.W.fnOf m qual (zaj st) (zai st) (zac st) .none kV doc pm an cdv ct) :=
 ⟨zif l c k, (zif l c k).binds b, ⟨a, i, k⟩⟩
theorem zkz {K : W.Frag} {C : Addr} {qual : Str} {st : Stmt} {ps : List Str} {f : Addr} {oc : Value} {od an : Option Addr} {osl : Array (Option Value)} {kV doc pm cdv ct : Value}
   (mk : PySem.W.makesIn K C = true) (kc : PySem.W.keepIn K (.ref C) = true) (a : PySem.W.findIn K (.ref C) "__init__" = some (some (.ref f))) (i : PySem.W.isFn K (.ref f) = true) (l : K.lookup f = some ⟨oc, od, .func (PySem.W.fnOf "__init__" qual (zaj st) (zai st) (zac st) .none kV doc pm an cdv ct), osl⟩) (c : PySem.W.codeIn K cdv qual = true) (k : PySem.W.keepIn K (.ref f) = true)
   (b : ∀ (kV doc pm : Value) (an : Option Addr) (cdv ct : Value) (us : List Value), us.length = ps.length -> bindArgs (PySem.W.fnOf "__init__" qual (zaj st) (zai st) (zac st) .none kV doc pm an cdv ct) ⟨us, []⟩ = pure (ps.zip us)) :
   IniOk K C qual st ps f (PySem.W.fnOf "__init__" qual (zaj st) (zai st) (zac st) .none kV doc pm an cdv ct) :=
 ⟨zif l c k, (zif l c k).binds b, ⟨mk, a, i, kc⟩⟩
end
theorem u1' {A : Around} (h : A.units + 64 < cLine) : A.units + 1 < cLine := by omega
end L2
namespace L2
open PySem PySem.Spec PyProof.Rows
section
variable {prog : Program} {w : World} {A : Around} {E : Value -> Shared -> Prop} {s : Shared}
open HT in
theorem zhz {t sl : Addr} {items : Array Value} {vl vu : Value} {lo hi : Option Int} {Q : Value -> Shared -> Prop} (ht : IsTup s.heap t items) (hs : s.heap.IsSliceOf sl vl vu .none) (pl : IsPart vl lo) (pu : IsPart vu hi)
   (hw : sIx items.size 0 lo = 0 /\ sIx items.size items.size hi = items.size) (h : Q (.ref t) s) : wpAny (model prog w) A (getItem (.ref t) (.ref sl)) Q E s := by
 obtain ⟨os, hos, hcs, hds⟩ := id hs
 have tS : s.TypeIs (.ref sl) "slice" := ⟨os, hos, hcs⟩
 unfold getItem; try with_reducible refine wpAny_holding ?_
 first | refine wpAny_bind (wpAny_pure ?_) | skip
 refine wpAny_bind (wpAny_sequenceKey ht.typeIs (by decide) ?_); refine wpAny_bind (wpAny_callSpecial?_slot (name := Str.ofString "__getitem__") ht.typeIs PyProof.Rows.slot_tuple_getitem (wpAny_call_entry PyProof.Rows.slot_tuple_getitem ht.typeIs entry_tuple_getitem ?_ (args_tuple_getitem _ _)))
 show wpAny _ _ (Builtin.Tuple.tupleItemsOf (.ref t) >>= _) _ _ s; refine wpAny_bind (tupleItemsOf_ ht ?_); refine wpAny_bind (wpAny_typeOf tS ?_); rw [if_pos (by decide)]; refine wpAny_bind (zfm hs pl pu ?_)
 have yes : (((sIx items.size 0 lo : Nat) : Int) == 0 && (1 : Int) == 1 && (sIx items.size items.size hi - sIx items.size 0 lo) == items.size) = true := by
   rw [hw.1, hw.2]
   simp
 show wpAny _ _ (if (((sIx items.size 0 lo : Nat) : Int) == 0 && (1 : Int) == 1 && (sIx items.size items.size hi - sIx items.size 0 lo) == items.size) = true then _ else _) _ _ s; rw [if_pos yes]
 show wpAny _ _ (Builtin.Tuple.tupleIsExact (.ref t) >>= _) _ _ s
 unfold Builtin.Tuple.tupleIsExact
 refine wpAny_bind (wpAny_bind (wpAny_typeOf ht.typeIs (wpAny_pure ?_)))
 rw [if_pos (by decide)]
 exact wpAny_bind (wpAny_rule (wpAny_bind (wpAny_pure (wpAny_pure ⟨_, rfl, wpAny_pure h⟩))))
end
def rSlW (K : W.Frag) : V -> Option Int -> Option Int -> Hp -> VK -> Prop := λ x lo hi H Q => ∃ a xs, x = .ref a /\ SqT K H a xs /\
 (HT.sIx xs.length 0 lo = 0 /\ HT.sIx xs.length xs.length hi = xs.length) /\ Q (.ref a) H
theorem zvf {X : Cx} : SlR X (rSlW X.K) := by
 intro pins s σ H x v vl vu lo hi sl Q I rx hs pl pu h
 obtain ⟨a, xs, rfl, hx, hw, q⟩ := h
 cases rx
 obtain ⟨its, r, ht, hz⟩ := I.tuple hx
 have hlen : its.toArray.size = xs.length := by rw [List.size_toArray]; exact r.length.symm
 refine ⟨"tuple", _, PyProof.Rows.slot_tuple_getitem.lookup, ht.typeIs, zhz ht hs pl pu (by rw [hlen]; exact hw) ⟨.ref a, H, I, rfl, q⟩⟩
def rSlA (K : W.Frag) : V -> Option Int -> Option Int -> Hp -> VK -> Prop := λ x lo hi H Q => rSlT K x lo hi H Q \/ rSlW K x lo hi H Q
theorem zvq {X : Cx} : SlR X (rSlA X.K) := zx3.or zvf
theorem zkt {K : W.Frag} {H : Hp} {Q : VK} {a : Addr} {xs : List V} {lo hi : Option Int} (h : SqT K H a xs) (q : ∀ p H', zak H H' -> SqT K H' p (zew xs lo hi) -> Q (.ref p) H') : rSlA K (.ref a) lo hi H Q := by
 by_cases hw : HT.sIx xs.length 0 lo = 0 /\ HT.sIx xs.length xs.length hi = xs.length
 . refine .inr ⟨a, xs, rfl, h, hw, q a H (zak.refl _) ?_⟩
   have : zew xs lo hi = xs := by
     unfold zew
     rw [hw.1, hw.2, List.drop_zero, Nat.sub_zero, List.take_length]
   rw [this]
   exact h
 . exact .inl ⟨a, xs, rfl, h, hw, λ p hp => q p _ (zak.new hp) (SqT.of zab)⟩
end L2
namespace K12
open PySem L2
def step (acc : List Str) (s : Str) : List Str := if s ∈ acc then acc else acc ++ [s]
def onceL (ss : List Str) : List Str := ss.foldl step []
def strsOf (as : List V) : List Str := as.filterMap λ v => match v with | .str s => some s | _ => none
theorem zk3 (a b : List V) : strsOf (a ++ b) = strsOf a ++ strsOf b := List.filterMap_append ..
theorem zp5 (i : Int) : strsOf [.int i] = [] := rfl
theorem ztw (acc : List Str) (s : Str) : ∀ x ∈ acc, x ∈ step acc s := λ x hx => by
 unfold step
 split
 . exact hx
 . exact List.mem_append_left _ hx
theorem zst (acc : List Str) (s : Str) : s ∈ step acc s := by
 unfold step
 split
 . assumption
 . exact List.mem_append_right _ (by simp)
theorem zob : ∀ (ss acc : List Str), ∀ x ∈ acc, x ∈ ss.foldl step acc
 | [], acc, x, hx => hx
 | s :: ss, acc, x, hx => zob ss _ x (ztw acc s x hx)
theorem fold_has : ∀ (ss acc : List Str), ∀ x ∈ ss, x ∈ ss.foldl step acc
 | s :: ss, acc, x, hx => by
   rcases List.mem_cons.mp hx with e | e
   . subst e
     exact zob ss _ _ (zst acc _)
   . exact fold_has ss _ x e
theorem zll : ∀ (B : List Str) (acc C : List Str), (B.foldl step C).foldl step acc = B.foldl step (C.foldl step acc)
 | [], acc, C => rfl
 | s :: B, acc, C => by
   rw [List.foldl_cons, zll B acc (step C s), List.foldl_cons]
   congr 1
   unfold step
   by_cases h : s ∈ C
   . rw [if_pos h]
     have h2 : s ∈ C.foldl step acc := fold_has C acc s h
     have h2' : s ∈ List.foldl (λ acc s => if s ∈ acc then acc else acc ++ [s]) acc C := h2
     rw [if_pos h2']
   . rw [if_neg h, List.foldl_append]
     rfl
theorem zqu (A B C : List Str) : onceL (A ++ onceL B ++ C) = onceL (A ++ B ++ C) := by
 unfold onceL
 rw [List.foldl_append, List.foldl_append, List.foldl_append, List.foldl_append]
 have e := zll B (A.foldl step []) []
 rw [e]
 rfl
theorem onceL_sub (ss : List Str) : ∀ x ∈ onceL ss, x ∈ ss := by
 have key : ∀ (ss acc : List Str), ∀ x ∈ ss.foldl step acc, x ∈ acc \/ x ∈ ss := by
   intro ss
   induction ss with
   | nil => intro acc x hx; exact .inl hx
   | cons s ss ih =>
     intro acc x hx
     rcases ih _ x hx with h | h
     . unfold step at h
       split at h
       . exact .inl h
       . rcases List.mem_append.mp h with h | h
         . exact .inl h
         . have : x = s := by simpa using h
           exact .inr (by rw [this]; exact List.mem_cons_self)
     . exact .inr (List.mem_cons_of_mem _ h)
 intro x hx
 rcases key ss [] x hx with h | h
 . cases h
 . exact h
theorem zsu (acc : List Str) (s : Str) : (step acc s).length <= acc.length + 1 := by
 unfold step
 split
 . omega
 . simp
theorem onceL_len (ss : List Str) : (onceL ss).length <= ss.length := by
 have key : ∀ (ss acc : List Str), (ss.foldl step acc).length <= acc.length + ss.length := by
   intro ss
   induction ss with
   | nil => intro acc; simp
   | cons s ss ih =>
     intro acc
     have h1 := ih (step acc s)
     have h2 := zsu acc s
     rw [List.foldl_cons]
     simp only [List.length_cons]
     omega
 have := key ss []
 unfold onceL
 simpa using this
def tru (ss : List Str) : List (Key × V) := ss.map λ s => (Sum.inr s, V.bl true)
theorem zv1 (acc : List Str) (s : Str) : zbu (tru acc) (Sum.inr s) (.bl true) = tru (step acc s) := by
 unfold zbu step
 have e : ((tru acc).any λ kv => decide (kv.1 = (Sum.inr s : Key))) = decide (s ∈ acc) := by
   unfold tru
   rw [List.any_map]
   rw [Bool.eq_iff_iff, List.any_eq_true]
   simp only [Function.comp, decide_eq_true_eq]
   constructor
   . rintro ⟨x, hx, h⟩
     have : x = s := Sum.inr.inj h
     rw [<- this]
     exact hx
   . intro h
     exact ⟨s, h, rfl⟩
 rw [e]
 by_cases h : s ∈ acc
 . rw [decide_eq_true h, if_pos rfl, if_pos h]
   unfold tru
   rw [List.map_map]
   apply List.map_congr_left
   intro x _
   show (if (Sum.inr x : Key) = Sum.inr s then ((Sum.inr x : Key), V.bl true) else (Sum.inr x, V.bl true)) = _
   split <;> rfl
 . rw [decide_eq_false h, if_neg (by decide), if_neg h]
   unfold tru
   rw [List.map_append]
   rfl
theorem zoj : ∀ (ss acc : List Str), (tru ss).foldl (λ acc kv => zbu acc kv.1 kv.2) (tru acc) = tru (ss.foldl step acc)
 | [], acc => rfl
 | s :: ss, acc => by
   show (tru ss).foldl _ (zbu (tru acc) (Sum.inr s) (.bl true)) = _
   rw [zv1]
   exact zoj ss (step acc s)
theorem ztq (ss : List Str) : (tru ss).foldl (λ acc kv => zbu acc kv.1 kv.2) [] = tru (onceL ss) := zoj ss []
theorem zth (ss : List Str) : ((tru ss).map λ kv => kV kv.1) = ss.map V.str := by
 unfold tru
 rw [List.map_map]
 rfl
theorem zwg {K : W.Frag} {H : Hp} {a q : Addr} {xs l l' : List V} (h : SqT K H a xs) (hq : H q = some (.lst l)) : SqT K (upd H q (.lst l')) a xs := by
 rcases h with (h | ⟨o, h⟩) | h
 . exact .inl (.inl (by rw [zaf (zmz h hq (by intro z; cases z))]; exact h))
 . exact .inl (.inr ⟨o, by rw [zaf (zmz h hq (by intro z; cases z))]; exact h⟩)
 . exact .inr h
def Nm (s : Str) : Prop := s.length <= 1000 /\ PyData.strOk s = true
end K12
namespace K12
open PySem L2 PySem.W PyProof.Rows
inductive RowS (K : W.Frag) (H : Hp) : List V -> Option Str -> List V -> Prop
 | copy (x : Str) (a : V) : RowS K H [.str "copy", .str x, a] (some x) [a]
 | op (x s : Str) (a b : V) : RowS K H [.str "op", .str x, .str s, a, b] (some x) [a, b]
 | new (x : Str) : RowS K H [.str "new", .str x] (some x) []
 | get (x : Str) (a : V) (f : Str) : RowS K H [.str "get", .str x, a, .str f] (some x) [a]
 | put (a : V) (f : Str) (b : V) : RowS K H [.str "put", a, .str f, b] none [a, b]
 | call (x f : Str) (p : Addr) (as : List V) : SqT K H p as -> RowS K H [.str "call", .str x, .str f, .ref p] (some x) as
 | out (a : V) : RowS K H [.str "out", a] none [a]
 | back (a : V) : RowS K H [.str "back", a] none [a]
 | ifs (a : V) : RowS K H [.str "if", a] none [a]
 | whl (a : V) : RowS K H [.str "while", a] none [a]
 | els : RowS K H [.str "else"] none []
 | fin : RowS K H [.str "end"] none []
theorem RowS.mono {K : W.Frag} {H H' : Hp} {xs : List V} {g : Option Str} {as : List V} (h : RowS K H xs g as) (e : zak H H') : RowS K H' xs g as := by
 cases h with
 | call x f p as hp => exact .call x f p as (e.tup hp)
 | copy x a => exact .copy x a
 | op x s a b => exact .op x s a b
 | new x => exact .new x
 | get x a f => exact .get x a f
 | put a f b => exact .put a f b
 | out a => exact .out a
 | back a => exact .back a
 | ifs a => exact .ifs a
 | whl a => exact .whl a
 | els => exact .els
 | fin => exact .fin
def tabl : List (Str × List V) := [("copy", [.int 2]), ("op", [.int 3, .int 4]), ("new", []), ("get", [.int 2]), ("put", [.int 1, .int 3]), ("out", [.int 1]), ("back", [.int 1]), ("if", [.int 1]), ("while", [.int 1]), ("else", []), ("end", [])]
def giving : List Str := ["copy", "op", "new", "get", "call"]
theorem zpp {K : W.Frag} {H : Hp} {xs : List V} {g : Option Str} {as : List V} (h : RowS K H xs g as) : ∃ kd : Str, atI xs 0 = some (.str kd) /\
   ((kd = "call" /\ ∃ p, atI xs 3 = some (.ref p) /\ SqT K H p as) \/ (kd ≠ "call" /\ ∃ pl : List Int, KTD.datumAt kd tabl = some (pl.map V.int) /\ pl.length = as.length /\ ∀ (i : Nat) (a : V), as[i]? = some a -> ∃ p, pl[i]? = some p /\ atI xs p = some a)) := by
 cases h with
 | call x f p as hp => exact ⟨"call", rfl, .inl ⟨rfl, p, rfl, hp⟩⟩
 | copy x a => exact ⟨"copy", rfl, .inr ⟨by decide +kernel, [2], by decide +kernel, rfl, λ i a' e => by match i, e with | 0, e => exact ⟨2, rfl, e⟩⟩⟩
 | op x s a b => exact ⟨"op", rfl, .inr ⟨by decide +kernel, [3, 4], by decide +kernel, rfl, λ i a' e => by match i, e with | 0, e => exact ⟨3, rfl, e⟩ | 1, e => exact ⟨4, rfl, e⟩⟩⟩
 | new x => exact ⟨"new", rfl, .inr ⟨by decide +kernel, [], by decide +kernel, rfl, λ i a' e => by simp at e⟩⟩
 | get x a f => exact ⟨"get", rfl, .inr ⟨by decide +kernel, [2], by decide +kernel, rfl, λ i a' e => by match i, e with | 0, e => exact ⟨2, rfl, e⟩⟩⟩
 | put a f b => exact ⟨"put", rfl, .inr ⟨by decide +kernel, [1, 3], by decide +kernel, rfl, λ i a' e => by match i, e with | 0, e => exact ⟨1, rfl, e⟩ | 1, e => exact ⟨3, rfl, e⟩⟩⟩
 | out a => exact ⟨"out", rfl, .inr ⟨by decide +kernel, [1], by decide +kernel, rfl, λ i a' e => by match i, e with | 0, e => exact ⟨1, rfl, e⟩⟩⟩
 | back a => exact ⟨"back", rfl, .inr ⟨by decide +kernel, [1], by decide +kernel, rfl, λ i a' e => by match i, e with | 0, e => exact ⟨1, rfl, e⟩⟩⟩
 | ifs a => exact ⟨"if", rfl, .inr ⟨by decide +kernel, [1], by decide +kernel, rfl, λ i a' e => by match i, e with | 0, e => exact ⟨1, rfl, e⟩⟩⟩
 | whl a => exact ⟨"while", rfl, .inr ⟨by decide +kernel, [1], by decide +kernel, rfl, λ i a' e => by match i, e with | 0, e => exact ⟨1, rfl, e⟩⟩⟩
 | els => exact ⟨"else", rfl, .inr ⟨by decide +kernel, [], by decide +kernel, rfl, λ i a' e => by simp at e⟩⟩
 | fin => exact ⟨"end", rfl, .inr ⟨by decide +kernel, [], by decide +kernel, rfl, λ i a' e => by simp at e⟩⟩
def xv : Option Str -> V
 | some x => .str x
 | none => .non
theorem zq0 {K : W.Frag} {H : Hp} {xs : List V} {g : Option Str} {as : List V} (h : RowS K H xs g as) : ∃ kd : Str, atI xs 0 = some (.str kd) /\
   ((∃ x, g = some x /\ inV (.str kd) (giving.map V.str) = true /\ atI xs 1 = some (.str x)) \/ (g = none /\ inV (.str kd) (giving.map V.str) = false)) := by
 cases h with
 | call x f p as hp => exact ⟨"call", rfl, .inl ⟨x, rfl, by decide +kernel, rfl⟩⟩
 | copy x a => exact ⟨"copy", rfl, .inl ⟨x, rfl, by decide +kernel, rfl⟩⟩
 | op x s a b => exact ⟨"op", rfl, .inl ⟨x, rfl, by decide +kernel, rfl⟩⟩
 | new x => exact ⟨"new", rfl, .inl ⟨x, rfl, by decide +kernel, rfl⟩⟩
 | get x a f => exact ⟨"get", rfl, .inl ⟨x, rfl, by decide +kernel, rfl⟩⟩
 | put a f b => exact ⟨"put", rfl, .inr ⟨rfl, by decide +kernel⟩⟩
 | out a => exact ⟨"out", rfl, .inr ⟨rfl, by decide +kernel⟩⟩
 | back a => exact ⟨"back", rfl, .inr ⟨rfl, by decide +kernel⟩⟩
 | ifs a => exact ⟨"if", rfl, .inr ⟨rfl, by decide +kernel⟩⟩
 | whl a => exact ⟨"while", rfl, .inr ⟨rfl, by decide +kernel⟩⟩
 | els => exact ⟨"else", rfl, .inr ⟨rfl, by decide +kernel⟩⟩
 | fin => exact ⟨"end", rfl, .inr ⟨rfl, by decide +kernel⟩⟩
theorem znf : (giving.map V.str).all zjw = true := by decide +kernel
def Atom (v : V) : Prop := (∃ s, v = .str s /\ Nm s) \/ ∃ i, v = .int i
structure RowD where
 r : Addr
 e : Addr
 a : Addr
 gx : Option Str
 as : List V
structure RowAt (K : W.Frag) (H : Hp) (d : RowD) : Prop where
 row : ∃ xs, SqT K H d.r xs /\ RowS K H xs d.gx d.as
 ats : ∀ v ∈ d.as, Atom v
 len : d.as.length <= 10
 nm : ∀ x, d.gx = some x -> Nm x
theorem RowAt.mono {K : W.Frag} {H H' : Hp} {d : RowD} (h : RowAt K H d) (e : zak H H') : RowAt K H' d :=
 ⟨let ⟨xs, h1, h2⟩ := h.row; ⟨xs, e.tup h1, h2.mono e⟩, h.ats, h.len, h.nm⟩
structure FunAt (K : W.Frag) (H : Hp) (f : Addr) (ps : List Str) (ds : List RowD) : Prop where
 fn : ∃ n b p r, SqT K H f [n, b, .ref p, .ref r] /\ SqT K H p (ps.map V.str) /\ SqT K H r (ds.map λ d => V.ref d.r)
 rows : ∀ d ∈ ds, RowAt K H d
 pn : ∀ s ∈ ps, Nm s
 pl : ps.length <= 100
 dl : ds.length <= 100
theorem FunAt.mono {K : W.Frag} {H H' : Hp} {f : Addr} {ps : List Str} {ds : List RowD} (h : FunAt K H f ps ds) (e : zak H H') : FunAt K H' f ps ds :=
 ⟨let ⟨n, b, p, r, h1, h2, h3⟩ := h.fn; ⟨n, b, p, r, e.tup h1, e.tup h2, e.tup h3⟩, λ d hd => (h.rows d hd).mono e, h.pn, h.pl, h.dl⟩
def rowStrs (d : RowD) : List Str := d.gx.toList ++ strsOf d.as
def allOf (ps : List Str) (ds : List RowD) : List Str := ps ++ ds.flatMap rowStrs
theorem strsOf_len (as : List V) : (strsOf as).length <= as.length := List.length_filterMap_le _ _
end K12
namespace K12
open PySem L2
section
variable {P : Program} {w : World} {K : W.Frag} {mg : Str -> Option Value} {base : Heap}
def zsp (H : Hp) (Q : VK) (vs : List V) : Prop := ∀ l H', zak H H' -> H l = none -> H' l = some (.lst vs) -> Q (.ref l) H'
def sp_gives (K : W.Frag) : Sp := λ vs H Q _ => ∃ (r : Addr) (xs : List V) (g : Option Str) (as : List V), vs = [.ref r] /\ SqT K H r xs /\ RowS K H xs g as /\ Q (xv g) H
def sp_atoms_of (K : W.Frag) : Sp := λ vs H Q _ => ∃ (r : Addr) (xs : List V) (g : Option Str) (as : List V), vs = [.ref r] /\ SqT K H r xs /\ RowS K H xs g as /\ as.length <= 10 /\ zsp H Q as
def sp_each_once (K : W.Frag) : Sp := λ vs H Q _ => ∃ (p : Addr) (ss : List Str), vs = [.ref p] /\ SqL K H p (ss.map V.str) /\ ss.length <= 5000 /\ zsp H Q ((onceL ss).map V.str)
def sp_reads (K : W.Frag) : Sp := λ vs H Q _ => ∃ (r : Addr) (xs : List V) (g : Option Str) (as : List V), vs = [.ref r] /\ SqT K H r xs /\ RowS K H xs g as /\ as.length <= 10 /\ (∀ v ∈ as, Atom v) /\ zsp H Q ((onceL (strsOf as)).map V.str)
def sp_names_of (K : W.Frag) : Sp := λ vs H Q _ => ∃ (f : Addr) (ps : List Str) (ds : List RowD), vs = [.ref f] /\ FunAt K H f ps ds /\ zsp H Q ((onceL (allOf ps ds)).map V.str)
def rIsi (K : W.Frag) : List V -> Hp -> VK -> Prop := λ xs H Q => ∃ x c t b, xs = [x, .ty c] /\ TyOf K H x t /\ PySem.W.kitOne K t (.type c) = some b /\ Q (.bl b) H
theorem zkm {n : Nat} (h : n < 1000000) : n <= sizeLine := by
 have : (1000000 : Nat) < sizeLine := by decide
 omega
theorem zdt {n : Nat} (h : n < 1000000) : n < sizeLine := by
 have : (1000000 : Nat) < sizeLine := by decide
 omega
theorem zn3 {fs P G B : List Str} (h : onceL fs = onceL P) : onceL (fs ++ G ++ onceL B) = onceL (P ++ (G ++ B)) := by
 have e := zqu (fs ++ G) B []
 rw [List.append_nil, List.append_nil] at e
 rw [e, List.append_assoc]
 unfold onceL at h ⊢
 rw [List.foldl_append, h, <- List.foldl_append]
end
end K12
namespace K13
open PySem L2
def isO (s : Str) : Bool := decide (s = "if") || decide (s = "while")
def isE (s : Str) : Bool := decide (s = "else") || decide (s = "end")
def push (st : List Nat) (i : Nat) (s : Str) : List Nat := if isO s = true then i :: st else if s = "end" then st.tail else st
def kd (ks : List Str) (i : Nat) : Str := ks.getD i ""
def stk (ks : List Str) : Nat -> List Nat
 | 0 => []
 | i + 1 => push (stk ks i) i (kd ks i)
theorem zcn (ks : List Str) (i : Nat) : stk ks (i + 1) = push (stk ks i) i (kd ks i) := rfl
theorem zh6 (ks : List Str) : ∀ i, ∀ x ∈ stk ks i, x < i /\ isO (kd ks x) = true
 | 0, x, h => by cases h
 | i + 1, x, h => by
   rw [zcn] at h
   unfold push at h
   split at h
   . rcases List.mem_cons.mp h with e | e
     . subst e
       exact ⟨Nat.lt_succ_self _, by assumption⟩
     . have := zh6 ks i x e
       exact ⟨by omega, this.2⟩
   . split at h
     . have := zh6 ks i x (List.mem_of_mem_tail h)
       exact ⟨by omega, this.2⟩
     . have := zh6 ks i x h
       exact ⟨by omega, this.2⟩
theorem zmy {s : Str} (h : isO s = true) : ¬ s = "end" := by
 intro e
 subst e
 revert h
 decide +kernel
theorem zma {s : Str} (h : isO s = true) : ¬ s = "else" := by
 intro e
 subst e
 revert h
 decide +kernel
theorem ziz : isO ("end" : Str) = false := by decide +kernel
structure Wf (ks : List Str) : Prop where
 open_ : ∀ i, i < ks.length -> isE (kd ks i) = true -> stk ks i ≠ []
 els : ∀ i b r, i < ks.length -> kd ks i = "else" -> stk ks i = b :: r -> kd ks b = "if"
 shut : stk ks ks.length = []
 last : ∀ i, i + 1 = ks.length -> kd ks i = "back"
 pos : 0 < ks.length
def At (ks : List Str) (b j d : Nat) : Prop := ∃ pre, stk ks j = pre ++ b :: stk ks b /\ pre.length + 1 = d
theorem zo4 {ks : List Str} {b : Nat} (h : isO (kd ks b) = true) : At ks b (b + 1) 1 := ⟨[], by rw [zcn]; unfold push; rw [if_pos h]; rfl, rfl⟩
theorem zvg {ks : List Str} {b j d : Nat} (h : At ks b j d) (ho : isO (kd ks j) = true) : At ks b (j + 1) (d + 1) := by
 obtain ⟨pre, e, l⟩ := h
 exact ⟨j :: pre, by rw [zcn]; unfold push; rw [if_pos ho, e]; rfl, by simp [l]⟩
theorem zrq {ks : List Str} {b j d : Nat} (h : At ks b j (d + 1)) (hd : 0 < d) (he : kd ks j = "end") : At ks b (j + 1) d := by
 obtain ⟨pre, e, l⟩ := h
 cases pre with
 | nil => simp at l; omega
 | cons p pre =>
   refine ⟨pre, ?_, by simpa using l⟩
   rw [zcn]
   unfold push
   rw [he, if_neg (by rw [ziz]; decide), if_pos rfl, e]
   rfl
theorem ztn {ks : List Str} {b j d : Nat} (h : At ks b j d) (ho : ¬ isO (kd ks j) = true) (he : ¬ kd ks j = "end") : At ks b (j + 1) d := by
 obtain ⟨pre, e, l⟩ := h
 exact ⟨pre, by rw [zcn]; unfold push; rw [if_neg ho, if_neg he, e], l⟩
theorem zxl {ks : List Str} {b j : Nat} (h : At ks b j 1) : stk ks j = b :: stk ks b := by
 obtain ⟨pre, e, l⟩ := h
 cases pre with
 | nil => exact e
 | cons p pre => simp at l
theorem zwu {ks : List Str} (w : Wf ks) {b j d : Nat} (h : At ks b j d) (hj : j <= ks.length) : j < ks.length := by
 rcases Nat.lt_or_ge j ks.length with q | q
 . exact q
 . have e : j = ks.length := by omega
   subst e
   obtain ⟨pre, e, _⟩ := h
   rw [w.shut] at e
   simp at e
theorem zxn {ks : List Str} {b j d : Nat} (h : At ks b j d) : 0 < d := by
 obtain ⟨pre, _, l⟩ := h
 omega
def zhp (ks : List Str) (b e : Nat) : Prop := b < e /\ e < ks.length /\ kd ks e = "end" /\ stk ks e = b :: stk ks b /\ ∀ j, b < j -> j <= e -> ∃ d, At ks b j d
theorem zsa {ks : List Str} {b e e' : Nat} (h : zhp ks b e) (h' : zhp ks b e') : e = e' := by
 have key : ∀ {e e' : Nat}, zhp ks b e -> zhp ks b e' -> ¬ e < e' := by
   intro e e' h h' hlt
   obtain ⟨h1, h2, h3, h4, h5⟩ := h
   obtain ⟨d, pre, q, _⟩ := h'.2.2.2.2 (e + 1) (by omega) hlt
   rw [zcn] at q
   unfold push at q
   rw [h3, if_neg (by rw [ziz]; decide), if_pos rfl, h4] at q
   have : (stk ks b).length = (pre ++ b :: stk ks b).length := by rw [<- q]; rfl
   simp at this
   omega
 have a := key h h'
 have b := key h' h
 omega
theorem zmf {ks : List Str} (w : Wf ks) {b : Nat} : ∀ (m j d : Nat), m = ks.length - j -> j <= ks.length -> b < j -> (∀ i, b < i -> i <= j -> ∃ d, At ks b i d) -> At ks b j d -> ∃ e, j <= e /\ zhp ks b e
 | 0, j, d, hm, hj, hb, hall, h => absurd (zwu w h hj) (by omega)
 | m + 1, j, d, hm, hj, hb, hall, h => by
   have hlt := zwu w h hj
   have go : ∀ d', At ks b (j + 1) d' -> ∃ e, j <= e /\ zhp ks b e := λ d' h' => by
     obtain ⟨e, he, q⟩ := zmf w m (j + 1) d' (by omega) (by omega) (by omega) (λ i h1 h2 => by
       rcases Nat.lt_or_ge j i with z | z
       . have : i = j + 1 := by omega
         subst this
         exact ⟨d', h'⟩
       . exact hall i h1 z) h'
     exact ⟨e, by omega, q⟩
   by_cases ho : isO (kd ks j) = true
   . exact go _ (zvg h ho)
   by_cases he : kd ks j = "end"
   . have hp := zxn h
     by_cases hd : d = 1
     . subst hd
       exact ⟨j, Nat.le_refl _, hb, hlt, he, zxl h, hall⟩
     . obtain ⟨d', rfl⟩ : ∃ d', d = d' + 1 := ⟨d - 1, by omega⟩
       exact go _ (zrq h (by omega) he)
   . exact go _ (ztn h ho he)
theorem zse {ks : List Str} (w : Wf ks) {b : Nat} (hb : b < ks.length) (ho : isO (kd ks b) = true) : ∃ e, zhp ks b e := by
 obtain ⟨e, _, h⟩ := zmf w (ks.length - (b + 1)) (b + 1) 1 rfl (by omega) (by omega) (λ i h1 h2 => by
   have : i = b + 1 := by omega
   subst this
   exact ⟨1, zo4 ho⟩) (zo4 ho)
 exact ⟨e, h⟩
def Hit (ks : List Str) (b k : Nat) : Prop := isE (kd ks k) = true /\ (stk ks k).head? = some b
theorem zq3 {ks : List Str} {b k : Nat} (h : Hit ks b k) : b < k /\ isO (kd ks b) = true := zh6 ks k b (List.mem_of_mem_head? h.2)
theorem znp {ks : List Str} {b e : Nat} (h : zhp ks b e) : Hit ks b e := by
 refine ⟨?_, ?_⟩
 . rw [h.2.2.1]; decide +kernel
 . rw [h.2.2.2.1]; rfl
theorem gone {ks : List Str} {b e : Nat} (h : zhp ks b e) : ∀ j, e < j -> b ∉ stk ks j
 | 0, hj, _ => by omega
 | j + 1, hj, hm => by
   rcases Nat.lt_or_ge e j with q | q
   . have ih := gone h j q
     rw [zcn] at hm
     unfold push at hm
     split at hm
     . rcases List.mem_cons.mp hm with z | z
       . have := h.1
         omega
       . exact ih z
     . split at hm
       . exact ih (List.mem_of_mem_tail hm)
       . exact ih hm
   . have e1 : j = e := by omega
     subst e1
     rw [zcn] at hm
     unfold push at hm
     rw [h.2.2.1, if_neg (by rw [ziz]; decide), if_pos rfl, h.2.2.2.1] at hm
     have := (zh6 ks b b hm).1
     omega
theorem zul {ks : List Str} {b e k : Nat} (h : zhp ks b e) (hk : Hit ks b k) : k <= e := by
 rcases Nat.lt_or_ge e k with q | q
 . exact absurd (List.mem_of_mem_head? hk.2) (gone h k q)
 . exact q
def one (ks : List Str) (i : Nat) : List (Nat × Nat) := if isE (kd ks i) = true then (match stk ks i with | [] => [] | b :: _ => [(i, b)]) else []
def prs (ks : List Str) : Nat -> List (Nat × Nat)
 | 0 => []
 | i + 1 => prs ks i ++ one ks i
def zfn (L : List (Nat × Nat)) (b : Nat) : Option Nat := L.foldl (λ acc p => if p.2 = b then some p.1 else acc) none
def zb9 (L : List (Nat × Nat)) (b : Nat) : Option Nat := L.foldl (λ acc p => if acc.isSome = true then acc else if p.2 = b then some p.1 else none) none
theorem zep (ks : List Str) (i : Nat) : (∃ b, one ks i = [(i, b)] /\ Hit ks b i) \/ (one ks i = [] /\ ∀ b, ¬ Hit ks b i) := by
 unfold one Hit
 by_cases h : isE (kd ks i) = true
 . rw [if_pos h]
   cases q : stk ks i with
   | nil => exact .inr ⟨rfl, λ b z => by simp at z⟩
   | cons b r => exact .inl ⟨b, rfl, h, rfl⟩
 . rw [if_neg h]
   exact .inr ⟨rfl, λ b z => h z.1⟩
theorem zjg (L : List (Nat × Nat)) (p : Nat × Nat) (b : Nat) : zfn (L ++ [p]) b = if p.2 = b then some p.1 else zfn L b := by unfold zfn; rw [List.foldl_append]; rfl
theorem zih (L : List (Nat × Nat)) (p : Nat × Nat) (b : Nat) : zb9 (L ++ [p]) b = if (zb9 L b).isSome = true then zb9 L b else if p.2 = b then some p.1 else none := by unfold zb9; rw [List.foldl_append]; rfl
theorem zk1 {ks : List Str} {b b' k : Nat} (h : Hit ks b k) (h' : Hit ks b' k) : b = b' := by
 have := h.2.symm.trans h'.2
 simpa using this
theorem zl1 (ks : List Str) (b : Nat) : ∀ i, (∀ m, zfn (prs ks i) b = some m -> m < i /\ Hit ks b m /\ ∀ k, m < k -> k < i -> ¬ Hit ks b k) /\ (zfn (prs ks i) b = none -> ∀ k, k < i -> ¬ Hit ks b k)
 | 0 => ⟨λ m h => (by cases h), λ _ k hk => (by omega)⟩
 | i + 1 => by
   obtain ⟨ih1, ih2⟩ := zl1 ks b i
   show (∀ m, zfn (prs ks i ++ one ks i) b = some m -> _) /\ (zfn (prs ks i ++ one ks i) b = none -> _)
   rcases zep ks i with ⟨b', e, hh⟩ | ⟨e, hn⟩
   . rw [e, zjg]
     by_cases hb : b' = b
     . rw [if_pos hb]
       subst hb
       exact ⟨λ m h => by cases h; exact ⟨Nat.lt_succ_self _, hh, λ k h1 h2 => by omega⟩, λ h => by cases h⟩
     . rw [if_neg hb]
       refine ⟨λ m h => ?_, λ h k hk => ?_⟩
       . obtain ⟨h1, h2, h3⟩ := ih1 m h
         refine ⟨by omega, h2, λ k q1 q2 hk => ?_⟩
         rcases Nat.lt_or_ge k i with z | z
         . exact h3 k q1 z hk
         . have : k = i := by omega
           subst this
           exact hb (zk1 hh hk)
       . intro hk'
         rcases Nat.lt_or_ge k i with z | z
         . exact ih2 h k z hk'
         . have : k = i := by omega
           subst this
           exact hb (zk1 hh hk')
   . rw [e, List.append_nil]
     refine ⟨λ m h => ?_, λ h k hk hk' => ?_⟩
     . obtain ⟨h1, h2, h3⟩ := ih1 m h
       refine ⟨by omega, h2, λ k q1 q2 hk => ?_⟩
       rcases Nat.lt_or_ge k i with z | z
       . exact h3 k q1 z hk
       . have : k = i := by omega
         subst this
         exact hn b hk
     . rcases Nat.lt_or_ge k i with z | z
       . exact ih2 h k z hk'
       . have : k = i := by omega
         subst this
         exact hn b hk'
theorem zgl (ks : List Str) (b : Nat) : ∀ i, (∀ m, zb9 (prs ks i) b = some m -> m < i /\ Hit ks b m /\ ∀ k, k < m -> ¬ Hit ks b k) /\ (zb9 (prs ks i) b = none -> ∀ k, k < i -> ¬ Hit ks b k)
 | 0 => ⟨λ m h => (by cases h), λ _ k hk => (by omega)⟩
 | i + 1 => by
   obtain ⟨ih1, ih2⟩ := zgl ks b i
   show (∀ m, zb9 (prs ks i ++ one ks i) b = some m -> _) /\ (zb9 (prs ks i ++ one ks i) b = none -> _)
   rcases zep ks i with ⟨b', e, hh⟩ | ⟨e, hn⟩
   . rw [e, zih]
     cases hf : zb9 (prs ks i) b with
     | some m0 =>
       rw [if_pos (show (some m0).isSome = true from rfl)]
       obtain ⟨h1, h2, h3⟩ := ih1 m0 hf
       exact ⟨λ m h => by cases h; exact ⟨by omega, h2, h3⟩, λ h => by cases h⟩
     | none =>
       rw [if_neg (show ¬ (none : Option Nat).isSome = true by decide)]
       have hno := ih2 hf
       by_cases hb : b' = b
       . rw [if_pos hb]
         subst hb
         exact ⟨λ m h => by cases h; exact ⟨Nat.lt_succ_self _, hh, λ k hk => hno k hk⟩, λ h => by cases h⟩
       . rw [if_neg hb]
         refine ⟨λ m h => (by cases h), λ _ k hk hk' => ?_⟩
         rcases Nat.lt_or_ge k i with z | z
         . exact hno k z hk'
         . have : k = i := by omega
           subst this
           exact hb (zk1 hh hk')
   . rw [e, List.append_nil]
     refine ⟨λ m h => ?_, λ h k hk hk' => ?_⟩
     . obtain ⟨h1, h2, h3⟩ := ih1 m h
       exact ⟨by omega, h2, h3⟩
     . rcases Nat.lt_or_ge k i with z | z
       . exact ih2 h k z hk'
       . have : k = i := by omega
         subst this
         exact hn b hk'
theorem zs7 {ks : List Str} {b e : Nat} (h : zhp ks b e) : zfn (prs ks ks.length) b = some e := by
 obtain ⟨h1, h2⟩ := zl1 ks b ks.length
 cases q : zfn (prs ks ks.length) b with
 | none => exact absurd (znp h) (h2 q e h.2.1)
 | some m =>
   obtain ⟨q1, q2, q3⟩ := h1 m q
   have := zul h q2
   rcases Nat.lt_or_ge m e with z | z
   . exact absurd (znp h) (q3 e z h.2.1)
   . have : m = e := by omega
     rw [this]
def zna (ks : List Str) (b f : Nat) : Prop := f < ks.length /\ Hit ks b f /\ ∀ k, k < f -> ¬ Hit ks b k
theorem zj1 {ks : List Str} {b f f' : Nat} (h : zna ks b f) (h' : zna ks b f') : f = f' := by
 rcases Nat.lt_trichotomy f f' with z | z | z
 . exact absurd h.2.1 (h'.2.2 f z)
 . exact z
 . exact absurd h'.2.1 (h.2.2 f' z)
theorem zs4 {ks : List Str} {b f : Nat} (h : zna ks b f) : zb9 (prs ks ks.length) b = some f := by
 obtain ⟨h1, h2⟩ := zgl ks b ks.length
 cases q : zb9 (prs ks ks.length) b with
 | none => exact absurd h.2.1 (h2 q f h.1)
 | some m =>
   obtain ⟨q1, q2, q3⟩ := h1 m q
   rw [zj1 (⟨q1, q2, q3⟩ : zna ks b m) h]
theorem zp2 {ks : List Str} {b : Nat} (h : ¬ isO (kd ks b) = true) : zb9 (prs ks ks.length) b = none := by
 obtain ⟨h1, h2⟩ := zgl ks b ks.length
 cases q : zb9 (prs ks ks.length) b with
 | none => rfl
 | some m => exact absurd (zq3 (h1 m q).2.1).2 h
inductive Beh (ks : List Str) : Nat -> Nat -> Prop
 | els {k b e r : Nat} : kd ks (k + 1) = "else" -> (stk ks (k + 1)).head? = some b -> zhp ks b e -> Beh ks e r -> Beh ks k r
 | whl {k b : Nat} : kd ks (k + 1) = "end" -> (stk ks (k + 1)).head? = some b -> kd ks b = "while" -> Beh ks k b
 | fin {k b r : Nat} : kd ks (k + 1) = "end" -> (stk ks (k + 1)).head? = some b -> ¬ kd ks b = "while" -> Beh ks (k + 1) r -> Beh ks k r
 | oth {k : Nat} : ¬ kd ks (k + 1) = "else" -> ¬ kd ks (k + 1) = "end" -> Beh ks k (k + 1)
theorem zjf : ¬ (("else" : Str) = "end") := by decide +kernel
theorem Beh.uniq {ks : List Str} {k r : Nat} (h : Beh ks k r) : ∀ {r' : Nat}, Beh ks k r' -> r = r' := by
 induction h with
 | els h1 h2 h3 h4 ih =>
   intro r' h'
   cases h' with
   | els g1 g2 g3 g4 =>
     have hb := Option.some.inj (h2.symm.trans g2)
     subst hb
     have he := zsa h3 g3
     subst he
     exact ih g4
   | whl g1 _ _ => exact absurd (h1.symm.trans g1) zjf
   | fin g1 _ _ _ => exact absurd (h1.symm.trans g1) zjf
   | oth g1 _ => exact absurd h1 g1
 | whl h1 h2 h3 =>
   intro r' h'
   cases h' with
   | els g1 _ _ _ => exact absurd (g1.symm.trans h1) zjf
   | whl g1 g2 g3 => exact Option.some.inj (h2.symm.trans g2)
   | fin g1 g2 g3 _ =>
     have hb := Option.some.inj (h2.symm.trans g2)
     subst hb
     exact absurd h3 g3
   | oth _ g2 => exact absurd h1 g2
 | fin h1 h2 h3 h4 ih =>
   intro r' h'
   cases h' with
   | els g1 _ _ _ => exact absurd (g1.symm.trans h1) zjf
   | whl g1 g2 g3 =>
     have hb := Option.some.inj (h2.symm.trans g2)
     subst hb
     exact absurd g3 h3
   | fin g1 g2 g3 g4 => exact ih g4
   | oth _ g2 => exact absurd h1 g2
 | oth h1 h2 =>
   intro r' h'
   cases h' with
   | els g1 _ _ _ => exact absurd g1 h1
   | whl g1 _ _ => exact absurd g1 h2
   | fin g1 _ _ _ => exact absurd g1 h2
   | oth _ _ => rfl
theorem zq4 : ¬ (("back" : Str) = "else") /\ ¬ (("back" : Str) = "end") := by decide +kernel
theorem zjk {s : Str} (h : isO s = true) : ¬ isE s = true := by
 unfold isE
 rw [decide_eq_false (zma h), decide_eq_false (zmy h)]
 decide
theorem zxv {s : Str} (h1 : ¬ s = "else") (h2 : ¬ s = "end") : ¬ isE s = true := by
 unfold isE
 rw [decide_eq_false h1, decide_eq_false h2]
 decide
inductive Due (ks : List Str) : Nat -> Option (List Nat) -> Prop
 | no {k : Nat} : isE (kd ks k) = true -> Due ks k none
 | back {k : Nat} : kd ks k = "back" -> Due ks k (some [])
 | two {k f r1 r2 : Nat} : isO (kd ks k) = true -> zna ks k f -> Beh ks k r1 -> Beh ks f r2 -> Due ks k (some [r1, r2])
 | one {k r : Nat} : ¬ isE (kd ks k) = true -> ¬ kd ks k = "back" -> ¬ isO (kd ks k) = true -> Beh ks k r -> Due ks k (some [r])
theorem zom : ¬ isE ("back" : Str) = true := by decide +kernel
theorem zqe : ¬ isO ("back" : Str) = true := by decide +kernel
theorem Due.uniq {ks : List Str} {k : Nat} {o o' : Option (List Nat)} (h : Due ks k o) (h' : Due ks k o') : o = o' := by
 cases h with
 | no h =>
   cases h' with
   | no _ => rfl
   | back g => rw [g] at h; exact absurd h zom
   | two g _ _ _ => exact absurd h (zjk g)
   | one g _ _ _ => exact absurd h g
 | back h =>
   cases h' with
   | no g => rw [h] at g; exact absurd g zom
   | back _ => rfl
   | two g _ _ _ => rw [h] at g; exact absurd g zqe
   | one _ g _ _ => exact absurd h g
 | two h1 h2 h3 h4 =>
   cases h' with
   | no g => exact absurd g (zjk h1)
   | back g => rw [g] at h1; exact absurd h1 zqe
   | two g1 g2 g3 g4 =>
     have := zj1 h2 g2
     subst this
     rw [h3.uniq g3, h4.uniq g4]
   | one _ _ g _ => exact absurd h1 g
 | one h1 h2 h3 h4 =>
   cases h' with
   | no g => exact absurd g h1
   | back g => exact absurd g h2
   | two g _ _ _ => exact absurd g h3
   | one _ _ _ g => rw [h4.uniq g]
theorem zsn {ks : List Str} {b e : Nat} (h : zhp ks b e) : ∃ f, zna ks b f := by
 obtain ⟨h1, h2⟩ := zgl ks b ks.length
 cases q : zb9 (prs ks ks.length) b with
 | none => exact absurd (znp h) (h2 q e h.2.1)
 | some m =>
   obtain ⟨q1, q2, q3⟩ := h1 m q
   exact ⟨m, q1, q2, q3⟩
theorem zoz {ks : List Str} (w : Wf ks) {k : Nat} (hk : k < ks.length) (h : ¬ kd ks k = "back") : k + 1 < ks.length := by
 rcases Nat.lt_or_ge (k + 1) ks.length with z | z
 . exact z
 . exact absurd (w.last k (by omega)) h
theorem zpu {ks : List Str} (w : Wf ks) {b f : Nat} (h : zna ks b f) : f + 1 < ks.length := by
 refine zoz w h.1 λ z => ?_
 have := h.2.1.1
 rw [z] at this
 exact zom this
theorem zhr {ks ys : List Str} {i : Nat} (h : i < ks.length) : kd (ks ++ ys) i = kd ks i := by
 unfold kd
 rw [List.getD_eq_getElem?_getD, List.getD_eq_getElem?_getD, List.getElem?_append_left h]
theorem zsr (ks ys : List Str) (i : Nat) : kd (ks ++ ys) (ks.length + i) = kd ys i := by
 unfold kd
 rw [List.getD_eq_getElem?_getD, List.getD_eq_getElem?_getD, List.getElem?_append_right (Nat.le_add_right _ _), Nat.add_sub_cancel_left]
theorem zkv (ks : List Str) (x : Str) : kd (ks ++ [x]) ks.length = x := by
 have := zsr ks [x] 0
 rw [Nat.add_zero] at this
 rw [this]
 rfl
theorem zim (ks ys : List Str) : ∀ i, i <= ks.length -> stk (ks ++ ys) i = stk ks i
 | 0, _ => rfl
 | i + 1, h => by
   rw [zcn, zcn, zim ks ys i (by omega), zhr (by omega)]
structure Good (ks os : List Str) : Prop where
 open_ : ∀ i, i < ks.length -> isE (kd ks i) = true -> stk ks i ≠ []
 els : ∀ i b r, i < ks.length -> kd ks i = "else" -> stk ks i = b :: r -> kd ks b = "if"
 len : (stk ks ks.length).length = os.length
 mt : ∀ (i b : Nat), (stk ks ks.length)[i]? = some b -> os[i]? = some "if" -> kd ks b = "if"
theorem good_nil : Good [] [] := ⟨λ i h => absurd h (Nat.not_lt_zero i), λ i _ _ h => absurd h (Nat.not_lt_zero i), rfl, λ i b h => by cases h⟩
theorem zoo (ks : List Str) (x : Str) : stk (ks ++ [x]) (ks ++ [x]).length = push (stk ks ks.length) ks.length x := by
 rw [List.length_append]
 show stk (ks ++ [x]) (ks.length + 1) = _
 rw [zcn, zim _ _ _ (Nat.le_refl _), zkv]
theorem Good.snoc {ks os os' : List Str} {x : Str} (g : Good ks os) (ho : isE x = true -> os ≠ []) (he : x = "else" -> ∃ r, os = ("if" : Str) :: r)
   (hl : (push (stk ks ks.length) ks.length x).length = os'.length) (hm : ∀ (i b : Nat), (push (stk ks ks.length) ks.length x)[i]? = some b -> os'[i]? = some "if" -> kd (ks ++ [x]) b = "if") : Good (ks ++ [x]) os' := by
 have hn : (ks ++ [x]).length = ks.length + 1 := by rw [List.length_append]; rfl
 refine ⟨λ i h hE => ?_, λ i b r h hE hs => ?_, by rw [zoo]; exact hl, by rw [zoo]; exact hm⟩
 . rw [zim _ _ _ (by omega)]
   rcases Nat.lt_or_ge i ks.length with z | z
   . rw [zhr z] at hE
     exact g.open_ i z hE
   . have : i = ks.length := by omega
     subst this
     rw [zkv] at hE
     intro e
     have := g.len
     rw [e] at this
     exact ho hE (List.length_eq_zero_iff.mp this.symm)
 . rw [zim _ _ _ (by omega)] at hs
   rcases Nat.lt_or_ge i ks.length with z | z
   . rw [zhr z] at hE
     have hb := (zh6 ks i b (by rw [hs]; exact List.mem_cons_self)).1
     rw [zhr (by omega)]
     exact g.els i b r z hE hs
   . have : i = ks.length := by omega
     subst this
     rw [zkv] at hE
     obtain ⟨r', e⟩ := he hE
     have hb := (zh6 ks ks.length b (by rw [hs]; exact List.mem_cons_self)).1
     rw [zhr hb]
     exact g.mt 0 b (by rw [hs]; rfl) (by rw [e]; rfl)
theorem Good.keep {ks os : List Str} (g : Good ks os) (x : Str) {i b : Nat} (h : (stk ks ks.length)[i]? = some b) (h' : os[i]? = some "if") : kd (ks ++ [x]) b = "if" := by
 have hb := (zh6 ks ks.length b (List.mem_of_getElem? h)).1
 rw [zhr hb]
 exact g.mt i b h h'
theorem Good.plain {ks os : List Str} {x : Str} (g : Good ks os) (h1 : ¬ isO x = true) (h2 : ¬ isE x = true) (h3 : ¬ x = "end") : Good (ks ++ [x]) os := by
 have e : push (stk ks ks.length) ks.length x = stk ks ks.length := by unfold push; rw [if_neg h1, if_neg h3]
 refine g.snoc (λ z => absurd z h2) (λ z => absurd (by rw [z]; decide +kernel) h2) (by rw [e, g.len]) ?_
 rw [e]
 intro i b h h'
 exact g.keep x h h'
theorem Good.back {ks : List Str} (g : Good ks []) : Wf (ks ++ [("back" : Str)]) := by
 have hs : stk ks ks.length = [] := List.length_eq_zero_iff.mp g.len
 have g' := g.plain zqe zom (by decide +kernel)
 refine ⟨g'.open_, g'.els, List.length_eq_zero_iff.mp g'.len, λ i h => ?_, by rw [List.length_append]; exact Nat.succ_pos _⟩
 have : i = ks.length := by rw [List.length_append] at h; simpa using h
 rw [this, zkv]
end K13
namespace K13
open PySem L2
structure RowsAt (K : W.Frag) (H : Hp) (a : Addr) (ks : List Str) : Prop where
 ex : ∃ rs : List Addr, SqT K H a (rs.map V.ref) /\ rs.length = ks.length /\ ∀ i r, rs[i]? = some r -> ∃ rest, SqT K H r (V.str (kd ks i) :: rest)
theorem RowsAt.mono {K : W.Frag} {H H' : Hp} {a : Addr} {ks : List Str} (h : RowsAt K H a ks) (e : zak H H') : RowsAt K H' a ks :=
 ⟨let ⟨rs, h1, h2, h3⟩ := h.ex; ⟨rs, e.tup h1, h2, λ i r q => let ⟨rest, z⟩ := h3 i r q; ⟨rest, e.tup z⟩⟩⟩
theorem at0 {x : V} {r : List V} : atI (x :: r) 0 = some x := by
 unfold atI ixN
 rw [if_pos (by decide), if_pos (by simp)]
 rfl
theorem ixk {K : W.Frag} {H : Hp} {Q : VK} {a : Addr} {ks : List Str} {i : Int} (h : RowsAt K H a ks) (h0 : 0 <= i) (h1 : i < ks.length) (q : Q (.str (kd ks i.toNat)) H) : zyd K (.ref a) (.int i) H λ x H1 => zyd K x (.int 0) H1 Q := by
 obtain ⟨rs, e1, e2, e3⟩ := h.ex
 have hi : i.toNat < rs.length := by omega
 obtain ⟨rest, hr⟩ := e3 i.toNat rs[i.toNat] (by simp [hi])
 refine ⟨a, _, i, .ref rs[i.toNat], rfl, rfl, e1, ?_, rs[i.toNat], _, 0, _, rfl, rfl, hr, at0, q⟩
 have e : atI (rs.map V.ref) i = some (V.ref rs[i.toNat]) := by
   unfold atI ixN
   rw [if_pos h0, if_pos (by rw [List.length_map]; omega), Option.bind_some, List.getElem?_map]
   simp [hi]
 exact e
def zsk (L : List (Nat × Nat)) : List (Key × V) := L.map λ p => (Sum.inl (p.1 : Int), V.int (p.2 : Int))
def bg (ks : List Str) (i : Nat) : List (Key × V) := zsk (prs ks i)
theorem zur (ks : List Str) : ∀ i, ∀ p ∈ prs ks i, p.1 < i
 | 0, p, h => by cases h
 | i + 1, p, h => by
   rcases List.mem_append.mp h with h | h
   . have := zur ks i p h
     omega
   . rcases zep ks i with ⟨b, e, _⟩ | ⟨e, _⟩
     . rw [e] at h
       have : p = (i, b) := by simpa using h
       rw [this]
       exact Nat.lt_succ_self _
     . rw [e] at h
       cases h
theorem zyc (ks : List Str) (i : Nat) : zc2 (bg ks i) (Sum.inl (i : Int) : Key) = none := by
 have h := zgj (Sum.inl (i : Int) : Key) (bg ks i)
 cases q : zc2 (bg ks i) (Sum.inl (i : Int) : Key) with
 | none => rfl
 | some v =>
   rw [q] at h
   obtain ⟨kv, hm, e⟩ := List.any_eq_true.mp h
   obtain ⟨p, hp, rfl⟩ := List.mem_map.mp hm
   have e := of_decide_eq_true e
   have : (p.1 : Int) = (i : Int) := Sum.inl.inj e
   have := zur ks i p hp
   omega
theorem zn8 {ks : List Str} {i b : Nat} (h : Hit ks b i) : zbu (bg ks i) (Sum.inl (i : Int) : Key) (V.int (b : Int)) = bg ks (i + 1) := by
 rw [zn0 _ (zyc ks i)]
 rcases zep ks i with ⟨b', e, h'⟩ | ⟨e, h'⟩
 . show zsk (prs ks i) ++ _ = zsk (prs ks i ++ one ks i)
   rw [e, zk1 h h']
   unfold zsk
   rw [List.map_append]
   rfl
 . exact absurd h (h' b)
theorem zrz {ks : List Str} {i : Nat} (h : ¬ isE (kd ks i) = true) : bg ks (i + 1) = bg ks i := by
 rcases zep ks i with ⟨b', e, h'⟩ | ⟨e, h'⟩
 . exact absurd h'.1 h
 . show zsk (prs ks i ++ one ks i) = _
   rw [e, List.append_nil]
   rfl
theorem znb (ks : List Str) : ∀ i, (prs ks i).length <= i
 | 0 => Nat.le_refl _
 | i + 1 => by
   have := znb ks i
   show (prs ks i ++ one ks i).length <= i + 1
   rw [List.length_append]
   rcases zep ks i with ⟨b', e, h'⟩ | ⟨e, h'⟩ <;> rw [e] <;> simp <;> omega
theorem zsi (ks : List Str) (i : Nat) : (bg ks i).length <= i := by unfold bg zsk; rw [List.length_map]; exact znb ks i
def zpr (ks : List Str) (i : Nat) : List V := (stk ks i).reverse.map λ (n : Nat) => V.int (n : Int)
theorem zsw (ks : List Str) : ∀ i, (zpr ks i).length <= i := by
 intro i
 unfold zpr
 rw [List.length_map, List.length_reverse]
 induction i with
 | zero => exact Nat.le_refl _
 | succ i ih =>
   rw [zcn]
   unfold push
   split
   . simp; omega
   . split
     . simp; omega
     . omega
theorem inO (s : Str) : inV (.str s) [V.str "if", V.str "while"] = isO s := by
 show ((("if" : Str) == s) || ((("while" : Str) == s) || false)) = isO s
 unfold isO
 rw [Bool.or_false]
 congr 1 <;> (rw [Bool.eq_iff_iff, beq_iff_eq, decide_eq_true_eq]; exact eq_comm)
theorem inE (s : Str) : inV (.str s) [V.str "else", V.str "end"] = isE s := by
 show ((("else" : Str) == s) || ((("end" : Str) == s) || false)) = isE s
 unfold isE
 rw [Bool.or_false]
 congr 1 <;> (rw [Bool.eq_iff_iff, beq_iff_eq, decide_eq_true_eq]; exact eq_comm)
theorem le0 : 0 <= sizeLine := by decide
theorem le1 : 1 <= sizeLine := by decide
theorem le2 : 2 <= sizeLine := by decide
theorem zdt {n : Nat} (h : n < 1000000) : n < sizeLine := by
 have : (1000000 : Nat) < sizeLine := by decide
 omega
theorem zot {ks : List Str} {i b : Nat} {r : List Nat} (h : stk ks i = b :: r) : atI (zpr ks i) (-1) = some (.int (b : Int)) /\ (zpr ks i)[(zpr ks i).length - 1]? = some (.int (b : Int)) /\ (zpr ks i).dropLast = r.reverse.map λ (n : Nat) => V.int (n : Int) := by
 have e : zpr ks i = (r.reverse.map λ (n : Nat) => V.int (n : Int)) ++ [V.int (b : Int)] := by
   unfold zpr
   rw [h, List.reverse_cons, List.map_append]
   rfl
 rw [e]
 refine ⟨?_, by simp, by simp⟩
 unfold atI ixN
 rw [if_neg (by decide), if_pos (by simp; omega), Option.bind_some]
 have : ((-1 : Int) + (((r.reverse.map λ (n : Nat) => V.int (n : Int)) ++ [V.int (b : Int)]).length : Int)).toNat = (r.reverse.map λ (n : Nat) => V.int (n : Int)).length := by
   rw [List.length_append]
   simp
   omega
 rw [this]
 simp
theorem zqc {K : W.Frag} {H : Hp} {a q : Addr} {xs : List V} {kvs : List (Key × V)} {o : HO} (h : SqT K H a xs) (hq : H q = some (.dK kvs)) : SqT K (upd H q o) a xs := by
 rcases h with (h | ⟨o, h⟩) | h
 . exact .inl (.inl (by rw [zaf (zmz h hq (by intro z; cases z))]; exact h))
 . exact .inl (.inr ⟨o, by rw [zaf (zmz h hq (by intro z; cases z))]; exact h⟩)
 . exact .inr h
theorem RowsAt.frz {K : W.Frag} {H : Hp} {a q : Addr} {ks : List Str} {kvs : List (Key × V)} {o : HO} (h : RowsAt K H a ks) (hq : H q = some (.dK kvs)) : RowsAt K (upd H q o) a ks :=
 ⟨let ⟨rs, h1, h2, h3⟩ := h.ex; ⟨rs, zqc h1 hq, h2, λ i r z => let ⟨rest, y⟩ := h3 i r z; ⟨rest, zqc y hq⟩⟩⟩
def BehL (H : Hp) (l : Addr) (ks : List Str) : Prop := ∃ bs, H l = some (.lst bs) /\ bs.length = ks.length /\ ∀ k, k + 1 < ks.length -> ∃ r : Nat, Beh ks k r /\ bs[k]? = some (.int (r : Int))
def zxm (n : Nat) : List V := (List.replicate n [V.non]).flatten
theorem zr4 (n : Nat) : (zxm n).length = n := by unfold zxm; rw [zqo]; simp
theorem zx7 {ks : List Str} {b k : Nat} (n : Nat) (hk : k < n) (h : Hit ks b k) : zc2 (bg ks n) (Sum.inl (k : Int) : Key) = some (.int (b : Int)) := by
 induction n with
 | zero => omega
 | succ n ih =>
   rcases Nat.lt_or_ge k n with z | z
   . rcases zep ks n with ⟨b', e, h'⟩ | ⟨e, h'⟩
     . rw [<- zn8 h', zcq, if_neg (λ z' => by have : (k : Int) = (n : Int) := Sum.inl.inj z'; omega)]
       exact ih z
     . have : bg ks (n + 1) = bg ks n := by
         show zsk (prs ks n ++ one ks n) = _
         rw [e, List.append_nil]
         rfl
       rw [this]
       exact ih z
   . have : k = n := by omega
     subst this
     rw [<- zn8 h, zcq, if_pos rfl]
theorem zuv {ks : List Str} {n i : Nat} {kv : Key × V} (h : (bg ks n)[i]? = some kv) : ∃ p : Nat × Nat, (prs ks n)[i]? = some p /\ kv = (Sum.inl (p.1 : Int), V.int (p.2 : Int)) := by
 unfold bg zsk at h
 rw [List.getElem?_map] at h
 cases q : (prs ks n)[i]? with
 | none => rw [q] at h; cases h
 | some p => rw [q] at h; exact ⟨p, rfl, by simpa using h.symm⟩
def natsV (l : List Nat) : List V := l.map λ (n : Nat) => V.int (n : Int)
def zsl (H : Hp) (v : V) : Option (List Nat) -> Prop
 | none => v = .non
 | some l => ∃ p, v = .ref p /\ H p = some (.tup (natsV l))
theorem zsl.mono {H H' : Hp} {v : V} {o : Option (List Nat)} (h : zsl H v o) (e : zak H H') : zsl H' v o := by
 cases o with
 | none => exact h
 | some l => obtain ⟨p, h1, h2⟩ := h; exact ⟨p, h1, e _ _ h2⟩
theorem zsl.lst {H : Hp} {q : Addr} {l l' : List V} {v : V} {o : Option (List Nat)} (h : zsl H v o) (hq : H q = some (.lst l)) : zsl (upd H q (.lst l')) v o := by
 cases o with
 | none => exact h
 | some l => obtain ⟨p, h1, h2⟩ := h; exact ⟨p, h1, by rw [zaf (zmz h2 hq (by intro z; cases z))]; exact h2⟩
def FoundN (H : Hp) (l : Addr) (ks : List Str) (i : Nat) : Prop := ∃ vs : List V, H l = some (.lst vs) /\ vs.length = i /\ ∀ k v, vs[k]? = some v -> ∃ o, Due ks k o /\ zsl H v o
theorem FoundN.mono {H H' : Hp} {l : Addr} {ks : List Str} {i : Nat} (h : FoundN H l ks i) (e : zak H H') : FoundN H' l ks i :=
 let ⟨vs, h1, h2, h3⟩ := h; ⟨vs, e _ _ h1, h2, λ k v q => let ⟨o, d, z⟩ := h3 k v q; ⟨o, d, z.mono e⟩⟩
theorem FoundN.push {H : Hp} {l : Addr} {ks : List Str} {i : Nat} {vs : List V} {v : V} {o : Option (List Nat)} (h1 : H l = some (.lst vs)) (h2 : vs.length = i) (h3 : ∀ k v, vs[k]? = some v -> ∃ o, Due ks k o /\ zsl H v o) (hd : Due ks i o) (hv : zsl H v o) : FoundN (upd H l (.lst (vs ++ [v]))) l ks (i + 1) := by
 refine ⟨_, zab, by rw [List.length_append, h2]; rfl, λ k v' q => ?_⟩
 rcases Nat.lt_or_ge k vs.length with z | z
 . rw [List.getElem?_append_left z] at q
   obtain ⟨o', d, y⟩ := h3 k v' q
   exact ⟨o', d, y.lst h1⟩
 . rw [List.getElem?_append_right z] at q
   have hk : k - vs.length = 0 := by
     rcases Nat.eq_zero_or_pos (k - vs.length) with y | y
     . exact y
     . rw [List.getElem?_eq_none (by simp; omega)] at q
       cases q
   rw [hk] at q
   have hv' : v = v' := by simpa using q
   subst hv'
   have : k = i := by omega
   subst this
   exact ⟨o, hd, hv.lst h1⟩
section
variable {P : Program} {w : World} {K : W.Frag} {mg : Str -> Option Value} {base : Heap}
def sp_begins_of (K : W.Frag) : Sp := λ vs H Q _ => ∃ (a : Addr) (ks : List Str), vs = [.ref a] /\ RowsAt K H a ks /\ Wf ks /\ ks.length <= 1000 /\ ∀ d H', zak H H' -> H d = none -> H' d = some (.dK (bg ks ks.length)) -> Q (.ref d) H'
def sp_firsts_behind (K : W.Frag) : Sp := λ vs H Q _ => ∃ (a d : Addr) (ks : List Str), vs = [.ref a, .ref d] /\ RowsAt K H a ks /\ Wf ks /\ ks.length <= 1000 /\ H d = some (.dK (bg ks ks.length)) /\ ∀ l o H', zak (upd H d (.frz o (.dK (bg ks ks.length)))) H' -> H l = none -> BehL H' l ks -> Q (.ref l) H'
def sp_ways (K : W.Frag) : Sp := λ vs H Q _ => ∃ (a : Addr) (ks : List Str), vs = [.ref a] /\ RowsAt K H a ks /\ Wf ks /\ ks.length <= 1000 /\ ∀ l H', zak H H' -> H l = none -> FoundN H' l ks ks.length -> Q (.ref l) H'
theorem zkm {n : Nat} (h : n < 1000000) : n <= sizeLine := by
 have : (1000000 : Nat) < sizeLine := by decide
 omega
end
end K13
namespace Fl
open PySem L2 Gx
structure Rw where
 r : Addr
 k : Str
 c : Str
structure Fd where
 name : Str
 fa : Addr
 ra : Addr
 rs : List Rw
def zwl (K : W.Frag) (H : Hp) (w : Rw) : Prop := ∃ rest, SqT K H w.r (V.str w.k :: rest) /\ (w.k = "call" -> ∃ x y, rest = [x, .str w.c, y])
theorem zwl.mono {K : W.Frag} {H H' : Hp} {w : Rw} (e : zak H H') (h : zwl K H w) : zwl K H' w := let ⟨rest, h1, h2⟩ := h; ⟨rest, e.tup h1, h2⟩
structure FnAt (K : W.Frag) (H : Hp) (f : Fd) : Prop where
 fn : ∃ fo pa, SqT K H f.fa [.str f.name, fo, .ref pa, .ref f.ra]
 rw_ : SqT K H f.ra (f.rs.map λ w => V.ref w.r)
 rk : ∀ w ∈ f.rs, zwl K H w
 fu : ∃ ps ds, K12.FunAt K H f.fa ps ds
 wf : K13.Wf (f.rs.map (·.k))
 len : f.rs.length <= 100
theorem FnAt.mono {K : W.Frag} {H H' : Hp} {f : Fd} (e : zak H H') (h : FnAt K H f) : FnAt K H' f :=
 ⟨let ⟨a, b, z⟩ := h.fn; ⟨a, b, e.tup z⟩, e.tup h.rw_, λ w hw => (h.rk w hw).mono e, let ⟨a, b, z⟩ := h.fu; ⟨a, b, z.mono e⟩, h.wf, h.len⟩
theorem FnAt.rows {K : W.Frag} {H : Hp} {f : Fd} (h : FnAt K H f) : K13.RowsAt K H f.ra (f.rs.map (·.k)) := by
 refine ⟨f.rs.map (·.r), by rw [List.map_map]; exact h.rw_, by rw [List.length_map, List.length_map], λ i r hr => ?_⟩
 rw [List.getElem?_map] at hr
 cases e : f.rs[i]? with
 | none => rw [e] at hr; cases hr
 | some w =>
   rw [e] at hr
   cases hr
   obtain ⟨rest, h1, _⟩ := h.rk w (List.mem_of_getElem? e)
   refine ⟨rest, ?_⟩
   have : K13.kd (f.rs.map (·.k)) i = w.k := by
     unfold K13.kd
     rw [List.getD_eq_getElem?_getD, List.getElem?_map, e]
     rfl
   rw [this]
   exact h1
structure FS (C : Addr) (H : Hp) (x dx : Addr) (fs : List (Str × V)) (d : Nat -> Addr) (kv : Nat -> List (Key × V)) : Prop where
 ob : H x = some (.ins C dx fs)
 dc : ∀ j, j < 6 -> H (d j) = some (.dK (kv j))
theorem FS.mono {C : Addr} {H H' : Hp} {x dx : Addr} {fs : List (Str × V)} {d : Nat -> Addr} {kv : Nat -> List (Key × V)} (e : zak H H') (h : FS C H x dx fs d kv) : FS C H' x dx fs d kv := ⟨e _ _ h.ob, λ j hj => e _ _ (h.dc j hj)⟩
theorem FS.put {C : Addr} {H : Hp} {x dx : Addr} {fs : List (Str × V)} {d : Nat -> Addr} {kv : Nat -> List (Key × V)} (h : FS C H x dx fs d kv) (inj : ∀ i j, i < 6 -> j < 6 -> d i = d j -> i = j) (j : Nat) (hj : j < 6) (k' : List (Key × V)) : FS C (upd H (d j) (.dK k')) x dx fs d (λ i => if i = j then k' else kv i) := by
 refine ⟨?_, λ i hi => ?_⟩
 . rw [zaf (zmz h.ob (h.dc j hj) (by intro z; cases z))]; exact h.ob
 . by_cases e : i = j
   . subst e
     rw [zab, if_pos rfl]
   . rw [zaf (λ z => e (inj i j hi hj z)), if_neg e]
     exact h.dc i hi
def zlv (v : V) (d : Nat -> Addr) : List (Str × V) := zhb "ways_in" (.ref (d 5)) (zhb "names_in" (.ref (d 4)) (zhb "rows_of" (.ref (d 3)) (zhb "params_of" (.ref (d 2)) (zhb "folded_of" (.ref (d 1)) (zhb "number_of" (.ref (d 0)) (zhb "last" v []))))))
theorem zq7 (v : V) (d : Nat -> Addr) : (zlv v d).lookup ("number_of" : Str) = some (.ref (d 0)) := by
 unfold zlv
 rw [zam, if_neg (by decide +kernel), zam, if_neg (by decide +kernel), zam, if_neg (by decide +kernel), zam, if_neg (by decide +kernel), zam, if_neg (by decide +kernel), zam, if_pos rfl]
theorem zqn (v : V) (d : Nat -> Addr) : (zlv v d).lookup ("folded_of" : Str) = some (.ref (d 1)) := by
 unfold zlv
 rw [zam, if_neg (by decide +kernel), zam, if_neg (by decide +kernel), zam, if_neg (by decide +kernel), zam, if_neg (by decide +kernel), zam, if_pos rfl]
theorem zmb (v : V) (d : Nat -> Addr) : (zlv v d).lookup ("params_of" : Str) = some (.ref (d 2)) := by
 unfold zlv
 rw [zam, if_neg (by decide +kernel), zam, if_neg (by decide +kernel), zam, if_neg (by decide +kernel), zam, if_pos rfl]
theorem zra (v : V) (d : Nat -> Addr) : (zlv v d).lookup ("rows_of" : Str) = some (.ref (d 3)) := by
 unfold zlv
 rw [zam, if_neg (by decide +kernel), zam, if_neg (by decide +kernel), zam, if_pos rfl]
theorem zny (v : V) (d : Nat -> Addr) : (zlv v d).lookup ("names_in" : Str) = some (.ref (d 4)) := by
 unfold zlv
 rw [zam, if_neg (by decide +kernel), zam, if_pos rfl]
theorem zqa (v : V) (d : Nat -> Addr) : (zlv v d).lookup ("ways_in" : Str) = some (.ref (d 5)) := by
 unfold zlv
 rw [zam, if_pos rfl]
theorem zuz (v : V) (d : Nat -> Addr) : (zlv v d).lookup ("last" : Str) = some v := by
 unfold zlv
 rw [zam, if_neg (by decide +kernel), zam, if_neg (by decide +kernel), zam, if_neg (by decide +kernel), zam, if_neg (by decide +kernel), zam, if_neg (by decide +kernel), zam, if_neg (by decide +kernel), zam, if_pos rfl]
def dd (d0 d1 d2 d3 d4 d5 : Addr) : Nat -> Addr
 | 0 => d0
 | 1 => d1
 | 2 => d2
 | 3 => d3
 | 4 => d4
 | _ => d5
theorem zbm {H : Hp} {a b : Addr} {o : HO} (h : upd H a o b = none) : b ≠ a /\ H b = none := by
 have hn : b ≠ a := λ z => by rw [z, zab] at h; cases h
 rw [zaf hn] at h
 exact ⟨hn, h⟩
theorem zaw {H : Hp} {a b : Addr} {o o' : HO} (h : H b = some o) (hn : b ≠ a) : upd H a o' b = some o := by rw [zaf hn]; exact h
theorem zhq (f : Str) (v : V) (l : List (Str × V)) (k : Nat) (h : l.length <= k) : (zhb f v l).length <= k + 1 := Nat.le_trans (zd0 f v l) (by omega)
theorem zlb {α : Type} {l : List α} {f : α -> V} {r : Int} {a : α} (h0 : 0 <= r) (h : l[r.toNat]? = some a) : atI (l.map f) r = some (f a) := by
 obtain ⟨j, rfl⟩ := Int.eq_ofNat_of_zero_le h0
 refine zen ?_
 rw [Int.toNat_natCast] at h
 rw [List.getElem?_map, h]
 rfl
end Fl
namespace L2
open PySem
def hl (H : Hp) : Hp := λ b => match H b with
 | some (.lst xs) => some (.lst xs)
 | some (.tup xs) => some (.tup xs)
 | _ => none
theorem znv {H : Hp} : zak (hl H) H := λ b o h => by
 unfold hl at h
 split at h
 . rename_i e; rw [e]; exact h
 . rename_i e; rw [e]; exact h
 . cases h
theorem zuj {H : Hp} {b : Addr} {xs : List V} (h : H b = some (.lst xs)) : hl H b = some (.lst xs) := by unfold hl; rw [h]
theorem zxx {H : Hp} {b : Addr} {xs : List V} (h : H b = some (.tup xs)) : hl H b = some (.tup xs) := by unfold hl; rw [h]
theorem zak.hl {H H' : Hp} (e : zak H H') : zak (hl H) (hl H') := λ b o h => by
 have h1 := znv _ _ h
 have h2 := e _ _ h1
 unfold L2.hl at h ⊢
 rw [h1] at h
 rw [h2]
 exact h
theorem zwz {H : Hp} {a : Addr} {o : HO} (h : ∀ xs, H a ≠ some (.lst xs) /\ H a ≠ some (.tup xs)) (ho : ∀ xs, o ≠ .lst xs /\ o ≠ .tup xs) : hl (upd H a o) = hl H := by
 funext b
 unfold hl upd
 by_cases hb : b = a
 . subst hb
   rw [if_pos rfl]
   cases o with
   | lst xs => exact absurd rfl (ho xs).1
   | tup xs => exact absurd rfl (ho xs).2
   | _ =>
     cases e : H b with
     | none => rfl
     | some u => cases u with
       | lst xs => exact absurd e (h xs).1
       | tup xs => exact absurd e (h xs).2
       | _ => rfl
 . rw [if_neg hb]
theorem zpt {H : Hp} {a : Addr} {kvs kvs' : List (Key × V)} (h : H a = some (.dK kvs)) : hl (upd H a (.dK kvs')) = hl H :=
 zwz (λ xs => ⟨(by rw [h]; intro z; cases z), (by rw [h]; intro z; cases z)⟩) λ xs => ⟨(by intro z; cases z), (by intro z; cases z)⟩
end L2
namespace K13
open PySem L2
theorem FoundN.hl {H : Hp} {l : Addr} {ks : List Str} {i : Nat} (h : FoundN H l ks i) : FoundN (L2.hl H) l ks i := by
 obtain ⟨vs, h1, h2, h3⟩ := h
 refine ⟨vs, zuj h1, h2, λ k v q => ?_⟩
 obtain ⟨o, d, z⟩ := h3 k v q
 refine ⟨o, d, ?_⟩
 cases o with
 | none => exact z
 | some l => obtain ⟨p, z1, z2⟩ := z; exact ⟨p, z1, zxx z2⟩
end K13
namespace F2
open PySem L2 Gx Fl
structure Fd where
 name : Str
 fo : V
 fa : Addr
 pa : Addr
 ra : Addr
 ps : List Str
 rs : List Rw
 ds : List K12.RowD
structure FnAt (K : W.Frag) (H : Hp) (f : Fd) : Prop where
 fn : SqT K H f.fa [.str f.name, f.fo, .ref f.pa, .ref f.ra]
 pr : SqT K H f.pa (f.ps.map V.str)
 rw_ : SqT K H f.ra (f.rs.map λ w => V.ref w.r)
 rk : ∀ w ∈ f.rs, zwl K H w
 fu : K12.FunAt K H f.fa f.ps f.ds
 wf : K13.Wf (f.rs.map (·.k))
 len : f.rs.length <= 100
theorem FnAt.mono {K : W.Frag} {H H' : Hp} {f : Fd} (e : zak H H') (h : FnAt K H f) : FnAt K H' f :=
 ⟨e.tup h.fn, e.tup h.pr, e.tup h.rw_, λ w hw => (h.rk w hw).mono e, h.fu.mono e, h.wf, h.len⟩
def toF (f : Fd) : Fl.Fd := ⟨f.name, f.fa, f.ra, f.rs⟩
theorem FnAt.old {K : W.Frag} {H : Hp} {f : Fd} (h : FnAt K H f) : Fl.FnAt K H (toF f) := ⟨⟨_, _, h.fn⟩, h.rw_, h.rk, ⟨_, _, h.fu⟩, h.wf, h.len⟩
def nms (f : Fd) : List Str := K12.onceL (K12.allOf f.ps f.ds)
def kds (f : Fd) : List Str := f.rs.map (·.k)
def kD (g : Nat -> Fd -> V) (fns : List Fd) : List (Key × V) := fns.mapIdx λ i f => (Sum.inr f.name, g i f)
theorem zwd (g : Nat -> Fd -> V) (fns : List Fd) (f : Fd) : kD g (fns ++ [f]) = kD g fns ++ [(Sum.inr f.name, g fns.length f)] := by
 unfold kD
 rw [List.mapIdx_append]
 simp
theorem ztl {g g' : Nat -> Fd -> V} {fns : List Fd} (h : ∀ i f, i < fns.length -> g i f = g' i f) : kD g fns = kD g' fns := by
 unfold kD
 refine List.ext_getElem (by simp) λ i h1 h2 => ?_
 simp only [List.getElem_mapIdx]
 rw [h i _ (by simpa using h1)]
theorem zwj (g : Nat -> Fd -> V) {fns : List Fd} {s : Str} (h : s ∉ fns.map (·.name)) : zc2 (kD g fns) (Sum.inr s : Key) = none := by
 unfold zc2
 rw [Option.map_eq_none_iff, List.find?_eq_none]
 intro kv hkv z
 unfold kD at hkv
 obtain ⟨i, hi, e⟩ := List.mem_mapIdx.mp hkv
 subst e
 have z : (Sum.inr fns[i].name : Key) = Sum.inr s := by simpa using z
 exact h (List.mem_map.mpr ⟨fns[i], List.getElem_mem hi, Sum.inr.inj z⟩)
theorem zki {fns : List Fd} {f : Fd} {i : Nat} (h : fns[i]? = some f) (nd : (fns.map (·.name)).Nodup) : f.name ∉ (fns.take i).map (·.name) := by
 intro z
 obtain ⟨g, hg, e⟩ := List.mem_map.mp z
 obtain ⟨j, hj⟩ := List.getElem?_of_mem hg
 have hji : j < i := by
   have := (List.getElem?_eq_some_iff.mp hj).1
   rw [List.length_take] at this
   omega
 rw [List.getElem?_take_of_lt hji] at hj
 have h1 : (fns.map (·.name))[i]? = some f.name := by rw [List.getElem?_map, h]; rfl
 have h2 : (fns.map (·.name))[j]? = some f.name := by rw [List.getElem?_map, hj]; exact congrArg some e
 have := (List.getElem?_inj (List.getElem?_eq_some_iff.mp h2).1 nd).mp (h2.trans h1.symm)
 omega
theorem zjc {g g' : Nat -> Fd -> V} {fns : List Fd} {f : Fd} {i : Nat} {v : V} (h : fns[i]? = some f) (nd : (fns.map (·.name)).Nodup) (hg : ∀ j f, j < i -> g j f = g' j f) (hv : v = g' i f) : zbu (kD g (fns.take i)) (Sum.inr f.name : Key) v = kD g' (fns.take (i + 1)) := by
 have hi : i < fns.length := (List.getElem?_eq_some_iff.mp h).1
 have hl : (fns.take i).length = i := by rw [List.length_take]; omega
 rw [zn0 _ (zwj g (zki h nd)), List.take_add_one, h]
 show _ = kD g' (fns.take i ++ [f])
 rw [zwd, hl, <- hv, ztl (g := g) (g' := g') λ j f hj => hg j f (by omega)]
theorem kD_at (g : Nat -> Fd -> V) : ∀ {fns : List Fd} {i : Nat} {f : Fd}, (fns.map (·.name)).Nodup -> fns[i]? = some f -> zc2 (kD g fns) (Sum.inr f.name : Key) = some (g i f) := by
 intro fns i f nd h
 have hi : i < fns.length := (List.getElem?_eq_some_iff.mp h).1
 have key : ∀ k, i < k -> k <= fns.length -> zc2 (kD g (fns.take k)) (Sum.inr f.name : Key) = some (g i f) := by
   intro k
   induction k with
   | zero => intro h0; exact absurd h0 (Nat.not_lt_zero _)
   | succ k ih =>
     intro hk hk'
     obtain ⟨f', hf'⟩ : ∃ f', fns[k]? = some f' := ⟨fns[k], List.getElem?_eq_getElem (by omega)⟩
     rw [<- zjc (g := g) (g' := g) hf' nd (λ _ _ _ => rfl) rfl, zcq]
     by_cases e : i = k
     . subst e
       rw [h] at hf'
       cases hf'
       rw [if_pos rfl]
     . have hn : ¬ (Sum.inr f.name : Key) = Sum.inr f'.name := λ z => zki hf' nd (List.mem_map.mpr ⟨f, List.mem_of_getElem? (by rw [List.getElem?_take_of_lt (show i < k by omega)]; exact h), Sum.inr.inj z⟩)
       rw [if_neg hn]
       exact ih (by omega) (by omega)
 have := key fns.length hi (Nat.le_refl _)
 rw [List.take_length] at this
 exact this
structure FlowsAt (K : W.Frag) (C : Addr) (H : Hp) (x : Addr) (fns : List Fd) : Prop where
 all : ∀ f ∈ fns, FnAt K H f
 nd : (fns.map (·.name)).Nodup
 ob : ∃ dx fz d kv, ∃ nl wl : Nat -> Addr, fns[fns.length - 1]? = some fz /\ FS C H x dx (zlv (V.str fz.name) d) d kv /\ kv 0 = kD (λ i _ => .int i) fns /\ kv 1 = kD (λ _ f => f.fo) fns /\ kv 2 = kD (λ _ f => .ref f.pa) fns /\ kv 3 = kD (λ _ f => .ref f.ra) fns /\
   kv 4 = kD (λ i _ => .ref (nl i)) fns /\ kv 5 = kD (λ i _ => .ref (wl i)) fns /\ ∀ i f, fns[i]? = some f -> H (nl i) = some (.lst ((nms f).map V.str)) /\ K13.FoundN H (wl i) (kds f) (kds f).length
theorem FlowsAt.mono {K : W.Frag} {C : Addr} {H H' : Hp} {x : Addr} {fns : List Fd} (e : zak H H') (h : FlowsAt K C H x fns) : FlowsAt K C H' x fns := by
 obtain ⟨dx, fz, d, kv, nl, wl, h0, h1, h2, h3, h4, h5, h6, h7, h8⟩ := h.ob
 exact ⟨λ f hf => (h.all f hf).mono e, h.nd, ⟨dx, fz, d, kv, nl, wl, h0, h1.mono e, h2, h3, h4, h5, h6, h7, λ i f hi => ⟨e _ _ (h8 i f hi).1, (h8 i f hi).2.mono e⟩⟩⟩
end F2
namespace K21
open PySem L2
abbrev wide : Int := 281474976710656
def bw (s : Str) (a b : Int) : Int := if s = "&" then Builtin.bitAnd a b else if s = "|" then Builtin.bitOr a b else Builtin.bitXor a b
def zqr (s : Str) (x y : Int) : Int := if s = "&" then x * y else if s = "|" then x + y - x * y else (x + y) % 2
theorem zyh (x : Int) : x % 2 = 0 \/ x % 2 = 1 := by omega
theorem ztv (s : Str) (a b : Int) : 0 <= zqr s (a % 2) (b % 2) /\ zqr s (a % 2) (b % 2) <= 1 := by
 unfold zqr
 rcases zyh a with h | h <;> rcases zyh b with h' | h' <;> rw [h, h'] <;> (split; decide; split <;> decide)
theorem zw0 {x y : Int} (hx : 0 <= x) (hy : 0 <= y) : Builtin.bitAnd x y = 2 * Builtin.bitAnd (x / 2) (y / 2) + (x % 2) * (y % 2) := by
 obtain ⟨n, rfl⟩ := Int.eq_ofNat_of_zero_le hx
 obtain ⟨m, rfl⟩ := Int.eq_ofNat_of_zero_le hy
 rw [PyProof.Rows.bitAnd_pp hx hy, PyProof.Rows.bitAnd_pp (by omega) (by omega)]
 have e1 : (Int.ofNat n).toNat = n := rfl
 have e2 : (Int.ofNat m).toNat = m := rfl
 have e3 : ((n : Int) / 2).toNat = n / 2 := by omega
 have e4 : ((m : Int) / 2).toNat = m / 2 := by omega
 have a1 : ((n &&& m) / 2) = (n / 2) &&& (m / 2) := Nat.and_div_two
 have a2 : (n &&& m) % 2 = (n % 2) * (m % 2) := by
   have h1 := Nat.and_mod_two_eq_one (a := n) (b := m)
   rcases Nat.mod_two_eq_zero_or_one n with h | h <;> rcases Nat.mod_two_eq_zero_or_one m with h' | h' <;> rw [h, h'] at h1 ⊢ <;> omega
 have a3 := Nat.div_add_mod (n &&& m) 2
 show ((n &&& m : Nat) : Int) = _
 rw [e3, e4, <- a1]
 have a4 : ((n : Int) % 2) * ((m : Int) % 2) = (((n % 2) * (m % 2) : Nat) : Int) := by
   rw [Int.natCast_mul]
   rfl
 show _ = 2 * (((n &&& m) / 2 : Nat) : Int) + ((n : Int) % 2) * ((m : Int) % 2)
 rw [a4, <- a2]
 omega
theorem zvz (s : Str) {a b : Int} (ha : 0 <= a) (hb : 0 <= b) : bw s a b = 2 * bw s (a / 2) (b / 2) + zqr s (a % 2) (b % 2) := by
 have h := zw0 ha hb
 unfold bw zqr
 split
 . exact h
 . split
   . rw [PyProof.Rows.bitOr_and, PyProof.Rows.bitOr_and, h]
     omega
   . have e : ∀ x y : Int, Builtin.bitXor x y = x + y - 2 * Builtin.bitAnd x y := λ x y => by
       unfold Builtin.bitXor
       rw [PyProof.Rows.bitOr_and]
       omega
     rw [e, e, h]
     rcases zyh a with p | p <;> rcases zyh b with p' | p' <;> rw [p, p'] <;> omega
theorem zu9 (s : Str) : bw s 0 0 = 0 := by
 unfold bw
 split
 . rfl
 . split <;> rfl
theorem zoq (s : Str) : ∀ (n : Nat) {a b : Int}, 0 <= a -> 0 <= b -> a < 2 ^ n -> b < 2 ^ n -> 0 <= bw s a b /\ bw s a b < 2 ^ n
 | 0, a, b, h1, h2, h3, h4 => by
   have e1 : a = 0 := by simp at h3; omega
   have e2 : b = 0 := by simp at h4; omega
   subst e1 e2
   rw [zu9]
   decide
 | n + 1, a, b, h1, h2, h3, h4 => by
   rw [Int.pow_succ] at h3 h4 ⊢
   have ih := zoq s n (a := a / 2) (b := b / 2) (by omega) (by omega) (by omega) (by omega)
   have st := zvz s h1 h2
   have bb := ztv s a b
   omega
def valOf (s : Str) (a b : Int) : Int :=
 if s = "+" then (a + b) % wide else if s = "-" then (a - b) % wide else if s = "*" then (a * b) % wide else if s = "/" then (if b = 0 then 0 else a / b)
 else if s = "<" then (if a < b then 1 else 0) else if s = "=" then (if a = b then 1 else 0) else bw s a b
theorem val_bound (s : Str) {a b : Int} (ha : 0 <= a) (hb : 0 <= b) (ha' : a < wide) (hb' : b < wide) : 0 <= valOf s a b /\ valOf s a b < wide := by
 have m : ∀ z : Int, 0 <= z % wide /\ z % wide < wide := λ z => ⟨Int.emod_nonneg _ (by decide), Int.emod_lt_of_pos _ (by decide)⟩
 unfold valOf
 split
 . exact m _
 split
 . exact m _
 split
 . exact m _
 split
 . split
   . decide
   . have h1 : 0 <= a / b := Int.ediv_nonneg ha hb
     have h2 : a / b <= a := Int.ediv_le_self b ha
     omega
 split
 . split <;> decide
 split
 . split <;> decide
 exact zoq s 48 ha hb ha' hb'
end K21
namespace Ex
open PySem PySem.W PyProof.Rows PySem.Spec
section
variable {prog : Program} {w : World} {A : Around} {E : Value -> Shared -> Prop} {R : Result -> Shared -> Prop} {h : Heap} {g : Array GenState} {d : Drawn} {t : Nat} {os : OsState}
 {nm q : Str} {C N : Addr} {bs bm : List Value} {hdct : Bool} {sn : List Str} {sub : List Value} {ab : Bool} {col : Option Bool} {dd : Option Addr} {k0 k1 k2 k3 k5 : Option Value}
end
end Ex
namespace L2
open PySem PySem.Spec PyProof.Rows
section
variable {P : Program} {w : World} {K : W.Frag} {mg : Str -> Option Value} {base : Heap} {N : List Str} {qual : Str} {sc : Scope} {f : Addr} {cd : Value} {A : Around} {outer : List Env} {s0 s : Shared} {H0 H : Hp} {E : XK}
 {pins : List (Addr × Obj)} {σ : St} {cls : Value} {d : Option Addr} {e : Addr}
end
end L2
namespace Ex
open PySem PySem.W PyProof.Rows PySem.Spec
section
variable {prog : Program} {w : World} {A : Around} {E : Value -> Shared -> Prop} {R : Result -> Shared -> Prop} {h : Heap} {g : Array GenState} {d : Drawn} {t : Nat} {os : OsState}
 {nm q : Str} {C N : Addr} {bs bm : List Value} {hdct : Bool} {sn : List Str} {sub : List Value} {ab : Bool} {col : Option Bool} {dd : Option Addr} {k0 k1 k2 k3 k5 : Option Value}
end
end Ex
namespace Sk
open PySem PySem.Spec PyProof.Rows
mutual
def hsh (w : World) : PyData -> Int
 | .int i => hashInt i
 | .str x => hashStr w x
 | .bool b => hashInt (if b then 1 else 0)
 | .tuple ds => reduceHash (Builtin.Tuple.tupleHashOf (hshs w ds))
 | _ => 0
def hshs (w : World) : List PyData -> List Int
 | [] => []
 | d :: ds => hsh w d :: hshs w ds
end
mutual
def drw : PyData -> Nat
 | .tuple ds => drws ds + 1
 | _ => 1
def drws : List PyData -> Nat
 | [] => 0
 | d :: ds => drw d + drws ds
end
end Sk
namespace L2
open PySem PySem.Spec PyProof.Rows
structure BaseOk (K : W.Frag) (C : Addr) (m : Str) (f : Addr) : Prop where
 ga : PySem.W.specialIn K (.ref C) "__getattribute__" = some (some (.builtin "type.__getattribute__"))
 rd : PySem.W.readsIn K C (.type "type") = true
 e : PySem.W.findCls K (.ref C) (.type "type") m = some (.val (.ref f))
 kp : PySem.W.keepIn K (.ref f) = true
section
variable {X : Cx} {CX : CXT} {k : Nat} {f C : Addr} {fd : FuncData} {ps : List Str} {sp : Sp} {dvs : List V} {ds : List Value} {E : XK} {x m : Str} {p pos apos : Pos} {e o : Expr} {es : List Expr} {ta : TE} {t : TA}
theorem zvk {pl : Sem Bool} (he : PE X o (tC (.ref C))) (B : BaseOk X.K C m f) (F : FnOk X.prog X.w X.K X.mg X.base CX k f fd ps sp) (hr : Room k X.A) (hb : zg7 X.K fd ps ds) (hd : zcm dvs ds) (hx : zig CX X E) (ha : PA X (e :: es) t)
   (hst : starEach (e :: es) X.env = (false, eval e X.env) :: starEach es X.env := by rfl) (hpl : (backTo pos (starEach es X.env)).any (·.1) = false := by rfl)
   (ht : eval (.Call (.Attribute o m apos) (e :: es) [] pos) X.env = (do
     let ov <- eval o X.env
     standAt apos.atName
     let (f, first) <- holding [ov] (getMethod ov m pl)
     callWith pos f first (backTo pos (starEach (e :: es) X.env)) (backToKw pos (keywordEach [] X.env))) := by rfl) :
   PE X (.Call (.Attribute o m apos) (e :: es) [] pos) (zvd sp dvs E t) := by
 intro pins s σ H Q I h
 refine PySem.W.methodCall_KW (pl := pl) (thn (he pins s σ H (λ x H1 => x = .ref C /\ t σ H1 λ vs H2 => sp (vs ++ dvs) H2 Q E) I ⟨rfl, h⟩) λ u s1 ⟨x, H1, I1, rx, ex, q⟩ => ?_) ht
 subst ex
 obtain rfl : u = Value.ref C := rx
 refine PySem.W.method_cls I1.kIn B.ga (PySem.W.cls_value I1.kIn B.rd B.e rfl ?_)
 have I2 := I1.tok (s1.toks + 1)
 refine PySem.W.callWith_K (first := []) (h₀ := X.base) I.ok.mod.kin B.kp (thn (ha pos pins _ σ H1 _ I2 q) λ us s2 ⟨vs, H2, I3, r, q2⟩ => ⟨I3.kIn, ?_⟩) hst hpl
 exact zou (us := us) (vs := vs) F hr hb hd hx I3 r q2
end
structure BasOk (K : W.Frag) (C : Addr) (m qual : Str) (st : Stmt) (ps : List Str) (f : Addr) (fd : FuncData) : Prop where
 F : Fun K m qual st f fd
 b : zg7 K fd ps []
 B : BaseOk K C m f
theorem zsz {K : W.Frag} {C : Addr} {m qual : Str} {st : Stmt} {ps : List Str} {f : Addr} {oc : Value} {od an : Option Addr} {osl : Array (Option Value)} {kV doc pm cdv ct : Value}
   (ga : PySem.W.specialIn K (.ref C) "__getattribute__" = some (some (.builtin "type.__getattribute__"))) (rd : PySem.W.readsIn K C (.type "type") = true) (e : PySem.W.findCls K (.ref C) (.type "type") m = some (.val (.ref f))) (l : K.lookup f = some ⟨oc, od, .func (PySem.W.fnOf m qual (zaj st) (zai st) (zac st) .none kV doc pm an cdv ct), osl⟩) (c : PySem.W.codeIn K cdv qual = true) (k : PySem.W.keepIn K (.ref f) = true)
   (b : ∀ (kV doc pm : Value) (an : Option Addr) (cdv ct : Value) (us : List Value), us.length = ps.length -> bindArgs (PySem.W.fnOf m qual (zaj st) (zai st) (zac st) .none kV doc pm an cdv ct) ⟨us, []⟩ = pure (ps.zip us)) :
   BasOk K C m qual st ps f (PySem.W.fnOf m qual (zaj st) (zai st) (zac st) .none kV doc pm an cdv ct) :=
 ⟨zif l c k, (zif l c k).binds b, ⟨ga, rd, e, k⟩⟩
end L2
namespace L2
open PySem PySem.Spec PyProof.Rows
theorem Inv.thaw {X : Cx} {pins : List (Addr × Obj)} {σ : St} {H : Hp} {s : Shared} {d : Addr} {o : Obj} {kvs : List (Key × V)} (I : Inv X pins σ H s) (e : H d = some (.frz o (.dK kvs))) (h0 : ∀ o u, X.H₀ d ≠ some (.frz o u)) : Inv X pins σ (upd H d (.dK kvs)) s := by
 have nd : ∀ b u, H b = some u -> u ≠ .frz o (.dK kvs) -> b ≠ d := λ b u q n z => by
   subst z
   rw [e] at q
   cases q
   exact n rfl
 have none_of : ∀ {b : Addr}, H b = none -> upd H d (.dK kvs) b = none := λ {b} hb => by
   rw [zaf (λ z => by subst z; rw [e] at hb; cases hb)]
   exact hb
 refine ⟨I.ok, I.os, I.bare, ⟨I.base.keep, I.base.slot, λ b q h1 h2 h3 => none_of (I.base.free b q h1 h2 h3), I.base.there, λ b xs q => ?_, λ b q u h => ?_, λ b ps q => ?_⟩, I.loc, I.cell, none_of I.free, λ x c h => none_of (I.freeC x c h), λ p hp => ?_, λ b u q => ?_, I.len⟩
 . have := I.base.tups b xs q
   rw [zaf (nd b _ this (by intro z; cases z))]
   exact this
 . have := I.base.frzs b q u h
   rw [zaf (λ z => by subst z; exact h0 _ _ h)]
   exact this
 . obtain ⟨more, this⟩ := I.base.tbls b ps q
   refine ⟨more, ?_⟩
   rw [zaf (nd b _ this (by intro z; cases z))]
   exact this
 . obtain ⟨p1, p2, p3⟩ := I.pin p hp
   exact ⟨p1, none_of p2, p3⟩
 . have own : ∀ c b, H c = some (.own b) -> (upd H d (.dK kvs)) c = some (.own b) := λ c b q => (zaf (nd c _ q (by intro z; cases z))).trans q
   have tup : ∀ c xs, H c = some (.tup xs) -> (upd H d (.dK kvs)) c = some (.tup xs) := λ c xs q => (zaf (nd c _ q (by intro z; cases z))).trans q
   by_cases hb : b = d
   . subst hb
     rw [zab] at q
     cases q
     exact (I.hok _ _ e).2.stay (λ _ _ _ q => q) (λ c q => own c _ q) tup
   . rw [zaf hb] at q
     exact (I.hok b u q).stay (λ _ _ _ q => q) (λ c q => own c _ q) tup
theorem zwh {X : Cx} {st : Stmt} {t : TS} (h : PS X st t) : PS X st (λ D σ H => ∃ d kvs, H d = some (.dK kvs) /\ t { D with nx := λ σ' H' => ∃ o, H' d = some (.frz o (.dK kvs)) /\ D.nx σ' (upd H' d (.dK kvs)) } σ H) := by
 intro pins s σ H D I hh
 obtain ⟨d, kvs, hd, hh⟩ := hh
 have h0 : ∀ o u, X.H₀ d ≠ some (.frz o u) := λ o u z => by
   have := I.base.frzs d o u z
   rw [hd] at this
   cases this
 refine thn (h pins s σ H _ I hh) λ f s1 q => ?_
 cases f with
 | next =>
   obtain ⟨σ', H', I', o, e, q⟩ := q
   exact ⟨σ', _, I'.thaw e h0, q⟩
 | brk => exact q
 | cont => exact q
 | ret u => exact q
def Itq (o : Obj) (d : Addr) (kvs : List (Key × V)) : It :=
 ⟨λ i H => H d = some (.frz o (.dK kvs)) /\ i < kvs.length, λ i H y H' => H' = H /\ ∀ kv, kvs[i]? = some kv -> y = kV kv.1, λ i H => H d = some (.frz o (.dK kvs)) /\ i = kvs.length⟩
theorem zvv {P : Program} {w : World} {K : W.Frag} {tg : Expr} (o : Obj) (d it : Addr) (kvs : List (Key × V)) (es0 : Array DictEntry) (ep : Nat) (hep : o.data = .dict es0 ep) :
   Turn P w K tg (Itq o d kvs) [it] it (λ i h => h.IsKeyIter it d i kvs.length ep) where
 mem := by simp
 obj := λ i h st b hb => by
   have e : b = it := by simpa using hb
   subst e
   obtain ⟨o, e, c, d⟩ := st
   exact ⟨o, e, λ v z => by rw [d] at z; cases z⟩
 keep := λ i h h' st k => st.at λ o e => k it (by simp) o e
 item := by
   intro X hP hw hK hc i pins s σ H E I hf st hg
   subst hP hw hK
   obtain ⟨hfz, hi⟩ := hg
   obtain ⟨vs, rel, hD⟩ := zj4 I hfz hep
   have hlen : kvs.length = vs.length := KV.length rel
   have hi' : i < vs.length := by omega
   have rk : kvs[i].1 = vs[i].1 /\ zcw kvs[i].2 vs[i].2 := zfy rel hi hi'
   refine wpAny_pyNext_dict_item (knd := zbh X.prog X.w) (k := vs[i].1) (v := vs[i].2) (kvs := vs) (by rw [<- hlen]; exact st) hD (by simp [hi']) λ key h' hkey st' sb => ?_
   have I1 : Inv X pins σ H { s with heap := h' } := I.turnedL (t' := s.toks) (ch := [it]) (λ b o hb e => (sb.2 b (λ z => hb (by simp [z]))).trans e) hf
   have kk : ∀ kv, kvs[i]? = some kv -> kV kvs[i].1 = kV kv.1 := λ kv hkv => by
     have : kvs[i] = kv := by simpa [hi] using hkv
     rw [this]
   exact ⟨_, rfl, letGo_keyiter (s' := { s with heap := h' }) st' ⟨kV kvs[i].1, H, I1, by rw [rk.1]; exact zrn hkey, ⟨rfl, kk⟩, by rw [hlen]; exact st', λ b hb => (hf b hb).1⟩⟩
 done := by
   intro X hP hw hK hc i pins s σ H E I hf st hg
   subst hP hw hK
   obtain ⟨hfz, hi⟩ := hg
   obtain ⟨vs, rel, hD⟩ := zj4 I hfz hep
   have hlen : kvs.length = vs.length := KV.length rel
   exact wpAny_pyNext_dict_end (knd := zbh X.prog X.w) (kvs := vs) (I.ok.hd hc) (by rw [<- hlen]; exact st) hD (by simp; omega) λ h' eb => ⟨rfl, I.turnedL (t' := s.toks) (ch := [it]) (λ b o hb e => eb b o (λ z => hb (by simp [z])) e) hf⟩
 self := λ _ _ _ _ _ st h => wpAny_pyIter_keyiter st h
section
variable {X : Cx} {tg : Expr}
def iDk (td : TE) : TI := λ σ H R => td σ H λ x H1 => ∃ d kvs, x = .ref d /\ H1 d = some (.dK kvs) /\ ∀ o, R (Itq o d kvs) (upd H1 d (.frz o (.dK kvs)))
theorem zyl {l : Expr} {td : TE} (hl : PE X l td) : PI X tg l (iDk td) := by
 intro pins s σ H R I h
 refine thn (hl pins s σ H _ I h) λ v s1 ⟨x, H1, I1, r1, q1⟩ => ?_
 obtain ⟨d, kvs, rfl, e, q⟩ := q1
 cases r1
 obtain ⟨o, ho, I2⟩ := I1.freeze e
 obtain ⟨ho2, z, hd, vs, rel, dd⟩ := I2.hok d _ zab
 obtain ⟨o', es, ep, ho', hx, hdat, r⟩ := id dd
 rw [ho] at ho'
 cases ho'
 obtain ⟨vs3, rel3, hD3⟩ := zj4 I2 zab hdat
 have hlen : kvs.length = vs3.length := KV.length rel3
 refine wpAny_pyIter_dict (knd := zbh X.prog X.w) (kvs := vs3) (ep := ep) hd hD3 ?_
 rw [<- hlen]
 refine ⟨s1.heap.objs.size, [s1.heap.objs.size], _, _, _, rfl, I2.kept (t' := s1.toks) λ b o e => Heap.get?_push_of_some _ e, zvv o d s1.heap.objs.size kvs es ep hdat, ⟨_, Heap.get?_push_size _ rfl, rfl, rfl⟩, λ b hb => ?_, q o⟩
 have z : b = s1.heap.objs.size := by simpa using hb
 subst z
 exact I2.fpOk (Nat.le_refl _) (I2.hok.fresh (Nat.le_refl _))
theorem zx6 {o : Obj} {d : Addr} {kvs : List (Key × V)} {g : TG} {tb : TS} {D : zhp} {σ : St} {H : Hp} (Pv : Nat -> St -> Hp -> Prop) (h0 : Pv 0 σ H) (hl : ∀ i σ H, i <= kvs.length -> Pv i σ H -> H d = some (.frz o (.dK kvs)))
   (hs : ∀ i kv σ H, kvs[i]? = some kv -> Pv i σ H -> g (kV kv.1) σ H λ σ2 H2 => tb { D with nx := Pv (i + 1), ct := Pv (i + 1), bk := D.nx } σ2 H2) (hd : ∀ σ H, Pv kvs.length σ H -> D.nx σ H) :
   ∃ W : Nat -> Nat -> St -> Hp -> Prop, (∃ m, W 0 m σ H) /\ ∀ i m σ H, W i m σ H -> ((Itq o d kvs).stop i H /\ D.nx σ H) \/ ((Itq o d kvs).go i H /\ ∃ N : St -> Hp -> Prop, (∀ σ' H', N σ' H' -> ∃ m', m' < m /\ W (i + 1) m' σ' H') /\ ∀ x H', (Itq o d kvs).yld i H x H' -> g x σ H' λ σ2 H2 => tb { D with nx := N, ct := N, bk := D.nx } σ2 H2) := by
 refine ⟨λ i m σ H => m = kvs.length - i /\ i <= kvs.length /\ Pv i σ H, ⟨kvs.length, by simp, Nat.zero_le _, h0⟩, ?_⟩
 rintro i m σ H ⟨rfl, hi, p⟩
 have q := hl i σ H hi p
 by_cases hlt : i < kvs.length
 . refine .inr ⟨⟨q, hlt⟩, Pv (i + 1), λ σ' H' p' => ⟨kvs.length - (i + 1), by omega, rfl, hlt, p'⟩, λ x H' y => ?_⟩
   obtain ⟨rfl, y⟩ := y
   rw [y kvs[i] (by simp [hlt])]
   exact hs i kvs[i] σ H' (by simp [hlt]) p
 . have e : i = kvs.length := by omega
   subst e
   exact .inl ⟨⟨q, rfl⟩, hd σ H p⟩
end
end L2
namespace L2
open PySem PySem.Spec PyProof.Rows
def zzi : R2 := λ x y H Q => ∃ (c : Nat) (k : Int), x = .str ⟨#[c]⟩ /\ y = .int k /\ 1 <= k /\ k <= 1000 /\ Q (.str ⟨(List.replicate k.toNat c).toArray⟩) H
theorem zro (c : Nat) : ∀ (n : Nat) (a : Array Nat), (List.replicate n #[c]).foldl (· ++ ·) a = a ++ (List.replicate n c).toArray
 | 0, a => by simp
 | n + 1, a => by
   rw [List.replicate_succ, List.foldl_cons, zro c n, List.replicate_succ]
   apply Array.toList_inj.mp
   simp
theorem zu4 {X : Cx} : OpR X (binaryOp .Mult) zzi := by
 intro pins s σ H x y v u Q I rx ry h
 obtain ⟨c, k, rfl, rfl, k0, k1, q⟩ := h
 obtain ⟨t, rfl⟩ := rx
 obtain ⟨tu, rfl⟩ := ry
 have hl : (⟨#[c]⟩ : Str).length = 1 := rfl
 refine PySem.P.mul_str ?_ (λ _ _ => ?_) (λ _ _ => ?_) ?_
 . rw [decide_eq_false (by omega), decide_eq_false (by omega)]; rfl
 . rw [hl]
   have : (1 : Int) <= (2 ^ 63 - 1) / k := by
     rw [Int.le_ediv_iff_mul_le (by omega)]
     omega
   omega
 . rw [hl]
   show decide (1 * k.toNat > sizeLine) = false
   refine decide_eq_false ?_
   have : (1000 : Nat) < sizeLine := by decide
   omega
 . rw [if_neg (by omega)]
   by_cases e : k = 1
   . subst e
     rw [if_pos (by simp)]
     exact ⟨.str ⟨#[c]⟩, H, I, ⟨_, rfl⟩, q⟩
   . rw [if_neg (by rw [hl]; simp [e]), zro]
     refine ⟨?_, ?_⟩
     . show _ <= _
       simp [Str.length]
       have : (1000 : Nat) < sizeLine := by decide
       omega
     . have ee : (#[] : Array Nat) ++ (List.replicate k.toNat c).toArray = (List.replicate k.toNat c).toArray := by simp
       rw [ee]
       exact ⟨.str _, H, I.tok _, ⟨_, rfl⟩, q⟩
end L2
namespace L2
open PySem PySem.Spec PyProof.Rows
section
variable {g : TG} {tif : TT} {te : TE} {js : List (Option Nat)} {σ : St} {H : Hp} {Q : VK}
def zoe (H : Hp) (p : Addr) (T : Nat -> Hp -> V -> Prop) (i : Nat) (acc : List V) (H2 : Hp) : Prop := zak H H2 /\ H2 p = some (.lst acc) /\ acc.length = i /\ ∀ (j : Nat) v, acc[j]? = some v -> T j (ers p H2) v
theorem ersU {p : Addr} {H : Hp} {o : HO} : ers p (upd H p o) = ers p H := by
 funext b
 unfold ers
 by_cases h : b = p
 . rw [if_pos h, if_pos h]
 . rw [if_neg h, if_neg h, zaf h]
theorem zn2 {p : Addr} {T : Nat -> Hp -> V -> Prop} {i : Nat} {acc : List V} {H2 H3 : Hp} {v : V} (tm : ∀ i v H H', zak H H' -> T i H v -> T i H' v) (hp : H p = none) (r : zoe H p T i acc H2) (s3 : zak H2 H3) (hv : T i (ers p H3) v) :
   H3 p = some (.lst acc) /\ zoe H p T (i + 1) (acc ++ [v]) (upd H3 p (.lst (acc ++ [v]))) := by
 obtain ⟨s2, e2, rfl, ht⟩ := r
 refine ⟨s3 _ _ e2, (s2.trans s3).upd hp, zab, by simp, λ j u hu => ?_⟩
 rw [ersU]
 by_cases hj : j < acc.length
 . rw [List.getElem?_append_left hj] at hu
   exact tm _ _ _ _ (zak.ers s3) (ht j u hu)
 . have : j = acc.length := by
     have := (List.getElem?_eq_some_iff.mp hu).1
     simp at this
     omega
   subst this
   rw [List.getElem?_append_right (Nat.le_refl _)] at hu
   simp at hu
   rw [<- hu]
   exact hv
theorem zi2 {K : W.Frag} {a : Addr} {xs : List V} {p : Addr} (T : Nat -> Hp -> V -> Prop) (tm : ∀ i v H H', zak H H' -> T i H v -> T i H' v) (hn : xs.length <= 1000000) (hS : SqL K H a xs) (hp : H p = none)
   (hs : ∀ i x H2 (R : VK), xs[i]? = some x -> zak H H2 -> (∃ acc, H2 p = some (.lst acc)) -> (∀ v H3, zak H2 H3 -> T i (ers p H3) v -> R v H3) -> g x (cap js σ) H2 λ σ2 H3 => tif σ2 H3 λ c H4 => if c = true then te σ2 H4 R else False)
   (hd : ∀ H2 vs, zak H H2 -> H2 p = some (.lst vs) -> vs.length = xs.length -> (∀ (i : Nat) v, vs[i]? = some v -> T i (ers p H2) v) -> Q (.ref p) H2) (mono : ∀ x H2 (M M' : St -> Hp -> Prop), (∀ σ' H', M σ' H' -> M' σ' H') -> g x (cap js σ) H2 M -> g x (cap js σ) H2 M' := by intro _ _ _ _ h z; exact h _ _ z) (mon2 : ∀ σ2 H2 (M M' : Bool -> Hp -> Prop), (∀ c H', M c H' -> M' c H') -> tif σ2 H2 M -> tif σ2 H2 M' := by intro _ _ _ _ h z; exact h _ _ z) :
   zpb (Itl K a) g tif te js σ Q p H := by
 refine ziv hn (zoe H p T) ⟨zak.new hp, zab, rfl, λ j v h => by simp at h⟩ ?_ ?_ ?_
 . rintro i acc H2 hi ⟨s2, e2, l2, _⟩
   exact ⟨e2, by omega, s2.seq hS⟩
 . rintro i x acc H2 hx r
   refine mono _ _ _ _ (λ σ' H' z => ?_) (hs i x H2 _ hx r.1 ⟨acc, r.2.1⟩ λ v H3 s3 t3 => zn2 tm hp r s3 t3)
   refine mon2 _ _ _ _ (λ c H'' zz => ?_) z
   cases c with
   | true => exact zz
   | false => exact zz.elim
 . rintro acc H2 ⟨s2, e2, l2, t2⟩
   exact hd H2 acc s2 e2 l2 t2
theorem zmv {lo : Int} {n : Nat} {p : Addr} (T : Nat -> Hp -> V -> Prop) (tm : ∀ i v H H', zak H H' -> T i H v -> T i H' v) (hn : n <= 1000000) (hp : H p = none)
   (hs : ∀ i H2 (R : VK), i < n -> zak H H2 -> (∃ acc, H2 p = some (.lst acc)) -> (∀ v H3, zak H2 H3 -> T i (ers p H3) v -> R v H3) -> g (.int (lo + i)) (cap js σ) H2 λ σ2 H3 => tif σ2 H3 λ c H4 => if c = true then te σ2 H4 R else False)
   (hd : ∀ H2 vs, zak H H2 -> H2 p = some (.lst vs) -> vs.length = n -> (∀ (i : Nat) v, vs[i]? = some v -> T i (ers p H2) v) -> Q (.ref p) H2) (mono : ∀ x H2 (M M' : St -> Hp -> Prop), (∀ σ' H', M σ' H' -> M' σ' H') -> g x (cap js σ) H2 M -> g x (cap js σ) H2 M' := by intro _ _ _ _ h z; exact h _ _ z) (mon2 : ∀ σ2 H2 (M M' : Bool -> Hp -> Prop), (∀ c H', M c H' -> M' c H') -> tif σ2 H2 M -> tif σ2 H2 M' := by intro _ _ _ _ h z; exact h _ _ z) :
   zpb (Itr lo n) g tif te js σ Q p H := by
 refine zpo hn (zoe H p T) ⟨zak.new hp, zab, rfl, λ j v h => by simp at h⟩ ?_ ?_ ?_
 . rintro i acc H2 hi ⟨s2, e2, l2, _⟩
   exact ⟨e2, by omega⟩
 . rintro i acc H2 hx r
   refine mono _ _ _ _ (λ σ' H' z => ?_) (hs i H2 _ hx r.1 ⟨acc, r.2.1⟩ λ v H3 s3 t3 => zn2 tm hp r s3 t3)
   refine mon2 _ _ _ _ (λ c H'' zz => ?_) z
   cases c with
   | true => exact zz
   | false => exact zz.elim
 . rintro acc H2 ⟨s2, e2, l2, t2⟩
   exact hd H2 acc s2 e2 l2 t2
end
end L2
namespace Wk
open PySem L2 Gx Fl
structure Wr where
 (a dx st sd ct fl : Addr)
structure Fm where
 (a dx nd : Addr)
 fn : Str
 row : Nat
 kvs : List (Key × V)
def wF (w : Wr) (oc : V) (rc : Int) : List (Str × V) := [("flows", .ref w.fl), ("stack", .ref w.st), ("outcome", oc), ("sendings", .ref w.sd), ("contents", .ref w.ct), ("records", .int rc)]
def fF (f : Fm) : List (Str × V) := [("function", .str f.fn), ("row", .int f.row), ("named", .ref f.nd)]
structure FrAt (cF : Addr) (H : Hp) (f : Fm) : Prop where
 o : H f.a = some (.ins cF f.dx (fF f))
 n : H f.nd = some (.dK f.kvs)
structure WAt (cW cF : Addr) (Hb H : Hp) (w : Wr) (fs : List Fm) (oc : V) (sent : List V) (co : HO) (rc : Int) : Prop where
 b : zak Hb H
 o : H w.a = some (.ins cW w.dx (wF w oc rc))
 st : H w.st = some (.lst (fs.map λ f => V.ref f.a))
 sd : H w.sd = some (.lst sent)
 ct : H w.ct = some co
 fr : ∀ f ∈ fs, FrAt cF H f
 na : (fs.map (·.a)).Nodup
 nn : (fs.map (·.nd)).Nodup
 ne : w.st ≠ w.sd
 nc : ∀ f ∈ fs, f.nd ≠ w.ct
 cs : w.ct ≠ w.st /\ w.ct ≠ w.sd /\ w.ct ≠ w.a
 nf : ∀ f ∈ fs, f.a ≠ w.a /\ f.a ≠ w.ct
 fa : Hb w.a = none
 fst : Hb w.st = none
 fsd : Hb w.sd = none
 fct : Hb w.ct = none
 ff : ∀ f ∈ fs, Hb f.a = none /\ Hb f.nd = none
section
variable {cW cF : Addr} {Hb H H2 : Hp} {w : Wr} {fs : List Fm} {oc : V} {sent : List V} {co : HO} {rc : Int}
def gr (Hb H H2 : Hp) : Hp := λ b => match H b with
 | some _ => Hb b
 | none => H2 b
theorem zb3 (hb : zak Hb H) : zak Hb (gr Hb H H2) := λ b o h => by
 unfold gr
 rw [hb _ _ h]
 exact h
theorem zy9 (hb : zak Hb H) (s : zak H H2) : zak (gr Hb H H2) H2 := λ b o h => by
 unfold gr at h
 cases e : H b with
 | none => rw [e] at h; exact h
 | some v => rw [e] at h; exact s _ _ (hb _ _ h)
theorem zo5 {b : Addr} {o : HO} (h : H b = none) (h2 : H2 b = some o) : gr Hb H H2 b = some o := by
 unfold gr
 rw [h]
 exact h2
theorem zkd {b : Addr} {o : HO} (h : H b = some o) (hb : Hb b = none) : gr Hb H H2 b = none := by
 unfold gr
 rw [h]
 exact hb
theorem WAt.grow (h : WAt cW cF Hb H w fs oc sent co rc) (s : zak H H2) : WAt cW cF (gr Hb H H2) H2 w fs oc sent co rc :=
 ⟨zy9 h.b s, s _ _ h.o, s _ _ h.st, s _ _ h.sd, s _ _ h.ct, λ f hf => ⟨s _ _ (h.fr f hf).o, s _ _ (h.fr f hf).n⟩, h.na, h.nn, h.ne, h.nc, h.cs, h.nf, zkd h.o h.fa, zkd h.st h.fst, zkd h.sd h.fsd, zkd h.ct h.fct, λ f hf => ⟨zkd (h.fr f hf).o (h.ff f hf).1, zkd (h.fr f hf).n (h.ff f hf).2⟩⟩
theorem WAt.put {x : Addr} {o o' : HO} (h : WAt cW cF Hb H w fs oc sent co rc) (hx : Hb x = some o) : WAt cW cF (upd Hb x o') (upd H x o') w fs oc sent co rc := by
 have k : ∀ {b : Addr}, Hb b = none -> b ≠ x := λ hb z => by rw [z, hx] at hb; cases hb
 refine ⟨λ b u q => ?_, by rw [zaf (k h.fa)]; exact h.o, by rw [zaf (k h.fst)]; exact h.st, by rw [zaf (k h.fsd)]; exact h.sd, by rw [zaf (k h.fct)]; exact h.ct, λ f hf => ⟨by rw [zaf (k (h.ff f hf).1)]; exact (h.fr f hf).o, by rw [zaf (k (h.ff f hf).2)]; exact (h.fr f hf).n⟩,
   h.na, h.nn, h.ne, h.nc, h.cs, h.nf, by rw [zaf (k h.fa)]; exact h.fa, by rw [zaf (k h.fst)]; exact h.fst, by rw [zaf (k h.fsd)]; exact h.fsd, by rw [zaf (k h.fct)]; exact h.fct, λ f hf => ⟨by rw [zaf (k (h.ff f hf).1)]; exact (h.ff f hf).1, by rw [zaf (k (h.ff f hf).2)]; exact (h.ff f hf).2⟩⟩
 by_cases z : b = x
 . subst z; rw [zab] at q ⊢; exact q
 . rw [zaf z] at q ⊢; exact h.b _ _ q
theorem za8 {a b : Addr} {x y : HO} (h1 : H a = some x) (h2 : H b = some y) (h : x ≠ y) : a ≠ b := λ z => by
 rw [z, h2] at h1
 exact h (Option.some.inj h1).symm
theorem WAt.send {v : V} (h : WAt cW cF Hb H w fs oc sent co rc) : WAt cW cF Hb (upd H w.sd (.lst (sent ++ [v]))) w fs oc (sent ++ [v]) co rc :=
 ⟨h.b.upd h.fsd, by rw [zaf (za8 h.o h.sd (by intro z; cases z))]; exact h.o, by rw [zaf h.ne]; exact h.st, zab, by rw [zaf h.cs.2.1]; exact h.ct, λ f hf => ⟨by rw [zaf (za8 (h.fr f hf).o h.sd (by intro z; cases z))]; exact (h.fr f hf).o, by rw [zaf (za8 (h.fr f hf).n h.sd (by intro z; cases z))]; exact (h.fr f hf).n⟩, h.na, h.nn, h.ne, h.nc, h.cs, h.nf, h.fa, h.fst, h.fsd, h.fct, h.ff⟩
theorem WAt.out {v : V} (h : WAt cW cF Hb H w fs oc sent co rc) : WAt cW cF Hb (upd H w.a (.ins cW w.dx (wF w v rc))) w fs v sent co rc :=
 ⟨h.b.upd h.fa, zab, by rw [zaf (za8 h.st h.o (by intro z; cases z))]; exact h.st, by rw [zaf (za8 h.sd h.o (by intro z; cases z))]; exact h.sd, by rw [zaf h.cs.2.2]; exact h.ct, λ f hf => ⟨by rw [zaf (h.nf f hf).1]; exact (h.fr f hf).o, by rw [zaf (za8 (h.fr f hf).n h.o (by intro z; cases z))]; exact (h.fr f hf).n⟩, h.na, h.nn, h.ne, h.nc, h.cs, h.nf, h.fa, h.fst, h.fsd, h.fct, h.ff⟩
theorem WAt.pop {f : Fm} (h : WAt cW cF Hb H w (fs ++ [f]) oc sent co rc) : WAt cW cF Hb (upd H w.st (.lst (fs.map λ f => V.ref f.a))) w fs oc sent co rc := by
 have sub : ∀ g ∈ fs, g ∈ fs ++ [f] := λ g hg => List.mem_append_left _ hg
 refine ⟨h.b.upd h.fst, by rw [zaf (za8 h.o h.st (by intro z; cases z))]; exact h.o, zab, by rw [zaf h.ne.symm]; exact h.sd, by rw [zaf h.cs.1]; exact h.ct, λ g hg => ⟨by rw [zaf (za8 (h.fr g (sub g hg)).o h.st (by intro z; cases z))]; exact (h.fr g (sub g hg)).o, by rw [zaf (za8 (h.fr g (sub g hg)).n h.st (by intro z; cases z))]; exact (h.fr g (sub g hg)).n⟩,
   ?_, ?_, h.ne, λ g hg => h.nc g (sub g hg), h.cs, λ g hg => h.nf g (sub g hg), h.fa, h.fst, h.fsd, h.fct, λ g hg => h.ff g (sub g hg)⟩
 . have := h.na; rw [List.map_append] at this; exact (List.nodup_append.mp this).1
 . have := h.nn; rw [List.map_append] at this; exact (List.nodup_append.mp this).1
theorem WAt.goto {f : Fm} {r : Nat} (h : WAt cW cF Hb H w (fs ++ [f]) oc sent co rc) : WAt cW cF Hb (upd H f.a (.ins cF f.dx (fF { f with row := r }))) w (fs ++ [{ f with row := r }]) oc sent co rc := by
 have hf : f ∈ fs ++ [f] := List.mem_append_right _ (List.mem_singleton.mpr rfl)
 have sub : ∀ g ∈ fs, g ∈ fs ++ [f] := λ g hg => List.mem_append_left _ hg
 have of := (h.fr f hf).o
 have na := h.na
 rw [List.map_append] at na
 have apart : ∀ g ∈ fs, g.a ≠ f.a := λ g hg z => (List.nodup_append.mp na).2.2 _ (List.mem_map.mpr ⟨g, hg, rfl⟩) _ (List.mem_singleton.mpr rfl) z
 have fall : ∀ {P : Fm -> Prop}, (∀ g ∈ fs, P g) -> P { f with row := r } -> ∀ g ∈ fs ++ [{ f with row := r }], P g := λ h1 h2 g hg => by
   rcases List.mem_append.mp hg with hg | hg
   . exact h1 g hg
   . rw [List.mem_singleton.mp hg]; exact h2
 refine ⟨h.b.upd (h.ff f hf).1, by rw [zaf (h.nf f hf).1.symm]; exact h.o, ?_, by rw [zaf (za8 h.sd of (by intro z; cases z))]; exact h.sd, by rw [zaf (h.nf f hf).2.symm]; exact h.ct,
   fall (λ g hg => ⟨by rw [zaf (apart g hg)]; exact (h.fr g (sub g hg)).o, by rw [zaf (za8 (h.fr g (sub g hg)).n of (by intro z; cases z))]; exact (h.fr g (sub g hg)).n⟩) ⟨zab, ?_⟩, ?_, ?_, h.ne, fall (λ g hg => h.nc g (sub g hg)) (h.nc f hf), h.cs, fall (λ g hg => h.nf g (sub g hg)) (h.nf f hf), h.fa, h.fst, h.fsd, h.fct, fall (λ g hg => h.ff g (sub g hg)) (h.ff f hf)⟩
 . rw [zaf (za8 h.st of (by intro z; cases z)), h.st, List.map_append, List.map_append]; rfl
 . show upd H f.a _ f.nd = some (.dK f.kvs)
   rw [zaf (za8 (h.fr f hf).n of (by intro z; cases z))]; exact (h.fr f hf).n
 . have := h.na; rw [List.map_append] at this ⊢; exact this
 . have := h.nn; rw [List.map_append] at this ⊢; exact this
theorem WAt.name {f : Fm} {ks : List (Key × V)} (h : WAt cW cF Hb H w (fs ++ [f]) oc sent co rc) : WAt cW cF Hb (upd H f.nd (.dK ks)) w (fs ++ [{ f with kvs := ks }]) oc sent co rc := by
 have hf : f ∈ fs ++ [f] := List.mem_append_right _ (List.mem_singleton.mpr rfl)
 have sub : ∀ g ∈ fs, g ∈ fs ++ [f] := λ g hg => List.mem_append_left _ hg
 have nf := (h.fr f hf).n
 have nn := h.nn
 rw [List.map_append] at nn
 have apart : ∀ g ∈ fs, g.nd ≠ f.nd := λ g hg z => (List.nodup_append.mp nn).2.2 _ (List.mem_map.mpr ⟨g, hg, rfl⟩) _ (List.mem_singleton.mpr rfl) z
 have fall : ∀ {P : Fm -> Prop}, (∀ g ∈ fs, P g) -> P { f with kvs := ks } -> ∀ g ∈ fs ++ [{ f with kvs := ks }], P g := λ h1 h2 g hg => by
   rcases List.mem_append.mp hg with hg | hg
   . exact h1 g hg
   . rw [List.mem_singleton.mp hg]; exact h2
 refine ⟨h.b.upd (h.ff f hf).2, by rw [zaf (za8 h.o nf (by intro z; cases z))]; exact h.o, ?_, by rw [zaf (za8 h.sd nf (by intro z; cases z))]; exact h.sd, by rw [zaf (h.nc f hf).symm]; exact h.ct,
   fall (λ g hg => ⟨by rw [zaf (za8 (h.fr g (sub g hg)).o nf (by intro z; cases z))]; exact (h.fr g (sub g hg)).o, by rw [zaf (apart g hg)]; exact (h.fr g (sub g hg)).n⟩) ⟨?_, zab⟩, ?_, ?_, h.ne, fall (λ g hg => h.nc g (sub g hg)) (h.nc f hf), h.cs, fall (λ g hg => h.nf g (sub g hg)) (h.nf f hf), h.fa, h.fst, h.fsd, h.fct, fall (λ g hg => h.ff g (sub g hg)) (h.ff f hf)⟩
 . rw [zaf (za8 h.st nf (by intro z; cases z)), h.st, List.map_append, List.map_append]; rfl
 . show upd H f.nd _ f.a = some (.ins cF f.dx (fF f))
   rw [zaf (za8 (h.fr f hf).o nf (by intro z; cases z))]; exact (h.fr f hf).o
 . have := h.na; rw [List.map_append] at this ⊢; exact this
 . have := h.nn; rw [List.map_append] at this ⊢; exact this
theorem WAt.push {f : Fm} (h : WAt cW cF Hb H w fs oc sent co rc) (s : zak H H2) (ha : H f.a = none) (hn : H f.nd = none) (hF : FrAt cF H2 f) :
   WAt cW cF (ers f.a (ers f.nd (gr Hb H H2))) (upd H2 w.st (.lst ((fs ++ [f]).map λ f => V.ref f.a))) w (fs ++ [f]) oc sent co rc /\ zak Hb (ers f.a (ers f.nd (gr Hb H H2))) := by
 have h2 := h.grow s
 have old : ∀ {b : Addr} {o : HO}, H b = some o -> b ≠ f.a /\ b ≠ f.nd := λ hb => ⟨(λ z => by rw [z, ha] at hb; cases hb), (λ z => by rw [z, hn] at hb; cases hb)⟩
 have er : ∀ {b : Addr}, gr Hb H H2 b = none -> ers f.a (ers f.nd (gr Hb H H2)) b = none := λ {b} hb => by
   unfold L2.ers
   split
   . rfl
   . split
     . rfl
     . exact hb
 have fall : ∀ {P : Fm -> Prop}, (∀ g ∈ fs, P g) -> P f -> ∀ g ∈ fs ++ [f], P g := λ h1 h2 g hg => by
   rcases List.mem_append.mp hg with hg | hg
   . exact h1 g hg
   . rw [List.mem_singleton.mp hg]; exact h2
 have hb2 : zak (ers f.a (ers f.nd (gr Hb H H2))) H2 := λ b o hb => by
   unfold L2.ers at hb
   split at hb
   . cases hb
   . split at hb
     . cases hb
     . exact h2.b _ _ hb
 refine ⟨⟨hb2.upd (er h2.fst), by rw [zaf (za8 h2.o h2.st (by intro z; cases z))]; exact h2.o, zab, by rw [zaf h.ne.symm]; exact h2.sd, by rw [zaf h.cs.1]; exact h2.ct, ?_, ?_, ?_, h.ne, fall h.nc (old h.ct).2.symm, h.cs, fall h.nf ⟨(old h.o).1.symm, (old h.ct).1.symm⟩, er h2.fa, er h2.fst, er h2.fsd, er h2.fct, ?_⟩, λ b o hb => ?_⟩
 . refine fall (λ g hg => ⟨by rw [zaf (za8 (h2.fr g hg).o h2.st (by intro z; cases z))]; exact (h2.fr g hg).o, by rw [zaf (za8 (h2.fr g hg).n h2.st (by intro z; cases z))]; exact (h2.fr g hg).n⟩) ⟨by rw [zaf (za8 hF.o h2.st (by intro z; cases z))]; exact hF.o, by rw [zaf (za8 hF.n h2.st (by intro z; cases z))]; exact hF.n⟩
 . rw [List.map_append, List.nodup_append]
   refine ⟨h.na, (by simp), λ a ha' b hb z => ?_⟩
   obtain ⟨g, hg, rfl⟩ := List.mem_map.mp ha'
   rw [List.mem_singleton.mp hb] at z
   exact (old (h.fr g hg).o).1 z
 . rw [List.map_append, List.nodup_append]
   refine ⟨h.nn, (by simp), λ a ha' b hb z => ?_⟩
   obtain ⟨g, hg, rfl⟩ := List.mem_map.mp ha'
   rw [List.mem_singleton.mp hb] at z
   exact (old (h.fr g hg).n).2 z
 . refine fall (λ g hg => ⟨er (h2.ff g hg).1, er (h2.ff g hg).2⟩) ⟨?_, ?_⟩
   . unfold L2.ers; rw [if_pos rfl]
   . unfold L2.ers
     split
     . rfl
     . rw [if_pos rfl]
 . have o' := h.b _ _ hb
   have n1 := old o'
   rw [zec n1.1, zec n1.2]
   exact zb3 h.b _ _ hb
def NI (H H' : Hp) : Prop := ∀ b o, H b = some o -> (∀ C dx fs, o ≠ .ins C dx fs) -> H' b = some o
theorem NI.tup {K : W.Frag} {a : Addr} {xs : List V} {H' : Hp} (e : NI H H') (h : SqT K H a xs) : SqT K H' a xs := by
 rcases h with h | h
 . refine .inl ?_
   rcases h with h | h
   . exact .inl (e _ _ h (λ _ _ _ z => by cases z))
   . exact .inr (by
       obtain h := h
       first
         | exact e _ _ h (λ _ _ _ z => by cases z)
         | (obtain ⟨n, h⟩ := h; exact ⟨n, e _ _ h (λ _ _ _ z => by cases z)⟩))
 . exact .inr h
theorem zv5 {K : W.Frag} {H' : Hp} {xs as : List V} {g : Option Str} (e : NI H H') (h : K12.RowS K H xs g as) : K12.RowS K H' xs g as := by
 cases h <;> first | (constructor; done) | (constructor; exact e.tup (by assumption))
theorem zu6 {K : W.Frag} {H' : Hp} {f : F2.Fd} (h : F2.FnAt K H f) (e : NI H H') : F2.FnAt K H' f :=
 ⟨e.tup h.fn, e.tup h.pr, e.tup h.rw_, λ w hw => let ⟨rest, h1, h2⟩ := h.rk w hw; ⟨rest, e.tup h1, h2⟩,
   ⟨let ⟨n, b, p, r, h1, h2, h3⟩ := h.fu.fn; ⟨n, b, p, r, e.tup h1, e.tup h2, e.tup h3⟩, λ d hd => let z := h.fu.rows d hd; ⟨let ⟨xs, h1, h2⟩ := z.row; ⟨xs, e.tup h1, zv5 e h2⟩, z.ats, z.len, z.nm⟩, h.fu.pn, h.fu.pl, h.fu.dl⟩, h.wf, h.len⟩
theorem zt0 {K : W.Frag} {C x : Addr} {H' : Hp} {fns : List F2.Fd} (h : F2.FlowsAt K C H x fns) (e : NI H H') (ex : ∀ o, H x = some o -> H' x = some o) : F2.FlowsAt K C H' x fns := by
 obtain ⟨dx, fz, d, kv, nl, wl, h0, h1, h2, h3, h4, h5, h6, h7, h8⟩ := h.ob
 refine ⟨λ f hf => zu6 (h.all f hf) e, h.nd, ⟨dx, fz, d, kv, nl, wl, h0, ⟨ex _ h1.ob, λ j hj => e _ _ (h1.dc j hj) (λ _ _ _ z => by cases z)⟩, h2, h3, h4, h5, h6, h7, λ i f hi => ⟨e _ _ (h8 i f hi).1 (λ _ _ _ z => by cases z), ?_⟩⟩⟩
 obtain ⟨vs, e1, e2, e3⟩ := (h8 i f hi).2
 refine ⟨vs, e _ _ e1 (λ _ _ _ z => by cases z), e2, λ k v q => ?_⟩
 obtain ⟨o, due, vo⟩ := e3 k v q
 refine ⟨o, due, ?_⟩
 cases o with
 | none => exact vo
 | some l => obtain ⟨p, z1, z2⟩ := vo; exact ⟨p, z1, e _ _ z2 (λ _ _ _ z => by cases z)⟩
end
end Wk
namespace Wk
open PySem L2 Gx Fl
def av (kvs : List (Key × V)) : V -> Option V
 | .str s => zc2 kvs (Sum.inr s)
 | .int i => some (.int i)
 | _ => none
inductive RV where
 | out (a : V) | copy (x : Str) (a : V) | op (x s : Str) (a b : V) | back (a : V)
def RV.items : RV -> List V
 | .out a => [.str "out", a]
 | .copy x a => [.str "copy", .str x, a]
 | .op x s a b => [.str "op", .str x, .str s, a, b]
 | .back a => [.str "back", a]
def RV.gives (kvs : List (Key × V)) : RV -> Option (Str × V)
 | .copy x a => (av kvs a).map λ v => (x, v)
 | .op x s a b => match av kvs a, av kvs b with
   | some (.int i), some (.int j) => if 0 <= i /\ 0 <= j /\ i < K21.wide /\ j < K21.wide then some (x, .int (K21.valOf s i j)) else none
   | _, _ => none
 | _ => none
theorem zku {kvs : List (Key × V)} {y s x : Str} {a b v : V} (h : (RV.op y s a b).gives kvs = some (x, v)) : x = y /\ ∃ i j, av kvs a = some (.int i) /\ av kvs b = some (.int j) /\ (0 <= i /\ 0 <= j /\ i < K21.wide /\ j < K21.wide) /\ v = .int (K21.valOf s i j) := by
 dsimp only [RV.gives] at h
 split at h
 . rename_i i j ea eb
   split at h
   . rename_i hb
     cases h
     exact ⟨rfl, i, j, ea, eb, hb, rfl⟩
   . cases h
 . cases h
theorem zhu {kvs : List (Key × V)} {y x : Str} {a v : V} (h : (RV.copy y a).gives kvs = some (x, v)) : x = y /\ av kvs a = some v := by
 have h : (av kvs a).map (λ v => (y, v)) = some (x, v) := h
 rw [Option.map_eq_some_iff] at h
 obtain ⟨u, hu, hz⟩ := h
 cases hz
 exact ⟨rfl, hu⟩
theorem zj3 {kvs : List (Key × V)} {rv : RV} {x : Str} {v : V} (h : rv.gives kvs = some (x, v)) : rv.items[1]? = some (.str x) := by
 cases rv with
 | out a => cases h
 | back a => cases h
 | copy y a => rw [(zhu h).1]; rfl
 | op y s a b => rw [(zku h).1]; rfl
def Way (F : F2.Fd) (k j r : Nat) : Prop := ∃ l, K13.Due (F2.kds F) k (some l) /\ l[j]? = some r
section
variable {K : W.Frag} {C x : Addr} {H : Hp} {fns : List F2.Fd} {F : F2.Fd}
def zt3 (C : Addr) (H : Hp) (x : Addr) (fld : Str) (n : Str) (v : V) : Prop := ∃ dx fs d kvs, H x = some (.ins C dx fs) /\ fs.lookup fld = some (.ref d) /\ H d = some (.dK kvs) /\ zc2 kvs (Sum.inr n : Key) = some v
theorem zgy {H : Hp} {d : Addr} {kvs : List (Key × V)} {n : Str} {v : V} (h : H d = some (.dK kvs)) (hv : zc2 kvs (Sum.inr n : Key) = some v) : zj9 H d (.str n) (some v) := by
 have := zj9.k (k := (Sum.inr n : Key)) h
 rw [hv] at this
 exact this
theorem zvl (h : F2.FlowsAt K C H x fns) (hF : F ∈ fns) : zt3 C H x "rows_of" F.name (.ref F.ra) := by
 obtain ⟨i, hi⟩ := List.getElem?_of_mem hF
 obtain ⟨dx, fz, d, kv, nl, wl, h0, hO, h2, h3, h4, h5, h6, h7, h8⟩ := h.ob
 have hd := hO.dc 3 (by decide)
 rw [h5] at hd
 exact ⟨dx, _, _, _, hO.ob, zra _ _, hd, F2.kD_at _ h.nd hi⟩
theorem zr9 (h : F2.FlowsAt K C H x fns) (hF : F ∈ fns) : zt3 C H x "params_of" F.name (.ref F.pa) := by
 obtain ⟨i, hi⟩ := List.getElem?_of_mem hF
 obtain ⟨dx, fz, d, kv, nl, wl, h0, hO, h2, h3, h4, h5, h6, h7, h8⟩ := h.ob
 have hd := hO.dc 2 (by decide)
 rw [h4] at hd
 exact ⟨dx, _, _, _, hO.ob, zmb _ _, hd, F2.kD_at _ h.nd hi⟩
theorem zor (h : F2.FlowsAt K C H x fns) (hF : F ∈ fns) : ∃ nl, zt3 C H x "names_in" F.name (.ref nl) /\ H nl = some (.lst ((F2.nms F).map V.str)) := by
 obtain ⟨i, hi⟩ := List.getElem?_of_mem hF
 obtain ⟨dx, fz, d, kv, nl, wl, h0, hO, h2, h3, h4, h5, h6, h7, h8⟩ := h.ob
 have hd := hO.dc 4 (by decide)
 rw [h6] at hd
 exact ⟨nl i, ⟨dx, _, _, _, hO.ob, zny _ _, hd, F2.kD_at _ h.nd hi⟩, (h8 i F hi).1⟩
theorem zv9 (h : F2.FlowsAt K C H x fns) (hF : F ∈ fns) {k j r : Nat} (hk : k < F.rs.length) (hw : Way F k j r) : ∃ wl tp vs l, zt3 C H x "ways_in" F.name (.ref wl) /\ H wl = some (.lst vs) /\ vs[k]? = some (.ref tp) /\ H tp = some (.tup (K13.natsV l)) /\ l[j]? = some r := by
 obtain ⟨i, hi⟩ := List.getElem?_of_mem hF
 obtain ⟨dx, fz, d, kv, nl, wl, h0, hO, h2, h3, h4, h5, h6, h7, h8⟩ := h.ob
 have hd := hO.dc 5 (by decide)
 rw [h7] at hd
 obtain ⟨vs, e1, e2, e3⟩ := (h8 i F hi).2
 have hl : (F2.kds F).length = F.rs.length := by unfold F2.kds; rw [List.length_map]
 have ev : vs[k]? = some vs[k] := List.getElem?_eq_getElem (by omega)
 obtain ⟨o, due, vo⟩ := e3 k _ ev
 obtain ⟨l, dl, hl'⟩ := hw
 rw [K13.Due.uniq due dl] at vo
 obtain ⟨p, ep, hp⟩ := vo
 exact ⟨wl i, p, vs, l, ⟨dx, _, _, _, hO.ob, zqa _ _, hd, F2.kD_at _ h.nd hi⟩, e1, by rw [ev, ep], hp, hl'⟩
theorem zv6 (h : F2.FlowsAt K C H x fns) : ∃ dx fs fz, H x = some (.ins C dx fs) /\ fns[fns.length - 1]? = some fz /\ fs.lookup ("last" : Str) = some (.str fz.name) := by
 obtain ⟨dx, fz, d, kv, nl, wl, h0, hO, _⟩ := h.ob
 exact ⟨dx, _, fz, hO.ob, h0, zuz _ _⟩
end
theorem zoy {K : W.Frag} {H : Hp} : ∀ {vs : List V} {ns : List Str}, vs.length = ns.length -> (∀ (i : Nat) v, vs[i]? = some v -> ∃ y tp, ns[i]? = some y /\ v = .ref tp /\ H tp = some (.tup [.str y, .int 0])) -> ∃ ps : List Addr, vs = ps.map V.ref /\ Paired (λ a (kv : Key × V) => SqT K H a [kV kv.1, kv.2]) ps (ns.map λ n => ((Sum.inr n : Key), V.int 0))
 | [], [], _, _ => ⟨[], rfl, .nil⟩
 | v :: vs, n :: ns, hl, h => by
   obtain ⟨y, tp, h1, h2, h3⟩ := h 0 v rfl
   obtain ⟨ps, e, p⟩ := zoy (vs := vs) (ns := ns) (by simpa using hl) (λ i u hu => by
     obtain ⟨y, tp, q⟩ := h (i + 1) u (by simpa using hu)
     exact ⟨y, tp, by simpa using q⟩)
   have : n = y := by simpa using h1
   subst this
   exact ⟨tp :: ps, by rw [h2, e]; rfl, .cons (SqT.of h3) p⟩
 | [], _ :: _, hl, _ => by simp at hl
 | _ :: _, [], hl, _ => by simp at hl
theorem zu8 (kvs : List (Key × V)) (k : Key) (v : V) : (zbu kvs k v).length <= kvs.length + 1 := by
 induction kvs with
 | nil => simp [zbu]
 | cons p r ih =>
   unfold zbu
   split <;> simp <;> omega
theorem zes {α : Type} (g : α -> Key × V) : ∀ (l : List α) (d : List (Key × V)), (l.foldl (λ d p => zbu d (g p).1 (g p).2) d).length <= d.length + l.length
 | [], d => by simp
 | p :: l, d => by
   rw [List.foldl_cons, List.length_cons]
   have h1 := zes g l (zbu d (g p).1 (g p).2)
   have h2 := zu8 d (g p).1 (g p).2
   omega
end Wk
namespace K14
open PySem PySem.NumText L2 K11
theorem str_ext {a b : Str} (h : a.cps.toList = b.cps.toList) : a = b := by
 cases a
 cases b
 have := Array.toList_inj.mp h
 simp only at this
 rw [this]
theorem zx5 {ws : List Str} {n : Nat} (h : ∀ w ∈ ws, w.length <= n) : (ws.map (·.length)).sum <= ws.length * n := by
 induction ws with
 | nil => simp
 | cons w r ih =>
   have h1 := h w (by simp)
   have h2 := ih λ z hz => h z (List.mem_cons_of_mem _ hz)
   simp only [List.map_cons, List.sum_cons, List.length_cons]
   rw [Nat.succ_mul]
   omega
end K14
namespace K14
open PySem PyProof.Rows L2 K11 Gx
theorem let_at {z : Int} (h0 : 0 <= z) (h1 : z < 26) : atI ("abcdefghijklmnopqrstuvwxyz" : Str).cps.toList z = some (97 + z.toNat) := by
 obtain ⟨n, rfl⟩ := Int.eq_ofNat_of_zero_le h0
 have g : ∀ n < 26, ("abcdefghijklmnopqrstuvwxyz" : Str).cps.toList[n]? = some (97 + n) := by decide +kernel
 exact zen (g n (by omega))
theorem zov : ∀ l : List Nat, (l.map λ c => [c]).flatten = l
 | [] => rfl
 | x :: l => by rw [List.map_cons, List.flatten_cons, zov l]; rfl
theorem one_fit {cs : List Nat} (h : cs.length <= 8) : ((cs.map λ c => tx [c]).map (·.length)).sum + (cs.map λ c => tx [c]).length * ("" : Str).length <= 16777216 := by
 have h2 := zx5 (ws := cs.map λ c => tx [c]) (n := 1) λ w hw => by
   obtain ⟨c, _, rfl⟩ := List.mem_map.mp hw
   rw [zhh]
   exact Nat.le_refl _
 have e : ("" : Str).length = 0 := by decide +kernel
 rw [e]
 rw [List.length_map] at h2 ⊢
 omega
theorem one_join (cs : List Nat) : PySem.Txt.join "" (cs.map λ c => tx [c]) = tx cs := by
 have := zqs (cs.map λ c => [c])
 rw [zov, List.map_map] at this
 exact this
end K14
namespace K15
open PySem PySem.NumText L2 K11 K14 Gx
theorem znt (i j n : Nat) : Builtin.Str.strSliceIndices (some (i : Int)) (some (j : Int)) 1 n = Builtin.Str.strSliceIndices (some ((min i n : Nat) : Int)) (some ((min j n : Nat) : Int)) 1 n := by
 unfold Builtin.Str.strSliceIndices
 simp only [show (1 : Int) > 0 by decide, if_true]
 have h : ∀ k : Nat, (if (k : Int) < 0 then (k : Int) + (n : Int) else (k : Int)) = (k : Int) := λ k => if_neg (by omega)
 rw [h, h, h, h]
 congr 1 <;> omega
theorem zub (l : List Nat) {i j : Nat} (h : i <= j) : Txt.slice (tx l) (some (i : Int)) (some (j : Int)) = tx ((l.take j).drop i) := by
 have e : Txt.slice (tx l) (some (i : Int)) (some (j : Int)) = Txt.slice (tx l) (some ((min i l.length : Nat) : Int)) (some ((min j l.length : Nat) : Int)) := by
   unfold Txt.slice
   rw [zhh, znt i j l.length]
 rw [e, ztj (by omega) (by omega) (by omega)]
 congr 1
 rw [Int.toNat_natCast]
 by_cases hi : i <= l.length
 . rw [Nat.min_eq_left hi]
   by_cases hj : j <= l.length
   . rw [Nat.min_eq_left hj, List.drop_take]
     congr 1
     omega
   . rw [Nat.min_eq_right (by omega), List.take_of_length_le (l := l) (by omega), List.take_of_length_le]
     rw [List.length_drop]; omega
 . rw [List.drop_eq_nil_of_le (show l.length <= min i l.length by omega), List.drop_eq_nil_of_le (by rw [List.length_take]; omega)]
   simp
theorem sl_to (l : List Nat) (j : Nat) : Txt.slice (tx l) none (some (j : Int)) = tx (l.take j) := by
 have e : Txt.slice (tx l) none (some (j : Int)) = Txt.slice (tx l) (some ((0 : Nat) : Int)) (some (j : Int)) := by
   unfold Txt.slice
   rw [StrLaws.sliceIdx_none_lo]
   rfl
 rw [e, zub l (Nat.zero_le _), List.drop_zero]
theorem sl_from (l : List Nat) (i : Nat) : Txt.slice (tx l) (some (i : Int)) none = tx (l.drop i) := by
 have e : Txt.slice (tx l) (some (i : Int)) none = Txt.slice (tx l) (some (i : Int)) (some ((max i l.length : Nat) : Int)) := by
   unfold Txt.slice
   rw [StrLaws.sliceIdx_none_hi, zhh, znt i l.length l.length, znt i (max i l.length) l.length]
   have : min (max i l.length) l.length = min l.length l.length := by omega
   rw [this]
 rw [e, zub l (by omega), List.take_of_length_le (by omega)]
end K15
namespace Wk
open PySem L2 Gx
theorem ztm {vs : List V} {m : Nat} {f : Nat -> V} (hl : vs.length = m) (h : ∀ (i : Nat) v, vs[i]? = some v -> v = f i) : vs = (List.range m).map f := by
 refine List.ext_getElem? λ i => ?_
 rw [List.getElem?_map]
 cases e : vs[i]? with
 | none =>
   have : vs.length <= i := List.getElem?_eq_none_iff.mp e
   rw [List.getElem?_eq_none (by rw [List.length_range]; omega)]
   rfl
 | some v =>
   have : i < vs.length := (List.getElem?_eq_some_iff.mp e).1
   rw [List.getElem?_range (by omega), h i v e]
   rfl
theorem zr0 : ∀ {vs : List V}, (∀ (i : Nat) v, vs[i]? = some v -> ∃ c, (97 <= c /\ c <= 122) /\ v = .str (tx [c])) -> ∃ cs : List Nat, vs = (cs.map λ c => tx [c]).map V.str /\ (∀ c ∈ cs, 97 <= c /\ c <= 122) /\ cs.length = vs.length
 | [], _ => ⟨[], rfl, (λ c h => by cases h), rfl⟩
 | v :: vs, h => by
   obtain ⟨c, hc, e⟩ := h 0 v rfl
   obtain ⟨cs, e1, h1, h2⟩ := zr0 (vs := vs) λ i u hu => h (i + 1) u (by simpa using hu)
   refine ⟨c :: cs, by rw [e, e1]; rfl, λ x hx => ?_, by simp [h2]⟩
   rcases List.mem_cons.mp hx with rfl | hx
   . exact hc
   . exact h1 x hx
def chr (q : Int) (k : Nat) : Nat := 97 + ((q + 7 * (k : Int)) % 26).toNat
theorem zw4 (q : Int) (k : Nat) : 97 <= chr q k /\ chr q k <= 122 := by
 unfold chr
 have := zdn (q + 7 * (k : Int)) 26 (by decide)
 omega
theorem zwe {q : Int} {j k : Nat} (hj : j < 8) (hk : k < 8) (h : chr q j = chr q k) : j = k := by
 unfold chr at h
 omega
def nmB (cs : List Nat) (a : Nat) (q : Int) (k : Nat) : List Nat := cs.take a ++ (chr q k :: cs.drop a)
def nmF (W : List (List Nat)) (cs : List Nat) (a : Nat) (q : Int) (k : Nat) : List Nat := if nmB cs a q k ∈ W then nmB cs a q k ++ [120] else nmB cs a q k
theorem zkr (cs : List Nat) (a : Nat) (q : Int) (k : Nat) : (nmB cs a q k).length = cs.length + 1 := by
 unfold nmB
 rw [List.length_append, List.length_cons, List.length_take, List.length_drop]
 omega
theorem zp9 {cs : List Nat} {a : Nat} {q : Int} {j k : Nat} (hj : j < 8) (hk : k < 8) (h : nmB cs a q j = nmB cs a q k) : j = k := by
 unfold nmB at h
 have h2 := List.append_cancel_left h
 exact zwe hj hk (List.cons.inj h2).1
theorem zv8 {W : List (List Nat)} {cs : List Nat} {a : Nat} {q : Int} {j k : Nat} (hj : j < 8) (hk : k < 8) (h : nmF W cs a q j = nmF W cs a q k) : j = k := by
 have l1 := zkr cs a q j
 have l2 := zkr cs a q k
 unfold nmF at h
 split at h <;> split at h
 . exact zp9 hj hk (List.append_cancel_right h)
 . have := congrArg List.length h
   rw [List.length_append] at this
   simp at this
   omega
 . have := congrArg List.length h
   rw [List.length_append] at this
   simp at this
   omega
 . exact zp9 hj hk h
theorem nodup_range {α : Type} {m : Nat} {f : Nat -> α} (h : ∀ j k, j < m -> k < m -> f j = f k -> j = k) : ((List.range m).map f).Nodup := by
 rw [List.nodup_iff_pairwise_ne, List.pairwise_map]
 refine List.Pairwise.imp_of_mem (R := λ a b => a ≠ b) (λ {a b} ha hb hab z => hab (h a b (List.mem_range.mp ha) (List.mem_range.mp hb) z)) List.nodup_range
end Wk
namespace K41
open PySem L2 Gx Fl
structure RR where
 w : Rw
 d : K12.RowD
def zyg (K : W.Frag) (H : Hp) (x : RR) : Prop := x.w.r = x.d.r /\ zwl K H x.w /\ K12.RowAt K H x.d
theorem mem1 {p : V -> Prop} {a : V} (h : p a) : ∀ v ∈ [a], p v := λ v hv => by rw [List.mem_singleton.mp hv]; exact h
def rone (k : Str) (r : Addr) (a : V) : RR := ⟨⟨r, k, ""⟩, ⟨r, 0, 0, none, [a]⟩⟩
theorem zxq {K : W.Frag} {H : Hp} {r : Addr} {a : V} (h : SqT K H r [.str "out", a]) (ha : K12.Atom a) : zyg K H (rone "out" r a) :=
 ⟨rfl, ⟨_, h, λ z => absurd z (by show ¬ (("out" : Str) = "call"); decide +kernel)⟩, ⟨⟨_, h, .out a⟩, mem1 ha, by show 1 <= 10; decide, λ x hx => by cases hx⟩⟩
theorem zvc {K : W.Frag} {H : Hp} {r : Addr} {a : V} (h : SqT K H r [.str "back", a]) (ha : K12.Atom a) : zyg K H (rone "back" r a) :=
 ⟨rfl, ⟨_, h, λ z => absurd z (by show ¬ (("back" : Str) = "call"); decide +kernel)⟩, ⟨⟨_, h, .back a⟩, mem1 ha, by show 1 <= 10; decide, λ x hx => by cases hx⟩⟩
end K41
namespace Bg
open PySem L2 Gx K41
def HasD (K : W.Frag) (H : Hp) (n : Nat) (v : V) : Prop := ∃ d, Lay n d /\ zev K H d v
def HasA (K : W.Frag) (H : Hp) (n : Nat) (xs : List V) : Prop := ∃ ds, (∀ d ∈ ds, Lay n d) /\ zb6 K H ds xs
theorem HasD.mono {K : W.Frag} {H H' : Hp} {n : Nat} {v : V} (h : HasD K H n v) (e : zak H H') : HasD K H' n v := let ⟨d, l, z⟩ := h; ⟨d, l, zev.mono e d v z⟩
theorem HasD.str {K : W.Frag} {H : Hp} {n : Nat} {s : Str} (h : PyData.strOk s = true) : HasD K H n (.str s) := ⟨.str s, Lay.str h, by unfold zev; rfl⟩
theorem HasD.int {K : W.Frag} {H : Hp} {n : Nat} {i : Int} : HasD K H n (.int i) := ⟨.int i, Lay.int i, by unfold zev; rfl⟩
theorem HasD.bl {K : W.Frag} {H : Hp} {n : Nat} {b : Bool} : HasD K H n (.bl b) := ⟨.bool b, Lay.bool b, by unfold zev; rfl⟩
theorem HasA.nil {K : W.Frag} {H : Hp} {n : Nat} : HasA K H n [] := ⟨[], λ d h => (by cases h), by unfold zb6; rfl⟩
theorem HasA.cons {K : W.Frag} {H : Hp} {n : Nat} {x : V} {xs : List V} (h : HasD K H n x) (t : HasA K H n xs) : HasA K H n (x :: xs) := by
 obtain ⟨d, l, z⟩ := h
 obtain ⟨ds, ls, zs⟩ := t
 refine ⟨d :: ds, λ e he => (List.mem_cons.mp he).elim (λ z => z ▸ l) (ls e), ?_⟩
 unfold zb6
 exact ⟨_, _, rfl, z, zs⟩
theorem HasA.of {K : W.Frag} {H : Hp} {n : Nat} : ∀ {xs : List V}, (∀ x ∈ xs, HasD K H n x) -> HasA K H n xs
 | [], _ => .nil
 | x :: xs, h => .cons (h x List.mem_cons_self) (HasA.of λ y hy => h y (List.mem_cons_of_mem _ hy))
theorem HasD.tup {K : W.Frag} {H : Hp} {n : Nat} {a : Addr} {xs : List V} (h : SqT K H a xs) (t : HasA K H n xs) : HasD K H (n + 1) (.ref a) := by
 obtain ⟨ds, ls, zs⟩ := t
 refine ⟨.tuple ds, Lay.tuple ls, ?_⟩
 unfold zev
 exact ⟨a, xs, rfl, h, zs⟩
def Twin (K : W.Frag) (H : Hp) (n : Nat) (x y : V) : Prop := ∃ d, Lay n d /\ zev K H d x /\ zev K H d y
def TwinA (K : W.Frag) (H : Hp) (n : Nat) (xs ys : List V) : Prop := ∃ ds, (∀ d ∈ ds, Lay n d) /\ zb6 K H ds xs /\ zb6 K H ds ys
theorem TwinA.nil {K : W.Frag} {H : Hp} {n : Nat} : TwinA K H n [] [] := ⟨[], λ d h => (by cases h), (by unfold zb6; rfl), (by unfold zb6; rfl)⟩
theorem TwinA.cons {K : W.Frag} {H : Hp} {n : Nat} {x y : V} {xs ys : List V} (h : Twin K H n x y) (t : TwinA K H n xs ys) : TwinA K H n (x :: xs) (y :: ys) := by
 obtain ⟨d, l, z1, z2⟩ := h
 obtain ⟨ds, ls, zs1, zs2⟩ := t
 refine ⟨d :: ds, λ e he => (List.mem_cons.mp he).elim (λ z => z ▸ l) (ls e), ?_, ?_⟩
 . unfold zb6
   exact ⟨_, _, rfl, z1, zs1⟩
 . unfold zb6
   exact ⟨_, _, rfl, z2, zs2⟩
theorem TwinA.of {K : W.Frag} {H : Hp} {n : Nat} {xs : List V} (h : HasA K H n xs) : TwinA K H n xs xs := let ⟨ds, l, z⟩ := h; ⟨ds, l, z, z⟩
theorem Twin.lst {K : W.Frag} {H : Hp} {n : Nat} {a b : Addr} {xs ys : List V} (h1 : SqL K H a xs) (h2 : SqL K H b ys) (t : TwinA K H n xs ys) : Twin K H (n + 1) (.ref a) (.ref b) := by
 obtain ⟨ds, ls, z1, z2⟩ := t
 refine ⟨.list ds, Lay.list ls, ?_, ?_⟩
 . unfold zev
   exact ⟨a, xs, rfl, h1, z1⟩
 . unfold zev
   exact ⟨b, ys, rfl, h2, z2⟩
theorem zxc {K : W.Frag} {H : Hp} {nk : Str} {fa tr qC : Addr} {fo : V} {ps : List Str} (rr : List RR) (h1 : SqT K H fa [.str nk, fo, .ref qC, .ref tr]) (h2 : SqT K H tr (rr.map λ x => V.ref x.w.r)) (h3 : ∀ x ∈ rr, zyg K H x) (h4 : SqT K H qC (ps.map V.str)) (h5 : ∀ s ∈ ps, K12.Nm s) (h6 : ps.length <= 100) (h7 : rr.length <= 100) (wf : K13.Wf (rr.map λ x => x.w.k)) :
   F2.FnAt K H ⟨nk, fo, fa, qC, tr, ps, rr.map (·.w), rr.map (·.d)⟩ := by
 refine ⟨h1, h4, by show SqT K H tr ((rr.map (·.w)).map λ w => V.ref w.r); rw [List.map_map]; exact h2, λ w hw => ?_, ⟨⟨_, _, _, _, h1, h4, ?_⟩, λ d hd => ?_, h5, h6, by show (rr.map (·.d)).length <= 100; rw [List.length_map]; exact h7⟩, by show K13.Wf ((rr.map (·.w)).map (·.k)); rw [List.map_map]; exact wf, by show (rr.map (·.w)).length <= 100; rw [List.length_map]; exact h7⟩
 . obtain ⟨x, hx, rfl⟩ := List.mem_map.mp hw
   exact (h3 x hx).2.1
 . show SqT K H tr ((rr.map (·.d)).map λ d => V.ref d.r)
   rw [List.map_map]
   have : (rr.map λ x => V.ref x.w.r) = rr.map ((λ d => V.ref d.r) ∘ (·.d)) := List.map_congr_left λ x hx => by
     show V.ref x.w.r = V.ref x.d.r
     rw [(h3 x hx).1]
   rw [<- this]
   exact h2
 . obtain ⟨x, hx, rfl⟩ := List.mem_map.mp hd
   exact (h3 x hx).2.2
end Bg
namespace K55
open PySem L2 Gx Fl Sk
def TS (H H' : Hp) : Prop := ∀ b xs, Rd H b (.tup xs) -> Rd H' b (.tup xs)
theorem TS.tup {K : W.Frag} {H H' : Hp} {a : Addr} {xs : List V} (e : TS H H') (h : SqT K H a xs) : SqT K H' a xs := h.imp (e a xs) id
theorem TS.lst {H : Hp} {a : Addr} {xs : List V} {o : HO} (h : H a = some (.lst xs)) : TS H (upd H a o) := λ b ys q => by
 have : b ≠ a := by
   rintro rfl
   rcases q with q | ⟨_, q⟩ <;> (rw [h] at q; cases q)
 rcases q with q | ⟨o', q⟩
 . exact .inl (by rw [zaf this]; exact q)
 . exact .inr ⟨o', by rw [zaf this]; exact q⟩
end K55
namespace K55
open PySem L2 Gx Fl Sk K41 Bg
theorem zwk {K : W.Frag} {H H' : Hp} {xs as : List V} {g : Option Str} (e : TS H H') (h : K12.RowS K H xs g as) : K12.RowS K H' xs g as := by
 cases h <;> first | (constructor; done) | (constructor; exact e.tup (by assumption))
theorem fnAt_ts {K : W.Frag} {H H' : Hp} {f : F2.Fd} (h : F2.FnAt K H f) (e : TS H H') : F2.FnAt K H' f :=
 ⟨e.tup h.fn, e.tup h.pr, e.tup h.rw_, λ w hw => let ⟨rest, h1, h2⟩ := h.rk w hw; ⟨rest, e.tup h1, h2⟩,
   ⟨let ⟨n, b, p, r, h1, h2, h3⟩ := h.fu.fn; ⟨n, b, p, r, e.tup h1, e.tup h2, e.tup h3⟩, λ d hd => let z := h.fu.rows d hd; ⟨let ⟨xs, h1, h2⟩ := z.row; ⟨xs, e.tup h1, zwk e h2⟩, z.ats, z.len, z.nm⟩, h.fu.pn, h.fu.pl, h.fu.dl⟩, h.wf, h.len⟩
end K55
namespace Wk
open PySem L2 Gx Fl K41 Bg
def RV.kind : RV -> Str
 | .out _ => "out"
 | .copy _ _ => "copy"
 | .op _ _ _ _ => "op"
 | .back _ => "back"
def RV.gx : RV -> Option Str
 | .copy x _ => some x
 | .op x _ _ _ => some x
 | _ => none
def RV.as : RV -> List V
 | .out a => [a]
 | .copy _ a => [a]
 | .op _ _ a b => [a, b]
 | .back a => [a]
def RV.rr (r : Addr) (rv : RV) : RR := ⟨⟨r, rv.kind, ""⟩, ⟨r, 0, 0, rv.gx, rv.as⟩⟩
def zax : RV -> List V
 | .out a => [a]
 | .copy x a => [.str x, a]
 | .op x _ a b => [.str x, a, b]
 | .back a => [a]
structure RV.Ok (rv : RV) : Prop where
 at_ : ∀ v ∈ zax rv, K12.Atom v
 sg : ∀ x s a b, rv = .op x s a b -> PyData.strOk s = true
theorem zwo {x : Str} (h : K12.Atom (.str x)) : K12.Nm x := by
 rcases h with ⟨s, e, h⟩ | ⟨i, e⟩
 . cases e; exact h
 . cases e
theorem zyq {K : W.Frag} {H : Hp} {r : Addr} {rv : RV} (h : SqT K H r rv.items) (ok : rv.Ok) : zyg K H (rv.rr r) := by
 cases rv with
 | out a => exact zxq h (ok.at_ a (by simp [zax]))
 | back a => exact zvc h (ok.at_ a (by simp [zax]))
 | copy x a => exact ⟨rfl, ⟨_, h, λ z => absurd z (by show ¬ (("copy" : Str) = "call"); decide +kernel)⟩, ⟨⟨_, h, .copy x a⟩, (λ v hv => ok.at_ v (by rw [List.mem_singleton.mp hv]; simp [zax])), by show 1 <= 10; decide, λ y hy => by cases hy; exact zwo (ok.at_ _ (by simp [zax]))⟩⟩
 | op x s a b => exact ⟨rfl, ⟨_, h, λ z => absurd z (by show ¬ (("op" : Str) = "call"); decide +kernel)⟩, ⟨⟨_, h, .op x s a b⟩, (λ v hv => ok.at_ v (List.mem_cons_of_mem _ hv)), by show 2 <= 10; decide, λ y hy => by cases hy; exact zwo (ok.at_ _ (by simp [zax]))⟩⟩
theorem ztk {K : W.Frag} {H : Hp} {n : Nat} {v : V} (h : K12.Atom v) : HasD K H n v := by
 rcases h with ⟨s, rfl, h⟩ | ⟨i, rfl⟩
 . exact .str h.2
 . exact .int
theorem zw8 {K : W.Frag} {H : Hp} {r : Addr} {rv : RV} (h : SqT K H r rv.items) (ok : rv.Ok) : HasD K H 1 (.ref r) := by
 refine HasD.tup (n := 0) h (HasA.of λ v hv => ?_)
 have key : ∀ v ∈ zax rv, HasD K H 0 v := λ v hv => ztk (ok.at_ v hv)
 cases rv with
 | out a =>
   simp only [RV.items, List.mem_cons, List.not_mem_nil, or_false] at hv
   rcases hv with rfl | rfl
   . exact .str (by decide +kernel)
   . exact key _ (by simp [zax])
 | back a =>
   simp only [RV.items, List.mem_cons, List.not_mem_nil, or_false] at hv
   rcases hv with rfl | rfl
   . exact .str (by decide +kernel)
   . exact key _ (by simp [zax])
 | copy x a =>
   simp only [RV.items, List.mem_cons, List.not_mem_nil, or_false] at hv
   rcases hv with rfl | rfl | rfl
   . exact .str (by decide +kernel)
   . exact key _ (by simp [zax])
   . exact key _ (by simp [zax])
 | op x s a b =>
   simp only [RV.items, List.mem_cons, List.not_mem_nil, or_false] at hv
   rcases hv with rfl | rfl | rfl | rfl | rfl
   . exact .str (by decide +kernel)
   . exact key _ (by simp [zax])
   . exact .str (ok.sg _ _ _ _ rfl)
   . exact key _ (by simp [zax])
   . exact key _ (by simp [zax])
theorem zhy (rv : RV) : ¬ K13.isO rv.kind = true /\ ¬ K13.isE rv.kind = true /\ ¬ rv.kind = "end" /\ ¬ rv.kind = "else" := by
 have key : ∀ k ∈ ([("out" : Str), "copy", "op", "back"] : List Str), ¬ K13.isO k = true /\ ¬ K13.isE k = true /\ ¬ k = "end" /\ ¬ k = "else" := by decide +kernel
 exact key _ (by cases rv <;> simp [RV.kind])
theorem ztf {rv : RV} (h : ∀ a, rv ≠ .back a) : ¬ rv.kind = "back" := by
 cases rv with
 | back a => exact absurd rfl (h a)
 | out a => show ¬ (("out" : Str) = "back"); decide +kernel
 | copy x a => show ¬ (("copy" : Str) = "back"); decide +kernel
 | op x s a b => show ¬ (("op" : Str) = "back"); decide +kernel
theorem zoa : ∀ (rvs : List RV) (ks : List Str), K13.Good ks [] -> K13.Good (ks ++ rvs.map RV.kind) []
 | [], ks, g => by rw [List.map_nil, List.append_nil]; exact g
 | rv :: rvs, ks, g => by
   have h := zhy rv
   have := zoa rvs (ks ++ [rv.kind]) (g.plain h.1 h.2.1 h.2.2.1)
   rw [List.append_assoc] at this
   exact this
theorem zuh (rvs : List RV) (a : V) : K13.Wf ((rvs ++ [RV.back a]).map RV.kind) := by
 have g := (zoa rvs [] K13.good_nil).back
 rw [List.nil_append] at g
 rw [List.map_append]
 exact g
def rrs (rs : List Addr) (rvs : List RV) : List RR := (rs.zip rvs).map λ p => p.2.rr p.1
theorem zrh {rs : List Addr} {rvs : List RV} (h : rs.length = rvs.length) : (rrs rs rvs).length = rvs.length := by
 unfold rrs
 rw [List.length_map, List.length_zip]
 omega
theorem zue {rs : List Addr} {rvs : List RV} (h : rs.length = rvs.length) {k : Nat} {x : RR} (hx : (rrs rs rvs)[k]? = some x) : ∃ r rv, rs[k]? = some r /\ rvs[k]? = some rv /\ x = rv.rr r := by
 unfold rrs at hx
 rw [List.getElem?_map, Option.map_eq_some_iff] at hx
 obtain ⟨p, hp, rfl⟩ := hx
 rw [List.getElem?_zip_eq_some] at hp
 exact ⟨p.1, p.2, hp.1, hp.2, rfl⟩
theorem zn9 {α : Type} (g : Addr -> α) : ∀ (rs : List Addr) (rvs : List RV), rs.length = rvs.length -> (rs.zip rvs).map (λ p => g p.1) = rs.map g
 | [], [], _ => rfl
 | r :: rs, v :: rvs, h => by rw [List.zip_cons_cons, List.map_cons, List.map_cons, zn9 g rs rvs (by simpa using h)]
 | [], _ :: _, h => by simp at h
 | _ :: _, [], h => by simp at h
theorem zo3 {α : Type} (g : RV -> α) : ∀ (rs : List Addr) (rvs : List RV), rs.length = rvs.length -> (rs.zip rvs).map (λ p => g p.2) = rvs.map g
 | [], [], _ => rfl
 | r :: rs, v :: rvs, h => by rw [List.zip_cons_cons, List.map_cons, List.map_cons, zo3 g rs rvs (by simpa using h)]
 | [], _ :: _, h => by simp at h
 | _ :: _, [], h => by simp at h
theorem zox {rs : List Addr} {rvs : List RV} (h : rs.length = rvs.length) : ((rrs rs rvs).map λ x => V.ref x.w.r) = rs.map V.ref := by
 unfold rrs
 rw [List.map_map]
 exact zn9 V.ref rs rvs h
theorem zlu {rs : List Addr} {rvs : List RV} (h : rs.length = rvs.length) : ((rrs rs rvs).map λ x => x.w.k) = rvs.map RV.kind := by
 unfold rrs
 rw [List.map_map]
 exact zo3 RV.kind rs rvs h
theorem zp0 (r : Addr) (rv : RV) : K12.rowStrs (rv.rr r).d = K12.strsOf (zax rv) := by
 cases rv <;> rfl
theorem zmk {β : Type} (g : RV -> List β) : ∀ (rs : List Addr) (rvs : List RV), rs.length = rvs.length -> (rs.zip rvs).flatMap (λ p => g p.2) = rvs.flatMap g
 | [], [], _ => rfl
 | r :: rs, v :: rvs, h => by rw [List.zip_cons_cons, List.flatMap_cons, List.flatMap_cons, zmk g rs rvs (by simpa using h)]
 | [], _ :: _, h => by simp at h
 | _ :: _, [], h => by simp at h
def ze6 (rvs : List RV) : List Str := rvs.flatMap λ rv => K12.strsOf (zax rv)
theorem zmp {rs : List Addr} {rvs : List RV} (h : rs.length = rvs.length) : ((rrs rs rvs).map (·.d)).flatMap K12.rowStrs = ze6 rvs := by
 unfold rrs ze6
 rw [List.map_map, List.flatMap_map]
 have : ((λ p : Addr × RV => K12.rowStrs (((λ x : RR => x.d) ∘ λ p : Addr × RV => p.2.rr p.1) p)) : Addr × RV -> List Str) = λ p => (λ rv => K12.strsOf (zax rv)) p.2 := by
   funext p
   exact zp0 p.1 p.2
 rw [this]
 exact zmk (λ rv => K12.strsOf (zax rv)) rs rvs h
theorem zsd (rv : RV) : (zax rv).length <= 3 := by cases rv <;> simp [zax]
theorem zmc : ∀ rvs : List RV, (ze6 rvs).length <= 3 * rvs.length
 | [] => by simp [ze6]
 | rv :: rvs => by
   have h1 := zmc rvs
   have h2 := K12.strsOf_len (zax rv)
   have h3 := zsd rv
   unfold ze6 at h1 ⊢
   rw [List.flatMap_cons, List.length_append, List.length_cons]
   omega
theorem zk2 {s : Str} {l : List V} (h : V.str s ∈ l) : s ∈ K12.strsOf l := by
 unfold K12.strsOf
 rw [List.mem_filterMap]
 exact ⟨_, h, rfl⟩
theorem zs5 {x : Str} {ss : List Str} : x ∈ K12.onceL ss <-> x ∈ ss := ⟨K12.onceL_sub ss x, λ h => K12.fold_has ss [] x h⟩
def fnOf (nk : Str) (fo : V) (fa qC tr : Addr) (ps : List Str) (rs : List Addr) (rvs : List RV) : F2.Fd := ⟨nk, fo, fa, qC, tr, ps, (rrs rs rvs).map (·.w), (rrs rs rvs).map (·.d)⟩
section
variable {K : W.Frag} {H : Hp} {nk : Str} {fa tr qC : Addr} {fo : V} {ps : List Str} {rs : List Addr} {rvs : List RV}
theorem zt7 (hl : rs.length = rvs.length) (h1 : SqT K H fa [.str nk, fo, .ref qC, .ref tr]) (h2 : SqT K H tr (rs.map V.ref)) (h3 : ∀ (i : Nat) r rv, rs[i]? = some r -> rvs[i]? = some rv -> SqT K H r rv.items /\ rv.Ok) (h4 : SqT K H qC (ps.map V.str)) (h5 : ∀ s ∈ ps, K12.Nm s) (h6 : ps.length <= 100) (h7 : rvs.length <= 100) (wf : K13.Wf (rvs.map RV.kind)) :
   F2.FnAt K H (fnOf nk fo fa qC tr ps rs rvs) := by
 refine zxc (rrs rs rvs) h1 (by rw [zox hl]; exact h2) (λ x hx => ?_) h4 h5 h6 (by rw [zrh hl]; exact h7) (by rw [zlu hl]; exact wf)
 obtain ⟨k, hk⟩ := List.getElem?_of_mem hx
 obtain ⟨r, rv, e1, e2, rfl⟩ := zue hl hk
 exact zyq (h3 k r rv e1 e2).1 (h3 k r rv e1 e2).2
theorem zx0 (hl : rs.length = rvs.length) {x : Str} : x ∈ F2.nms (fnOf nk fo fa qC tr ps rs rvs) <-> x ∈ ps \/ x ∈ ze6 rvs := by
 unfold F2.nms K12.allOf
 rw [zs5, List.mem_append]
 show x ∈ ps \/ x ∈ ((rrs rs rvs).map (·.d)).flatMap K12.rowStrs <-> _
 rw [zmp hl]
theorem zp1 (hl : rs.length = rvs.length) : (F2.nms (fnOf nk fo fa qC tr ps rs rvs)).length <= ps.length + 3 * rvs.length := by
 unfold F2.nms K12.allOf
 refine Nat.le_trans (K12.onceL_len _) ?_
 rw [List.length_append]
 show ps.length + (((rrs rs rvs).map (·.d)).flatMap K12.rowStrs).length <= _
 rw [zmp hl]
 have := zmc rvs
 omega
theorem zw6 (hl : rs.length = rvs.length) {k : Nat} {w : Rw} {rv : RV} (h : (fnOf nk fo fa qC tr ps rs rvs).rs[k]? = some w) (hv : rvs[k]? = some rv) : rs[k]? = some w.r := by
 have h : ((rrs rs rvs).map (·.w))[k]? = some w := h
 rw [List.getElem?_map, Option.map_eq_some_iff] at h
 obtain ⟨x, hx, rfl⟩ := h
 obtain ⟨r, rv', e1, e2, rfl⟩ := zue hl hx
 exact e1
theorem zxk (hl : rs.length = rvs.length) {k : Nat} {rv : RV} (hk : k + 1 < rvs.length) (hv : rvs[k]? = some rv) (hb : ∀ a, rv ≠ .back a) : Way (fnOf nk fo fa qC tr ps rs rvs) k 0 (k + 1) := by
 have kdw : ∀ (j : Nat) (rv : RV), rvs[j]? = some rv -> K13.kd (F2.kds (fnOf nk fo fa qC tr ps rs rvs)) j = rv.kind := λ j rv h => by
   unfold K13.kd F2.kds
   have e : (fnOf nk fo fa qC tr ps rs rvs).rs.map (·.k) = rvs.map RV.kind := by
     show ((rrs rs rvs).map (·.w)).map (·.k) = _
     rw [List.map_map]
     exact zlu hl
   rw [e, List.getD_eq_getElem?_getD, List.getElem?_map, h]
   rfl
 have h2 : rvs[k + 1]? = some rvs[k + 1] := List.getElem?_eq_getElem hk
 have c1 := zhy rv
 have c2 := zhy rvs[k + 1]
 exact ⟨[k + 1], .one (by rw [kdw k rv hv]; exact c1.2.1) (by rw [kdw k rv hv]; exact ztf hb) (by rw [kdw k rv hv]; exact c1.1) (.oth (by rw [kdw _ _ h2]; exact c2.2.2.2) (by rw [kdw _ _ h2]; exact c2.2.2.1)), rfl⟩
theorem zuo (hl : rs.length = rvs.length) (hn : PyData.strOk nk = true) (hf : HasD K H 2 fo) (h1 : SqT K H fa [.str nk, fo, .ref qC, .ref tr]) (h2 : SqT K H tr (rs.map V.ref)) (h3 : ∀ (i : Nat) r rv, rs[i]? = some r -> rvs[i]? = some rv -> SqT K H r rv.items /\ rv.Ok) (h4 : SqT K H qC (ps.map V.str)) (h5 : ∀ s ∈ ps, K12.Nm s) : HasD K H 3 (.ref fa) := by
 refine HasD.tup (n := 2) h1 (.cons (.str hn) (.cons hf (.cons ?_ (.cons ?_ .nil))))
 . exact HasD.tup (n := 1) h4 (HasA.of λ v hv => by
     obtain ⟨s, hs, rfl⟩ := List.mem_map.mp hv
     exact .str (h5 s hs).2)
 . refine HasD.tup (n := 1) h2 (HasA.of λ v hv => ?_)
   obtain ⟨r, hr, rfl⟩ := List.mem_map.mp hv
   obtain ⟨i, hi⟩ := List.getElem?_of_mem hr
   have hlt : i < rvs.length := by rw [<- hl]; exact (List.getElem?_eq_some_iff.mp hi).1
   have := h3 i r _ hi (List.getElem?_eq_getElem hlt)
   exact zw8 this.1 this.2
end
theorem zlz {K : W.Frag} {C x l : Addr} {H : Hp} {fns : List F2.Fd} {xs : List V} {o : HO} (h : F2.FlowsAt K C H x fns) (hl : H l = some (.lst xs)) (hne : xs ≠ []) (hs : ∀ v ∈ xs, (∀ s, v ≠ .str s) /\ v ≠ .non /\ ∀ p ns, v = .ref p -> H p ≠ some (.tup (K13.natsV ns))) : F2.FlowsAt K C (upd H l o) x fns := by
 obtain ⟨dx, fz, d, kv, nl, wl, h0, h1, h2, h3, h4, h5, h6, h7, h8⟩ := h.ob
 have key : ∀ {b : Addr} {u : HO}, H b = some u -> u ≠ .lst xs -> upd H l o b = some u := λ {b u} hb hu => by
   have : b ≠ l := λ z => by rw [z, hl] at hb; exact hu (Option.some.inj hb).symm
   rw [zaf this]; exact hb
 refine ⟨λ f hf => K55.fnAt_ts (h.all f hf) (K55.TS.lst hl), h.nd, ⟨dx, fz, d, kv, nl, wl, h0, ⟨key h1.ob (by intro z; cases z), λ j hj => key (h1.dc j hj) (by intro z; cases z)⟩, h2, h3, h4, h5, h6, h7, λ i f hi => ⟨key (h8 i f hi).1 ?_, ?_⟩⟩⟩
 . intro z
   have z : (F2.nms f).map V.str = xs := by injection z
   cases e : F2.nms f with
   | nil => rw [e] at z; exact hne z.symm
   | cons n r => rw [e] at z; exact (hs (V.str n) (by rw [<- z]; simp)).1 n rfl
 obtain ⟨vs, e1, e2, e3⟩ := (h8 i f hi).2
 refine ⟨vs, key e1 ?_, e2, λ k v q => ?_⟩
 . intro z
   have z : vs = xs := by injection z
   cases e : vs with
   | nil => rw [e] at z; exact hne z.symm
   | cons v r =>
     obtain ⟨oo, due, vo⟩ := e3 0 v (by rw [e]; rfl)
     have hv := hs v (by rw [<- z, e]; simp)
     cases oo with
     | none => exact hv.2.1 vo
     | some ns => obtain ⟨p, z1, z2⟩ := vo; exact hv.2.2 p ns z1 z2
 . obtain ⟨oo, due, vo⟩ := e3 k v q
   refine ⟨oo, due, ?_⟩
   cases oo with
   | none => exact vo
   | some ns => obtain ⟨p, z1, z2⟩ := vo; exact ⟨p, z1, key z2 (by intro z; cases z)⟩
theorem zko (n : Str) : ∀ (l : List (Str × V)) (d : List (Key × V)), zc2 (l.foldl (λ d p => zbu d (Sum.inr p.1 : Key) p.2) d) (Sum.inr n : Key) = l.foldl (λ acc p => if n = p.1 then some p.2 else acc) (zc2 d (Sum.inr n : Key))
 | [], d => rfl
 | p :: l, d => by
   rw [List.foldl_cons, List.foldl_cons, zko n l, zcq]
   congr 1
   by_cases z : n = p.1
   . rw [if_pos z, if_pos (by rw [z])]
   . rw [if_neg z, if_neg (by intro y; exact z (Sum.inr.inj y))]
theorem zkp (P : V -> Prop) (n : Str) : ∀ (l : List (Str × V)) (o : V), P o -> (∀ p ∈ l, P p.2) -> ∃ v, P v /\ l.foldl (λ acc p => if n = p.1 then some p.2 else acc) (some o) = some v
 | [], o, ho, _ => ⟨o, ho, rfl⟩
 | p :: l, o, ho, h => by
   rw [List.foldl_cons]
   by_cases z : n = p.1
   . rw [if_pos z]
     exact zkp P n l p.2 (h p List.mem_cons_self) λ q hq => h q (List.mem_cons_of_mem _ hq)
   . rw [if_neg z]
     exact zkp P n l o ho λ q hq => h q (List.mem_cons_of_mem _ hq)
theorem zo0 {n : Str} : ∀ (ns : List Str) (d : List (Key × V)), (n ∈ ns \/ zc2 d (Sum.inr n : Key) = some (.int 0)) -> zc2 ((ns.map λ n => ((Sum.inr n : Key), V.int 0)).foldl (λ acc kv => zbu acc kv.1 kv.2) d) (Sum.inr n : Key) = some (.int 0)
 | [], d, h => h.elim (λ z => by cases z) id
 | m :: ns, d, h => by
   rw [List.map_cons, List.foldl_cons]
   refine zo0 ns _ ?_
   rw [zcq]
   by_cases z : n = m
   . exact .inr (by rw [z, if_pos rfl])
   . rcases h with h | h
     . rcases List.mem_cons.mp h with h | h
       . exact absurd h z
       . exact .inl h
     . exact .inr (by rw [if_neg (by intro y; exact z (Sum.inr.inj y))]; exact h)
end Wk
namespace K22
open PySem L2 Gx Fl Wk
def top (i : Nat) : Stmt := PySem.Challenge.pw_stopglass_k22_straight_rows.main.body.getD i (.Pass ⟨0, 0, 0, 0⟩)
abbrev zdk : Stmt := top 8
abbrev zf4 : Stmt := top 9
abbrev zgf : Stmt := top 10
abbrev zdf : Stmt := top 11
abbrev zc5 : Stmt := top 12
abbrev zh9 : Stmt := top 13
abbrev zc6 : Stmt := top 14
abbrev zb2 : Stmt := top 15
abbrev zcs : Stmt := zby (top 16) 0
abbrev zf3 : Stmt := top 19
abbrev zcd : Stmt := zby (top 20) 0
abbrev zb5 : Stmt := zby (top 20) 1
abbrev zb0 : Stmt := zby (top 20) 2
abbrev zce : Stmt := zby (top 20) 3
abbrev zb7 : Stmt := zby (top 20) 4
abbrev zb1 : Stmt := zby (top 20) 5
abbrev zci : Stmt := zby (top 20) 6
abbrev zck : Stmt := zby (top 20) 7
abbrev zau : Stmt := zby (top 20) 12
abbrev za0 : Stmt := zby (top 20) 13
abbrev zbn : Stmt := zby (top 20) 14
abbrev zbo : Stmt := zby (top 20) 15
abbrev zbf : Stmt := zby (top 20) 16
abbrev za3 : Stmt := zby (top 20) 17
abbrev zbw : Stmt := zby (top 21) 0
abbrev za5 : Stmt := zby (top 21) 1
abbrev zbp : Stmt := zby (top 22) 0
abbrev zaz : Stmt := zby (top 22) 2
abbrev zay : Stmt := zby (top 22) 3
abbrev zbl : Stmt := zby (top 22) 4
abbrev za6 : Stmt := zby (top 22) 5
abbrev zbd : Stmt := zby (top 22) 6
abbrev zbb : Stmt := zby (top 22) 7
abbrev zbe : Stmt := zby (top 22) 8
abbrev za4 : Stmt := zby (top 22) 9
abbrev za9 : Stmt := zby (top 22) 10
abbrev zas : Stmt := zby (top 22) 11
abbrev zc0 : Stmt := top 24
abbrev zed : Stmt := top 34
abbrev zdg : Stmt := top 25
abbrev zd3 : Stmt := top 26
abbrev zct : Stmt := top 27
abbrev ze1 : Stmt := top 28
abbrev zf5 : Stmt := top 29
abbrev zd9 : Stmt := top 30
abbrev zd6 : Stmt := top 31
abbrev zea : Stmt := top 32
abbrev zez : Stmt := top 33
abbrev zd1 : Stmt := top 35
abbrev zdi : Stmt := top 36
abbrev zdl : Stmt := top 37
abbrev zi7 : Stmt := top 38
set_option genInjectivity false in
set_option genSizeOf false in
structure Adr where
 c_Flows : Addr
 c_Walker : Addr
 c_TextWalker : Addr
 c_TextFrame : Addr
 a_names_of : Addr
 d_names_of : FuncData
 a_reads : Addr
 d_reads : FuncData
 a_gives : Addr
 d_gives : FuncData
 a_atoms_of : Addr
 d_atoms_of : FuncData
 a_each_once : Addr
 d_each_once : FuncData
 a_ways : Addr
 d_ways : FuncData
 a_begins_of : Addr
 d_begins_of : FuncData
 a_firsts_behind : Addr
 d_firsts_behind : FuncData
 a_Flows_init : Addr
 d_Flows_init : FuncData
 a_value : Addr
 d_value : FuncData
 a_Walker_init : Addr
 d_Walker_init : FuncData
 a_Walker_ended : Addr
 d_Walker_ended : FuncData
 a_Walker_answer : Addr
 d_Walker_answer : FuncData
 a_Walker_sent : Addr
 d_Walker_sent : FuncData
 a_Walker_field : Addr
 d_Walker_field : FuncData
 a_Walker_frames : Addr
 d_Walker_frames : FuncData
 a_Walker_told : Addr
 d_Walker_told : FuncData
 a_Walker_step : Addr
 d_Walker_step : FuncData
 a_Walker_ask_for_level : Addr
 d_Walker_ask_for_level : FuncData
 a_Walker_ask_for_name : Addr
 d_Walker_ask_for_name : FuncData
 a_Walker_names_at : Addr
 d_Walker_names_at : FuncData
 a_Walker_send_out : Addr
 d_Walker_send_out : FuncData
 a_Walker_put_field : Addr
 d_Walker_put_field : FuncData
 a_Walker_make_record : Addr
 d_Walker_make_record : FuncData
 a_TextFrame_init : Addr
 d_TextFrame_init : FuncData
 a_TextFrame_value_of : Addr
 d_TextFrame_value_of : FuncData
 a_TextWalker_init : Addr
 d_TextWalker_init : FuncData
 a_TextWalker_chain_of : Addr
 d_TextWalker_chain_of : FuncData
 a_TextWalker_shown_at : Addr
 d_TextWalker_shown_at : FuncData
 a_TextWalker_tell : Addr
 d_TextWalker_tell : FuncData
 a_TextWalker_walk_on : Addr
 d_TextWalker_walk_on : FuncData
 a_TextWalker_begin : Addr
 d_TextWalker_begin : FuncData
 a_TextWalker_row_of : Addr
 d_TextWalker_row_of : FuncData
 a_TextWalker_go_on : Addr
 d_TextWalker_go_on : FuncData
 a_TextWalker_go_back : Addr
 d_TextWalker_go_back : FuncData
 a_TextWalker_do_row : Addr
 d_TextWalker_do_row : FuncData
 a_TextWalker_value_given : Addr
 d_TextWalker_value_given : FuncData
 a_l_cell_at : Addr
 d_l_cell_at : FuncData
 a_l_whole : Addr
 d_l_whole : FuncData
 a_l_stream : Addr
 d_l_stream : FuncData
 a_l_names : Addr
 d_l_names : FuncData
 a_l_value_by : Addr
 d_l_value_by : FuncData
 a_l_atom : Addr
 d_l_atom : FuncData
 a_l_row : Addr
 d_l_row : FuncData
 a_l_value : Addr
 d_l_value : FuncData
 a_l_worth : Addr
 d_l_worth : FuncData
 a_l_begin : Addr
 d_l_begin : FuncData
 a_l_done : Addr
 d_l_done : FuncData
 a_l_alike : Addr
 d_l_alike : FuncData
 a_l_stands : Addr
 d_l_stands : FuncData
 a_l_walked : Addr
 d_l_walked : FuncData
 a_law : Addr
 d_law : FuncData
 a_GIVING : Addr
 a_TAB : Addr
structure Txt (K : W.Frag) (mg : Str -> Option Value) (t : Adr) : Prop where
 names_of : DefOk K mg "names_of" zdk ["function"] t.a_names_of t.d_names_of
 reads : DefOk K mg "reads" zf4 ["row"] t.a_reads t.d_reads
 gives : DefOk K mg "gives" zgf ["row"] t.a_gives t.d_gives
 atoms_of : DefOk K mg "atoms_of" zdf ["row"] t.a_atoms_of t.d_atoms_of
 each_once : DefOk K mg "each_once" zc5 ["names"] t.a_each_once t.d_each_once
 ways : DefOk K mg "ways" zh9 ["rows"] t.a_ways t.d_ways
 begins_of : DefOk K mg "begins_of" zc6 ["rows"] t.a_begins_of t.d_begins_of
 firsts_behind : DefOk K mg "firsts_behind" zb2 ["rows", "begins"] t.a_firsts_behind t.d_firsts_behind
 Flows_init : IniOk K t.c_Flows "Flows.__init__" zcs ["self", "program"] t.a_Flows_init t.d_Flows_init
 value : DefOk K mg "value" zf3 ["sign", "one", "other"] t.a_value t.d_value
 Walker_init : BasOk K t.c_Walker "__init__" "Walker.__init__" zcd ["self", "program"] t.a_Walker_init t.d_Walker_init
 Walker_ended : MetOk K t.c_TextWalker "ended" "Walker.ended" zb5 ["self"] t.a_Walker_ended t.d_Walker_ended
 Walker_answer : MetOk K t.c_TextWalker "answer" "Walker.answer" zb0 ["self"] t.a_Walker_answer t.d_Walker_answer
 Walker_sent : MetOk K t.c_TextWalker "sent" "Walker.sent" zce ["self"] t.a_Walker_sent t.d_Walker_sent
 Walker_field : MetOk K t.c_TextWalker "field" "Walker.field" zb7 ["self", "record", "name"] t.a_Walker_field t.d_Walker_field
 Walker_frames : MetOk K t.c_TextWalker "frames" "Walker.frames" zb1 ["self"] t.a_Walker_frames t.d_Walker_frames
 Walker_told : MetOk K t.c_TextWalker "told" "Walker.told" zci ["self", "level", "name"] t.a_Walker_told t.d_Walker_told
 Walker_step : MetOk K t.c_TextWalker "step" "Walker.step" zck ["self"] t.a_Walker_step t.d_Walker_step
 Walker_ask_for_level : MetOk K t.c_TextWalker "ask_for_level" "Walker.ask_for_level" zau ["self", "level"] t.a_Walker_ask_for_level t.d_Walker_ask_for_level
 Walker_ask_for_name : MetOk K t.c_TextWalker "ask_for_name" "Walker.ask_for_name" za0 ["self", "level", "name"] t.a_Walker_ask_for_name t.d_Walker_ask_for_name
 Walker_names_at : MetOk K t.c_TextWalker "names_at" "Walker.names_at" zbn ["self", "level"] t.a_Walker_names_at t.d_Walker_names_at
 Walker_send_out : MetOk K t.c_TextWalker "send_out" "Walker.send_out" zbo ["self", "number"] t.a_Walker_send_out t.d_Walker_send_out
 Walker_put_field : MetOk K t.c_TextWalker "put_field" "Walker.put_field" zbf ["self", "record", "name", "number"] t.a_Walker_put_field t.d_Walker_put_field
 Walker_make_record : MetOk K t.c_TextWalker "make_record" "Walker.make_record" za3 ["self"] t.a_Walker_make_record t.d_Walker_make_record
 TextFrame_init : IniOk K t.c_TextFrame "TextFrame.__init__" zbw ["self", "function", "named"] t.a_TextFrame_init t.d_TextFrame_init
 TextFrame_value_of : MetOk K t.c_TextFrame "value_of" "TextFrame.value_of" za5 ["self", "atom"] t.a_TextFrame_value_of t.d_TextFrame_value_of
 TextWalker_init : IniOk K t.c_TextWalker "TextWalker.__init__" zbp ["self", "program", "args"] t.a_TextWalker_init t.d_TextWalker_init
 TextWalker_chain_of : MetOk K t.c_TextWalker "chain_of" "TextWalker.chain_of" zaz ["self", "frame"] t.a_TextWalker_chain_of t.d_TextWalker_chain_of
 TextWalker_shown_at : MetOk K t.c_TextWalker "shown_at" "TextWalker.shown_at" zay ["self", "level"] t.a_TextWalker_shown_at t.d_TextWalker_shown_at
 TextWalker_tell : MetOk K t.c_TextWalker "tell" "TextWalker.tell" zbl ["self", "level", "name"] t.a_TextWalker_tell t.d_TextWalker_tell
 TextWalker_walk_on : MetOk K t.c_TextWalker "walk_on" "TextWalker.walk_on" za6 ["self"] t.a_TextWalker_walk_on t.d_TextWalker_walk_on
 TextWalker_begin : MetOk K t.c_TextWalker "begin" "TextWalker.begin" zbd ["self", "function", "args"] t.a_TextWalker_begin t.d_TextWalker_begin
 TextWalker_row_of : MetOk K t.c_TextWalker "row_of" "TextWalker.row_of" zbb ["self", "frame"] t.a_TextWalker_row_of t.d_TextWalker_row_of
 TextWalker_go_on : MetOk K t.c_TextWalker "go_on" "TextWalker.go_on" zbe ["self", "frame", "way"] t.a_TextWalker_go_on t.d_TextWalker_go_on
 TextWalker_go_back : MetOk K t.c_TextWalker "go_back" "TextWalker.go_back" za4 ["self", "number"] t.a_TextWalker_go_back t.d_TextWalker_go_back
 TextWalker_do_row : MetOk K t.c_TextWalker "do_row" "TextWalker.do_row" za9 ["self", "frame", "row"] t.a_TextWalker_do_row t.d_TextWalker_do_row
 TextWalker_value_given : MetOk K t.c_TextWalker "value_given" "TextWalker.value_given" zas ["self", "frame", "row"] t.a_TextWalker_value_given t.d_TextWalker_value_given
 l_cell_at : DefOk K mg "_law_cell_at" zc0 ["_law_script", "_law_k"] t.a_l_cell_at t.d_l_cell_at
 l_whole : DefOk K mg "_law_whole" zed ["_law_found"] t.a_l_whole t.d_l_whole
 l_stream : DefOk K mg "_law_stream" zdg ["_law_cell", "_law_many"] t.a_l_stream t.d_l_stream
 l_names : DefOk K mg "_law_names" zd3 ["_law_cell", "_law_many"] t.a_l_names t.d_l_names
 l_value_by : DefOk K mg "_law_value_by" zct ["_law_number"] t.a_l_value_by t.d_l_value_by
 l_atom : DefOk K mg "_law_atom" ze1 ["_law_number", "_law_names_here"] t.a_l_atom t.d_l_atom
 l_row : DefOk K mg "_law_row" zf5 ["_law_cell", "_law_names_here"] t.a_l_row t.d_l_row
 l_value : DefOk K mg "_law_value" zd9 ["_law_sign", "_law_one", "_law_other"] t.a_l_value t.d_l_value
 l_worth : DefOk K mg "_law_worth" zd6 ["_law_atom_here", "_law_now"] t.a_l_worth t.d_l_worth
 l_begin : DefOk K mg "_law_begin" zea ["_law_params", "_law_args", "_law_rows"] t.a_l_begin t.d_l_begin
 l_done : DefOk K mg "_law_done" zez ["_law_now", "_law_row_here"] t.a_l_done t.d_l_done
 l_alike : DefOk K mg "_law_alike" zd1 ["_law_found", "_law_due"] t.a_l_alike t.d_l_alike
 l_stands : DefOk K mg "_law_stands" zdi ["_law_walker", "_law_name", "_law_k", "_law_now"] t.a_l_stands t.d_l_stands
 l_walked : DefOk K mg "_law_walked" zdl ["_law_walker", "_law_name", "_law_rows", "_law_now"] t.a_l_walked t.d_l_walked
 law : DefOk K mg "law" zi7 ["_law_script"] t.a_law t.d_law
 cl_Flows : ClsOk K mg "Flows" t.c_Flows
 cl_Walker : ClsOk K mg "Walker" t.c_Walker
 cl_TextWalker : ClsOk K mg "TextWalker" t.c_TextWalker
 cl_TextFrame : ClsOk K mg "TextFrame" t.c_TextFrame
 n_Flows_last : zc8 K t.c_Flows "last"
 n_Flows_number_of : zc8 K t.c_Flows "number_of"
 n_Flows_folded_of : zc8 K t.c_Flows "folded_of"
 n_Flows_params_of : zc8 K t.c_Flows "params_of"
 n_Flows_rows_of : zc8 K t.c_Flows "rows_of"
 n_Flows_names_in : zc8 K t.c_Flows "names_in"
 n_Flows_ways_in : zc8 K t.c_Flows "ways_in"
 n_TextWalker_flows : zc8 K t.c_TextWalker "flows"
 n_TextWalker_stack : zc8 K t.c_TextWalker "stack"
 n_TextWalker_outcome : zc8 K t.c_TextWalker "outcome"
 n_TextWalker_sendings : zc8 K t.c_TextWalker "sendings"
 n_TextWalker_contents : zc8 K t.c_TextWalker "contents"
 n_TextWalker_records : zc8 K t.c_TextWalker "records"
 n_TextFrame_function : zc8 K t.c_TextFrame "function"
 n_TextFrame_row : zc8 K t.c_TextFrame "row"
 n_TextFrame_named : zc8 K t.c_TextFrame "named"
 c_WIDE : ∃ tk, mg "WIDE" = some (.int 281474976710656 tk)
 c_GIVING_KINDS : mg "GIVING_KINDS" = some (.ref t.a_GIVING)
 q_GIVING : ∀ H : Hp, SqT K H t.a_GIVING (K12.giving.map V.str)
 c_ATOM_PLACES : mg "ATOM_PLACES" = some (.ref t.a_TAB)
 q_TAB : zy7 K t.a_TAB K12.tabl
 b_len : mg "len" = none
 b_list : mg "list" = none
 b_tuple : mg "tuple" = none
 b_isinstance : mg "isinstance" = none
 b_range : mg "range" = none
 b_enumerate : mg "enumerate" = none
 b_dict : mg "dict" = none
 b_str : mg "str" = none
 b_min : mg "min" = none
 b_max : mg "max" = none
 b_int : mg "int" = none
 b_zip : mg "zip" = none
 b_bool : mg "bool" = none
 bl : ∀ (s : Shared) (u : Value), BindsTo s t.d_law ⟨[u], []⟩ [("_law_script", u)]
section
variable {P : Program} {w : World} {K : W.Frag} {mg : Str -> Option Value} {base : Heap} {t : Adr}
def zg5 (K : W.Frag) (t : Adr) : Sp := λ vs H Q _ => ∃ (x dx p : Addr) (fns : List F2.Fd), vs = [.ref x, .ref p] /\ H x = some (.ins t.c_Flows dx []) /\ SqL K (ers x H) p (fns.map λ f => V.ref f.fa) /\ fns ≠ [] /\ fns.length <= 12 /\ (∀ f ∈ fns, F2.FnAt K (ers x H) f) /\ (fns.map (·.name)).Nodup /\
 ∀ H', zak (ers x H) H' -> F2.FlowsAt K t.c_Flows H' x fns -> Q .non H'
def zof (K : W.Frag) : Sp := λ vs H Q _ => ∃ (s : Str) (a b : Int), vs = [.str s, .int a, .int b] /\ 0 <= a /\ 0 <= b /\ a < K21.wide /\ b < K21.wide /\ Q (.int (K21.valOf s a b)) H
abbrev WA (t : Adr) (Hb H : Hp) (w : Wr) (fs : List Fm) (oc : V) (sent : List V) : Prop := WAt t.c_TextWalker t.c_TextFrame Hb H w fs oc sent (.dK []) 0
abbrev zsm (f : Fm) : HO := .tup [.str f.fn, .int f.row]
def zgu (K : W.Frag) (t : Adr) : Sp := λ vs H Q _ => ∃ (x dx p : Addr) (fns : List F2.Fd), vs = [.ref x, .ref p] /\ H x = some (.ins t.c_TextWalker dx []) /\ SqL K (ers x H) p (fns.map λ f => V.ref f.fa) /\ fns ≠ [] /\ fns.length <= 12 /\ (∀ f ∈ fns, F2.FnAt K (ers x H) f) /\ (fns.map (·.name)).Nodup /\
 ∀ Hb w H', w.a = x -> zak (ers x H) Hb -> WA t Hb H' w [] .non [] -> F2.FlowsAt K t.c_Flows Hb w.fl fns -> Q .non H'
def zdo (K : W.Frag) (t : Adr) : Sp := λ vs H Q _ => ∃ (Hb : Hp) (w : Wr) (fs : List Fm) (oc : V) (sent : List V), vs = [.ref w.a] /\ WA t Hb H w fs oc sent /\ Q (.bl (decide (fs = []))) H
def zee (K : W.Frag) (t : Adr) : Sp := λ vs H Q _ => ∃ (Hb : Hp) (w : Wr) (fs : List Fm) (oc : V) (sent : List V), vs = [.ref w.a] /\ WA t Hb H w fs oc sent /\ Q oc H
def zgs (K : W.Frag) (t : Adr) : Sp := λ vs H Q _ => ∃ (Hb : Hp) (w : Wr) (fs : List Fm) (oc : V) (sent : List V), vs = [.ref w.a] /\ WA t Hb H w fs oc sent /\ ∀ l, H l = none -> Q (.ref l) (upd H l (.lst sent))
def zgc (K : W.Frag) (t : Adr) : Sp := λ _ _ _ _ => False
def zet (K : W.Frag) (t : Adr) : Sp := λ _ _ _ _ => False
def zd7 (K : W.Frag) (t : Adr) : Sp := λ _ _ _ _ => False
def zfr (K : W.Frag) (t : Adr) : Sp := λ vs H Q _ => ∃ (Hb : Hp) (w : Wr) (fs : List Fm) (oc : V) (sent : List V), vs = [.ref w.a] /\ WA t Hb H w fs oc sent /\ fs.length <= 1000 /\
 ∀ l H' (tps : List Addr), H l = none -> zak H H' -> H' l = some (.lst (tps.map V.ref)) -> tps.length = fs.length -> (∀ (i : Nat) f tp, fs[i]? = some f -> tps[i]? = some tp -> H tp = none /\ tp ≠ l /\ H' tp = some (zsm f)) -> Q (.ref l) H'
def zgq (K : W.Frag) (t : Adr) : Sp := λ vs H Q _ => ∃ (Hb : Hp) (w : Wr) (fs : List Fm) (oc : V) (sent : List V) (i : Nat) (f : Fm) (n : Str) (v : V) (fns : List F2.Fd) (F : F2.Fd), vs = [.ref w.a, .int i, .str n] /\ WA t Hb H w fs oc sent /\ fs[i]? = some f /\ F2.FlowsAt K t.c_Flows Hb w.fl fns /\ F ∈ fns /\ F.name = f.fn /\ n ∈ F2.nms F /\ zc2 f.kvs (Sum.inr n : Key) = some v /\ ∀ H', zak H H' -> Q v H'
def zds (K : W.Frag) (t : Adr) : Sp := λ vs H Q _ => ∃ (Hb : Hp) (w : Wr) (fs : List Fm) (oc : V) (sent : List V) (i : Nat), vs = [.ref w.a, .int i] /\ WA t Hb H w fs oc sent /\ i < fs.length /\ ∀ H', zak H H' -> Q .non H'
def ze3 (K : W.Frag) (t : Adr) : Sp := λ vs H Q _ => ∃ (Hb : Hp) (w : Wr) (fs : List Fm) (oc : V) (sent : List V) (i : Nat) (f : Fm) (fns : List F2.Fd) (F : F2.Fd), vs = [.ref w.a, .int i] /\ WA t Hb H w fs oc sent /\ fs[i]? = some f /\ F2.FlowsAt K t.c_Flows Hb w.fl fns /\ F ∈ fns /\ F.name = f.fn /\ ∀ nl H', zak H H' -> SqL K H' nl ((F2.nms F).map V.str) -> Q (.ref nl) H'
def zdx (K : W.Frag) (t : Adr) : Sp := λ vs H Q _ => ∃ (Hb : Hp) (w : Wr) (fs : List Fm) (oc : V) (sent : List V) (i : Nat) (f : Fm) (n : Str) (fns : List F2.Fd) (F : F2.Fd), vs = [.ref w.a, .int i, .str n] /\ WA t Hb H w fs oc sent /\ fs[i]? = some f /\ F2.FlowsAt K t.c_Flows Hb w.fl fns /\ F ∈ fns /\ F.name = f.fn /\ n ∈ F2.nms F /\ ∀ H', zak H H' -> Q .non H'
def ze0 (K : W.Frag) (t : Adr) : Sp := λ vs H Q _ => ∃ (Hb : Hp) (w : Wr) (fs : List Fm) (oc : V) (sent : List V) (v : V), vs = [.ref w.a, v] /\ WA t Hb H w fs oc sent /\ sent.length < 1000000 /\ ∀ Hb' H' tp, zak Hb Hb' -> WA t Hb' H' w fs oc (sent ++ [v]) -> Hb' tp = some (.tup [.str "out", v]) -> Q (.ref tp) H'
def ze9 (K : W.Frag) (t : Adr) : Sp := λ vs H Q _ => ∃ (x dx nd : Addr) (fn : Str), vs = [.ref x, .str fn, .ref nd] /\ H x = some (.ins t.c_TextFrame dx []) /\ Q .non (upd H x (.ins t.c_TextFrame dx (fF ⟨x, dx, nd, fn, 0, []⟩)))
def zch (K : W.Frag) (t : Adr) : Sp := λ vs H Q _ => ∃ (f : Fm) (v y : V), vs = [.ref f.a, v] /\ FrAt t.c_TextFrame H f /\ av f.kvs v = some y /\ Q y H
def zcx (K : W.Frag) (t : Adr) : Sp := λ vs H Q _ => ∃ (x : V) (f : Fm), vs = [x, .ref f.a] /\ FrAt t.c_TextFrame H f /\ ∀ tp l, H tp = none -> H l = none -> l ≠ tp -> Q (.ref l) (upd (upd H tp (zsm f)) l (.lst [.ref tp]))
def zcy (K : W.Frag) (t : Adr) : Sp := λ vs H Q _ => ∃ (Hb : Hp) (w : Wr) (fs : List Fm) (oc : V) (sent : List V) (i : Nat) (f : Fm), vs = [.ref w.a, .int i] /\ WA t Hb H w fs oc sent /\ fs[i]? = some f /\ ∀ tp H', H tp = none -> zak H H' -> H' tp = some (zsm f) -> Q (.ref tp) H'
def ze2 (K : W.Frag) (t : Adr) : Sp := λ vs H Q _ => ∃ (Hb : Hp) (w : Wr) (fs : List Fm) (oc : V) (sent : List V) (i : Nat) (f : Fm) (n : Str) (v : V), vs = [.ref w.a, .int i, .str n] /\ WA t Hb H w fs oc sent /\ fs[i]? = some f /\ zc2 f.kvs (Sum.inr n : Key) = some v /\ Q v H
def zc9 (K : W.Frag) (t : Adr) : Sp := λ vs H Q _ => ∃ (Hb : Hp) (w : Wr) (fs : List Fm) (oc : V) (sent : List V) (f : Fm) (fns : List F2.Fd) (F : F2.Fd) (r : Rw), vs = [.ref w.a, .ref f.a] /\ WA t Hb H w fs oc sent /\ f ∈ fs /\ F2.FlowsAt K t.c_Flows Hb w.fl fns /\ F ∈ fns /\ F.name = f.fn /\ F.rs[f.row]? = some r /\ Q (.ref r.r) H
def zdd (K : W.Frag) (t : Adr) : Sp := λ vs H Q _ => ∃ (Hb : Hp) (w : Wr) (fs : List Fm) (oc : V) (sent : List V) (f : Fm) (fns : List F2.Fd) (F : F2.Fd) (j r : Nat), vs = [.ref w.a, .ref f.a, .int j] /\ WA t Hb H w (fs ++ [f]) oc sent /\ F2.FlowsAt K t.c_Flows Hb w.fl fns /\ F ∈ fns /\ F.name = f.fn /\ f.row < F.rs.length /\ Way F f.row j r /\ ∀ H', WA t Hb H' w (fs ++ [{ f with row := r }]) oc sent -> Q .non H'
def znw (F : F2.Fd) (vals : List V) : List (Key × V) := (F.ps.zip vals).foldl (λ d p => zbu d (Sum.inr p.1 : Key) p.2) (((F2.nms F).map λ n => ((Sum.inr n : Key), V.int 0)).foldl (λ acc kv => zbu acc kv.1 kv.2) [])
def zde (K : W.Frag) (t : Adr) : Sp := λ vs H Q _ => ∃ (Hb : Hp) (w : Wr) (fs : List Fm) (oc : V) (sent : List V) (fns : List F2.Fd) (F : F2.Fd) (ar : Addr) (vals : List V), vs = [.ref w.a, .str F.name, .ref ar] /\ WA t Hb H w fs oc sent /\ F2.FlowsAt K t.c_Flows Hb w.fl fns /\ F ∈ fns /\ SqL K Hb ar vals /\ vals.length <= 1000 /\ fs.length <= 1000 /\ (F2.nms F).length <= 1000 /\ F.ps.length <= 1000 /\
 ∀ Hb' H' f, zak Hb Hb' -> WA t Hb' H' w (fs ++ [f]) oc sent -> f.fn = F.name -> f.row = 0 -> f.kvs = znw F vals -> Q .non H'
def zex (K : W.Frag) (t : Adr) : Sp := λ vs H Q _ => ∃ (x dx p ar : Addr) (fns : List F2.Fd) (F : F2.Fd) (vals : List V), vs = [.ref x, .ref p, .ref ar] /\ H x = some (.ins t.c_TextWalker dx []) /\ SqL K (ers x H) p (fns.map λ f => V.ref f.fa) /\ fns ≠ [] /\ fns.length <= 12 /\ (∀ f ∈ fns, F2.FnAt K (ers x H) f) /\ (fns.map (·.name)).Nodup /\ fns[fns.length - 1]? = some F /\ SqL K (ers x H) ar vals /\ vals.length <= 1000 /\ (F2.nms F).length <= 1000 /\ F.ps.length <= 1000 /\
 ∀ Hb w f H', w.a = x -> zak (ers x H) Hb -> WA t Hb H' w [f] .non [] -> F2.FlowsAt K t.c_Flows Hb w.fl fns -> f.fn = F.name -> f.row = 0 -> f.kvs = znw F vals -> Q .non H'
def zda (K : W.Frag) (t : Adr) : Sp := λ vs H Q _ => ∃ (w : V) (f : Fm) (r : Addr) (rv : RV) (x : Str) (v : V), vs = [w, .ref f.a, .ref r] /\ FrAt t.c_TextFrame H f /\ SqT K H r rv.items /\ rv.gives f.kvs = some (x, v) /\ Q v H
def Done (t : Adr) (Hb : Hp) (w : Wr) (fs : List Fm) (f : Fm) (oc : V) (sent : List V) (rv : RV) (k : V -> Hp -> Hp -> List Fm -> List V -> Prop) : Prop := match rv with
 | .out a => ∃ v, av f.kvs a = some v /\ ∀ Hb' H' tp, zak Hb Hb' -> WA t Hb' H' w (fs ++ [f]) oc (sent ++ [v]) -> Hb' tp = some (.tup [.str "out", v]) -> k (.ref tp) Hb' H' (fs ++ [f]) (sent ++ [v])
 | _ => ∃ x v, rv.gives f.kvs = some (x, v) /\ ∀ Hb' H', zak Hb Hb' -> WA t Hb' H' w (fs ++ [{ f with kvs := zbu f.kvs (Sum.inr x : Key) v }]) oc sent -> k .non Hb' H' (fs ++ [{ f with kvs := zbu f.kvs (Sum.inr x : Key) v }]) sent
def zei (K : W.Frag) (t : Adr) : Sp := λ vs H Q _ => ∃ (Hb : Hp) (w : Wr) (fs : List Fm) (f : Fm) (oc : V) (sent : List V) (r : Addr) (rv : RV), vs = [.ref w.a, .ref f.a, .ref r] /\ WA t Hb H w (fs ++ [f]) oc sent /\ SqT K H r rv.items /\ sent.length < 1000000 /\ f.kvs.length < 1000000 /\ (∀ a, rv ≠ .back a) /\ Done t Hb w fs f oc sent rv (λ v _ H' _ _ => Q v H')
def zd2 (K : W.Frag) (t : Adr) : Sp := λ vs H Q _ => ∃ (Hb : Hp) (w : Wr) (f : Fm) (oc : V) (sent : List V) (v : V), vs = [.ref w.a, v] /\ WA t Hb H w [f] oc sent /\ ∀ H', WA t Hb H' w [] v sent -> Q .non H'
def zy2 (t : Adr) (Hb : Hp) (w : Wr) (fs : List Fm) (f : Fm) (sent : List V) (F : F2.Fd) (Q : VK) : RV -> Prop
 | .back a => fs = [] /\ ∃ v, av f.kvs a = some v /\ ∀ H', WA t Hb H' w [] v sent -> Q .non H'
 | .out a => ∃ r v, Way F f.row 0 r /\ av f.kvs a = some v /\ ∀ Hb' H' tp, zak Hb Hb' -> WA t Hb' H' w (fs ++ [{ f with row := r }]) .non (sent ++ [v]) -> Hb' tp = some (.tup [.str "out", v]) -> Q (.ref tp) H'
 | rv => ∃ r x v, Way F f.row 0 r /\ rv.gives f.kvs = some (x, v) /\ ∀ Hb' H', zak Hb Hb' -> WA t Hb' H' w (fs ++ [{ f with kvs := zbu f.kvs (Sum.inr x : Key) v, row := r }]) .non sent -> Q .non H'
def zc4 (K : W.Frag) (t : Adr) : Sp := λ vs H Q _ => ∃ (Hb : Hp) (w : Wr) (fs : List Fm) (f : Fm) (sent : List V) (fns : List F2.Fd) (F : F2.Fd) (r : Rw) (rv : RV), vs = [.ref w.a] /\ WA t Hb H w (fs ++ [f]) .non sent /\ F2.FlowsAt K t.c_Flows Hb w.fl fns /\ F ∈ fns /\ F.name = f.fn /\ F.rs[f.row]? = some r /\ SqT K Hb r.r rv.items /\ sent.length < 1000000 /\ f.kvs.length < 1000000 /\ zy2 t Hb w fs f sent F Q rv
def zgt (K : W.Frag) (t : Adr) : Sp := zc4 K t
def zic (K : W.Frag) : Sp := λ vs H Q _ => ∃ (a : Addr) (ns : List Int) (k : Int), vs = [.ref a, .int k] /\ SqL K H a (ns.map V.int) /\ ns.length <= 63 /\ 0 <= k /\ ∀ z, Q (.int z) H
def zh0 (K : W.Frag) : Sp := λ vs H Q _ => ∃ (z : Int), vs = [.int z] /\ Q (.bl true) H
def zgz (K : W.Frag) : Sp := λ vs H Q _ => ∃ (c : Int) (m : Nat), vs = [.int c, .int m] /\ m <= 100 /\ ∀ l H' (ns : List Int), H l = none -> zak H H' -> H' l = some (.lst (ns.map V.int)) -> ns.length = m -> (∀ n ∈ ns, 0 <= n) -> Q (.ref l) H'
def sgs : List Str := ["+", "-", "*", "/", "<", "=", "&", "|", "^"]
def Val (i : Int) : Prop := 0 <= i /\ i < K21.wide
def zfc (K : W.Frag) : Sp := λ vs H Q _ => ∃ (n : Int), vs = [.int n] /\ ∀ v, Val v -> Q (.int v) H
def zey (ns : List Str) (v : V) : Prop := (∃ i, v = .int i /\ Val i) \/ ∃ s, v = .str s /\ s ∈ ns
def zi3 (K : W.Frag) : Sp := λ vs H Q _ => ∃ (n : Int) (a : Addr) (ns : List Str), vs = [.int n, .ref a] /\ SqL K H a (ns.map V.str) /\ 0 < ns.length /\ ∀ v, zey ns v -> Q v H
def zqx (ns : List Str) : RV -> Prop
 | .out a => zey ns a
 | .copy x a => x ∈ ns /\ zey ns a
 | .op x s a b => x ∈ ns /\ s ∈ sgs /\ zey ns a /\ zey ns b
 | .back _ => False
def zod (K : W.Frag) : Sp := λ vs H Q _ => ∃ (c : Int) (a : Addr) (ns : List Str), vs = [.int c, .ref a] /\ SqL K H a (ns.map V.str) /\ 0 < ns.length /\ ∀ tp H' rv, H tp = none -> zak H H' -> H' tp = some (.tup rv.items) -> zqx ns rv -> Q (.ref tp) H'
def zj0 (K : W.Frag) : Sp := λ vs H Q _ => ∃ (s : Str) (a b : Int), vs = [.str s, .int a, .int b] /\ Val a /\ Val b /\ s ∈ sgs /\ ∀ H', zak H H' -> Q (.int (K21.valOf s a b)) H'
def zh3 (K : W.Frag) : Sp := λ vs H Q _ => ∃ (v y : V) (d : Addr) (kvs : List (Key × V)), vs = [v, .ref d] /\ H d = some (.dK kvs) /\ av kvs v = some y /\ Q y H
def zld (K : W.Frag) : Sp := λ vs H Q _ => ∃ (d r : Addr) (kvs : List (Key × V)) (rv : RV), vs = [.ref d, .ref r] /\ H d = some (.dK kvs) /\ SqT K H r rv.items /\ kvs.length < 1000000 /\ (∀ x s a b, rv = .op x s a b -> s ∈ sgs) /\ match rv with
 | .back _ => False
 | .out a => ∃ v, av kvs a = some v /\ ∀ tp, H tp = none -> Q (.ref tp) (upd H tp (.tup [.str "out", v]))
 | rv => ∃ x v, rv.gives kvs = some (x, v) /\ ∀ H', zak H H' -> Q .non (upd H' d (.dK (zbu kvs (Sum.inr x : Key) v)))
def zkl (K : W.Frag) : Sp := λ vs H Q _ => ∃ (x y : V), vs = [x, y] /\ ((x = .non /\ y = .non) \/ ∃ (p p2 : Addr) (i : Int), x = .ref p /\ y = .ref p2 /\ H p = some (.tup [.str "out", .int i]) /\ H p2 = some (.tup [.str "out", .int i])) /\ ∀ H', zak H H' -> Q (.bl true) H'
def zqt (F : F2.Fd) (f : Fm) (kvs : List (Key × V)) : Prop := ∀ kv ∈ kvs, ∃ n i, kv = ((Sum.inr n : Key), V.int i) /\ n ∈ F2.nms F /\ zc2 f.kvs (Sum.inr n : Key) = some (.int i) /\ zc2 kvs (Sum.inr n : Key) = some (.int i)
structure Stand (K : W.Frag) (t : Adr) (H0 Hb H : Hp) (w : Wr) (f : Fm) (sent : List V) (fns : List F2.Fd) (F : F2.Fd) (d : Addr) (kvs : List (Key × V)) : Prop where
 wa : WA t Hb H w [f] .non sent
 fl : F2.FlowsAt K t.c_Flows H0 w.fl fns
 s0 : zak H0 Hb
 d0 : H0 d = none
 db : Hb d = some (.dK kvs)
 mem : F ∈ fns
 nm : F.name = f.fn
 ok : PyData.strOk f.fn = true
def zi8 (K : W.Frag) (t : Adr) : Sp := λ vs H Q _ => ∃ (H0 Hb : Hp) (w : Wr) (f : Fm) (sent : List V) (fns : List F2.Fd) (F : F2.Fd) (d : Addr) (kvs : List (Key × V)), vs = [.ref w.a, .str f.fn, .int f.row, .ref d] /\ Stand K t H0 Hb H w f sent fns F d kvs /\ zqt F f kvs /\
 ∀ Hb' H', zak Hb Hb' -> Stand K t H0 Hb' H' w f sent fns F d kvs -> Q (.bl true) H'
def Cpl (NS : List Str) (F : F2.Fd) (f : Fm) (kvs : List (Key × V)) : Prop := ∀ n ∈ NS, n ∈ F2.nms F /\ ∃ i, Val i /\ zc2 f.kvs (Sum.inr n : Key) = some (.int i) /\ zc2 kvs (Sum.inr n : Key) = some (.int i)
structure Straight (K : W.Frag) (H0 : Hp) (F : F2.Fd) (NS : List Str) (rvs : List RV) (a : V) : Prop where
 len : F.rs.length = rvs.length + 1
 it : ∀ (k : Nat) (r : Rw) (rv : RV), F.rs[k]? = some r -> (rvs ++ [RV.back a])[k]? = some rv -> SqT K H0 r.r rv.items
 ok : ∀ rv ∈ rvs, zqx NS rv
 last : zey NS a
 way : ∀ k, k < rvs.length -> Way F k 0 (k + 1)
 small : rvs.length <= 100
theorem zhj {NS : List Str} {F : F2.Fd} {f : Fm} {kvs : List (Key × V)} {a : V} (c : Cpl NS F f kvs) (h : zey NS a) : ∃ i, Val i /\ av f.kvs a = some (.int i) /\ av kvs a = some (.int i) := by
 rcases h with ⟨i, rfl, hv⟩ | ⟨s, rfl, hs⟩
 . exact ⟨i, hv, rfl, rfl⟩
 . exact (c s hs).2
theorem zn7 {kvs : List (Key × V)} {x s : Str} {a b : V} {i j : Int} (ha : av kvs a = some (.int i)) (hb : av kvs b = some (.int j)) (vi : Val i) (vj : Val j) : (RV.op x s a b).gives kvs = some (x, .int (K21.valOf s i j)) := by
 dsimp only [RV.gives]
 rw [ha, hb]
 exact if_pos ⟨vi.1, vj.1, vi.2, vj.2⟩
theorem zmw {NS : List Str} {F : F2.Fd} {f : Fm} {kvs : List (Key × V)} {rv : RV} (c : Cpl NS F f kvs) (h : zqx NS rv) (hn : ∀ a, rv ≠ .out a) : ∃ x i, Val i /\ x ∈ NS /\ rv.gives f.kvs = some (x, .int i) /\ rv.gives kvs = some (x, .int i) := by
 cases rv with
 | out a => exact absurd rfl (hn a)
 | back a => exact h.elim
 | copy x a =>
   obtain ⟨i, hi, h1, h2⟩ := zhj c h.2
   exact ⟨x, i, hi, h.1, by show (av f.kvs a).map _ = _; rw [h1]; rfl, by show (av kvs a).map _ = _; rw [h2]; rfl⟩
 | op x s a b =>
   obtain ⟨i, hi, h1, h2⟩ := zhj c h.2.2.1
   obtain ⟨j, hj, h3, h4⟩ := zhj c h.2.2.2
   exact ⟨x, _, K21.val_bound s hi.1 hj.1 hi.2 hj.2, h.1, zn7 h1 h3 hi hj, zn7 h2 h4 hi hj⟩
theorem Cpl.put {NS : List Str} {F : F2.Fd} {f g : Fm} {kvs : List (Key × V)} {x : Str} {i : Int} (c : Cpl NS F f kvs) (hi : Val i) (hg : g.kvs = zbu f.kvs (Sum.inr x : Key) (.int i)) : Cpl NS F g (zbu kvs (Sum.inr x : Key) (.int i)) := λ n hn => by
 obtain ⟨h1, j, hj, h2, h3⟩ := c n hn
 refine ⟨h1, ?_⟩
 rw [hg, zcq, zcq]
 by_cases z : (Sum.inr n : Key) = Sum.inr x
 . exact ⟨i, hi, if_pos z, if_pos z⟩
 . exact ⟨j, hj, by rw [if_neg z]; exact h2, by rw [if_neg z]; exact h3⟩
theorem zqp {kvs : List (Key × V)} {k : Key} {v : V} {kv : Key × V} (h : kv ∈ zbu kvs k v) : kv = (k, v) \/ (kv ∈ kvs /\ kv.1 ≠ k) := by
 unfold zbu at h
 split at h
 . obtain ⟨u, hu, e⟩ := List.mem_map.mp h
   by_cases z : u.1 = k
   . rw [if_pos z] at e
     exact .inl (by rw [<- e, z])
   . rw [if_neg z] at e
     subst e
     exact .inr ⟨hu, z⟩
 . rename_i hn
   rcases List.mem_append.mp h with h | h
   . refine .inr ⟨h, λ z => hn ?_⟩
     rw [List.any_eq_true]
     exact ⟨kv, h, decide_eq_true z⟩
   . exact .inl (List.mem_singleton.mp h)
theorem zqt.put {F : F2.Fd} {f g : Fm} {kvs : List (Key × V)} {x : Str} {i : Int} (c : zqt F f kvs) (hx : x ∈ F2.nms F) (hg : g.kvs = zbu f.kvs (Sum.inr x : Key) (.int i)) : zqt F g (zbu kvs (Sum.inr x : Key) (.int i)) := λ kv hkv => by
 rcases zqp hkv with rfl | ⟨h, hk⟩
 . exact ⟨x, i, rfl, hx, by rw [hg, zcq, if_pos rfl], by rw [zcq, if_pos rfl]⟩
 . obtain ⟨n, j, rfl, h1, h2, h3⟩ := c kv h
   have z : ¬ (Sum.inr n : Key) = Sum.inr x := hk
   exact ⟨n, j, rfl, h1, by rw [hg, zcq, if_neg z]; exact h2, by rw [zcq, if_neg z]; exact h3⟩
def ziu (K : W.Frag) (t : Adr) : Sp := λ vs H Q _ => ∃ (H0 Hb : Hp) (w : Wr) (f : Fm) (fns : List F2.Fd) (F : F2.Fd) (d : Addr) (kvs : List (Key × V)) (ra : Addr) (NS : List Str) (rvs : List RV) (a : V), vs = [.ref w.a, .str f.fn, .ref ra, .ref d] /\ Stand K t H0 Hb H w f [] fns F d kvs /\ f.row = 0 /\ Cpl NS F f kvs /\ zqt F f kvs /\
 SqL K H0 ra (F.rs.map λ r => V.ref r.r) /\ Straight K H0 F NS rvs a /\ f.kvs.length <= 1000 /\ kvs.length <= 1000 /\ ∀ H', Q (.bl true) H'
def ze8 (d : List (Key × V)) (v : V) : List (Key × V) := match v with
 | .str s => zbu d (Sum.inr s : Key) (.int 0)
 | _ => d
def znu (rvs : List RV) (ps : List Str) (vals : List V) : List (Key × V) := (ps.zip vals).foldl (λ d p => zbu d (Sum.inr p.1 : Key) p.2) (rvs.foldl (λ d rv => (zax rv).foldl ze8 d) [])
def AtV (v : V) : Prop := (∃ i, v = .int i) \/ ∃ s, v = .str s
def RvV (rv : RV) : Prop := ∀ v ∈ zax rv, AtV v
def zkf (K : W.Frag) : Sp := λ vs H Q _ => ∃ (pa aa ra : Addr) (ps : List Str) (vals : List V) (rs : List Addr) (rvs : List RV), vs = [.ref pa, .ref aa, .ref ra] /\ SqL K H pa (ps.map V.str) /\ SqL K H aa vals /\ SqL K H ra (rs.map V.ref) /\ rs.length = rvs.length /\ (∀ (i : Nat) r rv, rs[i]? = some r -> rvs[i]? = some rv -> SqT K H r rv.items /\ RvV rv) /\ rs.length <= 100 /\ ps.length <= 100 /\
 ∀ d H', H d = none -> zak H H' -> H' d = some (.dK (znu rvs ps vals)) -> Q (.ref d) H'
def Let (cs : List Nat) : Prop := ∀ c ∈ cs, 97 <= c /\ c <= 122
structure NmsOk (ns : List Str) : Prop where
 nd : ns.Nodup
 ok : ∀ n ∈ ns, ∃ cs, n = tx cs /\ Let cs /\ 0 < cs.length /\ cs.length <= 9
def zj2 (K : W.Frag) : Sp := λ vs H Q _ => ∃ (c : Int) (m : Nat), vs = [.int c, .int m] /\ m <= 8 /\ ∀ l H' ns, H l = none -> zak H H' -> H' l = some (.lst (ns.map V.str)) -> ns.length = m -> NmsOk ns -> Q (.ref l) H'
def sp_law (K : W.Frag) : Sp := λ vs H Q _ => ∃ (a : Addr) (ns : List Int), vs = [.ref a] /\ SqL K H a (ns.map V.int) /\ ns.length <= 63 /\ ∀ H', Q (.bl true) H'
theorem zbs {n : Nat} (h : n < 1000000) : n < sizeLine := by
 have : (1000000 : Nat) < sizeLine := by decide
 omega
theorem put1 (f : Str) (v : V) : (zhb f v []).length < 1000 := by show 1 < 1000; decide
theorem put2 (f g : Str) (v u : V) : (zhb g u (zhb f v [])).length < 1000 := by
 have := zd0 g u (zhb f v [])
 have := zd0 f v []
 simp at *
 omega
theorem zm3 (f : Str) (v : V) (l : List (Str × V)) (n : Nat) (h : l.length <= n) : (zhb f v l).length <= n + 1 := Nat.le_trans (zd0 f v l) (by omega)
theorem zto (ss : List Str) : (ss.map V.str).all zjw = true := by
 rw [List.all_eq_true]
 intro v hv
 obtain ⟨s, _, rfl⟩ := List.mem_map.mp hv
 rfl
theorem zt6 {n : Str} {ss : List Str} (h : n ∈ ss) : (if true = true then !inV (.str n) (ss.map V.str) else inV (.str n) (ss.map V.str)) = false := by
 have : inV (.str n) (ss.map V.str) = true := by
   unfold inV
   rw [List.any_eq_true]
   exact ⟨.str n, List.mem_map.mpr ⟨n, h, rfl⟩, by show (n == n) = true; simp⟩
 rw [this]
 rfl
theorem zvr {l : List Nat} {j r : Nat} (h : l[j]? = some r) : atI (K13.natsV l) (j : Int) = some (.int r) := zen (by unfold K13.natsV; rw [List.getElem?_map, h]; rfl)
theorem zrq (fs : List Fm) (f : Fm) : atI ((fs ++ [f]).map λ f => V.ref f.a) (-1) = some (.ref f.a) := by
 rw [List.map_append]
 exact zn1 _ _
theorem zqm (n : Int) : zyi n 3 := by unfold zyi; decide
theorem zq1 (xs : List V) : zew xs (some 1) none = xs.drop 1 := by
 unfold zew HT.sIx
 simp only
 rw [if_neg (by decide)]
 by_cases h : 1 <= xs.length
 . rw [show min (1 : Int).toNat xs.length = 1 by omega]
   rw [List.take_of_length_le (by rw [List.length_drop]; omega)]
 . rw [show min (1 : Int).toNat xs.length = xs.length by omega]
   rw [List.drop_eq_nil_of_le (Nat.le_refl _), List.drop_eq_nil_of_le (by omega)]
   simp
theorem zvs {z : Int} (h0 : 0 <= z) (h1 : z < 9) : ∃ g, atI ("+-*/<=&|^" : Str).cps.toList z = some g /\ (⟨#[g]⟩ : Str) ∈ sgs := by
 have hl : ("+-*/<=&|^" : Str).cps.toList.length = 9 := by decide +kernel
 obtain ⟨g, hg, hm⟩ := zio (xs := ("+-*/<=&|^" : Str).cps.toList) h0 (by rw [hl]; exact h1)
 have key : ∀ g ∈ ("+-*/<=&|^" : Str).cps.toList, (⟨#[g]⟩ : Str) ∈ sgs := by decide +kernel
 exact ⟨g, hg, key g hm⟩
theorem ztd {H : Hp} {d : Addr} {kvs : List (Key × V)} {o : Obj} {n : Str} {v : V} (h : H d = some (.frz o (.dK kvs))) (hv : zc2 kvs (Sum.inr n : Key) = some v) : zj9 H d (.str n) (some v) := by
 have : zj9 H d (kV (Sum.inr n : Key)) (zc2 kvs (Sum.inr n : Key)) := .inl ⟨kvs, Sum.inr n, .inr ⟨o, h⟩, rfl, rfl⟩
 rw [hv] at this
 exact this
theorem zpl {fn : Str} {k : Int} (h : PyData.strOk fn = true) : Lay 2 (.list [.tuple [.str fn, .int k]]) := Lay.list λ d hd => by
 rw [List.mem_singleton.mp hd]
 refine Lay.tuple λ e he => ?_
 simp only [List.mem_cons, List.not_mem_nil, or_false] at he
 rcases he with rfl | rfl
 . exact Lay.str h
 . exact Lay.int _
theorem zke {H : Hp} {l tp : Addr} {fn : Str} {k : Int} (h1 : H l = some (.lst [.ref tp])) (h2 : H tp = some (.tup [.str fn, .int k])) : zev K H (.list [.tuple [.str fn, .int k]]) (.ref l) := by
 unfold zev
 refine ⟨l, _, rfl, SqL.of h1, ?_⟩
 unfold zb6
 refine ⟨_, _, rfl, ?_, by unfold zb6; rfl⟩
 unfold zev
 refine ⟨tp, _, rfl, SqT.of h2, ?_⟩
 unfold zb6
 refine ⟨_, _, rfl, by unfold zev; rfl, ?_⟩
 unfold zb6
 exact ⟨_, _, rfl, by unfold zev; rfl, by unfold zb6; rfl⟩
theorem Stand.grow {H0 Hb H H' : Hp} {w : Wr} {f : Fm} {sent : List V} {fns : List F2.Fd} {F : F2.Fd} {d : Addr} {kvs : List (Key × V)} (S : Stand K t H0 Hb H w f sent fns F d kvs) (s : zak H H') : Stand K t H0 (gr Hb H H') H' w f sent fns F d kvs :=
 ⟨S.wa.grow s, S.fl, S.s0.trans (zb3 S.wa.b), S.d0, zb3 S.wa.b _ _ S.db, S.mem, S.nm, S.ok⟩
theorem zn5 {H : Hp} : ∀ zs : List Int, zb6 K H (zs.map PyData.int) (zs.map V.int)
 | [] => by unfold zb6; rfl
 | z :: zs => by
   show zb6 K H (PyData.int z :: zs.map PyData.int) (V.int z :: zs.map V.int)
   unfold zb6
   exact ⟨_, _, rfl, by unfold zev; rfl, zn5 zs⟩
theorem zir {H : Hp} {l : Addr} {zs : List Int} (h : SqL K H l (zs.map V.int)) : zev K H (.list (zs.map PyData.int)) (.ref l) := by
 unfold zev
 exact ⟨l, _, rfl, h, zn5 zs⟩
theorem zn6 (zs : List Int) : Lay 1 (.list (zs.map PyData.int)) := Lay.list λ d hd => by
 obtain ⟨z, _, rfl⟩ := List.mem_map.mp hd
 exact Lay.int z
theorem zso (d : List (Key × V)) (v : V) : (ze8 d v).length <= d.length + 1 := by
 unfold ze8
 split
 . exact za2 _ _ _
 . omega
theorem zfa : ∀ (vs : List V) (d : List (Key × V)), (vs.foldl ze8 d).length <= d.length + vs.length
 | [], d => by simp
 | v :: vs, d => by
   rw [List.foldl_cons, List.length_cons]
   have h1 := zfa vs (ze8 d v)
   have h2 := zso d v
   omega
theorem zfz (rv : RV) : (zax rv).length <= 3 := by cases rv <;> simp [zax]
theorem ziq : ∀ (rvs : List RV) (d : List (Key × V)), (rvs.foldl (λ d rv => (zax rv).foldl ze8 d) d).length <= d.length + 3 * rvs.length
 | [], d => by simp
 | rv :: rvs, d => by
   rw [List.foldl_cons, List.length_cons]
   have h1 := ziq rvs ((zax rv).foldl ze8 d)
   have h2 := zfa (zax rv) d
   have h3 := zfz rv
   omega
theorem zrc (n j : Int) (h : 0 < j /\ j < 1073741824) : zyi n j := h
def zj5 : List Str := ["fn", "in", "new", "get", "put", "call", "out", "if", "while", "else", "end", "back"]
def WN : List (List Nat) := zj5.map λ w => w.cps.toList
theorem inW (l : List Nat) : inV (.str (tx l)) (zj5.map V.str) = decide (l ∈ WN) := by
 rw [Bool.eq_iff_iff, decide_eq_true_eq]
 unfold inV WN
 rw [List.any_eq_true]
 constructor
 . rintro ⟨v, hv, e⟩
   obtain ⟨w, hw, rfl⟩ := List.mem_map.mp hv
   have e : (tx l == w) = true \/ (w == tx l) = true := by first | exact .inl e | exact .inr e
   have : w = tx l := e.elim (λ z => (eq_of_beq z).symm) eq_of_beq
   exact List.mem_map.mpr ⟨w, hw, by rw [this, zhk]⟩
 . intro h
   obtain ⟨w, hw, e⟩ := List.mem_map.mp h
   have : tx l = w := K14.str_ext (by rw [zhk, e])
   refine ⟨.str w, List.mem_map.mpr ⟨w, hw, rfl⟩, ?_⟩
   rw [this]
   show (w == w) = true
   simp
theorem zly {F : F2.Fd} (P : Str -> Prop) (hP : ∀ n, P n -> n ∈ F2.nms F) : ∀ (vs : List V) (d : List (Key × V)), (∀ s, V.str s ∈ vs -> P s) -> (∀ kv ∈ d, ∃ n, kv = ((Sum.inr n : Key), V.int 0) /\ P n /\ zc2 d (Sum.inr n : Key) = some (.int 0)) -> (∀ kv ∈ vs.foldl ze8 d, ∃ n, kv = ((Sum.inr n : Key), V.int 0) /\ P n /\ zc2 (vs.foldl ze8 d) (Sum.inr n : Key) = some (.int 0)) /\ ∀ n, (V.str n ∈ vs \/ zc2 d (Sum.inr n : Key) = some (.int 0)) -> zc2 (vs.foldl ze8 d) (Sum.inr n : Key) = some (.int 0)
 | [], d, _, h2 => ⟨h2, λ n h => h.elim (λ z => by cases z) id⟩
 | v :: vs, d, h1, h2 => by
   rw [List.foldl_cons]
   have step : (∀ kv ∈ ze8 d v, ∃ n, kv = ((Sum.inr n : Key), V.int 0) /\ P n /\ zc2 (ze8 d v) (Sum.inr n : Key) = some (.int 0)) /\ ∀ n, (V.str n = v \/ zc2 d (Sum.inr n : Key) = some (.int 0)) -> zc2 (ze8 d v) (Sum.inr n : Key) = some (.int 0) := by
     cases v with
     | str s =>
       show (∀ kv ∈ zbu d (Sum.inr s : Key) (.int 0), ∃ n, kv = ((Sum.inr n : Key), V.int 0) /\ P n /\ zc2 (zbu d (Sum.inr s : Key) (.int 0)) (Sum.inr n : Key) = some (.int 0)) /\ ∀ n, (V.str n = .str s \/ zc2 d (Sum.inr n : Key) = some (.int 0)) -> zc2 (zbu d (Sum.inr s : Key) (.int 0)) (Sum.inr n : Key) = some (.int 0)
       refine ⟨λ kv hkv => ?_, λ n hn => ?_⟩
       . rcases zqp hkv with rfl | ⟨h, hk⟩
         . exact ⟨s, rfl, h1 s (by simp), by rw [zcq, if_pos rfl]⟩
         . obtain ⟨n, rfl, h3, h4⟩ := h2 kv h
           exact ⟨n, rfl, h3, by rw [zcq, if_neg hk]; exact h4⟩
       . rw [zcq]
         by_cases z : (Sum.inr n : Key) = Sum.inr s
         . rw [if_pos z]
         . rw [if_neg z]
           rcases hn with hn | hn
           . cases hn; exact absurd rfl z
           . exact hn
     | _ => exact ⟨h2, λ n hn => hn.elim (λ z => by cases z) id⟩
   have := zly P hP vs (ze8 d v) (λ s hs => h1 s (List.mem_cons_of_mem _ hs)) step.1
   refine ⟨this.1, λ n hn => this.2 n ?_⟩
   rcases hn with hn | hn
   . rcases List.mem_cons.mp hn with hn | hn
     . exact .inr (step.2 n (.inl hn))
     . exact .inl hn
   . exact .inr (step.2 n (.inr hn))
theorem zli {F : F2.Fd} (P : Str -> Prop) (hP : ∀ n, P n -> n ∈ F2.nms F) : ∀ (rvs : List RV) (d : List (Key × V)), (∀ rv ∈ rvs, ∀ s, V.str s ∈ zax rv -> P s) -> (∀ kv ∈ d, ∃ n, kv = ((Sum.inr n : Key), V.int 0) /\ P n /\ zc2 d (Sum.inr n : Key) = some (.int 0)) -> (∀ kv ∈ rvs.foldl (λ d rv => (zax rv).foldl ze8 d) d, ∃ n, kv = ((Sum.inr n : Key), V.int 0) /\ P n /\ zc2 (rvs.foldl (λ d rv => (zax rv).foldl ze8 d) d) (Sum.inr n : Key) = some (.int 0)) /\ ∀ n, ((∃ rv ∈ rvs, V.str n ∈ zax rv) \/ zc2 d (Sum.inr n : Key) = some (.int 0)) -> zc2 (rvs.foldl (λ d rv => (zax rv).foldl ze8 d) d) (Sum.inr n : Key) = some (.int 0)
 | [], d, _, h2 => ⟨h2, λ n h => h.elim (λ ⟨_, z, _⟩ => by cases z) id⟩
 | rv :: rvs, d, h1, h2 => by
   rw [List.foldl_cons]
   have s := zly P hP (zax rv) d (h1 rv List.mem_cons_self) h2
   have := zli P hP rvs _ (λ r hr => h1 r (List.mem_cons_of_mem _ hr)) s.1
   refine ⟨this.1, λ n hn => this.2 n ?_⟩
   rcases hn with ⟨r, hr, hn⟩ | hn
   . rcases List.mem_cons.mp hr with rfl | hr
     . exact .inr (s.2 n (.inl hn))
     . exact .inl ⟨r, hr, hn⟩
   . exact .inr (s.2 n (.inr hn))
theorem zkn {ps : List Str} {vals : List V} {p : Str × V} (h : p ∈ ps.zip vals) : p.1 ∈ ps /\ p.2 ∈ vals := by
 obtain ⟨a, b⟩ := p
 exact ⟨(List.of_mem_zip h).1, (List.of_mem_zip h).2⟩
theorem zmt {F : F2.Fd} : ∀ (l : List (Str × V)) (f : Fm) (kvs : List (Key × V)), (∀ p ∈ l, p.1 ∈ F2.nms F /\ ∃ i, p.2 = .int i) -> zqt F f kvs -> ∀ g : Fm, g.kvs = l.foldl (λ d p => zbu d (Sum.inr p.1 : Key) p.2) f.kvs -> zqt F g (l.foldl (λ d p => zbu d (Sum.inr p.1 : Key) p.2) kvs)
 | [], f, kvs, _, h, g, e => λ kv hkv => by
   obtain ⟨n, i, h1, h2, h3, h4⟩ := h kv hkv
   exact ⟨n, i, h1, h2, by rw [e]; exact h3, h4⟩
 | p :: l, f, kvs, hl, h, g, e => by
   obtain ⟨hp, i, hi⟩ := hl p List.mem_cons_self
   rw [List.foldl_cons] at e ⊢
   refine zmt l { f with kvs := zbu f.kvs (Sum.inr p.1 : Key) p.2 } _ (λ q hq => hl q (List.mem_cons_of_mem _ hq)) ?_ g e
   rw [hi]
   exact h.put hp rfl
theorem ztb {F : F2.Fd} {f : Fm} {rvs : List RV} {vals : List V} (hf : f.kvs = znw F vals) (hF : ∀ x, x ∈ F2.nms F <-> x ∈ F.ps \/ x ∈ ze6 rvs) (hv : ∀ v ∈ vals, ∃ i, v = .int i /\ Val i) : Cpl (ze6 rvs) F f (znu rvs F.ps vals) /\ zqt F f (znu rvs F.ps vals) := by
 have hin : ∀ rv ∈ rvs, ∀ s, V.str s ∈ zax rv -> s ∈ ze6 rvs := λ rv hrv s hs => by
   unfold ze6
   rw [List.mem_flatMap]
   exact ⟨rv, hrv, zk2 hs⟩
 have z := zli (F := F) (λ s => s ∈ ze6 rvs) (λ n hn => (hF n).mpr (.inr hn)) rvs [] hin (λ kv h => by cases h)
 have base : ∀ n, n ∈ F2.nms F -> zc2 (((F2.nms F).map λ n => ((Sum.inr n : Key), V.int 0)).foldl (λ acc kv => zbu acc kv.1 kv.2) []) (Sum.inr n : Key) = some (.int 0) := λ n hn => zo0 _ _ (.inl hn)
 refine ⟨λ n hn => ⟨(hF n).mpr (.inr hn), ?_⟩, ?_⟩
 . have b1 := base n ((hF n).mpr (.inr hn))
   have b2 : zc2 (rvs.foldl (λ d rv => (zax rv).foldl ze8 d) []) (Sum.inr n : Key) = some (.int 0) := z.2 n (.inl (by
     unfold ze6 at hn
     rw [List.mem_flatMap] at hn
     obtain ⟨rv, h1, h2⟩ := hn
     unfold K12.strsOf at h2
     rw [List.mem_filterMap] at h2
     obtain ⟨v, hv1, hv2⟩ := h2
     refine ⟨rv, h1, ?_⟩
     cases v with
     | str s => cases hv2; exact hv1
     | _ => cases hv2))
   obtain ⟨v, ⟨i, rfl, hi⟩, e⟩ := zkp (λ v => ∃ i, v = V.int i /\ Val i) n (F.ps.zip vals) (.int 0) ⟨0, rfl, by unfold Val K21.wide; decide⟩ (λ p hp => hv p.2 (zkn hp).2)
   refine ⟨i, hi, ?_, ?_⟩
   . rw [hf]
     unfold znw
     rw [zko, b1]
     exact e
   . unfold znu
     rw [zko, b2]
     exact e
 . refine zmt (F.ps.zip vals) { f with kvs := ((F2.nms F).map λ n => ((Sum.inr n : Key), V.int 0)).foldl (λ acc kv => zbu acc kv.1 kv.2) [] } _ (λ p hp => ⟨(hF p.1).mpr (.inl (zkn hp).1), let ⟨i, h, _⟩ := hv p.2 (zkn hp).2; ⟨i, h⟩⟩) (λ kv hkv => ?_) f hf
   obtain ⟨n, e, h1, h2⟩ := z.1 kv hkv
   exact ⟨n, 0, e, (hF n).mpr (.inr h1), base n ((hF n).mpr (.inr h1)), h2⟩
theorem zfb {ns : List Str} {rvs : List RV} {rv : RV} {v : V} (h : zey ns v) (hr : rv ∈ rvs) (hp : v ∈ zax rv) : zey (ze6 rvs) v := by
 rcases h with h | ⟨s, rfl, hs⟩
 . exact .inl h
 . exact .inr ⟨s, rfl, by unfold ze6; rw [List.mem_flatMap]; exact ⟨rv, hr, zk2 hp⟩⟩
theorem zti {ns : List Str} {rvs : List RV} {rv : RV} (h : zqx ns rv) (hr : rv ∈ rvs) : zqx (ze6 rvs) rv := by
 have nm : ∀ x, V.str x ∈ zax rv -> x ∈ ze6 rvs := λ x hx => by unfold ze6; rw [List.mem_flatMap]; exact ⟨rv, hr, zk2 hx⟩
 cases rv with
 | out a => exact zfb h hr (by simp [zax])
 | back a => exact h
 | copy x a => exact ⟨nm x (by simp [zax]), zfb h.2 hr (by simp [zax])⟩
 | op x s a b => exact ⟨nm x (by simp [zax]), h.2.1, zfb h.2.2.1 hr (by simp [zax]), zfb h.2.2.2 hr (by simp [zax])⟩
theorem zit {ns : List Str} {v : V} (h : zey ns v) (hn : ∀ s ∈ ns, K12.Nm s) : K12.Atom v := by
 rcases h with ⟨i, rfl, _⟩ | ⟨s, rfl, hs⟩
 . exact .inr ⟨i, rfl⟩
 . exact .inl ⟨s, rfl, hn s hs⟩
theorem zzc : ∀ s ∈ sgs, PyData.strOk s = true := by decide +kernel
theorem zyn {ns : List Str} {rv : RV} (h : zqx ns rv) (hn : ∀ s ∈ ns, K12.Nm s) : rv.Ok := by
 cases rv with
 | out a => exact ⟨λ v hv => by rw [List.mem_singleton.mp hv]; exact zit h hn, λ _ _ _ _ z => by cases z⟩
 | back a => exact h.elim
 | copy x a =>
   refine ⟨λ v hv => ?_, λ _ _ _ _ z => by cases z⟩
   simp only [zax, List.mem_cons, List.not_mem_nil, or_false] at hv
   rcases hv with rfl | rfl
   . exact .inl ⟨x, rfl, hn x h.1⟩
   . exact zit h.2 hn
 | op x s a b =>
   refine ⟨λ v hv => ?_, λ _ _ _ _ z => by cases z; exact zzc _ h.2.1⟩
   simp only [zax, List.mem_cons, List.not_mem_nil, or_false] at hv
   rcases hv with rfl | rfl | rfl
   . exact .inl ⟨x, rfl, hn x h.1⟩
   . exact zit h.2.2.1 hn
   . exact zit h.2.2.2 hn
theorem zve {ns : List Str} {a : V} (h : zey ns a) (hn : ∀ s ∈ ns, K12.Nm s) : (RV.back a).Ok := ⟨λ v hv => by rw [List.mem_singleton.mp hv]; exact zit h hn, λ _ _ _ _ z => by cases z⟩
theorem zwt {rv : RV} (h : rv.Ok) : RvV rv := λ v hv => by
 rcases h.at_ v hv with ⟨s, rfl, _⟩ | ⟨i, rfl⟩
 . exact .inr ⟨s, rfl⟩
 . exact .inl ⟨i, rfl⟩
theorem zt5 {ns : List Str} (h : NmsOk ns) : ∀ s ∈ ns, K12.Nm s := λ s hs => by
 obtain ⟨cs, rfl, hl, h0, h9⟩ := h.ok s hs
 refine ⟨by rw [zhh]; omega, ?_⟩
 unfold PyData.strOk
 rw [Array.all_eq_true']
 intro x hx
 have hx : x ∈ cs := by
   have : x ∈ (tx cs).cps.toList := by simpa using hx
   rwa [zhk] at this
 have := hl x hx
 simp
 omega
theorem znl {K : W.Frag} {H0 : Hp} {nk : Str} {fa tr qC : Addr} {fo : V} {ps : List Str} {rs : List Addr} {rvs : List RV} {a : V} {ns : List Str} (hl : rs.length = (rvs ++ [RV.back a]).length) (h3 : ∀ (i : Nat) r rv, rs[i]? = some r -> (rvs ++ [RV.back a])[i]? = some rv -> SqT K H0 r rv.items) (ok : ∀ rv ∈ rvs, zqx ns rv) (hb : zey ns a) (sm : rvs.length <= 98) :
   Straight K H0 (fnOf nk fo fa qC tr ps rs (rvs ++ [RV.back a])) (ze6 (rvs ++ [RV.back a])) rvs a := by
 refine ⟨?_, λ k r rv h1 h2 => h3 k r.r rv (zw6 hl h1 h2) h2, λ rv hrv => zti (ok rv hrv) (List.mem_append_left _ hrv), zfb hb (rv := .back a) (List.mem_append_right _ (by simp)) (by simp [zax]), λ k hk => ?_, by omega⟩
 . show ((rrs rs (rvs ++ [RV.back a])).map (·.w)).length = _
   rw [List.length_map, zrh hl, List.length_append]
   rfl
 . have hr : (rvs ++ [RV.back a])[k]? = some rvs[k] := by rw [List.getElem?_append_left hk]; exact List.getElem?_eq_getElem hk
   refine zxk hl (by rw [List.length_append]; show k + 1 < rvs.length + 1; omega) hr λ b z => ?_
   have := ok _ (List.getElem_mem hk)
   rw [z] at this
   exact this
theorem zvw {xs : List V} {lo hi : Option Int} {v : V} (h : v ∈ zew xs lo hi) : v ∈ xs := List.mem_of_mem_drop (List.mem_of_mem_take h)
theorem zvn (xs : List V) (lo hi : Option Int) : (zew xs lo hi).length <= xs.length := by
 unfold zew
 rw [List.length_take, List.length_drop]
 omega
theorem zoi (ss : List Str) (M : Nat) (h : M <= ss.length) : zew (ss.map V.str) none (some (M : Int)) = (ss.take M).map V.str := by
 unfold zew
 rw [HT.sIx_none, show HT.sIx (ss.map V.str).length (ss.map V.str).length (some (M : Int)) = min M (ss.map V.str).length from HT.sIx_nat _ _ M, List.length_map, List.drop_zero, Nat.sub_zero, Nat.min_eq_left h, List.map_take]
theorem zqf {H : Hp} {ns : List Str} : ∀ {vs : List V}, (∀ (i : Nat) v, vs[i]? = some v -> ∃ tp rv, v = .ref tp /\ H tp = some (.tup (RV.items rv)) /\ zqx ns rv) -> ∃ (rs : List Addr) (rvs : List RV), vs = rs.map V.ref /\ rs.length = rvs.length /\ (∀ rv ∈ rvs, zqx ns rv) /\ ∀ (i : Nat) r rv, rs[i]? = some r -> rvs[i]? = some rv -> H r = some (.tup (RV.items rv))
 | [], _ => ⟨[], [], rfl, rfl, (λ rv h => by cases h), (λ i r rv h => by cases h)⟩
 | v :: vs, h => by
   obtain ⟨tp, rv, rfl, h1, h2⟩ := h 0 v rfl
   obtain ⟨rs, rvs, rfl, e, h3, h4⟩ := zqf (vs := vs) λ i u hu => h (i + 1) u (by simpa using hu)
   refine ⟨tp :: rs, rv :: rvs, rfl, by simp [e], λ y hy => ?_, λ i r y hr hy => ?_⟩
   . rcases List.mem_cons.mp hy with rfl | hy
     . exact h2
     . exact h3 y hy
   . cases i with
     | zero => cases hr; cases hy; exact h1
     | succ i => exact h4 i r y (by simpa using hr) (by simpa using hy)
theorem zvx : ∀ {vs : List V}, (∀ (i : Nat) v, vs[i]? = some v -> ∃ z, v = .int z /\ Val z) -> ∀ v ∈ vs, ∃ z, v = .int z /\ Val z := λ h v hv => by
 obtain ⟨i, hi⟩ := List.getElem?_of_mem hv
 exact h i v hi
structure Made (K : W.Frag) (G : Hp) (nl pl rl al pr : Addr) (ns : List Str) (m : Nat) (rs : List Addr) (rvs : List RV) (a : V) (vals : List V) (fns : List F2.Fd) (F : F2.Fd) : Prop where
 n8 : ns.length = 8
 nok : NmsOk ns
 m6 : m <= 6
 en : G nl = some (.lst (ns.map V.str))
 ep : G pl = some (.lst ((ns.take m).map V.str))
 er : G rl = some (.lst (rs.map V.ref))
 ea : G al = some (.lst vals)
 eg : G pr = some (.lst (fns.map λ f => V.ref f.fa))
 lr : rs.length = (rvs ++ [RV.back a]).length
 sm : rvs.length <= 63
 it : ∀ (i : Nat) r rv, rs[i]? = some r -> (rvs ++ [RV.back a])[i]? = some rv -> G r = some (.tup rv.items)
 ok : ∀ rv ∈ rvs, zqx (ns.take 6) rv
 last : zey (ns.take 6) a
 lv : vals.length <= 100
 vv : ∀ v ∈ vals, ∃ z, v = .int z /\ Val z
 ne : fns ≠ []
 two : fns.length <= 2
 fn : ∀ f ∈ fns, F2.FnAt K G f /\ Bg.HasD K G 3 (.ref f.fa) /\ ∃ xs, G f.fa = some (.tup (.str f.name :: xs))
 nd : (fns.map (·.name)).Nodup
 fl : fns[fns.length - 1]? = some F
 fs : ∃ fo fa qC tr, F = fnOf (ns.getD 6 "") fo fa qC tr (ns.take m) rs (rvs ++ [RV.back a])
theorem zsy {ns : List Str} (nd : ns.Nodup) {i j : Nat} {x y : Str} (hi : ns[i]? = some x) (hj : ns[j]? = some y) (h : i ≠ j) : x ≠ y := λ z => by
 subst z
 exact h ((List.getElem?_inj (List.getElem?_eq_some_iff.mp hi).1 nd).mp (hi.trans hj.symm))
theorem Made.add {G G' : Hp} {nl pl rl al pr pr' : Addr} {ns : List Str} {m : Nat} {rs : List Addr} {rvs : List RV} {a : V} {vals : List V} {F f : F2.Fd} (M : Made K G nl pl rl al pr ns m rs rvs a vals [F] F) (s : zak G G') (h : G' pr' = some (.lst [V.ref f.fa, V.ref F.fa])) (hf : F2.FnAt K G' f /\ Bg.HasD K G' 3 (.ref f.fa) /\ ∃ xs, G' f.fa = some (.tup (.str f.name :: xs))) (hn : f.name ≠ F.name) : Made K G' nl pl rl al pr' ns m rs rvs a vals [f, F] F where
 n8 := M.n8
 nok := M.nok
 m6 := M.m6
 en := s _ _ M.en
 ep := s _ _ M.ep
 er := s _ _ M.er
 ea := s _ _ M.ea
 eg := h
 lr := M.lr
 sm := M.sm
 it := λ i r rv h1 h2 => s _ _ (M.it i r rv h1 h2)
 ok := M.ok
 last := M.last
 lv := M.lv
 vv := M.vv
 ne := by simp
 two := by simp
 fn := λ g hg => by
   rcases List.mem_cons.mp hg with rfl | hg
   . exact hf
   . obtain ⟨h1, h2, xs, h3⟩ := M.fn g hg
     exact ⟨h1.mono s, h2.mono s, xs, s _ _ h3⟩
 nd := by simpa using hn
 fl := rfl
 fs := M.fs
theorem noop {H : Hp} {a : Addr} {o : HO} (h : H a = some o) : zak H (upd H a o) := λ b u hb => by
 by_cases z : b = a
 . subst z; rw [zab]; rw [h] at hb; exact hb
 . rw [zaf z]; exact hb
theorem zsj {H : Hp} {x dx : Addr} {o1 o2 : HO} (hx : H x = none) (hdx : H dx = none) : zak H (ers x (upd (upd H dx o1) x o2)) := λ b o hb => by
 have n1 : b ≠ x := λ z => by rw [z, hx] at hb; cases hb
 have n2 : b ≠ dx := λ z => by rw [z, hdx] at hb; cases hb
 rw [zec n1, zaf n1, zaf n2]
 exact hb
theorem zxd (a b : V) : K13.Wf ([RV.out a, RV.back b].map RV.kind) := zuh [RV.out a] b
end
end K22
namespace K22
open PySem L2 K12
section
variable {P : Program} {w : World} {K : W.Frag} {mg : Str -> Option Value} {base : Heap} {t : Adr}
theorem zlj : FnScope ["names"] ["names"] (zac zc5) := ⟨rfl, rfl, rfl, by decide +kernel, rfl, by decide +kernel, by decide +kernel⟩
theorem zh4 (T : Txt K mg t) : FnOk P w K mg base CX0 1 t.a_each_once t.d_each_once ["names"] (K12.sp_each_once K) := by
 refine T.each_once.F.ok zlj (λ vs H Q E h => ?_) (λ cdv A outer s H vs Q E hr h => ?_)
 . obtain ⟨p0, ss, rfl, hS, hl, q⟩ := h
   rfl
 . obtain ⟨p0, ss, rfl, hS, hl, q⟩ := h
   refine ⟨_, (@zad _ _ _ _ _ (@zan _ _ _ _ (zcg (zlg rfl) (by rfl) T.b_list zf7 (@zaa _ _ _ _ _ (zcg (zia rfl) (by rfl) T.b_dict zr8 (@zaa _ _ _ _ _ (zgv (N' := ["name"]) (js := [none]) (by kernel_rfl) rfl (zf0 (pv 0)) zek (λ _ _ _ _ => (zbc (i := 0) (show (["name"] : List Str).Nodup by decide +kernel) rfl (Or.inl rfl) (.inr rfl))) (λ _ _ _ _ => zge) (λ _ _ _ _ => (@zcz _ _ _ _ _ (@zaa _ _ _ _ _ (pv 0) (@zaa _ _ _ _ _ zh1 zag (by rfl)) (by rfl))))) zag (by rfl))) zag (by rfl)))) zal), ?_⟩
   refine ⟨_, rfl, p0, rfl, ⟨_, hS⟩, λ p hp => ziv (xs := ss.map V.str) (by rw [List.length_map]; omega) (λ i acc H2 => i <= ss.length /\ zak H H2 /\ H2 p = some (.lst acc) /\ ∃ ps : List Addr, acc = ps.map V.ref /\ Paired (λ a (kv : Key × V) => SqT K H2 a [kV kv.1, kv.2]) ps (tru (ss.take i))) ⟨Nat.zero_le _, zak.new hp, zab, [], rfl, .nil⟩ ?_ ?_ ?_⟩
   . rintro i acc H2 hi ⟨hi', s2, h2, ps, rfl, hps⟩
     refine ⟨h2, ?_, s2.seq hS⟩
     have := Paired.length hps
     rw [List.length_map, this]
     unfold tru
     rw [List.length_map, List.length_take]
     omega
   . rintro i x acc H2 hx ⟨hi', s2, h2, ps, rfl, hps⟩
     have hi : i < ss.length := by
       have := (List.getElem?_eq_some_iff.mp hx).1
       rw [List.length_map] at this
       exact this
     rw [List.getElem?_map] at hx
     have hx : V.str ss[i] = x := by simpa [hi] using hx
     subst hx
     refine ⟨_, rfl, (by show 2 <= sizeLine; decide), λ a ha => ?_⟩
     have hap : a ≠ p := λ z => by rw [z, h2] at ha; cases ha
     have e : (upd H2 a (.tup [V.str ss[i], V.bl true])) p = some (.lst (ps.map V.ref)) := by rw [zaf hap.symm]; exact h2
     refine ⟨e, hi, ?_, zab, ps ++ [a], by rw [List.map_append]; rfl, ?_⟩
     . exact (s2.trans (zak.new ha)).upd hp
     . have e2 : tru (ss.take (i + 1)) = tru (ss.take i) ++ [(Sum.inr ss[i], V.bl true)] := by
         unfold tru
         rw [List.take_add_one, List.map_append]
         simp [hi]
       rw [e2]
       refine Paired.snoc (Paired.mapP hps λ b kv z => zwg ((zak.new ha).tup z) e) ?_
       exact SqT.of (by rw [zaf hap]; exact zab)
   . rintro acc H2 ⟨hi', s2, h2, ps, rfl, hps⟩
     have e0 : ss.take (ss.map V.str).length = ss := by rw [List.length_map]; exact List.take_length
     rw [e0] at hps
     refine ⟨p, ps, tru ss, rfl, SqL.of h2, hps, by unfold tru; rw [List.length_map]; omega, λ d hd => ?_⟩
     rw [ztq]
     refine ⟨d, tru (onceL ss), rfl, zab, λ l hl' => ?_⟩
     rw [zth]
     exact q l _ ((s2.trans (zak.new hd)).trans (zak.new hl')) (s2.free ((zak.new hd).free hl')) zab
theorem zss : FnScope ["row"] ["row"] (zac zgf) := ⟨rfl, rfl, rfl, by decide +kernel, rfl, by decide +kernel, by decide +kernel⟩
theorem zt9 (T : Txt K mg t) : FnOk P w K mg base CX0 1 t.a_gives t.d_gives ["row"] (K12.sp_gives K) := by
 refine T.gives.F.ok zss (λ vs H Q E h => ?_) (λ cdv A outer s H vs Q E hr h => ?_)
 . obtain ⟨r, xs, g, as, rfl, hr, hrow, q⟩ := h
   rfl
 . obtain ⟨r, xs, g, as, rfl, hr, hrow, q⟩ := h
   refine ⟨_, (@zad _ _ _ _ _ (@zan _ _ _ _ (@zgh _ _ _ _ _ _ _ _ (@zap _ _ _ _ _ _ _ _ zf9 (@zao _ _ _ _ _ _ _ zaq (pv 0) zae (λ _ _ => rfl)) (zlc T.c_GIVING_KINDS) (by with_unfolding_all rfl)) (@zao _ _ _ _ _ _ _ zaq (pv 0) zae (λ _ _ => rfl)) zfo)) zal), ?_⟩
   obtain ⟨kd, h0, hc⟩ := zq0 hrow
   refine ⟨_, rfl, r, xs, _, _, rfl, rfl, hr, h0, t.a_GIVING, giving.map V.str, rfl, .inr (T.q_GIVING H), rfl, znf, _, rfl, ?_⟩
   rcases hc with ⟨x, rfl, e, h1⟩ | ⟨rfl, e⟩
   . exact zeu e ⟨_, rfl, r, xs, _, _, rfl, rfl, hr, h1, q⟩
   . exact zco (zwr e) q
theorem znn : FnScope ["row"] ["row"] (zac zdf) := ⟨rfl, rfl, rfl, by decide +kernel, rfl, by decide +kernel, by decide +kernel⟩
theorem zm6 (T : Txt K mg t) : FnOk P w K mg base CX0 1 t.a_atoms_of t.d_atoms_of ["row"] (K12.sp_atoms_of K) := by
 refine T.atoms_of.F.ok znn (λ vs H Q E h => ?_) (λ cdv A outer s H vs Q E hr h => ?_)
 . obtain ⟨r, xs, g, as, rfl, hr, hrow, hl, q⟩ := h
   rfl
 . obtain ⟨r, xs, g, as, rfl, hr, hrow, hl, q⟩ := h
   refine ⟨_, (@zad _ _ _ _ _ (@zbk _ _ _ _ _ _ _ _ (@zap _ _ _ _ _ _ _ _ zcc (@zao _ _ _ _ _ _ _ zaq (pv 0) zae (λ _ _ => rfl)) zav (zar _)) (@zah _ _ _ (@zan _ _ _ _ (zcg zdh (by rfl) T.b_list zf7 (@zaa _ _ _ _ _ (@zao _ _ _ _ _ _ _ zaq (pv 0) zae (λ _ _ => rfl)) zag (by rfl))))) zal) (@zah _ _ _ (@zan _ _ _ _ (zgv (N' := ["place", "row"]) (js := [none, some 0]) (by kernel_rfl) rfl (zrl (@zao _ _ _ _ _ _ _ zx8 (zlc T.c_ATOM_PLACES) (@zao _ _ _ _ _ _ _ zaq (pv 0) zae (λ _ _ => rfl)) (λ _ _ => rfl))) zek (λ _ _ _ _ => (zbc (i := 0) (show (["place", "row"] : List Str).Nodup by decide +kernel) rfl (Or.inl rfl) (.inr rfl))) (λ _ _ _ _ => zge) (λ _ _ _ _ => (@zao _ _ _ _ _ _ _ (show IxR _ (zyd K) from zaq) (pv 1) (pv 0) (λ _ _ => rfl))))))), ?_⟩
   obtain ⟨kd, h0, hc⟩ := zpp hrow
   refine ⟨_, rfl, r, xs, _, _, rfl, rfl, hr, h0, rfl, _, rfl, ?_⟩
   rcases hc with ⟨rfl, p, h3, hp⟩ | ⟨hne, pl, hk, hpl, hat⟩
   . exact zeu (decide_eq_true rfl) ⟨_, rfl, r, xs, _, _, rfl, rfl, hr, h3, p, as, rfl, .inr hp, λ l hl => q l _ (zak.new hl) hl zab⟩
   . refine zco (λ h => hne (V.str.inj (za7 h))) ?_
     refine ⟨_, rfl, r, xs, _, _, rfl, rfl, hr, h0, t.a_TAB, tabl, _, _, rfl, rfl, T.q_TAB, hk, λ a ha => ?_⟩
     refine ⟨a, rfl, ⟨_, ha⟩, λ p hp => zsq (xs := pl.map V.int) (by rw [List.length_map]; omega) (λ i acc H2 => acc = as.take i /\ H2 = upd H p (.lst acc)) ⟨rfl, rfl⟩ ?_ ?_ ?_⟩
     . rintro i acc H2 hi ⟨rfl, rfl⟩
       exact ⟨zab, by rw [List.length_take]; omega, (zak.new hp).tup ha⟩
     . rintro i x acc H2 hx ⟨rfl, rfl⟩
       have hi : i < as.length := by
         have := (List.getElem?_eq_some_iff.mp hx).1
         rw [List.length_map] at this
         omega
       obtain ⟨p1, hp1, hp2⟩ := hat i as[i] (by simp [hi])
       rw [List.getElem?_map, hp1] at hx
       have hx : V.int p1 = x := by simpa using hx
       subst hx
       refine ⟨_, rfl, _, rfl, r, xs, _, _, rfl, rfl, (zak.new hp).tup hr, hp2, zab, ?_, zjo⟩
       rw [List.take_add_one]
       simp [hi]
     . rintro acc H2 ⟨rfl, rfl⟩
       have e : (as.take (pl.map V.int).length) = as := by rw [List.length_map, hpl]; exact List.take_length
       exact q p _ (zak.new hp) hp (by rw [zab, e])
theorem zs3 : FnScope ["row"] ["row"] (zac zf4) := ⟨rfl, rfl, rfl, by decide +kernel, rfl, by decide +kernel, by decide +kernel⟩
theorem zte (T : Txt K mg t) : FnOk P w K mg base CX0 2 t.a_reads t.d_reads ["row"] (K12.sp_reads K) := by
 have G_each_once : FnOk P w K mg base CX0 1 t.a_each_once t.d_each_once ["names"] (K12.sp_each_once K) := zh4 T
 have G_atoms_of : FnOk P w K mg base CX0 1 t.a_atoms_of t.d_atoms_of ["row"] (K12.sp_atoms_of K) := zm6 T
 refine T.reads.F.ok zs3 (λ vs H Q E h => ?_) (λ cdv A outer s H vs Q E hr h => ?_)
 . obtain ⟨r, xs, g, as, rfl, hrw, hrow, hl, hat, q⟩ := h
   rfl
 . obtain ⟨r, xs, g, as, rfl, hrw, hrow, hl, hat, q⟩ := h
   refine ⟨_, (@zad _ _ _ _ _ (@zan _ _ _ _ (zcr T.each_once G_each_once (hr.mono (by decide)) (@zaa _ _ _ _ _ (zgv (N' := ["atom"]) (js := [none]) (by kernel_rfl) rfl (zf0 (zcr T.atoms_of G_atoms_of (hr.mono (by decide)) (@zaa _ _ _ _ _ (pv 0) zag (by rfl)))) zek (λ _ _ _ _ => (zbc (i := 0) (show (["atom"] : List Str).Nodup by decide +kernel) rfl (Or.inl rfl) (.inr rfl))) (λ _ _ _ _ => (zvy (zfs (zbz (show zjn _ (.builtin "isinstance") (rIsi K) from zcu) (by rfl) T.b_isinstance zb4 (@zaa _ _ _ _ _ (pv 0) (@zaa _ _ _ _ _ (zff (v := V.ty "str") rfl T.b_str zop rfl) zag (by rfl)) (by rfl)))))) (λ _ _ _ _ => (pv 0))) zag (by rfl)))) zal), ?_⟩
   refine ⟨_, rfl, r, xs, g, as, rfl, hrw, hrow, hl, λ l0 H1 s1 n1 e1 => ?_⟩
   refine ⟨l0, rfl, ⟨_, SqL.of e1⟩, λ p hp => ziv (xs := as) (by omega) (λ i acc H2 => acc = (strsOf (as.take i)).map V.str /\ H2 = upd H1 p (.lst acc)) ⟨rfl, rfl⟩ ?_ ?_ ?_⟩
   . rintro i acc H2 hi ⟨rfl, rfl⟩
     refine ⟨zab, ?_, (zak.new hp).seq (SqL.of e1)⟩
     have := strsOf_len (as.take i)
     rw [List.length_map]
     rw [List.length_take] at this
     omega
   . rintro i x acc H2 hx ⟨rfl, rfl⟩
     have hi : i < as.length := (List.getElem?_eq_some_iff.mp hx).1
     have e2 : strsOf (as.take (i + 1)) = strsOf (as.take i) ++ strsOf [x] := by
       rw [List.take_add_one, hx, zk3]
       rfl
     rcases hat x (List.mem_of_getElem? hx) with ⟨s, rfl, hn⟩ | ⟨z, rfl⟩
     . refine ⟨_, rfl, _, _, _, true, rfl, .str _, rfl, _, rfl, ?_⟩
       refine ⟨_, rfl, zab, ?_, zjo⟩
       rw [e2, List.map_append]
       rfl
     . refine ⟨_, rfl, _, _, _, false, rfl, .int _, rfl, _, rfl, ?_⟩
       refine ⟨?_, ?_⟩
       . rw [e2, zp5, List.append_nil]
       . rfl
   . rintro acc H2 ⟨rfl, rfl⟩
     rw [List.take_length]
     have hle := strsOf_len as
     exact ⟨p, strsOf as, rfl, SqL.of zab, by omega, λ l H3 s3 n3 e3 => q l H3 ((s1.trans (zak.new hp)).trans s3) (s1.free ((zak.new hp).free n3)) e3⟩
theorem zfi : FnScope ["function", "found", "row", "given"] ["function"] (zac zdk) := ⟨rfl, rfl, rfl, by decide +kernel, rfl, by decide +kernel, by decide +kernel⟩
theorem znd (T : Txt K mg t) : FnOk P w K mg base CX0 3 t.a_names_of t.d_names_of ["function"] (K12.sp_names_of K) := by
 have G_each_once : FnOk P w K mg base CX0 1 t.a_each_once t.d_each_once ["names"] (K12.sp_each_once K) := zh4 T
 have G_gives : FnOk P w K mg base CX0 1 t.a_gives t.d_gives ["row"] (K12.sp_gives K) := zt9 T
 have G_reads : FnOk P w K mg base CX0 2 t.a_reads t.d_reads ["row"] (K12.sp_reads K) := zte T
 refine T.names_of.F.ok zfi (λ vs H Q E h => ?_) (λ cdv A outer s H vs Q E hr h => ?_)
 . obtain ⟨f, ps, ds, rfl, hf, q⟩ := h
   rfl
 . obtain ⟨f, ps, ds, rfl, hf, q⟩ := h
   refine ⟨_, (@zad _ _ _ _ _ (@zba _ _ 1 _ _ _ _ zfi.nd rfl (Or.inl rfl) (zcg zdh (by rfl) T.b_list zf7 (@zaa _ _ _ _ _ (@zao _ _ _ _ _ _ _ zaq (pv 0) zae (λ _ _ => rfl)) zag (by rfl))) (by rfl) (by first | exact .inl rfl | exact .inr rfl | assumption)) (@zad _ _ _ _ _ (zd5 PassesOwn.never rfl (zrl (@zao _ _ _ _ _ _ _ zaq (pv 0) zae (λ _ _ => rfl))) (zbc (i := 2) zfi.nd rfl (Or.inl rfl)) (@zad _ _ _ _ _ (@zba _ _ 3 _ _ _ _ zfi.nd rfl (Or.inl rfl) (zcr T.gives G_gives (hr.mono (by decide)) (@zaa _ _ _ _ _ (pv 2) zag (by rfl))) (by rfl) (by first | exact .inl rfl | exact .inr rfl | assumption)) (@zad _ _ _ _ _ (@zbk _ _ _ _ _ _ _ _ (zmx (zqb (pv 3))) (@zah _ _ _ (@zbt _ _ _ _ (zgo PySem.F.plainAttrs_list PySem.F.slot_list_append PySem.F.type_list_append zcj (pv 1) (@zaa _ _ _ _ _ (pv 3) zag (by rfl))) (by rfl))) zal) (@zah _ _ _ (@zbt _ _ _ _ (zgo PySem.F.plainAttrs_list PySem.F.slot_list_extend PySem.F.type_list_extend zmd (pv 1) (@zaa _ _ _ _ _ (zcr T.reads G_reads (hr.mono (by decide)) (@zaa _ _ _ _ _ (pv 2) zag (by rfl))) zag (by rfl))) (by rfl)))))) (@zah _ _ _ (@zan _ _ _ _ (zcr T.each_once G_each_once (hr.mono (by decide)) (@zaa _ _ _ _ _ (pv 1) zag (by rfl))))))), ?_⟩
   obtain ⟨n, b, pp, rr, hF, hP, hR⟩ := hf.fn
   refine ⟨_, rfl, f, _, _, _, rfl, rfl, hF, rfl, pp, _, rfl, .inr hP, λ l hl => ?_⟩
   refine ⟨_, rfl, f, _, _, _, rfl, rfl, (zak.new hl).tup hF, rfl, ?_⟩
   refine ⟨rr, rfl, ⟨_, (zak.new hl).tup hR⟩, zu1 (xs := ds.map λ d => V.ref d.r) (λ i σ H2 => zak H H2 /\ ∃ v1 v2 fs, σ = [some (.ref f), some (.ref l), v1, v2] /\ H2 l = some (.lst (List.map V.str fs)) /\ onceL fs = onceL (ps ++ (ds.take i).flatMap rowStrs) /\ fs.length <= 100 + 11 * i) ⟨zak.new hl, _, _, ps, rfl, zab, by simp, by have := hf.pl; omega⟩ ?_ ?_ ?_⟩
   . rintro i σ H2 hi ⟨s2, _⟩
     exact s2.tup hR
   . rintro i x σ H2 hx ⟨s2, v1, v2, fs, rfl, h2, ho, hlen⟩
     have hi : i < ds.length := by
       have := (List.getElem?_eq_some_iff.mp hx).1
       rw [List.length_map] at this
       exact this
     rw [List.getElem?_map] at hx
     have hx : V.ref ds[i].r = x := by simpa [hi] using hx
     subst hx
     have hd := hf.rows ds[i] (List.getElem_mem hi)
     have hds := hf.dl
     have ef : (ds.take (i + 1)).flatMap rowStrs = (ds.take i).flatMap rowStrs ++ rowStrs ds[i] := by
       rw [List.take_add_one, List.flatMap_append]
       simp [hi]
     have hol := onceL_len (strsOf ds[i].as)
     have hsl := strsOf_len ds[i].as
     have hal := hd.len
     obtain ⟨xs, hr1, hr2⟩ := (hd.mono s2).row
     refine ⟨_, rfl, ds[i].r, xs, _, _, rfl, hr1, hr2, ?_⟩
     refine ⟨_, rfl, _, rfl, ?_⟩
     cases hg : ds[i].gx with
     | none =>
       refine zun ⟨_, rfl, .inl ⟨rfl, _, SqL.of h2⟩, _, rfl, ds[i].r, xs, _, _, rfl, hr1, hr2, hd.len, hd.ats, λ l4 H4 s4 n4 e4 => ?_⟩
       refine ⟨l, l4, _, _, rfl, rfl, s4 _ _ h2, e4, zkm (by rw [List.length_map, List.length_map]; omega), ?_⟩
       refine ⟨(s2.trans s4).upd hl, _, _, fs ++ [] ++ onceL (strsOf ds[i].as), rfl, (by rw [zab, List.append_nil, List.map_append]), ?_, (by simp only [List.length_append, List.length_nil]; omega)⟩
       rw [zn3 ho, ef, List.append_assoc]
       unfold rowStrs
       rw [hg]
       rfl
     | some x =>
       refine zu3 ⟨_, rfl, .inl ⟨rfl, _, SqL.of h2⟩, _, rfl, l, _, _, rfl, rfl, h2, zdt (by rw [List.length_map]; omega), ?_⟩
       have s3 : zak H (upd H2 l (.lst (List.map V.str fs ++ [V.str x]))) := s2.upd hl
       obtain ⟨xs', hr1', hr2'⟩ := (hd.mono s3).row
       refine ⟨_, rfl, .inl ⟨rfl, _, SqL.of zab⟩, _, rfl, ds[i].r, xs', _, _, rfl, hr1', hr2', hd.len, hd.ats, λ l4 H4 s4 n4 e4 => ?_⟩
       refine ⟨l, l4, _, _, rfl, rfl, s4 _ _ zab, e4, zkm (by simp only [List.length_append, List.length_map, List.length_cons, List.length_nil]; omega), ?_⟩
       refine ⟨(s3.trans s4).upd hl, _, _, fs ++ [x] ++ onceL (strsOf ds[i].as), rfl, (by rw [zab, List.map_append, List.map_append]; rfl), ?_, (by simp only [List.length_append, List.length_cons, List.length_nil]; omega)⟩
       rw [zn3 ho, ef, List.append_assoc]
       unfold rowStrs
       rw [hg]
       rfl
   . rintro σ H2 ⟨s2, v1, v2, fs, rfl, h2, ho, hlen⟩
     rw [List.length_map, List.take_length] at ho
     rw [List.length_map] at hlen
     have hds := hf.dl
     refine ⟨_, rfl, l, fs, rfl, SqL.of h2, by omega, λ l3 H3 s3 n3 e3 => q l3 H3 (s2.trans s3) (s2.free n3) ?_⟩
     rw [e3, ho]
     rfl
end
end K22
namespace K22
open PySem L2 K13
section
variable {P : Program} {w : World} {K : W.Frag} {mg : Str -> Option Value} {base : Heap} {t : Adr}
theorem zeb : FnScope ["rows", "opened", "begins", "k", "row"] ["rows"] (zac zc6) := ⟨rfl, rfl, rfl, by decide +kernel, rfl, by decide +kernel, by decide +kernel⟩
theorem zl3 (T : Txt K mg t) : FnOk P w K mg base CX0 1 t.a_begins_of t.d_begins_of ["rows"] (K13.sp_begins_of K) := by
 refine T.begins_of.F.ok zeb (λ vs H Q E h => ?_) (λ cdv A outer s H vs Q E hr h => ?_)
 . obtain ⟨a, ks, rfl, hR, w, hn, q⟩ := h
   rfl
 . obtain ⟨a, ks, rfl, hR, w, hn, q⟩ := h
   refine ⟨_, (@zad _ _ _ _ _ (@zba _ _ 1 _ _ _ _ zeb.nd rfl (Or.inl rfl) (@zd8 _ _ _ _ zag) (by rfl) (by first | exact .inl rfl | exact .inr rfl | assumption)) (@zad _ _ _ _ _ (@zba _ _ 2 _ _ _ _ zeb.nd rfl (Or.inl rfl) zdp (by rfl) (by first | exact .inl rfl | exact .inr rfl | assumption)) (@zad _ _ _ _ _ (zd5 PassesOwn.never rfl (zoc rfl T.b_enumerate (@zaa _ _ _ _ _ (pv 0) zag (by rfl))) (zh8 rfl (zcp (zbc (i := 3) zeb.nd rfl (Or.inl rfl)) (zcp (zbc (i := 4) zeb.nd rfl (Or.inl rfl)) zgb))) (@zah _ _ _ (@zbk _ _ _ _ _ _ _ _ (@zap _ _ _ _ _ _ _ _ zf9 (@zao _ _ _ _ _ _ _ zaq (pv 4) zae (λ _ _ => rfl)) (@zcz _ _ _ _ _ (@zaa _ _ _ _ _ zav (@zaa _ _ _ _ _ zav zag (by rfl)) (by rfl))) (by with_unfolding_all rfl)) (@zah _ _ _ (@zbt _ _ _ _ (zgo PySem.F.plainAttrs_list PySem.F.slot_list_append PySem.F.type_list_append zcj (pv 1) (@zaa _ _ _ _ _ (pv 3) zag (by rfl))) (by rfl))) (@zah _ _ _ (@zbk _ _ _ _ _ _ _ _ (@zap _ _ _ _ _ _ _ _ zcc (@zao _ _ _ _ _ _ _ zaq (pv 4) zae (λ _ _ => rfl)) zav (zar _)) (@zah _ _ _ (zc1 (u1' hr.units) (pv 2) (pv 3) (@zao _ _ _ _ _ _ _ za1 (pv 1) (zm2 zjp zae) (λ _ _ => rfl)) (by rfl))) (@zah _ _ _ (@zbk _ _ _ _ _ _ _ _ (@zap _ _ _ _ _ _ _ _ zcc (@zao _ _ _ _ _ _ _ zaq (pv 4) zae (λ _ _ => rfl)) zav (zar _)) (@zah _ _ _ (zc1 (u1' hr.units) (pv 2) (pv 3) (zl4 PySem.F.plainAttrs_list PySem.F.slot_list_pop PySem.F.type_list_pop zuf (pv 1)) (by rfl))) zal))))))) (@zah _ _ _ (@zan _ _ _ _ (pv 2)))))), ?_⟩
   refine ⟨le0, λ ol hol => λ d hd => ?_⟩
   obtain ⟨rs, e1, e2, e3⟩ := hR.ex
   have hdo : d ≠ ol := λ z => by rw [z, zab] at hd; cases hd
   have s0 : zak H (upd (upd H ol (.lst [])) d (.dK [])) := (zak.new hol).trans (zak.new hd)
   have hd0 : H d = none := (zak.new hol).free hd
   refine ⟨_, rfl, a, rfl, ⟨_, s0.tup e1⟩, zmi (xs := rs.map V.ref) (λ i σ H2 => i <= ks.length /\ zak H H2 /\ ∃ v3 v4, σ = [some (.ref a), some (.ref ol), some (.ref d), v3, v4] /\ H2 ol = some (.lst (zpr ks i)) /\ H2 d = some (.dK (bg ks i))) ⟨Nat.zero_le _, s0, _, _, rfl, by rw [zaf hdo.symm]; exact zab, zab⟩ ?_ ?_ ?_⟩
   . rintro i σ H2 hi ⟨_, s2, _⟩
     exact s2.tup e1
   . rintro i x σ H2 b hx ⟨hi', s2, v3, v4, rfl, ho, hg⟩ hb
     have hi : i < rs.length := by
       have := (List.getElem?_eq_some_iff.mp hx).1
       rw [List.length_map] at this
       exact this
     rw [List.getElem?_map] at hx
     have hx : V.ref rs[i] = x := by simpa [hi] using hx
     subst hx
     obtain ⟨rest, hrow⟩ := e3 i rs[i] (by simp [hi])
     have s3 : zak H (upd H2 b (.tup [.int i, .ref rs[i]])) := s2.trans (zak.new hb)
     have ho3 := zak.new (o := .tup [.int i, .ref rs[i]]) hb _ _ ho
     have hg3 := zak.new (o := .tup [.int i, .ref rs[i]]) hb _ _ hg
     have sl := zsw ks i
     have bl := zsi ks i
     refine ⟨b, _, rfl, SqT.of zab, rfl, _, _, rfl, _, _, rfl, rfl, ?_⟩
     refine ⟨_, rfl, rs[i], _, _, _, rfl, rfl, s3.tup hrow, at0, le2, λ tw htw => ⟨tw, [V.str "if", V.str "while"], rfl, .inr (SqT.of zab), rfl, rfl, _, rfl, ?_⟩⟩
     have s4 := s3.trans (zak.new (o := .tup [V.str "if", V.str "while"]) htw)
     have ho4 := zak.new (o := .tup [V.str "if", V.str "while"]) htw _ _ ho3
     have hg4 := zak.new (o := .tup [V.str "if", V.str "while"]) htw _ _ hg3
     by_cases hO : isO (kd ks i) = true
     . refine zeu ((inO _).trans hO) ?_
       refine ⟨_, rfl, .inl ⟨rfl, _, SqL.of ho4⟩, _, rfl, ol, _, _, rfl, rfl, ho4, zdt (by omega), ?_⟩
       refine ⟨by omega, s4.upd hol, _, _, rfl, ?_, ?_⟩
       . rw [zab]
         have : stk ks (i + 1) = i :: stk ks i := by rw [zcn]; unfold push; rw [if_pos hO]
         unfold zpr
         rw [this, List.reverse_cons, List.map_append]
         rfl
       . rw [zaf hdo, zrz (zjk hO)]
         exact hg4
     refine zco (λ z => hO ((inO _).symm.trans z)) ?_
     refine ⟨_, rfl, rs[i], _, _, _, rfl, rfl, s4.tup hrow, at0, rfl, _, rfl, ?_⟩
     by_cases h1 : kd ks i = "else"
     . refine zeu (decide_eq_true (congrArg V.str h1)) ?_
       have hE : isE (kd ks i) = true := by rw [h1]; decide +kernel
       obtain ⟨t, r, ht⟩ : ∃ t r, stk ks i = t :: r := by
         cases z : stk ks i with
         | nil => exact absurd z (w.open_ i (by omega) hE)
         | cons t r => exact ⟨t, r, rfl⟩
       obtain ⟨q1, q2, q3⟩ := zot ht
       refine ⟨_, rfl, _, rfl, ol, _, _, _, rfl, rfl, SqL.of ho4, q1, _, rfl, _, rfl, d, _, rfl, zi0.k (k := Sum.inl (i : Int)) hg4 (zdt (by omega)), ?_⟩
       refine ⟨by omega, s4.upd hd0, _, _, rfl, ?_, ?_⟩
       . rw [zaf hdo.symm]
         have : stk ks (i + 1) = stk ks i := by rw [zcn]; unfold push; rw [if_neg hO, if_neg (by rw [h1]; exact zjf)]
         unfold zpr
         rw [this]
         exact ho4
       . rw [zab, zn8 ⟨hE, by rw [ht]; rfl⟩]
     refine zco (λ z => h1 (V.str.inj (za7 z))) ?_
     refine ⟨_, rfl, rs[i], _, _, _, rfl, rfl, s4.tup hrow, at0, rfl, _, rfl, ?_⟩
     by_cases h2 : kd ks i = "end"
     . refine zeu (decide_eq_true (congrArg V.str h2)) ?_
       have hE : isE (kd ks i) = true := by rw [h2]; decide +kernel
       obtain ⟨t, r, ht⟩ : ∃ t r, stk ks i = t :: r := by
         cases z : stk ks i with
         | nil => exact absurd z (w.open_ i (by omega) hE)
         | cons t r => exact ⟨t, r, rfl⟩
       obtain ⟨q1, q2, q3⟩ := zot ht
       refine ⟨_, rfl, .inl ⟨rfl, _, SqL.of ho4⟩, ol, _, _, rfl, rfl, ho4, q2, _, rfl, _, rfl, d, _, rfl, zi0.k (k := Sum.inl (i : Int)) (by rw [zaf hdo]; exact hg4) (zdt (by omega)), ?_⟩
       refine ⟨by omega, (s4.upd hol).upd hd0, _, _, rfl, ?_, ?_⟩
       . rw [zaf hdo.symm, zab, q3]
         have : stk ks (i + 1) = r := by rw [zcn]; unfold push; rw [if_neg hO, if_pos h2, ht]; rfl
         unfold zpr
         rw [this]
       . rw [zab, zn8 ⟨hE, by rw [ht]; rfl⟩]
     refine zco (λ z => h2 (V.str.inj (za7 z))) ?_
     refine ⟨by omega, s4, _, _, rfl, ?_, ?_⟩
     . have : stk ks (i + 1) = stk ks i := by rw [zcn]; unfold push; rw [if_neg hO, if_neg h2]
       unfold zpr
       rw [this]
       exact ho4
     . rw [zrz (zxv h1 h2)]
       exact hg4
   . rintro σ H2 ⟨_, s2, v3, v4, rfl, ho, hg⟩
     rw [List.length_map, e2] at hg
     exact ⟨_, rfl, q d H2 s2 hd0 hg⟩
theorem zbx : FnScope ["rows", "begins", "ends", "k", "begin", "behind", "follower", "kind"] ["rows", "begins"] (zac zb2) := ⟨rfl, rfl, rfl, by decide +kernel, rfl, by decide +kernel, by decide +kernel⟩
theorem zil (T : Txt K mg t) : FnOk P w K mg base CX0 1 t.a_firsts_behind t.d_firsts_behind ["rows", "begins"] (K13.sp_firsts_behind K) := by
 refine T.firsts_behind.F.ok zbx (λ vs H Q E h => ?_) (λ cdv A outer s H vs Q E hr h => ?_)
 . obtain ⟨a, d, ks, rfl, hR, w, hn, hd, q⟩ := h
   rfl
 . obtain ⟨a, d, ks, rfl, hR, w, hn, hd, q⟩ := h
   refine ⟨_, (@zad _ _ _ _ _ (@zba _ _ 2 _ _ _ _ zbx.nd rfl (Or.inl rfl) zdp (by rfl) (by first | exact .inl rfl | exact .inr rfl | assumption)) (@zad _ _ _ _ _ (zd5 PassesOwn.never rfl (zog (pv 1)) (zh8 rfl (zcp (zbc (i := 3) zbx.nd rfl (Or.inl rfl)) (zcp (zbc (i := 4) zbx.nd rfl (Or.inl rfl)) zgb))) (@zah _ _ _ (zc1 (u1' hr.units) (pv 2) (pv 4) (pv 3) (by rfl)))) (@zad _ _ _ _ _ (@zba _ _ 5 _ _ _ _ zbx.nd rfl (Or.inl rfl) (@zat _ _ _ _ _ _ _ _ zx4 (@zd8 _ _ _ _ (@zaa _ _ _ _ _ zfo zag (by rfl))) (zbz zbv (by rfl) T.b_len zfp (@zaa _ _ _ _ _ (pv 0) zag (by rfl)))) (by rfl) (by first | exact .inl rfl | exact .inr rfl | assumption)) (@zad _ _ _ _ _ (zd5 PassesOwn.never rfl (zv7 rfl T.b_range (@zaa _ _ _ _ _ (@zat _ _ _ _ _ _ _ _ zml (zbz zbv (by rfl) T.b_len zfp (@zaa _ _ _ _ _ (pv 0) zag (by rfl))) zae) (@zaa _ _ _ _ _ (zm2 zjp zae) (@zaa _ _ _ _ _ (zm2 zjp zae) zag (by rfl)) (by rfl)) (by rfl))) (zbc (i := 3) zbx.nd rfl (Or.inl rfl)) (@zad _ _ _ _ _ (@zba _ _ 6 _ _ _ _ zbx.nd rfl (Or.inl rfl) (@zat _ _ _ _ _ _ _ _ zf6 (pv 3) zae) (by rfl) (by first | exact .inl rfl | exact .inr rfl | assumption)) (@zad _ _ _ _ _ (@zba _ _ 7 _ _ _ _ zbx.nd rfl (Or.inl rfl) (@zao _ _ _ _ _ _ _ zaq (@zao _ _ _ _ _ _ _ zaq (pv 0) (pv 6) (λ _ _ => rfl)) zae (λ _ _ => rfl)) (by rfl) (by first | exact .inl rfl | exact .inr rfl | assumption)) (@zah _ _ _ (@zbk _ _ _ _ _ _ _ _ (@zap _ _ _ _ _ _ _ _ zcc (pv 7) zav (zar _)) (@zah _ _ _ (zoh (@zao _ _ _ _ _ _ _ za1 (pv 5) (zdm (u1' hr.units) (pv 2) (zdm (u1' hr.units) (pv 1) (pv 6) (λ _ _ => rfl)) (λ _ _ => rfl)) (λ _ _ => rfl)) (zo8 (pv 5) (pv 3) zin))) (@zah _ _ _ (@zbk _ _ _ _ _ _ _ _ (@PW.pt _ _ _ (@zww _ _ _ _ _ _ _ (@zap _ _ _ _ _ _ _ _ zcc (pv 7) zav (zar _)) (@zvi _ _ _ _ (@zap _ _ _ _ _ _ _ _ zcc (@zao _ _ _ _ _ _ _ zaq (@zao _ _ _ _ _ _ _ zaq (pv 0) (zdm (u1' hr.units) (pv 1) (pv 6) (λ _ _ => rfl)) (λ _ _ => rfl)) zae (λ _ _ => rfl)) zav (zar _))))) (@zah _ _ _ (zoh (zdm (u1' hr.units) (pv 1) (pv 6) (λ _ _ => rfl)) (zo8 (pv 5) (pv 3) zin))) (@zah _ _ _ (@zbk _ _ _ _ _ _ _ _ (@zap _ _ _ _ _ _ _ _ zcc (pv 7) zav (zar _)) (@zah _ _ _ (zoh (@zao _ _ _ _ _ _ _ za1 (pv 5) (pv 6) (λ _ _ => rfl)) (zo8 (pv 5) (pv 3) zin))) (@zah _ _ _ (zoh (pv 6) (zo8 (pv 5) (pv 3) zin)))))))))))) (@zah _ _ _ (@zan _ _ _ _ (pv 5))))))), ?_⟩
   refine λ ed hed => ?_
   have hde : d ≠ ed := λ z => by rw [<- z, hd] at hed; cases hed
   refine ⟨_, rfl, d, bg ks ks.length, rfl, .inl ⟨zak.new hed _ _ hd, λ o => ?_⟩⟩
   have sF : zak (upd H d (.frz o (.dK (bg ks ks.length)))) (upd (upd H ed (.dK [])) d (.frz o (.dK (bg ks ks.length)))) := λ b u h => by
     by_cases hb : b = d
     . subst hb
       rw [zab] at h ⊢
       exact h
     . rw [zaf hb] at h ⊢
       rw [zaf (λ z => by rw [z, hed] at h; cases h)]
       exact h
   have hF : (upd H d (.frz o (.dK (bg ks ks.length)))) d = some (.frz o (.dK (bg ks ks.length))) := zab
   have hedF : (upd H d (.frz o (.dK (bg ks ks.length)))) ed = none := by rw [zaf hde.symm]; exact hed
   have hRF : RowsAt K (upd H d (.frz o (.dK (bg ks ks.length)))) a ks := hR.frz hd
   have qF : ∀ l H', zak (upd H d (.frz o (.dK (bg ks ks.length)))) H' -> (upd H d (.frz o (.dK (bg ks ks.length)))) l = none -> BehL H' l ks -> Q (.ref l) H' := λ l H' h1 h2 h3 => q l o H' h1 (by rw [zaf (λ z => by rw [z, hF] at h2; cases h2)] at h2; exact h2) h3
   generalize upd H d (.frz o (.dK (bg ks ks.length))) = HF at sF hF hedF hRF qF
   have bl := zsi ks ks.length
   have pl := znb ks ks.length
   refine zlm (λ i σ H2 => i <= (bg ks ks.length).length /\ zak HF H2 /\ ∃ v3 v4 eds, σ = [some (.ref a), some (.ref d), some (.ref ed), v3, v4, none, none, none] /\ H2 ed = some (.dK eds) /\ eds.length <= i /\ ∀ b : Nat, zc2 eds (Sum.inl (b : Int) : Key) = (zfn ((prs ks ks.length).take i) b).map λ (m : Nat) => V.int (m : Int)) ⟨Nat.zero_le _, sF, _, _, [], rfl, by rw [zaf hde.symm]; exact zab, Nat.le_refl _, λ b => rfl⟩ ?_ ?_ ?_
   . rintro i σ H2 hi ⟨_, s2, _⟩
     exact s2 _ _ hF
   . rintro i kv σ H2 b hkv ⟨hi, s2, v3, v4, eds, rfl, he, hel, hv⟩ hb
     obtain ⟨p, hp, rfl⟩ := zuv hkv
     have hlt := (List.getElem?_eq_some_iff.mp hkv).1
     have he3 := zak.new (o := .tup [V.int (p.1 : Int), V.int (p.2 : Int)]) hb _ _ he
     refine ⟨b, _, rfl, SqT.of zab, rfl, _, _, rfl, _, _, rfl, rfl, ?_⟩
     refine ⟨_, rfl, _, rfl, _, rfl, ed, _, rfl, zi0.k (k := Sum.inl (p.2 : Int)) he3 (zdt (by omega)), ?_⟩
     refine ⟨hlt, (s2.trans (zak.new hb)).upd hedF, _, _, _, rfl, zab, ?_, λ b' => ?_⟩
     . exact Nat.le_trans (za2 _ _ _) (by omega)
     . rw [zcq, List.take_add_one, hp]
       show _ = (zfn ((prs ks ks.length).take i ++ [p]) b').map _
       rw [zjg, hv b']
       by_cases h : p.2 = b'
       . rw [if_pos h, if_pos (by rw [h])]
         rfl
       . rw [if_neg h, if_neg (λ z => h (by have : (b' : Int) = (p.2 : Int) := Sum.inl.inj z; omega))]
   . rintro σ H2 ⟨_, s2, v3, v4, eds, rfl, he, hel, hv⟩
     have hv : ∀ b : Nat, zc2 eds (Sum.inl (b : Int) : Key) = (zfn (prs ks ks.length) b).map λ (m : Nat) => V.int (m : Int) := λ b => by
       rw [hv b]
       unfold bg zsk
       rw [List.length_map, List.take_length]
     obtain ⟨rs, r1, r2, r3⟩ := hRF.ex
     have rl : (rs.map V.ref).length = ks.length := by rw [List.length_map, r2]
     refine ⟨le1, λ nl hnl => ⟨_, rfl, a, _, rfl, .inr ((s2.trans (zak.new hnl)).tup r1), nl, _, _, rfl, rfl, zab, by omega, by rw [rl]; omega, by rw [rl]; exact zkm (by simp; omega), λ bl hbl => ?_⟩⟩
     have s3 := (s2.trans (zak.new (o := .lst [V.non]) hnl)).trans (zak.new (o := .lst (List.replicate (((rs.map V.ref).length : Int).toNat) [V.non]).flatten) hbl)
     have hbF : HF bl = none := s2.free ((zak.new hnl).free hbl)
     have hbe : bl ≠ ed := λ z => by
       have := (zak.new hnl).free hbl
       rw [z, he] at this
       cases this
     have he3 := (zak.new (o := .lst (List.replicate (((rs.map V.ref).length : Int).toNat) [V.non]).flatten) hbl) _ _ ((zak.new (o := .lst [V.non]) hnl) _ _ he)
     refine ⟨_, rfl, a, _, rfl, .inr (s3.tup r1), _, _, rfl, rfl, _, rfl, _, rfl, (ks.length : Int) - 2, -1, by rw [rl], ⟨by omega, by omega, by omega, by omega⟩, ?_⟩
     have hnn : (((ks.length : Int) - 2) - -1).toNat = ks.length - 1 := by omega
     rw [hnn]
     refine ztu (λ i σ H4 => zak HF H4 /\ ∃ v3 v4 v6 v7 bs, σ = [some (.ref a), some (.ref d), some (.ref ed), v3, v4, some (.ref bl), v6, v7] /\ H4 ed = some (.dK eds) /\ H4 bl = some (.lst bs) /\ bs.length = ks.length /\ ∀ k, k + 1 < ks.length -> ks.length - 1 - i <= k -> ∃ r : Nat, Beh ks k r /\ bs[k]? = some (.int (r : Int))) ⟨s3, _, _, _, _, _, rfl, he3, zab, by rw [rl]; exact zr4 _, λ k h1 h2 => by omega⟩ ?_ ?_
     . rintro i σ H4 hi ⟨s4, v3, v4, v6, v7, bs, rfl, e4, b4, l4, hb4⟩
       obtain ⟨k, hk⟩ : ∃ k : Nat, k + 2 + i = ks.length := ⟨ks.length - 2 - i, by omega⟩
       have ek : ((ks.length : Int) - 2) - (i : Int) = (k : Int) := by omega
       rw [ek]
       have hR4 := hRF.mono s4
       have old : ∀ j, j + 1 < ks.length -> k < j -> ∃ r : Nat, Beh ks j r /\ bs[j]? = some (.int (r : Int)) := λ j h1 h2 => hb4 j h1 (by omega)
       have fin : ∀ (r : Nat) (v3 v4 v6 v7 : Option V), Beh ks k r -> zak HF (upd H4 bl (.lst (bs.set k (.int (r : Int))))) /\ ∃ v3' v4' v6' v7' bs', ([some (.ref a), some (.ref d), some (.ref ed), v3, v4, some (.ref bl), v6, v7] : St) = [some (.ref a), some (.ref d), some (.ref ed), v3', v4', some (.ref bl), v6', v7'] /\ (upd H4 bl (.lst (bs.set k (.int (r : Int))))) ed = some (.dK eds) /\ (upd H4 bl (.lst (bs.set k (.int (r : Int))))) bl = some (.lst bs') /\ bs'.length = ks.length /\ ∀ j, j + 1 < ks.length -> ks.length - 1 - (i + 1) <= j -> ∃ r : Nat, Beh ks j r /\ bs'[j]? = some (.int (r : Int)) := λ r v3 v4 v6 v7 hr => by
         refine ⟨s4.upd hbF, _, _, _, _, _, rfl, by rw [zaf hbe.symm]; exact e4, zab, by rw [List.length_set]; exact l4, λ j h1 h2 => ?_⟩
         by_cases hj : j = k
         . subst hj
           exact ⟨r, hr, by rw [List.getElem?_set_self (by omega)]⟩
         . obtain ⟨r', q1, q2⟩ := old j h1 (by omega)
           exact ⟨r', q1, by rw [List.getElem?_set_ne (λ z => hj z.symm)]; exact q2⟩
       have hix : ixN bs.length (k : Int) = some k := by
         unfold ixN
         rw [if_pos (by omega), if_pos (by omega), Int.toNat_natCast]
       have at_bs : ∀ j r : Nat, bs[j]? = some (.int (r : Int)) -> atI bs (j : Int) = some (.int (r : Int)) := λ j r h => zen h
       refine ⟨_, rfl, _, _, rfl, rfl, ?_⟩
       show zrk 6 (V.int ((k : Int) + 1)) _ _ _
       rw [show ((k : Int) + 1) = ((k + 1 : Nat) : Int) by omega]
       refine ⟨_, rfl, _, rfl, ixk hR4 (by omega) (by omega) ?_⟩
       refine ⟨_, rfl, rfl, _, rfl, ?_⟩
       have top : isE (kd ks (k + 1)) = true -> ∃ b, (stk ks (k + 1)).head? = some b := λ h => by
         cases z : stk ks (k + 1) with
         | nil => exact absurd z (w.open_ (k + 1) (by omega) h)
         | cons b r => exact ⟨b, rfl⟩
       have fz : Rd H4 d (.dK (bg ks ks.length)) := .inr ⟨o, s4 _ _ hF⟩
       by_cases h1 : kd ks (k + 1) = "else"
       . refine zeu (decide_eq_true (congrArg V.str h1)) ?_
         have hE : isE (kd ks (k + 1)) = true := by rw [h1]; decide +kernel
         obtain ⟨b, hb⟩ := top hE
         have hbo := zq3 (⟨hE, hb⟩ : Hit ks b (k + 1))
         obtain ⟨e, hEn⟩ := zse w (by omega) hbo.2
         have h5 : k + 1 <= e := zul hEn ⟨hE, hb⟩
         have h6 : e + 1 < ks.length := by
           rcases Nat.lt_or_ge (e + 1) ks.length with z | z
           . exact z
           . have := w.last e (by have := hEn.2.1; omega)
             rw [hEn.2.2.1] at this
             exact absurd this.symm zq4.2
         obtain ⟨r, hr1, hr2⟩ := old e h6 (by omega)
         have g1 : zj9 H4 d (.int ((k + 1 : Nat) : Int)) (some (.int (b : Int))) := .inl ⟨_, Sum.inl ((k + 1 : Nat) : Int), fz, rfl, (zx7 ks.length (by omega) ⟨hE, hb⟩).symm⟩
         have g2 : zj9 H4 ed (.int (b : Int)) (some (.int (e : Int))) := .inl ⟨_, Sum.inl (b : Int), .inl e4, rfl, by rw [hv b, zs7 hEn]; rfl⟩
         exact ⟨_, rfl, _, rfl, _, rfl, _, rfl, d, _, rfl, g1, ed, _, rfl, g2, bl, _, _, _, rfl, rfl, SqL.of b4, at_bs e r hr2, _, rfl, _, rfl, bl, _, _, _, rfl, rfl, b4, hix, fin r _ _ _ _ (.els h1 hb hEn hr1)⟩
       refine zco (λ z => h1 (V.str.inj (za7 z))) ?_
       refine ⟨_, rfl, rfl, _, rfl, ?_⟩
       by_cases h2 : kd ks (k + 1) = "end"
       . have hE : isE (kd ks (k + 1)) = true := by rw [h2]; decide +kernel
         obtain ⟨b, hb⟩ := top hE
         have hbo := zq3 (⟨hE, hb⟩ : Hit ks b (k + 1))
         have g1 : zj9 H4 d (.int ((k + 1 : Nat) : Int)) (some (.int (b : Int))) := .inl ⟨_, Sum.inl ((k + 1 : Nat) : Int), fz, rfl, (zx7 ks.length (by omega) ⟨hE, hb⟩).symm⟩
         refine zeu (decide_eq_true (congrArg V.str h2)) ?_
         refine ⟨_, rfl, _, rfl, _, rfl, d, _, rfl, g1, ixk hR4 (by omega) (by omega) ⟨rfl, _, rfl, ?_⟩⟩
         by_cases h3 : kd ks b = "while"
         . refine zeu (decide_eq_true (congrArg V.str h3)) ?_
           exact ⟨_, rfl, _, rfl, d, _, rfl, g1, _, rfl, _, rfl, bl, _, _, _, rfl, rfl, b4, hix, fin b _ _ _ _ (.whl h2 hb h3)⟩
         . refine zco (λ z => h3 (V.str.inj (za7 z))) ?_
           refine ⟨_, rfl, rfl, _, rfl, zeu (decide_eq_true (congrArg V.str h2)) ?_⟩
           have h6 : k + 1 + 1 < ks.length := by
             rcases Nat.lt_or_ge (k + 1 + 1) ks.length with z | z
             . exact z
             . have := w.last (k + 1) (by omega)
               rw [h2] at this
               exact absurd this.symm zq4.2
           obtain ⟨r, hr1, hr2⟩ := old (k + 1) h6 (by omega)
           exact ⟨_, rfl, _, rfl, bl, _, _, _, rfl, rfl, SqL.of b4, at_bs (k + 1) r hr2, _, rfl, _, rfl, bl, _, _, _, rfl, rfl, b4, hix, fin r _ _ _ _ (.fin h2 hb h3 hr1)⟩
       . refine zco (λ z => h2 (V.str.inj (za7 z))) (zun ?_)
         refine ⟨_, rfl, rfl, _, rfl, zco (λ z => h2 (V.str.inj (za7 z))) ?_⟩
         exact ⟨_, rfl, _, rfl, _, rfl, bl, _, _, _, rfl, rfl, b4, hix, fin (k + 1) _ _ _ _ (.oth h1 h2)⟩
     . rintro σ H4 ⟨s4, v3, v4, v6, v7, bs, rfl, e4, b4, l4, hb4⟩
       exact ⟨_, rfl, qF bl H4 s4 hbF ⟨bs, b4, l4, λ k h1 => hb4 k h1 (by omega)⟩⟩
theorem zfh : FnScope ["rows", "begins", "behind", "turns", "k", "begin", "found", "row"] ["rows"] (zac zh9) := ⟨rfl, rfl, rfl, by decide +kernel, rfl, by decide +kernel, by decide +kernel⟩
theorem zv0 (T : Txt K mg t) : FnOk P w K mg base CX0 2 t.a_ways t.d_ways ["rows"] (K13.sp_ways K) := by
 have G_begins_of : FnOk P w K mg base CX0 1 t.a_begins_of t.d_begins_of ["rows"] (K13.sp_begins_of K) := zl3 T
 have G_firsts_behind : FnOk P w K mg base CX0 1 t.a_firsts_behind t.d_firsts_behind ["rows", "begins"] (K13.sp_firsts_behind K) := zil T
 refine T.ways.F.ok zfh (λ vs H Q E h => ?_) (λ cdv A outer s H vs Q E hr h => ?_)
 . obtain ⟨a, ks, rfl, hR, w, hn, q⟩ := h
   rfl
 . obtain ⟨a, ks, rfl, hR, w, hn, q⟩ := h
   refine ⟨_, (@zad _ _ _ _ _ (@zba _ _ 1 _ _ _ _ zfh.nd rfl (Or.inl rfl) (zcr T.begins_of G_begins_of (hr.mono (by decide)) (@zaa _ _ _ _ _ (pv 0) zag (by rfl))) (by rfl) (by first | exact .inl rfl | exact .inr rfl | assumption)) (@zad _ _ _ _ _ (@zba _ _ 2 _ _ _ _ zfh.nd rfl (Or.inl rfl) (zcr T.firsts_behind G_firsts_behind (hr.mono (by decide)) (@zaa _ _ _ _ _ (pv 0) (@zaa _ _ _ _ _ (pv 1) zag (by rfl)) (by rfl))) (by rfl) (by first | exact .inl rfl | exact .inr rfl | assumption)) (@zad _ _ _ _ _ (@zba _ _ 3 _ _ _ _ zfh.nd rfl (Or.inl rfl) zdp (by rfl) (by first | exact .inl rfl | exact .inr rfl | assumption)) (@zad _ _ _ _ _ (zd5 PassesOwn.never rfl (zog (pv 1)) (zh8 rfl (zcp (zbc (i := 4) zfh.nd rfl (Or.inl rfl)) (zcp (zbc (i := 5) zfh.nd rfl (Or.inl rfl)) zgb))) (@zah _ _ _ (@zbt _ _ _ _ (zty (pv 3) (pv 5) (pv 4) ⟨rfl, rfl, rfl, rfl⟩) (by rfl)))) (@zad _ _ _ _ _ (@zba _ _ 6 _ _ _ _ zfh.nd rfl (Or.inl rfl) (@zd8 _ _ _ _ zag) (by rfl) (by first | exact .inl rfl | exact .inr rfl | assumption)) (@zad _ _ _ _ _ (zd5 PassesOwn.never rfl (zoc rfl T.b_enumerate (@zaa _ _ _ _ _ (pv 0) zag (by rfl))) (zh8 rfl (zcp (zbc (i := 4) zfh.nd rfl (Or.inl rfl)) (zcp (zbc (i := 7) zfh.nd rfl (Or.inl rfl)) zgb))) (@zah _ _ _ (@zbk _ _ _ _ _ _ _ _ (@zap _ _ _ _ _ _ _ _ zf9 (@zao _ _ _ _ _ _ _ zaq (pv 7) zae (λ _ _ => rfl)) (@zcz _ _ _ _ _ (@zaa _ _ _ _ _ zav (@zaa _ _ _ _ _ zav zag (by rfl)) (by rfl))) (by with_unfolding_all rfl)) (@zah _ _ _ (@zbt _ _ _ _ (zgo PySem.F.plainAttrs_list PySem.F.slot_list_append PySem.F.type_list_append zcj (pv 6) (@zaa _ _ _ _ _ zfo zag (by rfl))) (by rfl))) (@zah _ _ _ (@zbk _ _ _ _ _ _ _ _ (@zap _ _ _ _ _ _ _ _ zcc (@zao _ _ _ _ _ _ _ zaq (pv 7) zae (λ _ _ => rfl)) zav (zar _)) (@zah _ _ _ (@zbt _ _ _ _ (zgo PySem.F.plainAttrs_list PySem.F.slot_list_append PySem.F.type_list_append zcj (pv 6) (@zaa _ _ _ _ _ (@zcz _ _ _ _ _ zag) zag (by rfl))) (by rfl))) (@zah _ _ _ (@zbk _ _ _ _ _ _ _ _ (zmx (zw5 (u1' hr.units) (pv 4) (pv 3))) (@zah _ _ _ (@zbt _ _ _ _ (zgo PySem.F.plainAttrs_list PySem.F.slot_list_append PySem.F.type_list_append zcj (pv 6) (@zaa _ _ _ _ _ (@zcz _ _ _ _ _ (@zaa _ _ _ _ _ (@zao _ _ _ _ _ _ _ za1 (pv 2) (pv 4) (λ _ _ => rfl)) (@zaa _ _ _ _ _ (@zao _ _ _ _ _ _ _ za1 (pv 2) (zdm (u1' hr.units) (pv 3) (pv 4) (λ _ _ => rfl)) (λ _ _ => rfl)) zag (by rfl)) (by rfl))) zag (by rfl))) (by rfl))) (@zah _ _ _ (@zbt _ _ _ _ (zgo PySem.F.plainAttrs_list PySem.F.slot_list_append PySem.F.type_list_append zcj (pv 6) (@zaa _ _ _ _ _ (@zcz _ _ _ _ _ (@zaa _ _ _ _ _ (@zao _ _ _ _ _ _ _ za1 (pv 2) (pv 4) (λ _ _ => rfl)) zag (by rfl))) zag (by rfl))) (by rfl)))))))))) (@zah _ _ _ (@zan _ _ _ _ (pv 6))))))))), ?_⟩
   refine ⟨_, rfl, a, ks, rfl, hR, w, hn, λ d H1 s1 n1 e1 => ?_⟩
   refine ⟨_, rfl, _, rfl, a, d, ks, rfl, hR.mono s1, w, hn, e1, λ l o H2 s2 n2 hB => ?_⟩
   have s02 : zak H H2 := (s1.upd n1).trans s2
   have hdF : H2 d = some (.frz o (.dK (bg ks ks.length))) := s2 _ _ zab
   have hl0 : H l = none := s1.free n2
   refine λ td htd => ?_
   have bl := zsi ks ks.length
   obtain ⟨bs, hb1, hb2, hb3⟩ := hB
   refine ⟨_, rfl, d, bg ks ks.length, rfl, .inr ⟨o, zak.new htd _ _ hdF, ?_⟩⟩
   refine zlm (λ i σ H3 => i <= (bg ks ks.length).length /\ zak H2 H3 /\ ∃ v4 v5 tds, σ = [some (.ref a), some (.ref d), some (.ref l), some (.ref td), v4, v5, none, none] /\ H3 td = some (.dK tds) /\ tds.length <= i /\ ∀ b : Nat, zc2 tds (Sum.inl (b : Int) : Key) = (zb9 ((prs ks ks.length).take i) b).map λ (m : Nat) => V.int (m : Int)) ⟨Nat.zero_le _, zak.new htd, _, _, [], rfl, zab, Nat.le_refl _, λ b => rfl⟩ ?_ ?_ ?_
   . rintro i σ H3 hi ⟨_, s3, _⟩
     exact s3 _ _ hdF
   . rintro i kv σ H3 b hkv ⟨hi, s3, v4, v5, tds, rfl, he, hel, hv⟩ hb
     obtain ⟨p, hp, rfl⟩ := zuv hkv
     have hlt := (List.getElem?_eq_some_iff.mp hkv).1
     have he3 := zak.new (o := .tup [V.int (p.1 : Int), V.int (p.2 : Int)]) hb _ _ he
     refine ⟨b, _, rfl, SqT.of zab, rfl, _, _, rfl, _, _, rfl, rfl, ?_⟩
     have tk : ∀ b', zb9 ((prs ks ks.length).take (i + 1)) b' = if (zb9 ((prs ks ks.length).take i) b').isSome = true then zb9 ((prs ks ks.length).take i) b' else if p.2 = b' then some p.1 else none := λ b' => by
       rw [List.take_add_one, hp]
       exact zih _ p b'
     refine ⟨_, rfl, td, rfl, .inl ⟨tds, .inl he3⟩, _, rfl, _, rfl, tds, Sum.inl (p.2 : Int), he3, rfl, zdt (by omega), λ v hv' => ?_, λ hv' => ?_⟩
     . refine ⟨hlt, s3.trans (zak.new hb), _, _, tds, rfl, he3, by omega, λ b' => ?_⟩
       rw [hv b', tk b']
       cases z : zb9 ((prs ks ks.length).take i) b' with
       | some m => rfl
       | none =>
         rw [if_neg (show ¬ (none : Option Nat).isSome = true by decide), if_neg]
         intro h
         rw [h, hv b', z] at hv'
         cases hv'
     . refine ⟨hlt, (s3.trans (zak.new hb)).upd htd, _, _, _, rfl, zab, Nat.le_trans (za2 _ _ _) (by omega), λ b' => ?_⟩
       rw [zcq, tk b']
       by_cases h : p.2 = b'
       . subst h
         have z : zb9 ((prs ks ks.length).take i) p.2 = none := by
           rw [hv p.2] at hv'
           cases y : zb9 ((prs ks ks.length).take i) p.2 with
           | none => rfl
           | some m => rw [y] at hv'; cases hv'
         rw [if_pos rfl, z, if_neg (show ¬ (none : Option Nat).isSome = true by decide), if_pos rfl]
         rfl
       . rw [if_neg (λ z => h (by have : (b' : Int) = (p.2 : Int) := Sum.inl.inj z; omega)), hv b', if_neg h]
         cases z : zb9 ((prs ks ks.length).take i) b' with
         | some m => rfl
         | none => rfl
   . rintro σ H3 ⟨_, s3, v4, v5, tds, rfl, he, hel, hv⟩
     have hv : ∀ b : Nat, zc2 tds (Sum.inl (b : Int) : Key) = (zb9 (prs ks ks.length) b).map λ (m : Nat) => V.int (m : Int) := λ b => by
       rw [hv b]
       unfold bg zsk
       rw [List.length_map, List.take_length]
     obtain ⟨rs, r1, r2, r3⟩ := hR.ex
     refine ⟨le0, λ fl hfl => ?_⟩
     have s03 := s02.trans s3
     have hf2 : H3 fl = none := hfl
     have htf : td ≠ fl := λ z => by rw [<- z, he] at hfl; cases hfl
     have hf0 : H fl = none := s03.free hfl
     refine ⟨_, rfl, a, rfl, ⟨_, (s03.trans (zak.new hfl)).tup r1⟩, zmi (xs := rs.map V.ref) (λ i σ H4 => i <= ks.length /\ zak H3 H4 /\ (∃ v4 v5 v7, σ = [some (.ref a), some (.ref d), some (.ref l), some (.ref td), v4, v5, some (.ref fl), v7]) /\ FoundN H4 fl ks i) ⟨Nat.zero_le _, zak.new hfl, ⟨_, _, _, rfl⟩, ⟨[], zab, rfl, λ k v z => by simp at z⟩⟩ ?_ ?_ ?_⟩
     . rintro i σ H4 hi ⟨_, s4, _⟩
       exact (s03.trans s4).tup r1
     . rintro i x σ H4 b hx ⟨hi', s4, ⟨v4, v5, v7, rfl⟩, hF⟩ hb
       have hi : i < rs.length := by
         have := (List.getElem?_eq_some_iff.mp hx).1
         rw [List.length_map] at this
         exact this
       rw [List.getElem?_map] at hx
       have hx : V.ref rs[i] = x := by simpa [hi] using hx
       subst hx
       obtain ⟨rest, hrow⟩ := r3 i rs[i] (by simp [hi])
       have s5 := s4.trans (zak.new (o := .tup [.int i, .ref rs[i]]) hb)
       have hF5 := hF.mono (zak.new (o := .tup [.int i, .ref rs[i]]) hb)
       refine ⟨b, _, rfl, SqT.of zab, rfl, _, _, rfl, _, _, rfl, rfl, ?_⟩
       refine ⟨_, rfl, rs[i], _, _, _, rfl, rfl, (s03.trans s5).tup hrow, at0, le2, λ tw htw => ⟨tw, [V.str "else", V.str "end"], rfl, .inr (SqT.of zab), rfl, rfl, _, rfl, ?_⟩⟩
       have s6 := s5.trans (zak.new (o := .tup [V.str "else", V.str "end"]) htw)
       obtain ⟨vs, f1, f2, f3⟩ := hF5.mono (zak.new (o := .tup [V.str "else", V.str "end"]) htw)
       generalize upd (upd H4 b (.tup [.int i, .ref rs[i]])) tw (.tup [V.str "else", V.str "end"]) = H6 at s6 f1 f3 ⊢
       have s06 := s03.trans s6
       have fin : ∀ {H7 : Hp} {v : V} {oo : Option (List Nat)} (u4 u5 u7 : Option V), zak H6 H7 -> Due ks i oo -> zsl H7 v oo -> i + 1 <= ks.length /\ zak H3 (upd H7 fl (.lst (vs ++ [v]))) /\ (∃ v4 v5 v7, ([some (.ref a), some (.ref d), some (.ref l), some (.ref td), u4, u5, some (.ref fl), u7] : St) = [some (.ref a), some (.ref d), some (.ref l), some (.ref td), v4, v5, some (.ref fl), v7]) /\ FoundN (upd H7 fl (.lst (vs ++ [v]))) fl ks (i + 1) := λ u4 u5 u7 s7 hd hv => by
         refine ⟨by omega, (s6.trans s7).upd hfl, ⟨_, _, _, rfl⟩, FoundN.push (s7 _ _ f1) f2 (λ k v z => ?_) hd hv⟩
         obtain ⟨o', d', y⟩ := f3 k v z
         exact ⟨o', d', y.mono s7⟩
       by_cases hE : isE (kd ks i) = true
       . refine zeu ((inE _).trans hE) ?_
         exact ⟨_, rfl, .inl ⟨rfl, _, SqL.of f1⟩, fl, _, _, rfl, rfl, f1, zdt (by omega), fin _ _ _ (zak.refl _) (.no hE) rfl⟩
       refine zco (λ z => hE ((inE _).symm.trans z)) ?_
       refine ⟨_, rfl, rs[i], _, _, _, rfl, rfl, s06.tup hrow, at0, rfl, _, rfl, ?_⟩
       by_cases hbk : kd ks i = "back"
       . refine zeu (decide_eq_true (congrArg V.str hbk)) ?_
         exact ⟨_, rfl, .inl ⟨rfl, _, SqL.of f1⟩, le0, λ p hp => ⟨fl, _, _, rfl, rfl, zak.new hp _ _ f1, zdt (by omega), fin _ _ _ (zak.new hp) (.back hbk) ⟨p, rfl, zab⟩⟩⟩
       refine zco (λ z => hbk (V.str.inj (za7 z))) ?_
       have hlast := zoz w (by omega) hbk
       obtain ⟨r, hr1, hr2⟩ := hb3 i hlast
       have hb6 := (s3.trans s6) _ _ hb1
       have ht6 := s6 _ _ he
       refine ⟨_, rfl, _, rfl, td, _, rfl, zj9.k (k := Sum.inl (i : Int)) ht6, _, rfl, ?_⟩
       by_cases hO : isO (kd ks i) = true
       . obtain ⟨e, hEn⟩ := zse w (by omega) hO
         obtain ⟨f, hf⟩ := zsn hEn
         obtain ⟨r', hr3, hr4⟩ := hb3 f (zpu w hf)
         have hvi : zc2 tds (Sum.inl (i : Int) : Key) = some (V.int (f : Int)) := by rw [hv i, zs4 hf]; rfl
         refine zeu (by rw [hvi]; rfl) ?_
         have g : zj9 H6 td (.int (i : Int)) (some (V.int (f : Int))) := .inl ⟨_, Sum.inl (i : Int), .inl ht6, rfl, hvi.symm⟩
         exact ⟨_, rfl, .inl ⟨rfl, _, SqL.of f1⟩, _, rfl, _, rfl, l, _, _, _, rfl, rfl, SqL.of hb6, zen hr2, _, rfl, _, rfl, _, rfl, td, _, rfl, g, l, _, _, _, rfl, rfl, SqL.of hb6, zen hr4, le2, λ p hp => ⟨fl, _, _, rfl, rfl, zak.new hp _ _ f1, zdt (by omega), fin _ _ _ (zak.new hp) (.two hO hf hr1 hr3) ⟨p, rfl, zab⟩⟩⟩
       . have hvi : zc2 tds (Sum.inl (i : Int) : Key) = none := by rw [hv i, zp2 hO]; rfl
         refine zco (by rw [hvi]; decide) ?_
         exact ⟨_, rfl, .inl ⟨rfl, _, SqL.of f1⟩, _, rfl, _, rfl, l, _, _, _, rfl, rfl, SqL.of hb6, zen hr2, le1, λ p hp => ⟨fl, _, _, rfl, rfl, zak.new hp _ _ f1, zdt (by omega), fin _ _ _ (zak.new hp) (.one hE hbk hO hr1) ⟨p, rfl, zab⟩⟩⟩
     . rintro σ H4 ⟨_, s4, ⟨v4, v5, v7, rfl⟩, hF⟩
       rw [List.length_map, r2] at hF
       exact ⟨_, rfl, q fl H4 (s03.trans s4) hf0 hF⟩
end
end K22
namespace K22
open PySem L2 Gx Fl F2
section
variable {P : Program} {w : World} {K : W.Frag} {mg : Str -> Option Value} {base : Heap} {t : Adr}
theorem zfk : FnScope ["self", "program", "k", "function"] ["self", "program"] (zac zcs) := ⟨rfl, rfl, rfl, by decide +kernel, rfl, by decide +kernel, by decide +kernel⟩
theorem zk7 (T : Txt K mg t) : FnOk P w K mg base CX0 4 t.a_Flows_init t.d_Flows_init ["self", "program"] (zg5 K t) := by
 have G_names_of : FnOk P w K mg base CX0 3 t.a_names_of t.d_names_of ["function"] (K12.sp_names_of K) := znd T
 have G_ways : FnOk P w K mg base CX0 2 t.a_ways t.d_ways ["rows"] (K13.sp_ways K) := zv0 T
 refine T.Flows_init.F.ok zfk (λ vs H Q E h => ?_) (λ cdv A outer s H vs Q E hr h => ?_)
 . obtain ⟨x, dx, p, fns, rfl, hx, hS, n0, n12, hE, nd, q⟩ := h
   rfl
 . obtain ⟨x, dx, p, fns, rfl, hx, hS, n0, n12, hE, nd, q⟩ := h
   refine ⟨_, (@zad _ _ _ _ _ (zdw (pv 0) (@zao _ _ _ _ _ _ _ zaq (@zao _ _ _ _ _ _ _ za1 (pv 1) (zm2 zjp zae) (λ _ _ => rfl)) zae (λ _ _ => rfl)) (by rfl)) (@zad _ _ _ _ _ (zdw (pv 0) zdp (by rfl)) (@zad _ _ _ _ _ (zdw (pv 0) zdp (by rfl)) (@zad _ _ _ _ _ (zdw (pv 0) zdp (by rfl)) (@zad _ _ _ _ _ (zdw (pv 0) zdp (by rfl)) (@zad _ _ _ _ _ (zdw (pv 0) zdp (by rfl)) (@zq8 _ _ _ _ _ (zdw (pv 0) zdp (by rfl)) (@zah _ _ _ (zd5 PassesOwn.never rfl (zt8 rfl T.b_enumerate (@zaa _ _ _ _ _ (pv 1) zag (by rfl))) (zh8 rfl (zcp (zbc (i := 2) zfk.nd rfl (Or.inl rfl)) (zcp (zbc (i := 3) zfk.nd rfl (Or.inl rfl)) zgb))) (@zad _ _ _ _ _ (zc1 (u1' hr.units) (zbj (pv 0) (by rfl)) (@zao _ _ _ _ _ _ _ zaq (pv 3) zae (λ _ _ => rfl)) (pv 2) (by rfl)) (@zad _ _ _ _ _ (zc1 (u1' hr.units) (zbj (pv 0) (by rfl)) (@zao _ _ _ _ _ _ _ zaq (pv 3) zae (λ _ _ => rfl)) (@zao _ _ _ _ _ _ _ zaq (pv 3) zae (λ _ _ => rfl)) (by rfl)) (@zad _ _ _ _ _ (zc1 (u1' hr.units) (zbj (pv 0) (by rfl)) (@zao _ _ _ _ _ _ _ zaq (pv 3) zae (λ _ _ => rfl)) (@zao _ _ _ _ _ _ _ zaq (pv 3) zae (λ _ _ => rfl)) (by rfl)) (@zad _ _ _ _ _ (zc1 (u1' hr.units) (zbj (pv 0) (by rfl)) (@zao _ _ _ _ _ _ _ zaq (pv 3) zae (λ _ _ => rfl)) (@zao _ _ _ _ _ _ _ zaq (pv 3) zae (λ _ _ => rfl)) (by rfl)) (@zad _ _ _ _ _ (zc1 (u1' hr.units) (zbj (pv 0) (by rfl)) (@zao _ _ _ _ _ _ _ zaq (pv 3) zae (λ _ _ => rfl)) (zcr T.names_of G_names_of (hr.mono (by decide)) (@zaa _ _ _ _ _ (pv 3) zag (by rfl))) (by rfl)) (@zah _ _ _ (zc1 (u1' hr.units) (zbj (pv 0) (by rfl)) (@zao _ _ _ _ _ _ _ zaq (pv 3) zae (λ _ _ => rfl)) (zcr T.ways G_ways (hr.mono (by decide)) (@zaa _ _ _ _ _ (@zao _ _ _ _ _ _ _ zaq (pv 3) zae (λ _ _ => rfl)) zag (by rfl))) (by rfl))))))))))))))))), ?_⟩
   have fl : (fns.map λ f => V.ref f.fa).length = fns.length := List.length_map _
   have np : 0 < fns.length := List.length_pos_iff.mpr n0
   obtain ⟨fz, hz⟩ : ∃ fz, fns[fns.length - 1]? = some fz := ⟨fns[fns.length - 1], List.getElem?_eq_getElem (by omega)⟩
   have hzT := (hE fz (List.mem_of_getElem? hz)).fn
   have eL : atI (fns.map λ f => V.ref f.fa) (-1) = some (V.ref fz.fa) := by
     unfold atI ixN
     rw [if_neg (by decide), if_pos (by rw [fl]; omega), Option.bind_some]
     have : ((-1 : Int) + ((fns.map λ f => V.ref f.fa).length : Int)).toNat = fns.length - 1 := by rw [fl]; omega
     rw [this, List.getElem?_map, hz]
     rfl
   refine ⟨_, rfl, _, rfl, p, _, _, _, rfl, rfl, zis.seq hS, eL, fz.fa, _, _, _, rfl, rfl, zis.tup hzT, at0, _, rfl, x, t.c_Flows, dx, _, rfl, hx, T.cl_Flows.cl, T.n_Flows_last, (by show 0 < 1000; decide), ?_⟩
   have sx : ∀ {b : Addr} {o : HO}, ers x H b = some o -> b ≠ x /\ H b = some o := λ {b o} e => by
     have hb : b ≠ x := λ z => by rw [z] at e; unfold ers at e; rw [if_pos rfl] at e; cases e
     rw [zec hb] at e
     exact ⟨hb, e⟩
   have l1 := zhq "last" (V.str fz.name) [] 0 (Nat.le_refl _)
   intro d0 h0
   refine ⟨_, rfl, x, t.c_Flows, dx, _, rfl, zaw zab (Ne.symm (zbm h0).1), T.cl_Flows.cl, T.n_Flows_number_of, (by omega), ?_⟩
   have l2 := zhq "number_of" (.ref d0) _ 1 l1
   intro d1 h1
   refine ⟨_, rfl, x, t.c_Flows, dx, _, rfl, zaw zab (Ne.symm (zbm h1).1), T.cl_Flows.cl, T.n_Flows_folded_of, (by omega), ?_⟩
   have l3 := zhq "folded_of" (.ref d1) _ 2 l2
   intro d2 h2
   refine ⟨_, rfl, x, t.c_Flows, dx, _, rfl, zaw zab (Ne.symm (zbm h2).1), T.cl_Flows.cl, T.n_Flows_params_of, (by omega), ?_⟩
   have l4 := zhq "params_of" (.ref d2) _ 3 l3
   intro d3 h3
   refine ⟨_, rfl, x, t.c_Flows, dx, _, rfl, zaw zab (Ne.symm (zbm h3).1), T.cl_Flows.cl, T.n_Flows_rows_of, (by omega), ?_⟩
   have l5 := zhq "rows_of" (.ref d3) _ 4 l4
   intro d4 h4
   refine ⟨_, rfl, x, t.c_Flows, dx, _, rfl, zaw zab (Ne.symm (zbm h4).1), T.cl_Flows.cl, T.n_Flows_names_in, (by omega), ?_⟩
   have l6 := zhq "names_in" (.ref d4) _ 5 l5
   refine ⟨λ σ' G => ∃ d : Nat -> Addr, σ' = [some (.ref x), some (.ref p), none, none] /\ FS t.c_Flows G x dx (zlv (V.str fz.name) d) d (λ _ => []) /\ (∀ i j, i < 6 -> j < 6 -> d i = d j -> i = j) /\ zak (ers x H) G /\ ∀ k, ers x H (d k) = none, ?_, ?_⟩
   . intro d5 h5
     obtain ⟨nx0, z0⟩ := zbm h0
     have q0 : H d0 = none := z0
     obtain ⟨nx1, z1⟩ := zbm h1
     obtain ⟨n10, w10⟩ := zbm z1
     obtain ⟨_, y10⟩ := zbm w10
     have q1 : H d1 = none := y10
     obtain ⟨nx2, z2⟩ := zbm h2
     obtain ⟨n21, w21⟩ := zbm z2
     obtain ⟨_, y21⟩ := zbm w21
     obtain ⟨n20, w20⟩ := zbm y21
     obtain ⟨_, y20⟩ := zbm w20
     have q2 : H d2 = none := y20
     obtain ⟨nx3, z3⟩ := zbm h3
     obtain ⟨n32, w32⟩ := zbm z3
     obtain ⟨_, y32⟩ := zbm w32
     obtain ⟨n31, w31⟩ := zbm y32
     obtain ⟨_, y31⟩ := zbm w31
     obtain ⟨n30, w30⟩ := zbm y31
     obtain ⟨_, y30⟩ := zbm w30
     have q3 : H d3 = none := y30
     obtain ⟨nx4, z4⟩ := zbm h4
     obtain ⟨n43, w43⟩ := zbm z4
     obtain ⟨_, y43⟩ := zbm w43
     obtain ⟨n42, w42⟩ := zbm y43
     obtain ⟨_, y42⟩ := zbm w42
     obtain ⟨n41, w41⟩ := zbm y42
     obtain ⟨_, y41⟩ := zbm w41
     obtain ⟨n40, w40⟩ := zbm y41
     obtain ⟨_, y40⟩ := zbm w40
     have q4 : H d4 = none := y40
     obtain ⟨nx5, z5⟩ := zbm h5
     obtain ⟨n54, w54⟩ := zbm z5
     obtain ⟨_, y54⟩ := zbm w54
     obtain ⟨n53, w53⟩ := zbm y54
     obtain ⟨_, y53⟩ := zbm w53
     obtain ⟨n52, w52⟩ := zbm y53
     obtain ⟨_, y52⟩ := zbm w52
     obtain ⟨n51, w51⟩ := zbm y52
     obtain ⟨_, y51⟩ := zbm w51
     obtain ⟨n50, w50⟩ := zbm y51
     obtain ⟨_, y50⟩ := zbm w50
     have q5 : H d5 = none := y50
     have inj : ∀ i j, i < 6 -> j < 6 -> dd d0 d1 d2 d3 d4 d5 i = dd d0 d1 d2 d3 d4 d5 j -> i = j := λ i j hi hj e => by
       match i, j, hi, hj with
       | 0, 0, _, _ => rfl
       | 0, 1, _, _ => exact absurd e.symm n10
       | 0, 2, _, _ => exact absurd e.symm n20
       | 0, 3, _, _ => exact absurd e.symm n30
       | 0, 4, _, _ => exact absurd e.symm n40
       | 0, 5, _, _ => exact absurd e.symm n50
       | 1, 0, _, _ => exact absurd e n10
       | 1, 1, _, _ => rfl
       | 1, 2, _, _ => exact absurd e.symm n21
       | 1, 3, _, _ => exact absurd e.symm n31
       | 1, 4, _, _ => exact absurd e.symm n41
       | 1, 5, _, _ => exact absurd e.symm n51
       | 2, 0, _, _ => exact absurd e n20
       | 2, 1, _, _ => exact absurd e n21
       | 2, 2, _, _ => rfl
       | 2, 3, _, _ => exact absurd e.symm n32
       | 2, 4, _, _ => exact absurd e.symm n42
       | 2, 5, _, _ => exact absurd e.symm n52
       | 3, 0, _, _ => exact absurd e n30
       | 3, 1, _, _ => exact absurd e n31
       | 3, 2, _, _ => exact absurd e n32
       | 3, 3, _, _ => rfl
       | 3, 4, _, _ => exact absurd e.symm n43
       | 3, 5, _, _ => exact absurd e.symm n53
       | 4, 0, _, _ => exact absurd e n40
       | 4, 1, _, _ => exact absurd e n41
       | 4, 2, _, _ => exact absurd e n42
       | 4, 3, _, _ => exact absurd e n43
       | 4, 4, _, _ => rfl
       | 4, 5, _, _ => exact absurd e.symm n54
       | 5, 0, _, _ => exact absurd e n50
       | 5, 1, _, _ => exact absurd e n51
       | 5, 2, _, _ => exact absurd e n52
       | 5, 3, _, _ => exact absurd e n53
       | 5, 4, _, _ => exact absurd e n54
       | 5, 5, _, _ => rfl
       | n + 6, _, h, _ => omega
       | _, n + 6, _, h => omega
     refine ⟨_, rfl, x, t.c_Flows, dx, _, rfl, zaw zab (Ne.symm nx5), T.cl_Flows.cl, T.n_Flows_ways_in, (by omega), dd d0 d1 d2 d3 d4 d5, rfl, ⟨zab, λ j hj => ?_⟩, inj, λ b o e => zaw (zaw (zaw (zaw (zaw (zaw (zaw (zaw (zaw (zaw (zaw (zaw (zaw (sx e).2 (sx e).1) (zbg (sx e).2 q0)) (sx e).1) (zbg (sx e).2 q1)) (sx e).1) (zbg (sx e).2 q2)) (sx e).1) (zbg (sx e).2 q3)) (sx e).1) (zbg (sx e).2 q4)) (sx e).1) (zbg (sx e).2 q5)) (sx e).1, λ k => ?_⟩
     . match j, hj with
       | 0, _ => exact zaw (zaw (zaw (zaw (zaw (zaw (zaw (zaw (zaw (zaw (zaw zab nx0) (Ne.symm n10)) nx0) (Ne.symm n20)) nx0) (Ne.symm n30)) nx0) (Ne.symm n40)) nx0) (Ne.symm n50)) nx0
       | 1, _ => exact zaw (zaw (zaw (zaw (zaw (zaw (zaw (zaw (zaw zab nx1) (Ne.symm n21)) nx1) (Ne.symm n31)) nx1) (Ne.symm n41)) nx1) (Ne.symm n51)) nx1
       | 2, _ => exact zaw (zaw (zaw (zaw (zaw (zaw (zaw zab nx2) (Ne.symm n32)) nx2) (Ne.symm n42)) nx2) (Ne.symm n52)) nx2
       | 3, _ => exact zaw (zaw (zaw (zaw (zaw zab nx3) (Ne.symm n43)) nx3) (Ne.symm n53)) nx3
       | 4, _ => exact zaw (zaw (zaw zab nx4) (Ne.symm n54)) nx4
       | 5, _ => exact zaw zab nx5
       | n + 6, h => omega
     . match k with
       | 0 => exact (zec nx0).trans q0
       | 1 => exact (zec nx1).trans q1
       | 2 => exact (zec nx2).trans q2
       | 3 => exact (zec nx3).trans q3
       | 4 => exact (zec nx4).trans q4
       | n + 5 => exact (zec nx5).trans q5
   rintro σ' G ⟨d, rfl, hFS, inj, hsm, hfd⟩
   refine ⟨_, rfl, p, rfl, ⟨_, hsm.seq hS⟩, zry (xs := fns.map λ f => V.ref f.fa) (λ i σ H2 => ∃ (v2 v3 : Option V) (kv : Nat -> List (Key × V)) (nl wl : Nat -> Addr), σ = [some (.ref x), some (.ref p), v2, v3] /\ zak (ers x H) H2 /\ FS t.c_Flows H2 x dx (zlv (V.str fz.name) d) d kv /\ kv 0 = kD (λ i _ => .int i) (fns.take i) /\ kv 1 = kD (λ _ f => f.fo) (fns.take i) /\ kv 2 = kD (λ _ f => .ref f.pa) (fns.take i) /\ kv 3 = kD (λ _ f => .ref f.ra) (fns.take i) /\ kv 4 = kD (λ i _ => .ref (nl i)) (fns.take i) /\ kv 5 = kD (λ i _ => .ref (wl i)) (fns.take i) /\ (∀ j g, j < i -> fns[j]? = some g -> hl H2 (nl j) = some (.lst ((nms g).map V.str)) /\ K13.FoundN (hl H2) (wl j) (kds g) (kds g).length) /\ ∀ j, j < 6 -> (kv j).length <= i) ⟨_, _, _, λ _ => 0, λ _ => 0, rfl, hsm, hFS, rfl, rfl, rfl, rfl, rfl, rfl, λ j g h => absurd h (Nat.not_lt_zero _), λ j hj => Nat.le_refl _⟩ ?_ ?_ ?_⟩
   . rintro i σ H2 hi ⟨v2, v3, kv, nlf, wlf, rfl, s2, _⟩
     exact s2.seq hS
   . rintro i y σ H2 b hy ⟨v2, v3, kv, nlf, wlf, rfl, s2, o2, k0, k1, k2, k3, k4, k5, hnw, kl⟩ hb
     obtain ⟨f, hi, hm, rfl⟩ := ziy hy
     have ilt : i < fns.length := (List.getElem?_eq_some_iff.mp hi).1
     have hT := (hE f hm).fn
     have hfu := (hE f hm).fu
     have fit : ∀ {n : Nat}, n <= i + 1 -> n < sizeLine := λ {n} h => zsc (by omega)
     refine ⟨b, _, rfl, SqT.of zab, rfl, _, _, rfl, _, _, rfl, rfl, ?_⟩
     have s3 := s2.trans (zak.new (o := .tup [.int i, .ref f.fa]) hb)
     have o3 := o2.mono (zak.new (o := .tup [.int i, .ref f.fa]) hb)
     refine ⟨_, rfl, _, rfl, x, t.c_Flows, dx, _, _, rfl, o3.ob, T.cl_Flows.cl, T.n_Flows_number_of, zq7 _ _, _, rfl, f.fa, _, _, _, rfl, rfl, s3.tup hT, at0, d 0, _, rfl, zi0.k (k := (Sum.inr f.name : Key)) (show _ = some (HO.dK (kv 0)) from o3.dc 0 (by decide)) (fit (by have := kl 0 (by decide); simpa using (by omega : _ <= i + 1))), ?_⟩
     have s4 := zak.upd (o := .dK (zbu (kv 0) (Sum.inr f.name : Key) (V.int i))) s3 (hfd 0)
     have o4 := o3.put inj 0 (by decide) (zbu (kv 0) (Sum.inr f.name : Key) (V.int i))
     refine ⟨_, rfl, f.fa, _, _, _, rfl, rfl, s4.tup hT, rfl, _, rfl, x, t.c_Flows, dx, _, _, rfl, o4.ob, T.cl_Flows.cl, T.n_Flows_folded_of, zqn _ _, _, rfl, f.fa, _, _, _, rfl, rfl, s4.tup hT, at0, d 1, _, rfl, zi0.k (k := (Sum.inr f.name : Key)) (show _ = some (HO.dK (kv 1)) from o4.dc 1 (by decide)) (fit (by have := kl 1 (by decide); simpa using (by omega : _ <= i + 1))), ?_⟩
     have s5 := zak.upd (o := .dK (zbu (kv 1) (Sum.inr f.name : Key) f.fo)) s4 (hfd 1)
     have o5 := o4.put inj 1 (by decide) (zbu (kv 1) (Sum.inr f.name : Key) f.fo)
     refine ⟨_, rfl, f.fa, _, _, _, rfl, rfl, s5.tup hT, rfl, _, rfl, x, t.c_Flows, dx, _, _, rfl, o5.ob, T.cl_Flows.cl, T.n_Flows_params_of, zmb _ _, _, rfl, f.fa, _, _, _, rfl, rfl, s5.tup hT, at0, d 2, _, rfl, zi0.k (k := (Sum.inr f.name : Key)) (show _ = some (HO.dK (kv 2)) from o5.dc 2 (by decide)) (fit (by have := kl 2 (by decide); simpa using (by omega : _ <= i + 1))), ?_⟩
     have s6 := zak.upd (o := .dK (zbu (kv 2) (Sum.inr f.name : Key) (.ref f.pa))) s5 (hfd 2)
     have o6 := o5.put inj 2 (by decide) (zbu (kv 2) (Sum.inr f.name : Key) (.ref f.pa))
     refine ⟨_, rfl, f.fa, _, _, _, rfl, rfl, s6.tup hT, rfl, _, rfl, x, t.c_Flows, dx, _, _, rfl, o6.ob, T.cl_Flows.cl, T.n_Flows_rows_of, zra _ _, _, rfl, f.fa, _, _, _, rfl, rfl, s6.tup hT, at0, d 3, _, rfl, zi0.k (k := (Sum.inr f.name : Key)) (show _ = some (HO.dK (kv 3)) from o6.dc 3 (by decide)) (fit (by have := kl 3 (by decide); simpa using (by omega : _ <= i + 1))), ?_⟩
     have s7 := zak.upd (o := .dK (zbu (kv 3) (Sum.inr f.name : Key) (.ref f.ra))) s6 (hfd 3)
     have o7 := o6.put inj 3 (by decide) (zbu (kv 3) (Sum.inr f.name : Key) (.ref f.ra))
     refine ⟨_, rfl, f.fa, f.ps, f.ds, rfl, hfu.mono s7, λ nl H8 e8 hnl hl8 => ?_⟩
     have s8 := s7.trans e8
     have o8 := o7.mono e8
     refine ⟨_, rfl, x, t.c_Flows, dx, _, _, rfl, o8.ob, T.cl_Flows.cl, T.n_Flows_names_in, zny _ _, _, rfl, f.fa, _, _, _, rfl, rfl, s8.tup hT, at0, d 4, _, rfl, zi0.k (k := (Sum.inr f.name : Key)) (show _ = some (HO.dK (kv 4)) from o8.dc 4 (by decide)) (fit (by have := kl 4 (by decide); simpa using (by omega : _ <= i + 1))), ?_⟩
     have s9 := zak.upd (o := .dK (zbu (kv 4) (Sum.inr f.name : Key) (.ref nl))) s8 (hfd 4)
     have o9 := o8.put inj 4 (by decide) (zbu (kv 4) (Sum.inr f.name : Key) (.ref nl))
     refine ⟨_, rfl, f.fa, _, _, _, rfl, rfl, s9.tup hT, rfl, f.ra, kds f, rfl, ((hE f hm).old.mono s9).rows, (hE f hm).wf, (by unfold kds; rw [List.length_map]; have := (hE f hm).len; omega), λ wl HA eA hwl hfn => ?_⟩
     have sA := s9.trans eA
     have oA := o9.mono eA
     refine ⟨_, rfl, x, t.c_Flows, dx, _, _, rfl, oA.ob, T.cl_Flows.cl, T.n_Flows_ways_in, zqa _ _, _, rfl, f.fa, _, _, _, rfl, rfl, sA.tup hT, at0, d 5, _, rfl, zi0.k (k := (Sum.inr f.name : Key)) (show _ = some (HO.dK (kv 5)) from oA.dc 5 (by decide)) (fit (by have := kl 5 (by decide); simpa using (by omega : _ <= i + 1))), ?_⟩
     have sB := zak.upd (o := .dK (zbu (kv 5) (Sum.inr f.name : Key) (.ref wl))) sA (hfd 5)
     have oB := oA.put inj 5 (by decide) (zbu (kv 5) (Sum.inr f.name : Key) (.ref wl))
     have c3 : zak (hl H2) (hl H8) := by
       have z1 : zak (hl H2) (hl (upd H2 b (.tup [.int i, .ref f.fa]))) := (zak.new (o := .tup [.int i, .ref f.fa]) hb).hl
       have z2 := e8.hl
       rw [zpt (o6.dc 3 (by decide)), zpt (o5.dc 2 (by decide)), zpt (o4.dc 1 (by decide)), zpt (o3.dc 0 (by decide))] at z2
       exact z1.trans z2
     have c4 : zak (hl H8) (hl HA) := by
       have z2 := eA.hl
       rw [zpt (o8.dc 4 (by decide))] at z2
       exact z2
     have c5 : hl (upd HA (d 5) (.dK (zbu (kv 5) (Sum.inr f.name : Key) (.ref wl)))) = hl HA := zpt (oA.dc 5 (by decide))
     refine ⟨_, _, _, λ j => if j = i then nl else nlf j, λ j => if j = i then wl else wlf j, rfl, sB, oB, ?_, ?_, ?_, ?_, ?_, ?_, λ j g hj hg => ?_, λ j hj => ?_⟩
     . show zbu (kv 0) (Sum.inr f.name : Key) (V.int i) = _
       rw [k0]
       exact zjc hi nd (λ _ _ _ => rfl) rfl
     . show zbu (kv 1) (Sum.inr f.name : Key) f.fo = _
       rw [k1]
       exact zjc hi nd (λ _ _ _ => rfl) rfl
     . show zbu (kv 2) (Sum.inr f.name : Key) (.ref f.pa) = _
       rw [k2]
       exact zjc hi nd (λ _ _ _ => rfl) rfl
     . show zbu (kv 3) (Sum.inr f.name : Key) (.ref f.ra) = _
       rw [k3]
       exact zjc hi nd (λ _ _ _ => rfl) rfl
     . show zbu (kv 4) (Sum.inr f.name : Key) (.ref nl) = _
       rw [k4]
       exact zjc hi nd (λ j _ hj => by show V.ref (nlf j) = V.ref (if j = i then nl else nlf j); rw [if_neg (by omega)]) (by show V.ref nl = V.ref (if i = i then nl else nlf i); rw [if_pos rfl])
     . show zbu (kv 5) (Sum.inr f.name : Key) (.ref wl) = _
       rw [k5]
       exact zjc hi nd (λ j _ hj => by show V.ref (wlf j) = V.ref (if j = i then wl else wlf j); rw [if_neg (by omega)]) (by show V.ref wl = V.ref (if i = i then wl else wlf i); rw [if_pos rfl])
     . rw [c5]
       by_cases hji : j = i
       . subst hji
         rw [hi] at hg
         cases hg
         refine ⟨?_, ?_⟩
         . show hl HA (if j = j then nl else nlf j) = _
           rw [if_pos rfl]
           exact c4 _ _ (zuj hl8)
         . show K13.FoundN (hl HA) (if j = j then wl else wlf j) _ _
           rw [if_pos rfl]
           exact hfn.hl
       . obtain ⟨y1, y2⟩ := hnw j g (by omega) hg
         refine ⟨?_, ?_⟩
         . show hl HA (if j = i then nl else nlf j) = _
           rw [if_neg hji]
           exact c4 _ _ (c3 _ _ y1)
         . show K13.FoundN (hl HA) (if j = i then wl else wlf j) _ _
           rw [if_neg hji]
           exact y2.mono (c3.trans c4)
     . have e := kl j hj
       match j, hj with
       | 0, _ => exact Nat.le_trans (za2 _ _ _) (by omega)
       | 1, _ => exact Nat.le_trans (za2 _ _ _) (by omega)
       | 2, _ => exact Nat.le_trans (za2 _ _ _) (by omega)
       | 3, _ => exact Nat.le_trans (za2 _ _ _) (by omega)
       | 4, _ => exact Nat.le_trans (za2 _ _ _) (by omega)
       | 5, _ => exact Nat.le_trans (za2 _ _ _) (by omega)
       | n + 6, h => omega
   . rintro σ H2 ⟨v2, v3, kv, nlf, wlf, rfl, s2, o2, k0, k1, k2, k3, k4, k5, hnw, kl⟩
     rw [fl, List.take_length] at k0 k1 k2 k3 k4 k5
     exact q H2 s2 ⟨λ f hf => (hE f hf).mono s2, nd, dx, fz, d, kv, nlf, wlf, hz, o2, k0, k1, k2, k3, k4, k5, λ i f hi => let ⟨y1, y2⟩ := hnw i f (by rw [fl]; exact (List.getElem?_eq_some_iff.mp hi).1) hi; ⟨znv _ _ y1, y2.mono znv⟩⟩
end
end K22
namespace K22
open PySem L2 K21
section
variable {P : Program} {w : World} {K : W.Frag} {mg : Str -> Option Value} {base : Heap} {t : Adr}
theorem zs9 : FnScope ["sign", "one", "other"] ["sign", "one", "other"] (zac zf3) := ⟨rfl, rfl, rfl, by decide +kernel, rfl, by decide +kernel, by decide +kernel⟩
theorem zt1 (T : Txt K mg t) : FnOk P w K mg base CX0 1 t.a_value t.d_value ["sign", "one", "other"] (zof K) := by
 refine T.value.F.ok zs9 (λ vs H Q E h => ?_) (λ cdv A outer s H vs Q E hr h => ?_)
 . obtain ⟨s, a, b, rfl, h1, h2, h3, h4, q⟩ := h
   rfl
 . obtain ⟨s, a, b, rfl, h1, h2, h3, h4, q⟩ := h
   refine ⟨_, (@zad _ _ _ _ _ (@zbk _ _ _ _ _ _ _ _ (@zap _ _ _ _ _ _ _ _ zcc (pv 0) zav (zar _)) (@zah _ _ _ (@zan _ _ _ _ (@zat _ _ _ _ _ _ _ _ zca (@zat _ _ _ _ _ _ _ _ zf6 (pv 1) (pv 2)) (zm5 T.c_WIDE)))) zal) (@zad _ _ _ _ _ (@zbk _ _ _ _ _ _ _ _ (@zap _ _ _ _ _ _ _ _ zcc (pv 0) zav (zar _)) (@zah _ _ _ (@zan _ _ _ _ (@zat _ _ _ _ _ _ _ _ zca (@zat _ _ _ _ _ _ _ _ zml (pv 1) (pv 2)) (zm5 T.c_WIDE)))) zal) (@zad _ _ _ _ _ (@zbk _ _ _ _ _ _ _ _ (@zap _ _ _ _ _ _ _ _ zcc (pv 0) zav (zar _)) (@zah _ _ _ (@zan _ _ _ _ (@zat _ _ _ _ _ _ _ _ zca (@zat _ _ _ _ _ _ _ _ zid (pv 1) (pv 2)) (zm5 T.c_WIDE)))) zal) (@zad _ _ _ _ _ (@zbk _ _ _ _ _ _ _ _ (@zap _ _ _ _ _ _ _ _ zcc (pv 0) zav (zar _)) (@zah _ _ _ (@zan _ _ _ _ (@zgh _ _ _ _ _ _ _ _ (@zap _ _ _ _ _ _ _ _ zcc (pv 2) zae (zar _)) zae (@zat _ _ _ _ _ _ _ _ zn4 (pv 1) (pv 2))))) zal) (@zad _ _ _ _ _ (@zbk _ _ _ _ _ _ _ _ (@zap _ _ _ _ _ _ _ _ zcc (pv 0) zav (zar _)) (@zah _ _ _ (@zan _ _ _ _ (@zgh _ _ _ _ _ _ _ _ (@zap _ _ _ _ _ _ _ _ zta (pv 1) (pv 2) (zar _)) zae zae))) zal) (@zad _ _ _ _ _ (@zbk _ _ _ _ _ _ _ _ (@zap _ _ _ _ _ _ _ _ zcc (pv 0) zav (zar _)) (@zah _ _ _ (@zan _ _ _ _ (@zgh _ _ _ _ _ _ _ _ (@zap _ _ _ _ _ _ _ _ zcc (pv 1) (pv 2) (zar _)) zae zae))) zal) (@zad _ _ _ _ _ (@zbk _ _ _ _ _ _ _ _ (@zap _ _ _ _ _ _ _ _ zcc (pv 0) zav (zar _)) (@zah _ _ _ (@zan _ _ _ _ (@zat _ _ _ _ _ _ _ _ zus (pv 1) (pv 2)))) zal) (@zad _ _ _ _ _ (@zbk _ _ _ _ _ _ _ _ (@zap _ _ _ _ _ _ _ _ zcc (pv 0) zav (zar _)) (@zah _ _ _ (@zan _ _ _ _ (@zat _ _ _ _ _ _ _ _ zxi (pv 1) (pv 2)))) zal) (@zah _ _ _ (@zan _ _ _ _ (@zat _ _ _ _ _ _ _ _ zua (pv 1) (pv 2)))))))))))), ?_⟩
   have hw : wide = 281474976710656 := rfl
   refine ⟨_, rfl, rfl, _, rfl, ?_⟩
   by_cases k1 : s = "+"
   . refine zeu (decide_eq_true (congrArg V.str k1)) ?_
     have e : valOf s a b = (a + b) % wide := by unfold valOf; rw [if_pos k1]
     rw [e] at q
     exact ⟨_, rfl, _, rfl, _, _, rfl, rfl, _, _, rfl, rfl, (show (0 : Int) < 281474976710656 by decide), q⟩
   refine zco (λ z => k1 (V.str.inj (za7 z))) ?_
   refine ⟨_, rfl, rfl, _, rfl, ?_⟩
   by_cases k2 : s = "-"
   . refine zeu (decide_eq_true (congrArg V.str k2)) ?_
     have e : valOf s a b = (a - b) % wide := by unfold valOf; rw [if_neg k1, if_pos k2]
     rw [e] at q
     exact ⟨_, rfl, _, rfl, _, _, rfl, rfl, _, _, rfl, rfl, (show (0 : Int) < 281474976710656 by decide), q⟩
   refine zco (λ z => k2 (V.str.inj (za7 z))) ?_
   refine ⟨_, rfl, rfl, _, rfl, ?_⟩
   by_cases k3 : s = "*"
   . refine zeu (decide_eq_true (congrArg V.str k3)) ?_
     have e : valOf s a b = (a * b) % wide := by unfold valOf; rw [if_neg k1, if_neg k2, if_pos k3]
     rw [e] at q
     exact ⟨_, rfl, _, rfl, _, _, rfl, rfl, .inl ⟨by omega, by omega⟩, _, _, rfl, rfl, (show (0 : Int) < 281474976710656 by decide), q⟩
   refine zco (λ z => k3 (V.str.inj (za7 z))) ?_
   refine ⟨_, rfl, rfl, _, rfl, ?_⟩
   by_cases k4 : s = "/"
   . refine zeu (decide_eq_true (congrArg V.str k4)) ?_
     have e : valOf s a b = if b = 0 then 0 else a / b := by unfold valOf; rw [if_neg k1, if_neg k2, if_neg k3, if_pos k4]
     rw [e] at q
     refine ⟨_, rfl, rfl, _, rfl, ?_⟩
     by_cases hb : b = 0
     . rw [if_pos hb] at q
       exact zeu (decide_eq_true (congrArg V.int hb)) q
     . rw [if_neg hb] at q
       exact zco (λ z => hb (V.int.inj (za7 z))) ⟨_, rfl, _, rfl, _, _, rfl, rfl, ⟨by omega, by omega⟩, q⟩
   refine zco (λ z => k4 (V.str.inj (za7 z))) ?_
   refine ⟨_, rfl, rfl, _, rfl, ?_⟩
   by_cases k5 : s = "<"
   . refine zeu (decide_eq_true (congrArg V.str k5)) ?_
     have e : valOf s a b = if a < b then 1 else 0 := by unfold valOf; rw [if_neg k1, if_neg k2, if_neg k3, if_neg k4, if_pos k5]
     rw [e] at q
     refine ⟨_, rfl, _, rfl, _, _, rfl, rfl, _, rfl, ?_⟩
     by_cases hb : a < b
     . rw [if_pos hb] at q
       exact zeu (decide_eq_true hb) q
     . rw [if_neg hb] at q
       exact zco (λ z => hb (za7 z)) q
   refine zco (λ z => k5 (V.str.inj (za7 z))) ?_
   refine ⟨_, rfl, rfl, _, rfl, ?_⟩
   by_cases k6 : s = "="
   . refine zeu (decide_eq_true (congrArg V.str k6)) ?_
     have e : valOf s a b = if a = b then 1 else 0 := by unfold valOf; rw [if_neg k1, if_neg k2, if_neg k3, if_neg k4, if_neg k5, if_pos k6]
     rw [e] at q
     refine ⟨_, rfl, _, rfl, rfl, _, rfl, ?_⟩
     by_cases hb : a = b
     . rw [if_pos hb] at q
       exact zeu (decide_eq_true (congrArg V.int hb)) q
     . rw [if_neg hb] at q
       exact zco (λ z => hb (V.int.inj (za7 z))) q
   refine zco (λ z => k6 (V.str.inj (za7 z))) ?_
   refine ⟨_, rfl, rfl, _, rfl, ?_⟩
   by_cases k7 : s = "&"
   . refine zeu (decide_eq_true (congrArg V.str k7)) ?_
     have e : valOf s a b = Builtin.bitAnd a b := by unfold valOf bw; rw [if_neg k1, if_neg k2, if_neg k3, if_neg k4, if_neg k5, if_neg k6, if_pos k7]
     rw [e] at q
     exact ⟨_, rfl, _, rfl, _, _, rfl, rfl, q⟩
   refine zco (λ z => k7 (V.str.inj (za7 z))) ?_
   refine ⟨_, rfl, rfl, _, rfl, ?_⟩
   by_cases k8 : s = "|"
   . refine zeu (decide_eq_true (congrArg V.str k8)) ?_
     have e : valOf s a b = Builtin.bitOr a b := by unfold valOf bw; rw [if_neg k1, if_neg k2, if_neg k3, if_neg k4, if_neg k5, if_neg k6, if_neg k7, if_pos k8]
     rw [e] at q
     exact ⟨_, rfl, _, rfl, _, _, rfl, rfl, q⟩
   refine zco (λ z => k8 (V.str.inj (za7 z))) ?_
   have e : valOf s a b = Builtin.bitXor a b := by unfold valOf bw; rw [if_neg k1, if_neg k2, if_neg k3, if_neg k4, if_neg k5, if_neg k6, if_neg k7, if_neg k8]
   rw [e] at q
   exact ⟨_, rfl, _, rfl, _, _, rfl, rfl, q⟩
end
end K22
namespace K22
open PySem L2 Gx Fl Wk
section
variable {P : Program} {w : World} {K : W.Frag} {mg : Str -> Option Value} {base : Heap} {t : Adr}
theorem zjq : FnScope ["self", "program"] ["self", "program"] (zac zcd) := ⟨rfl, rfl, rfl, by decide +kernel, rfl, by decide +kernel, by decide +kernel⟩
theorem zjz (T : Txt K mg t) : FnOk P w K mg base CX0 6 t.a_Walker_init t.d_Walker_init ["self", "program"] (zgu K t) := by
 have G_Flows_init : FnOk P w K mg base CX0 4 t.a_Flows_init t.d_Flows_init ["self", "program"] (zg5 K t) := zk7 T
 refine T.Walker_init.F.ok zjq (λ vs H Q E h => ?_) (λ cdv A outer s H vs Q E hr h => ?_)
 . obtain ⟨x, dx, p, fns, rfl, hx, hp, hne, hlen, hall, hnd, q⟩ := h
   rfl
 . obtain ⟨x, dx, p, fns, rfl, hx, hp, hne, hlen, hall, hnd, q⟩ := h
   refine ⟨_, (@zad _ _ _ _ _ (zdw (pv 0) (zu2 T.cl_Flows T.Flows_init G_Flows_init (hr.mono (by decide)) (@zaa _ _ _ _ _ (pv 1) zag (by rfl))) (by rfl)) (@zad _ _ _ _ _ (zdw (pv 0) (@zd8 _ _ _ _ zag) (by rfl)) (@zad _ _ _ _ _ (zdw (pv 0) zfo (by rfl)) (@zad _ _ _ _ _ (zdw (pv 0) (@zd8 _ _ _ _ zag) (by rfl)) (@zad _ _ _ _ _ (zdw (pv 0) zdp (by rfl)) (@zah _ _ _ (zdw (pv 0) zae (by rfl)))))))), ?_⟩
   refine ⟨_, rfl, λ fl fdx hfl hfdx nfd => ?_⟩
   have nxf : x ≠ fl := λ z => by rw [<- z, hx] at hfl; cases hfl
   have nxd : x ≠ fdx := λ z => by rw [<- z, hx] at hfdx; cases hfdx
   have sE : zak (ers x H) (ers fl (upd (upd H fdx (.own fl)) fl (.ins t.c_Flows fdx []))) := λ b o hb => by
     unfold L2.ers at hb
     split at hb
     . cases hb
     . have n1 : b ≠ fl := λ z => by rw [z, hfl] at hb; cases hb
       have n2 : b ≠ fdx := λ z => by rw [z, hfdx] at hb; cases hb
       rw [zec n1, zaf n1, zaf n2]
       exact hb
   refine ⟨fl, fdx, p, fns, rfl, zab, sE.seq hp, hne, hlen, λ f hf => (hall f hf).mono sE, hnd, λ H2 s2 hFl => ⟨rfl, ?_⟩⟩
   have hx2 : H2 x = some (.ins t.c_TextWalker dx []) := s2 _ _ (by rw [zec nxf, zaf nxf, zaf nxd]; exact hx)
   have sb : zak (ers x H) (ers x H2) := λ b o hb => by
     have nb : b ≠ x := λ z => by rw [z] at hb; unfold L2.ers at hb; rw [if_pos rfl] at hb; cases hb
     rw [zec nb]
     exact s2 _ _ (sE _ _ hb)
   have hFb : F2.FlowsAt K t.c_Flows (ers x H2) fl fns := zt0 hFl (λ b o hb hn => by
     have nb : b ≠ x := λ z => by rw [z, hx2] at hb; cases hb; exact hn _ _ _ rfl
     rw [zec nb]
     exact hb) (λ o ho => by rw [zec nxf.symm]; exact ho)
   refine ⟨_, rfl, x, _, _, _, rfl, hx2, T.cl_TextWalker.cl, T.n_TextWalker_flows, (by decide), le0, λ st hst => ⟨_, rfl, x, _, _, _, rfl, zak.new hst _ _ zab, T.cl_TextWalker.cl, T.n_TextWalker_stack, Nat.lt_of_le_of_lt (zm3 _ _ _ 0 (Nat.le_refl 0)) (by decide), _, rfl, x, _, _, _, rfl, zab, T.cl_TextWalker.cl, T.n_TextWalker_outcome, Nat.lt_of_le_of_lt (zm3 _ _ _ 1 (zm3 _ _ _ 0 (Nat.le_refl 0))) (by decide), le0, λ sd hsd => ⟨_, rfl, x, _, _, _, rfl, zak.new hsd _ _ zab, T.cl_TextWalker.cl, T.n_TextWalker_sendings, Nat.lt_of_le_of_lt (zm3 _ _ _ 2 (zm3 _ _ _ 1 (zm3 _ _ _ 0 (Nat.le_refl 0)))) (by decide), λ ct hct => ⟨_, rfl, x, _, _, _, rfl, zak.new hct _ _ zab, T.cl_TextWalker.cl, T.n_TextWalker_contents, Nat.lt_of_le_of_lt (zm3 _ _ _ 3 (zm3 _ _ _ 2 (zm3 _ _ _ 1 (zm3 _ _ _ 0 (Nat.le_refl 0))))) (by decide), _, rfl, x, _, _, _, rfl, zab, T.cl_TextWalker.cl, T.n_TextWalker_records, Nat.lt_of_le_of_lt (zm3 _ _ _ 4 (zm3 _ _ _ 3 (zm3 _ _ _ 2 (zm3 _ _ _ 1 (zm3 _ _ _ 0 (Nat.le_refl 0)))))) (by decide), ?_⟩⟩⟩⟩
   have nst : st ≠ x := λ z => by rw [z, zab] at hst; cases hst
   have hst2 : H2 st = none := by rwa [zaf nst] at hst
   have nsd : sd ≠ x := λ z => by rw [z, zab] at hsd; cases hsd
   rw [zaf nsd, zaf nsd] at hsd
   have nss : sd ≠ st := λ z => by rw [z, zab] at hsd; cases hsd
   have hsd2 : H2 sd = none := by rwa [zaf nss, zaf nsd] at hsd
   have nct : ct ≠ x := λ z => by rw [z, zab] at hct; cases hct
   rw [zaf nct] at hct
   have ncd : ct ≠ sd := λ z => by rw [z, zab] at hct; cases hct
   rw [zaf ncd, zaf nct, zaf nct] at hct
   have ncs : ct ≠ st := λ z => by rw [z, zab] at hct; cases hct
   have hct2 : H2 ct = none := by rwa [zaf ncs, zaf nct] at hct
   have hb0 : ∀ {b : Addr}, H2 b = none -> ers x H2 b = none := λ {b} hb => by
     unfold L2.ers
     split
     . rfl
     . exact hb
   have fin : ∀ b o, ers x H2 b = some o -> b ≠ x /\ b ≠ st /\ b ≠ sd /\ b ≠ ct /\ H2 b = some o := λ b o hb => by
     unfold L2.ers at hb
     split at hb
     . cases hb
     . rename_i nb
       exact ⟨nb, (λ z => by rw [z, hst2] at hb; cases hb), (λ z => by rw [z, hsd2] at hb; cases hb), (λ z => by rw [z, hct2] at hb; cases hb), hb⟩
   refine q (ers x H2) ⟨x, dx, st, sd, ct, fl⟩ _ rfl sb ⟨λ b o hb => ?_, zab, ?_, ?_, ?_, (λ f hf => by cases hf), List.nodup_nil, List.nodup_nil, nss.symm, (λ f hf => by cases hf), ⟨ncs, ncd, nct⟩, (λ f hf => by cases hf), ?_, hb0 hst2, hb0 hsd2, hb0 hct2, (λ f hf => by cases hf)⟩ hFb
   . obtain ⟨n1, n2, n3, n4, e⟩ := fin b o hb
     rw [zaf n1, zaf n1, zaf n4, zaf n1, zaf n3, zaf n1, zaf n1, zaf n2, zaf n1]
     exact e
   . show upd _ x _ st = _
     rw [zaf nst, zaf nst, zaf ncs.symm, zaf nst, zaf nss.symm, zaf nst, zaf nst, zab]
     rfl
   . show upd _ x _ sd = _
     rw [zaf nsd, zaf nsd, zaf ncd.symm, zaf nsd, zab]
   . show upd _ x _ ct = _
     rw [zaf nct, zaf nct, zab]
   . show ers x H2 x = none
     unfold L2.ers
     rw [if_pos rfl]
theorem zjd : FnScope ["self"] ["self"] (zac zb5) := ⟨rfl, rfl, rfl, by decide +kernel, rfl, by decide +kernel, by decide +kernel⟩
theorem zer (T : Txt K mg t) : FnOk P w K mg base CX0 1 t.a_Walker_ended t.d_Walker_ended ["self"] (zdo K t) := by
 refine T.Walker_ended.F.ok zjd (λ vs H Q E h => ?_) (λ cdv A outer s H vs Q E hr h => ?_)
 . obtain ⟨Hb, w, fs, oc, sent, rfl, h, q⟩ := h
   rfl
 . obtain ⟨Hb, w, fs, oc, sent, rfl, h, q⟩ := h
   refine ⟨_, (@zad _ _ _ _ _ (@zan _ _ _ _ (zfj zcc (zbz zbv (by rfl) T.b_len zfp (@zaa _ _ _ _ _ (zbj (pv 0) (by rfl)) zag (by rfl))) zae (zar _))) zal), ?_⟩
   refine ⟨_, rfl, w.a, _, _, _, _, rfl, h.o, T.cl_TextWalker.cl, T.n_TextWalker_stack, rfl, w.st, _, rfl, .inl (SqL.of h.st), rfl, vq (congrArg V.bl ?_) q⟩
   rw [Bool.eq_iff_iff, decide_eq_true_eq, decide_eq_true_eq]
   cases fs with
   | nil => exact ⟨λ _ => rfl, λ _ => rfl⟩
   | cons f r => exact ⟨(λ z => by have := V.int.inj z; simp at this; omega), λ z => by cases z⟩
theorem zii : FnScope ["self"] ["self"] (zac zb0) := ⟨rfl, rfl, rfl, by decide +kernel, rfl, by decide +kernel, by decide +kernel⟩
theorem zfq (T : Txt K mg t) : FnOk P w K mg base CX0 1 t.a_Walker_answer t.d_Walker_answer ["self"] (zee K t) := by
 refine T.Walker_answer.F.ok zii (λ vs H Q E h => ?_) (λ cdv A outer s H vs Q E hr h => ?_)
 . obtain ⟨Hb, w, fs, oc, sent, rfl, h, q⟩ := h
   rfl
 . obtain ⟨Hb, w, fs, oc, sent, rfl, h, q⟩ := h
   refine ⟨_, (@zad _ _ _ _ _ (@zan _ _ _ _ (zbj (pv 0) (by rfl))) zal), ?_⟩
   exact ⟨_, rfl, w.a, _, _, _, _, rfl, h.o, T.cl_TextWalker.cl, T.n_TextWalker_outcome, rfl, q⟩
theorem zjy : FnScope ["self"] ["self"] (zac zce) := ⟨rfl, rfl, rfl, by decide +kernel, rfl, by decide +kernel, by decide +kernel⟩
theorem zjt (T : Txt K mg t) : FnOk P w K mg base CX0 1 t.a_Walker_sent t.d_Walker_sent ["self"] (zgs K t) := by
 refine T.Walker_sent.F.ok zjy (λ vs H Q E h => ?_) (λ cdv A outer s H vs Q E hr h => ?_)
 . obtain ⟨Hb, w, fs, oc, sent, rfl, h, q⟩ := h
   rfl
 . obtain ⟨Hb, w, fs, oc, sent, rfl, h, q⟩ := h
   refine ⟨_, (@zad _ _ _ _ _ (@zan _ _ _ _ (zcg zdh (by rfl) T.b_list zf7 (@zaa _ _ _ _ _ (zbj (pv 0) (by rfl)) zag (by rfl)))) zal), ?_⟩
   exact ⟨_, rfl, w.a, _, _, _, _, rfl, h.o, T.cl_TextWalker.cl, T.n_TextWalker_sendings, rfl, w.sd, _, rfl, .inl (SqL.of h.sd), q⟩
theorem zi5 : FnScope ["self", "record", "name"] ["self", "record", "name"] (zac zb7) := ⟨rfl, rfl, rfl, by decide +kernel, rfl, by decide +kernel, by decide +kernel⟩
theorem zjb (T : Txt K mg t) : FnOk P w K mg base CX0 1 t.a_Walker_field t.d_Walker_field ["self", "record", "name"] (zgc K t) := T.Walker_field.F.ok zi5 (λ vs H Q E h => h.elim) (λ cdv A outer s H vs Q E hr h => h.elim)
theorem zfw : FnScope ["self", "frame"] ["self", "frame"] (zac zaz) := ⟨rfl, rfl, rfl, by decide +kernel, rfl, by decide +kernel, by decide +kernel⟩
theorem zdy (T : Txt K mg t) : FnOk P w K mg base CX0 1 t.a_TextWalker_chain_of t.d_TextWalker_chain_of ["self", "frame"] (zcx K t) := by
 refine T.TextWalker_chain_of.F.ok zfw (λ vs H Q E h => ?_) (λ cdv A outer s H vs Q E hr h => ?_)
 . obtain ⟨x, f, rfl, h, q⟩ := h
   rfl
 . obtain ⟨x, f, rfl, h, q⟩ := h
   refine ⟨_, (@zad _ _ _ _ _ (@zan _ _ _ _ (@zd8 _ _ _ _ (@zaa _ _ _ _ _ (@zcz _ _ _ _ _ (@zaa _ _ _ _ _ (zbj (pv 1) (by rfl)) (@zaa _ _ _ _ _ (zbj (pv 1) (by rfl)) zag (by rfl)) (by rfl))) zag (by rfl)))) zal), ?_⟩
   refine ⟨_, rfl, f.a, _, _, _, _, rfl, h.o, T.cl_TextFrame.cl, T.n_TextFrame_function, rfl, _, rfl, f.a, _, _, _, _, rfl, h.o, T.cl_TextFrame.cl, T.n_TextFrame_row, rfl, le2, λ tp htp => ⟨le1, λ l hl => ?_⟩⟩
   have ne : l ≠ tp := λ z => by rw [z, zab] at hl; cases hl
   exact q tp l htp (by rwa [zaf ne] at hl) ne
theorem zef : FnScope ["self", "found", "frame"] ["self"] (zac zb1) := ⟨rfl, rfl, rfl, by decide +kernel, rfl, by decide +kernel, by decide +kernel⟩
theorem zik (T : Txt K mg t) : FnOk P w K mg base CX0 2 t.a_Walker_frames t.d_Walker_frames ["self"] (zfr K t) := by
 have G_TextWalker_chain_of : FnOk P w K mg base CX0 1 t.a_TextWalker_chain_of t.d_TextWalker_chain_of ["self", "frame"] (zcx K t) := zdy T
 refine T.Walker_frames.F.ok zef (λ vs H Q E h => ?_) (λ cdv A outer s H vs Q E hr h => ?_)
 . obtain ⟨Hb, w, fs, oc, sent, rfl, h, hl, q⟩ := h
   rfl
 . obtain ⟨Hb, w, fs, oc, sent, rfl, h, hl, q⟩ := h
   refine ⟨_, (@zad _ _ _ _ _ (@zba _ _ 1 _ _ _ _ zef.nd rfl (Or.inl rfl) (@zd8 _ _ _ _ zag) (by rfl) (by first | exact .inl rfl | exact .inr rfl | assumption)) (@zad _ _ _ _ _ (zd5 PassesOwn.never rfl (zf0 (zbj (pv 0) (by rfl))) (zbc (i := 2) zef.nd rfl (Or.inl rfl)) (@zah _ _ _ (@zbt _ _ _ _ (zgo PySem.F.plainAttrs_list PySem.F.slot_list_extend PySem.F.type_list_extend zmd (pv 1) (@zaa _ _ _ _ _ (zbi (pv 0) T.cl_TextWalker.cl T.TextWalker_chain_of.m G_TextWalker_chain_of (hr.mono (by decide)) T.TextWalker_chain_of.b .nil zcb (@zaa _ _ _ _ _ (pv 2) zag (by rfl))) zag (by rfl))) (by rfl)))) (@zah _ _ _ (@zan _ _ _ _ (pv 1))))), ?_⟩
   refine ⟨le0, λ l hl0 => ?_⟩
   have s1 := zak.new (o := .lst []) hl0
   have e1 := zab (H := H) (a := l) (o := .lst [])
   generalize upd H l (.lst []) = H1 at s1 e1 ⊢
   have h1 := h.grow s1
   refine ⟨_, rfl, w.a, _, _, _, _, rfl, h1.o, T.cl_TextWalker.cl, T.n_TextWalker_stack, rfl, w.st, rfl, ⟨_, SqL.of h1.st⟩, zgi (xs := fs.map λ f => V.ref f.a) (λ i σ H2 => ∃ (tps : List Addr) (v2 : Option V), σ = [some (.ref w.a), some (.ref l), v2] /\ zak H H2 /\ H2 l = some (.lst (tps.map V.ref)) /\ tps.length = i /\ ∀ (k : Nat) f tp, fs[k]? = some f -> tps[k]? = some tp -> H tp = none /\ tp ≠ l /\ H2 tp = some (zsm f)) ⟨[], _, rfl, s1, e1, rfl, λ k f tp _ h => by simp at h⟩ ?_ ?_ ?_⟩
   . rintro i σ H2 hi ⟨tps, v2, rfl, s2, _⟩
     exact SqL.of (s2 _ _ h.st)
   . rintro i x σ H2 hx ⟨tps, v2, rfl, s2, e2, hlen, hat⟩
     obtain ⟨f, hf, hfm, rfl⟩ := ziy hx
     have h2 := h.grow s2
     have hF := h2.fr f hfm
     have hi := (List.getElem?_eq_some_iff.mp hf).1
     refine ⟨_, rfl, .inl ⟨rfl, _, SqL.of e2⟩, _, rfl, w.a, _, _, rfl, h2.o, rfl, _, rfl, .ref w.a, f, rfl, hF, λ tp l2 htp hl2 ne => ?_⟩
     have sA := zak.new (o := zsm f) htp
     have hl2' : upd H2 tp (zsm f) l2 = none := by rw [zaf ne]; exact hl2
     have sB := zak.new (o := .lst [.ref tp]) hl2'
     have ntp : tp ≠ l := λ z => by rw [z, e2] at htp; cases htp
     refine ⟨l, l2, tps.map V.ref, [.ref tp], rfl, rfl, sB _ _ (sA _ _ e2), zab, (by rw [List.length_map, hlen]; show i + 1 <= sizeLine; exact Nat.le_of_lt (zbs (by omega))), tps ++ [tp], _, rfl, ((s2.trans sA).trans sB).upd hl0, ?_, by rw [List.length_append, hlen]; rfl, λ k g tq hg hq => ?_⟩
     . rw [List.map_append]; exact zab
     . rcases Nat.lt_or_ge k tps.length with hk | hk
       . rw [List.getElem?_append_left hk] at hq
         obtain ⟨a1, a2, a3⟩ := hat k g tq hg hq
         exact ⟨a1, a2, by rw [zaf a2]; exact sB _ _ (sA _ _ a3)⟩
       . rw [List.getElem?_append_right hk] at hq
         have hk0 : k - tps.length = 0 := by
           have := (List.getElem?_eq_some_iff.mp hq).1
           simp at this
           omega
         rw [hk0] at hq
         cases hq
         have hki : k = i := by omega
         rw [hki, hf] at hg
         cases hg
         refine ⟨s2.free htp, ntp, ?_⟩
         rw [zaf ntp]
         exact sB _ _ zab
   . rintro σ H2 ⟨tps, v2, rfl, s2, e2, hlen, hat⟩
     rw [List.length_map] at hlen
     exact ⟨_, rfl, q l H2 tps hl0 s2 e2 hlen hat⟩
theorem zfu : FnScope ["self", "level"] ["self", "level"] (zac zay) := ⟨rfl, rfl, rfl, by decide +kernel, rfl, by decide +kernel, by decide +kernel⟩
theorem zdz (T : Txt K mg t) : FnOk P w K mg base CX0 2 t.a_TextWalker_shown_at t.d_TextWalker_shown_at ["self", "level"] (zcy K t) := by
 have G_TextWalker_chain_of : FnOk P w K mg base CX0 1 t.a_TextWalker_chain_of t.d_TextWalker_chain_of ["self", "frame"] (zcx K t) := zdy T
 refine T.TextWalker_shown_at.F.ok zfu (λ vs H Q E h => ?_) (λ cdv A outer s H vs Q E hr h => ?_)
 . obtain ⟨Hb, w, fs, oc, sent, i, f, rfl, h, hf, q⟩ := h
   rfl
 . obtain ⟨Hb, w, fs, oc, sent, i, f, rfl, h, hf, q⟩ := h
   refine ⟨_, (@zad _ _ _ _ _ (@zbk _ _ _ _ _ _ _ _ (@PW.pt _ _ _ (zns (@zap _ _ _ _ _ _ _ _ zta (pv 1) zae (zar _)) (zkj (@zap _ _ _ _ _ _ _ _ zzd (pv 1) (zbz zbv (by rfl) T.b_len zfp (@zaa _ _ _ _ _ (zbj (pv 0) (by rfl)) zag (by rfl))) (zar _))))) (@zah _ _ _ (@zan _ _ _ _ zfo)) zal) (@zah _ _ _ (@zan _ _ _ _ (@zao _ _ _ _ _ _ _ za1 (zbi (pv 0) T.cl_TextWalker.cl T.TextWalker_chain_of.m G_TextWalker_chain_of (hr.mono (by decide)) T.TextWalker_chain_of.b .nil zcb (@zaa _ _ _ _ _ (@zao _ _ _ _ _ _ _ za1 (zbj (pv 0) (by rfl)) (pv 1) (λ _ _ => rfl)) zag (by rfl))) zae (λ _ _ => rfl))))), ?_⟩
   have hF := h.fr f (List.mem_of_getElem? hf)
   have hi := (List.getElem?_eq_some_iff.mp hf).1
   refine ⟨_, rfl, _, _, rfl, rfl, _, rfl, zco (λ z => by have := za7 z; omega) ⟨_, rfl, _, rfl, w.a, _, _, _, _, rfl, h.o, T.cl_TextWalker.cl, T.n_TextWalker_stack, rfl, w.st, _, rfl, .inl (SqL.of h.st), _, _, rfl, rfl, _, rfl, zco (λ z => by have := za7 z; rw [List.length_map] at this; omega) ?_⟩⟩
   refine ⟨_, rfl, w.a, _, _, rfl, h.o, rfl, _, rfl, w.a, _, _, _, _, rfl, h.o, T.cl_TextWalker.cl, T.n_TextWalker_stack, rfl, _, rfl, w.st, _, _, _, rfl, rfl, SqL.of h.st, zlb (by omega) (by rw [Int.toNat_natCast]; exact hf), .ref w.a, f, rfl, hF, λ tp l htp hl ne => ⟨l, _, _, _, rfl, rfl, SqL.of zab, at0, ?_⟩⟩
   have s1 := zak.new (o := zsm f) htp
   have hl' : upd H tp (zsm f) l = none := by rw [zaf ne]; exact hl
   exact q tp _ htp (s1.trans (zak.new hl')) (zak.new hl' _ _ zab)
theorem zfl : FnScope ["self", "level"] ["self", "level"] (zac zau) := ⟨rfl, rfl, rfl, by decide +kernel, rfl, by decide +kernel, by decide +kernel⟩
theorem zfd (T : Txt K mg t) : FnOk P w K mg base CX0 3 t.a_Walker_ask_for_level t.d_Walker_ask_for_level ["self", "level"] (zds K t) := by
 have G_TextWalker_shown_at : FnOk P w K mg base CX0 2 t.a_TextWalker_shown_at t.d_TextWalker_shown_at ["self", "level"] (zcy K t) := zdz T
 refine T.Walker_ask_for_level.F.ok zfl (λ vs H Q E h => ?_) (λ cdv A outer s H vs Q E hr h => ?_)
 . obtain ⟨Hb, w, fs, oc, sent, i, rfl, h, hi, q⟩ := h
   rfl
 . obtain ⟨Hb, w, fs, oc, sent, i, rfl, h, hi, q⟩ := h
   refine ⟨_, (@zad _ _ _ _ _ (@zbk _ _ _ _ _ _ _ _ (zmx (zon (zbi (pv 0) T.cl_TextWalker.cl T.TextWalker_shown_at.m G_TextWalker_shown_at (hr.mono (by decide)) T.TextWalker_shown_at.b .nil zcb (@zaa _ _ _ _ _ (pv 1) zag (by rfl))))) (@zah _ _ _ zk6) zal) zal), ?_⟩
   have hf : fs[i]? = some fs[i] := List.getElem?_eq_getElem hi
   exact ⟨_, rfl, w.a, _, _, rfl, h.o, rfl, _, rfl, Hb, w, fs, oc, sent, i, fs[i], rfl, h, hf, λ tp H1 htp s1 e1 => ⟨_, rfl, zco (by simp) (q H1 s1)⟩⟩
theorem zhe : FnScope ["self", "level"] ["self", "level"] (zac zbn) := ⟨rfl, rfl, rfl, by decide +kernel, rfl, by decide +kernel, by decide +kernel⟩
theorem zg8 (T : Txt K mg t) : FnOk P w K mg base CX0 3 t.a_Walker_names_at t.d_Walker_names_at ["self", "level"] (ze3 K t) := by
 have G_TextWalker_shown_at : FnOk P w K mg base CX0 2 t.a_TextWalker_shown_at t.d_TextWalker_shown_at ["self", "level"] (zcy K t) := zdz T
 refine T.Walker_names_at.F.ok zhe (λ vs H Q E h => ?_) (λ cdv A outer s H vs Q E hr h => ?_)
 . obtain ⟨Hb, w, fs, oc, sent, i, f, fns, F, rfl, h, hf, hFl, hF, hn, q⟩ := h
   rfl
 . obtain ⟨Hb, w, fs, oc, sent, i, f, fns, F, rfl, h, hf, hFl, hF, hn, q⟩ := h
   refine ⟨_, (@zad _ _ _ _ _ (@zan _ _ _ _ (zt2 (u1' hr.units) (zbj (zbj (pv 0) (by rfl)) (by rfl)) (@zao _ _ _ _ _ _ _ zaq (zbi (pv 0) T.cl_TextWalker.cl T.TextWalker_shown_at.m G_TextWalker_shown_at (hr.mono (by decide)) T.TextWalker_shown_at.b .nil zcb (@zaa _ _ _ _ _ (pv 1) zag (by rfl))) zae (λ _ _ => rfl)) (@zcz _ _ _ _ _ zag) ⟨rfl, rfl, rfl, rfl⟩)) zal), ?_⟩
   have hFl := hFl.mono h.b
   obtain ⟨nl, ⟨dx, gs, d, kvs, e1, e2, e3, e4⟩, e5⟩ := zor hFl hF
   rw [hn] at e4
   refine ⟨_, rfl, w.a, _, _, _, _, rfl, h.o, T.cl_TextWalker.cl, T.n_TextWalker_flows, rfl, w.fl, _, _, _, _, rfl, e1, T.cl_Flows.cl, T.n_Flows_names_in, e2, d, rfl, .inl ⟨_, .inl e3⟩, _, rfl, w.a, _, _, rfl, h.o, rfl, _, rfl, Hb, w, fs, oc, sent, i, f, rfl, h, hf, λ tp H1 htp s1 t1 => ⟨tp, _, _, _, rfl, rfl, SqT.of t1, at0, le0, λ te hte => ⟨_, zgy (zak.new hte _ _ (s1 _ _ e3)) e4, ?_⟩⟩⟩
   exact q nl _ (s1.trans (zak.new hte)) (SqL.of (zak.new hte _ _ (s1 _ _ e5)))
theorem zfv : FnScope ["self", "level", "name"] ["self", "level", "name"] (zac za0) := ⟨rfl, rfl, rfl, by decide +kernel, rfl, by decide +kernel, by decide +kernel⟩
theorem zft (T : Txt K mg t) : FnOk P w K mg base CX0 4 t.a_Walker_ask_for_name t.d_Walker_ask_for_name ["self", "level", "name"] (zdx K t) := by
 have G_Walker_ask_for_level : FnOk P w K mg base CX0 3 t.a_Walker_ask_for_level t.d_Walker_ask_for_level ["self", "level"] (zds K t) := zfd T
 have G_Walker_names_at : FnOk P w K mg base CX0 3 t.a_Walker_names_at t.d_Walker_names_at ["self", "level"] (ze3 K t) := zg8 T
 refine T.Walker_ask_for_name.F.ok zfv (λ vs H Q E h => ?_) (λ cdv A outer s H vs Q E hr h => ?_)
 . obtain ⟨Hb, w, fs, oc, sent, i, f, n, fns, F, rfl, h, hf, hFl, hF, hn, hm, q⟩ := h
   rfl
 . obtain ⟨Hb, w, fs, oc, sent, i, f, n, fns, F, rfl, h, hf, hFl, hF, hn, hm, q⟩ := h
   refine ⟨_, (@zad _ _ _ _ _ (@zbt _ _ _ _ (zbi (pv 0) T.cl_TextWalker.cl T.Walker_ask_for_level.m G_Walker_ask_for_level (hr.mono (by decide)) T.Walker_ask_for_level.b .nil zcb (@zaa _ _ _ _ _ (pv 1) zag (by rfl))) (by rfl)) (@zah _ _ _ (@zbk _ _ _ _ _ _ _ _ (@zap _ _ _ _ _ _ _ _ zl9 (pv 2) (zbi (pv 0) T.cl_TextWalker.cl T.Walker_names_at.m G_Walker_names_at (hr.mono (by decide)) T.Walker_names_at.b .nil zcb (@zaa _ _ _ _ _ (pv 1) zag (by rfl))) (by with_unfolding_all rfl)) (@zah _ _ _ zk6) zal))), ?_⟩
   have hi := (List.getElem?_eq_some_iff.mp hf).1
   refine ⟨_, rfl, w.a, _, _, rfl, h.o, rfl, _, rfl, Hb, w, fs, oc, sent, i, rfl, h, hi, λ H1 s1 => ?_⟩
   have h1 := h.grow s1
   have hFl1 := hFl.mono (zb3 (H2 := H1) h.b)
   refine ⟨_, rfl, _, rfl, w.a, _, _, rfl, h1.o, rfl, _, rfl, _, w, fs, oc, sent, i, f, fns, F, rfl, h1, hf, hFl1, hF, hn, λ nl H2 s2 e2 => ⟨nl, _, rfl, .inl e2, rfl, zto _, _, rfl, zco ?_ (q H2 (s1.trans s2))⟩⟩
   rw [zt6 hm]
   decide
theorem zhn : FnScope ["self", "level", "name"] ["self", "level", "name"] (zac zbl) := ⟨rfl, rfl, rfl, by decide +kernel, rfl, by decide +kernel, by decide +kernel⟩
theorem zhc (T : Txt K mg t) : FnOk P w K mg base CX0 1 t.a_TextWalker_tell t.d_TextWalker_tell ["self", "level", "name"] (ze2 K t) := by
 refine T.TextWalker_tell.F.ok zhn (λ vs H Q E h => ?_) (λ cdv A outer s H vs Q E hr h => ?_)
 . obtain ⟨Hb, w, fs, oc, sent, i, f, n, v, rfl, h, hf, hv, q⟩ := h
   rfl
 . obtain ⟨Hb, w, fs, oc, sent, i, f, n, v, rfl, h, hf, hv, q⟩ := h
   refine ⟨_, (@zad _ _ _ _ _ (@zan _ _ _ _ (zdm (u1' hr.units) (zbj (@zao _ _ _ _ _ _ _ za1 (zbj (pv 0) (by rfl)) (pv 1) (λ _ _ => rfl)) (by rfl)) (pv 2) (λ _ _ => rfl))) zal), ?_⟩
   have hF := h.fr f (List.mem_of_getElem? hf)
   exact ⟨_, rfl, w.a, _, _, _, _, rfl, h.o, T.cl_TextWalker.cl, T.n_TextWalker_stack, rfl, _, rfl, w.st, _, _, _, rfl, rfl, SqL.of h.st, zlb (by omega) (by rw [Int.toNat_natCast]; exact hf), f.a, _, _, _, _, rfl, hF.o, T.cl_TextFrame.cl, T.n_TextFrame_named, rfl, _, rfl, f.nd, _, rfl, (by have := zj9.k (k := (Sum.inr n : Key)) hF.n; rw [hv] at this; exact this), q⟩
theorem zjr : FnScope ["self", "level", "name"] ["self", "level", "name"] (zac zci) := ⟨rfl, rfl, rfl, by decide +kernel, rfl, by decide +kernel, by decide +kernel⟩
theorem zjv (T : Txt K mg t) : FnOk P w K mg base CX0 5 t.a_Walker_told t.d_Walker_told ["self", "level", "name"] (zgq K t) := by
 have G_Walker_ask_for_name : FnOk P w K mg base CX0 4 t.a_Walker_ask_for_name t.d_Walker_ask_for_name ["self", "level", "name"] (zdx K t) := zft T
 have G_TextWalker_tell : FnOk P w K mg base CX0 1 t.a_TextWalker_tell t.d_TextWalker_tell ["self", "level", "name"] (ze2 K t) := zhc T
 refine T.Walker_told.F.ok zjr (λ vs H Q E h => ?_) (λ cdv A outer s H vs Q E hr h => ?_)
 . obtain ⟨Hb, w, fs, oc, sent, i, f, n, v, fns, F, rfl, h, hf, hFl, hF, hn, hm, hv, q⟩ := h
   rfl
 . obtain ⟨Hb, w, fs, oc, sent, i, f, n, v, fns, F, rfl, h, hf, hFl, hF, hn, hm, hv, q⟩ := h
   refine ⟨_, (@zad _ _ _ _ _ (@zbt _ _ _ _ (zbi (pv 0) T.cl_TextWalker.cl T.Walker_ask_for_name.m G_Walker_ask_for_name (hr.mono (by decide)) T.Walker_ask_for_name.b .nil zcb (@zaa _ _ _ _ _ (pv 1) (@zaa _ _ _ _ _ (pv 2) zag (by rfl)) (by rfl))) (by rfl)) (@zah _ _ _ (@zan _ _ _ _ (zbi (pv 0) T.cl_TextWalker.cl T.TextWalker_tell.m G_TextWalker_tell (hr.mono (by decide)) T.TextWalker_tell.b .nil zcb (@zaa _ _ _ _ _ (pv 1) (@zaa _ _ _ _ _ (pv 2) zag (by rfl)) (by rfl)))))), ?_⟩
   refine ⟨_, rfl, w.a, _, _, rfl, h.o, rfl, _, rfl, _, rfl, Hb, w, fs, oc, sent, i, f, n, fns, F, rfl, h, hf, hFl, hF, hn, hm, λ H1 s1 => ?_⟩
   have h1 := h.grow s1
   exact ⟨_, rfl, w.a, _, _, rfl, h1.o, rfl, _, rfl, _, rfl, _, w, fs, oc, sent, i, f, n, v, rfl, h1, hf, hv, q H1 s1⟩
theorem zgm : FnScope ["self", "frame"] ["self", "frame"] (zac zbb) := ⟨rfl, rfl, rfl, by decide +kernel, rfl, by decide +kernel, by decide +kernel⟩
theorem zeg (T : Txt K mg t) : FnOk P w K mg base CX0 1 t.a_TextWalker_row_of t.d_TextWalker_row_of ["self", "frame"] (zc9 K t) := by
 refine T.TextWalker_row_of.F.ok zgm (λ vs H Q E h => ?_) (λ cdv A outer s H vs Q E hr h => ?_)
 . obtain ⟨Hb, w, fs, oc, sent, f, fns, F, r, rfl, h, hf, hFl, hF, hn, hr1, q⟩ := h
   rfl
 . obtain ⟨Hb, w, fs, oc, sent, f, fns, F, r, rfl, h, hf, hFl, hF, hn, hr1, q⟩ := h
   refine ⟨_, (@zad _ _ _ _ _ (@zan _ _ _ _ (@zao _ _ _ _ _ _ _ zaq (zdm (u1' hr.units) (zbj (zbj (pv 0) (by rfl)) (by rfl)) (zbj (pv 1) (by rfl)) (λ _ _ => rfl)) (zbj (pv 1) (by rfl)) (λ _ _ => rfl))) zal), ?_⟩
   have hf1 := h.fr f hf
   have hFl := hFl.mono h.b
   obtain ⟨dx, gs, d, kvs, e1, e2, e3, e4⟩ := zvl hFl hF
   rw [hn] at e4
   exact ⟨_, rfl, w.a, _, _, _, _, rfl, h.o, T.cl_TextWalker.cl, T.n_TextWalker_flows, rfl, w.fl, _, _, _, _, rfl, e1, T.cl_Flows.cl, T.n_Flows_rows_of, e2, _, rfl, f.a, _, _, _, _, rfl, hf1.o, T.cl_TextFrame.cl, T.n_TextFrame_function, rfl, d, _, rfl, zgy e3 e4, _, rfl, f.a, _, _, _, _, rfl, hf1.o, T.cl_TextFrame.cl, T.n_TextFrame_row, rfl, F.ra, _, _, _, rfl, rfl, (hFl.all F hF).rw_, zlb (by omega) (by rw [Int.toNat_natCast]; exact hr1), q⟩
theorem zgd : FnScope ["self", "atom"] ["self", "atom"] (zac za5) := ⟨rfl, rfl, rfl, by decide +kernel, rfl, by decide +kernel, by decide +kernel⟩
theorem zc3 (T : Txt K mg t) : FnOk P w K mg base CX0 1 t.a_TextFrame_value_of t.d_TextFrame_value_of ["self", "atom"] (zch K t) := by
 refine T.TextFrame_value_of.F.ok zgd (λ vs H Q E h => ?_) (λ cdv A outer s H vs Q E hr h => ?_)
 . obtain ⟨f, v, y, rfl, h, hv, q⟩ := h
   rfl
 . obtain ⟨f, v, y, rfl, h, hv, q⟩ := h
   refine ⟨_, (@zad _ _ _ _ _ (@zan _ _ _ _ (@zgh _ _ _ _ _ _ _ _ (zfs (zbz zcu (by rfl) T.b_isinstance zb4 (@zaa _ _ _ _ _ (pv 1) (@zaa _ _ _ _ _ (zff (v := V.ty "str") rfl T.b_str zop rfl) zag (by rfl)) (by rfl)))) (zdm (u1' hr.units) (zbj (pv 0) (by rfl)) (pv 1) (λ _ _ => rfl)) (pv 1))) zal), ?_⟩
   cases v with
   | str n => exact ⟨_, rfl, _, "str", _, true, rfl, .str _, rfl, _, rfl, zu3 ⟨_, rfl, f.a, _, _, _, _, rfl, h.o, T.cl_TextFrame.cl, T.n_TextFrame_named, rfl, _, rfl, f.nd, _, rfl, (by have := zj9.k (k := (Sum.inr n : Key)) h.n; rw [show zc2 f.kvs (Sum.inr n : Key) = some y from hv] at this; exact this), q⟩⟩
   | int i =>
     cases hv
     exact ⟨_, rfl, _, "str", _, false, rfl, .int _, rfl, _, rfl, zun ⟨_, rfl, q⟩⟩
   | _ => cases hv
theorem ze7 : FnScope ["self", "frame", "row"] ["self", "frame", "row"] (zac zas) := ⟨rfl, rfl, rfl, by decide +kernel, rfl, by decide +kernel, by decide +kernel⟩
theorem ze5 (T : Txt K mg t) : FnOk P w K mg base CX0 2 t.a_TextWalker_value_given t.d_TextWalker_value_given ["self", "frame", "row"] (zda K t) := by
 have G_value : FnOk P w K mg base CX0 1 t.a_value t.d_value ["sign", "one", "other"] (zof K) := zt1 T
 have G_TextFrame_value_of : FnOk P w K mg base CX0 1 t.a_TextFrame_value_of t.d_TextFrame_value_of ["self", "atom"] (zch K t) := zc3 T
 have G_Walker_field : FnOk P w K mg base CX0 1 t.a_Walker_field t.d_Walker_field ["self", "record", "name"] (zgc K t) := zjb T
 refine T.TextWalker_value_given.F.ok ze7 (λ vs H Q E h => ?_) (λ cdv A outer s H vs Q E hr h => ?_)
 . obtain ⟨w0, f, r, rv, x, v, rfl, h, hr1, hg, q⟩ := h
   rfl
 . obtain ⟨w0, f, r, rv, x, v, rfl, h, hr1, hg, q⟩ := h
   refine ⟨_, (@zad _ _ _ _ _ (@zbk _ _ _ _ _ _ _ _ (@zap _ _ _ _ _ _ _ _ zcc (@zao _ _ _ _ _ _ _ zaq (pv 2) zae (λ _ _ => rfl)) zav (zar _)) (@zah _ _ _ (@zan _ _ _ _ (zbi (pv 0) T.cl_TextWalker.cl T.Walker_field.m G_Walker_field (hr.mono (by decide)) T.Walker_field.b .nil zcb (@zaa _ _ _ _ _ (zbi (pv 1) T.cl_TextFrame.cl T.TextFrame_value_of.m G_TextFrame_value_of (hr.mono (by decide)) T.TextFrame_value_of.b .nil zcb (@zaa _ _ _ _ _ (@zao _ _ _ _ _ _ _ zaq (pv 2) zae (λ _ _ => rfl)) zag (by rfl))) (@zaa _ _ _ _ _ (@zao _ _ _ _ _ _ _ zaq (pv 2) zae (λ _ _ => rfl)) zag (by rfl)) (by rfl))))) zal) (@zad _ _ _ _ _ (@zbk _ _ _ _ _ _ _ _ (@zap _ _ _ _ _ _ _ _ zcc (@zao _ _ _ _ _ _ _ zaq (pv 2) zae (λ _ _ => rfl)) zav (zar _)) (@zah _ _ _ (@zan _ _ _ _ (zcr T.value G_value (hr.mono (by decide)) (@zaa _ _ _ _ _ (@zao _ _ _ _ _ _ _ zaq (pv 2) zae (λ _ _ => rfl)) (@zaa _ _ _ _ _ (zbi (pv 1) T.cl_TextFrame.cl T.TextFrame_value_of.m G_TextFrame_value_of (hr.mono (by decide)) T.TextFrame_value_of.b .nil zcb (@zaa _ _ _ _ _ (@zao _ _ _ _ _ _ _ zaq (pv 2) zae (λ _ _ => rfl)) zag (by rfl))) (@zaa _ _ _ _ _ (zbi (pv 1) T.cl_TextFrame.cl T.TextFrame_value_of.m G_TextFrame_value_of (hr.mono (by decide)) T.TextFrame_value_of.b .nil zcb (@zaa _ _ _ _ _ (@zao _ _ _ _ _ _ _ zaq (pv 2) zae (λ _ _ => rfl)) zag (by rfl))) zag (by rfl)) (by rfl)) (by rfl))))) zal) (@zah _ _ _ (@zan _ _ _ _ (zbi (pv 1) T.cl_TextFrame.cl T.TextFrame_value_of.m G_TextFrame_value_of (hr.mono (by decide)) T.TextFrame_value_of.b .nil zcb (@zaa _ _ _ _ _ (@zao _ _ _ _ _ _ _ zaq (pv 2) zae (λ _ _ => rfl)) zag (by rfl))))))), ?_⟩
   cases rv with
   | out a => cases hg
   | back a => cases hg
   | copy y a =>
     obtain ⟨_, hu⟩ := zhu hg
     exact ⟨_, rfl, r, _, _, _, rfl, rfl, hr1, at0, rfl, _, rfl, zco (by decide +kernel) ⟨_, rfl, r, _, _, _, rfl, rfl, hr1, at0, rfl, _, rfl, zco (by decide +kernel) ⟨_, rfl, f.a, _, _, rfl, h.o, rfl, _, rfl, r, _, _, _, rfl, rfl, hr1, rfl, f, a, v, rfl, h, hu, q⟩⟩⟩
   | op y s a b =>
     obtain ⟨_, i, j, ea, eb, hb, rfl⟩ := zku hg
     exact ⟨_, rfl, r, _, _, _, rfl, rfl, hr1, at0, rfl, _, rfl, zco (by decide +kernel) ⟨_, rfl, r, _, _, _, rfl, rfl, hr1, at0, rfl, _, rfl, zeu (by decide +kernel) ⟨_, rfl, r, _, _, _, rfl, rfl, hr1, rfl, _, rfl, f.a, _, _, rfl, h.o, rfl, _, rfl, r, _, _, _, rfl, rfl, hr1, rfl, f, a, _, rfl, h, ea, _, rfl, f.a, _, _, rfl, h.o, rfl, _, rfl, r, _, _, _, rfl, rfl, hr1, rfl, f, b, _, rfl, h, eb, s, i, j, rfl, hb.1, hb.2.1, hb.2.2.1, hb.2.2.2, q⟩⟩⟩
theorem zha : FnScope ["self", "number"] ["self", "number"] (zac zbo) := ⟨rfl, rfl, rfl, by decide +kernel, rfl, by decide +kernel, by decide +kernel⟩
theorem zhf (T : Txt K mg t) : FnOk P w K mg base CX0 1 t.a_Walker_send_out t.d_Walker_send_out ["self", "number"] (ze0 K t) := by
 refine T.Walker_send_out.F.ok zha (λ vs H Q E h => ?_) (λ cdv A outer s H vs Q E hr h => ?_)
 . obtain ⟨Hb, w, fs, oc, sent, v, rfl, h, hl, q⟩ := h
   rfl
 . obtain ⟨Hb, w, fs, oc, sent, v, rfl, h, hl, q⟩ := h
   refine ⟨_, (@zad _ _ _ _ _ (@zbt _ _ _ _ (zgo PySem.F.plainAttrs_list PySem.F.slot_list_append PySem.F.type_list_append zcj (zbj (pv 0) (by rfl)) (@zaa _ _ _ _ _ (pv 1) zag (by rfl))) (by rfl)) (@zah _ _ _ (@zan _ _ _ _ (@zcz _ _ _ _ _ (@zaa _ _ _ _ _ zav (@zaa _ _ _ _ _ (pv 1) zag (by rfl)) (by rfl)))))), ?_⟩
   have h1 := h.send (v := v)
   refine ⟨_, rfl, w.a, _, _, _, _, rfl, h.o, T.cl_TextWalker.cl, T.n_TextWalker_sendings, rfl, .inl ⟨rfl, _, SqL.of h.sd⟩, _, rfl, w.sd, sent, _, rfl, rfl, h.sd, zbs hl, _, rfl, le2, λ tp htp => ?_⟩
   exact q _ _ tp (zb3 h1.b) (h1.grow (zak.new htp)) (zo5 htp zab)
theorem zgx : FnScope ["self", "record", "name", "number"] ["self", "record", "name", "number"] (zac zbf) := ⟨rfl, rfl, rfl, by decide +kernel, rfl, by decide +kernel, by decide +kernel⟩
theorem zg0 (T : Txt K mg t) : FnOk P w K mg base CX0 1 t.a_Walker_put_field t.d_Walker_put_field ["self", "record", "name", "number"] (zet K t) := T.Walker_put_field.F.ok zgx (λ vs H Q E h => h.elim) (λ cdv A outer s H vs Q E hr h => h.elim)
theorem zga : FnScope ["self"] ["self"] (zac za3) := ⟨rfl, rfl, rfl, by decide +kernel, rfl, by decide +kernel, by decide +kernel⟩
theorem zf1 (T : Txt K mg t) : FnOk P w K mg base CX0 1 t.a_Walker_make_record t.d_Walker_make_record ["self"] (zd7 K t) := T.Walker_make_record.F.ok zga (λ vs H Q E h => h.elim) (λ cdv A outer s H vs Q E hr h => h.elim)
theorem zeh : FnScope ["self", "frame", "row", "deed"] ["self", "frame", "row"] (zac za9) := ⟨rfl, rfl, rfl, by decide +kernel, rfl, by decide +kernel, by decide +kernel⟩
theorem zgn (T : Txt K mg t) : FnOk P w K mg base CX0 3 t.a_TextWalker_do_row t.d_TextWalker_do_row ["self", "frame", "row"] (zei K t) := by
 have G_TextWalker_value_given : FnOk P w K mg base CX0 2 t.a_TextWalker_value_given t.d_TextWalker_value_given ["self", "frame", "row"] (zda K t) := ze5 T
 have G_Walker_send_out : FnOk P w K mg base CX0 1 t.a_Walker_send_out t.d_Walker_send_out ["self", "number"] (ze0 K t) := zhf T
 have G_Walker_put_field : FnOk P w K mg base CX0 1 t.a_Walker_put_field t.d_Walker_put_field ["self", "record", "name", "number"] (zet K t) := zg0 T
 have G_Walker_make_record : FnOk P w K mg base CX0 1 t.a_Walker_make_record t.d_Walker_make_record ["self"] (zd7 K t) := zf1 T
 have G_TextFrame_value_of : FnOk P w K mg base CX0 1 t.a_TextFrame_value_of t.d_TextFrame_value_of ["self", "atom"] (zch K t) := zc3 T
 refine T.TextWalker_do_row.F.ok zeh (λ vs H Q E h => ?_) (λ cdv A outer s H vs Q E hr h => ?_)
 . obtain ⟨Hb, w, fs, f, oc, sent, r, rv, rfl, h, hr1, hs, hk, hb, q⟩ := h
   rfl
 . obtain ⟨Hb, w, fs, f, oc, sent, r, rv, rfl, h, hr1, hs, hk, hb, q⟩ := h
   refine ⟨_, (@zad _ _ _ _ _ (@zbk _ _ _ _ _ _ _ _ (@zap _ _ _ _ _ _ _ _ zcc (@zao _ _ _ _ _ _ _ zaq (pv 2) zae (λ _ _ => rfl)) zav (zar _)) (@zah _ _ _ (@zan _ _ _ _ (zbi (pv 0) T.cl_TextWalker.cl T.Walker_send_out.m G_Walker_send_out (hr.mono (by decide)) T.Walker_send_out.b .nil zcb (@zaa _ _ _ _ _ (zbi (pv 1) T.cl_TextFrame.cl T.TextFrame_value_of.m G_TextFrame_value_of (hr.mono (by decide)) T.TextFrame_value_of.b .nil zcb (@zaa _ _ _ _ _ (@zao _ _ _ _ _ _ _ zaq (pv 2) zae (λ _ _ => rfl)) zag (by rfl))) zag (by rfl))))) zal) (@zad _ _ _ _ _ (@zbk _ _ _ _ _ _ _ _ (@zap _ _ _ _ _ _ _ _ zcc (@zao _ _ _ _ _ _ _ zaq (pv 2) zae (λ _ _ => rfl)) zav (zar _)) (@zah _ _ _ (@zan _ _ _ _ (zbi (pv 0) T.cl_TextWalker.cl T.Walker_put_field.m G_Walker_put_field (hr.mono (by decide)) T.Walker_put_field.b .nil zcb (@zaa _ _ _ _ _ (zbi (pv 1) T.cl_TextFrame.cl T.TextFrame_value_of.m G_TextFrame_value_of (hr.mono (by decide)) T.TextFrame_value_of.b .nil zcb (@zaa _ _ _ _ _ (@zao _ _ _ _ _ _ _ zaq (pv 2) zae (λ _ _ => rfl)) zag (by rfl))) (@zaa _ _ _ _ _ (@zao _ _ _ _ _ _ _ zaq (pv 2) zae (λ _ _ => rfl)) (@zaa _ _ _ _ _ (zbi (pv 1) T.cl_TextFrame.cl T.TextFrame_value_of.m G_TextFrame_value_of (hr.mono (by decide)) T.TextFrame_value_of.b .nil zcb (@zaa _ _ _ _ _ (@zao _ _ _ _ _ _ _ zaq (pv 2) zae (λ _ _ => rfl)) zag (by rfl))) zag (by rfl)) (by rfl)) (by rfl))))) zal) (@zad _ _ _ _ _ (@zbk _ _ _ _ _ _ _ _ (@zap _ _ _ _ _ _ _ _ zcc (@zao _ _ _ _ _ _ _ zaq (pv 2) zae (λ _ _ => rfl)) zav (zar _)) (@zad _ _ _ _ _ (@zba _ _ 3 _ _ _ _ zeh.nd rfl (Or.inl rfl) (zdb (pv 0) T.cl_TextWalker.cl T.Walker_make_record.m G_Walker_make_record (hr.mono (by decide)) T.Walker_make_record.b .nil zcb) (by rfl) (by first | exact .inl rfl | exact .inr rfl | assumption)) (@zad _ _ _ _ _ (zc1 (u1' hr.units) (zbj (pv 1) (by rfl)) (@zao _ _ _ _ _ _ _ zaq (pv 2) zae (λ _ _ => rfl)) (@zao _ _ _ _ _ _ _ zaq (pv 3) zae (λ _ _ => rfl)) (by rfl)) (@zah _ _ _ (@zan _ _ _ _ (pv 3))))) zal) (@zad _ _ _ _ _ (zc1 (u1' hr.units) (zbj (pv 1) (by rfl)) (@zao _ _ _ _ _ _ _ zaq (pv 2) zae (λ _ _ => rfl)) (zbi (pv 0) T.cl_TextWalker.cl T.TextWalker_value_given.m G_TextWalker_value_given (hr.mono (by decide)) T.TextWalker_value_given.b .nil zcb (@zaa _ _ _ _ _ (pv 1) (@zaa _ _ _ _ _ (pv 2) zag (by rfl)) (by rfl))) (by rfl)) (@zah _ _ _ (@zan _ _ _ _ zfo)))))), ?_⟩
   have hF := h.fr f (List.mem_append_right _ (List.mem_singleton.mpr rfl))
   cases rv with
   | back a => exact absurd rfl (hb a)
   | out a =>
     obtain ⟨v, hv, q⟩ := q
     exact ⟨_, rfl, r, _, _, _, rfl, rfl, hr1, at0, rfl, _, rfl, zeu (by decide +kernel) ⟨_, rfl, w.a, _, _, rfl, h.o, rfl, _, rfl, f.a, _, _, rfl, hF.o, rfl, _, rfl, r, _, _, _, rfl, rfl, hr1, rfl, f, a, v, rfl, hF, hv, Hb, w, fs ++ [f], oc, sent, v, rfl, h, hs, λ Hb2 H2 tp s1 h1 e1 => q Hb2 H2 tp s1 h1 e1⟩⟩
   | copy y a =>
     obtain ⟨x, v, hg, q⟩ := q
     have hx : (RV.copy y a).items[1]? = some (.str x) := zj3 hg
     refine ⟨_, rfl, r, _, _, _, rfl, rfl, hr1, at0, rfl, _, rfl, zco (by decide +kernel) ⟨_, rfl, r, _, _, _, rfl, rfl, hr1, at0, rfl, _, rfl, zco (by decide +kernel) ⟨_, rfl, r, _, _, _, rfl, rfl, hr1, at0, rfl, _, rfl, zco (by decide +kernel) ⟨_, rfl, w.a, _, _, rfl, h.o, rfl, _, rfl, _, rfl, .ref w.a, f, r, (RV.copy y a), x, v, rfl, hF, hr1, hg, _, rfl, f.a, _, _, _, _, rfl, hF.o, T.cl_TextFrame.cl, T.n_TextFrame_named, rfl, _, rfl, r, _, _, _, rfl, rfl, hr1, zen (j := 1) hx, f.nd, _, rfl, zi0.k (k := (Sum.inr x : Key)) hF.n (zbs hk), ?_⟩⟩⟩⟩
     exact q _ _ (zak.refl _) (h.name)
   | op y s a b =>
     obtain ⟨x, v, hg, q⟩ := q
     have hx : (RV.op y s a b).items[1]? = some (.str x) := zj3 hg
     refine ⟨_, rfl, r, _, _, _, rfl, rfl, hr1, at0, rfl, _, rfl, zco (by decide +kernel) ⟨_, rfl, r, _, _, _, rfl, rfl, hr1, at0, rfl, _, rfl, zco (by decide +kernel) ⟨_, rfl, r, _, _, _, rfl, rfl, hr1, at0, rfl, _, rfl, zco (by decide +kernel) ⟨_, rfl, w.a, _, _, rfl, h.o, rfl, _, rfl, _, rfl, .ref w.a, f, r, (RV.op y s a b), x, v, rfl, hF, hr1, hg, _, rfl, f.a, _, _, _, _, rfl, hF.o, T.cl_TextFrame.cl, T.n_TextFrame_named, rfl, _, rfl, r, _, _, _, rfl, rfl, hr1, zen (j := 1) hx, f.nd, _, rfl, zi0.k (k := (Sum.inr x : Key)) hF.n (zbs hk), ?_⟩⟩⟩⟩
     exact q _ _ (zak.refl _) (h.name)
theorem zgw : FnScope ["self", "frame", "way"] ["self", "frame", "way"] (zac zbe) := ⟨rfl, rfl, rfl, by decide +kernel, rfl, by decide +kernel, by decide +kernel⟩
theorem zem (T : Txt K mg t) : FnOk P w K mg base CX0 1 t.a_TextWalker_go_on t.d_TextWalker_go_on ["self", "frame", "way"] (zdd K t) := by
 refine T.TextWalker_go_on.F.ok zgw (λ vs H Q E h => ?_) (λ cdv A outer s H vs Q E hr h => ?_)
 . obtain ⟨Hb, w, fs, oc, sent, f, fns, F, j, r, rfl, h, hFl, hF, hn, hk, hw, q⟩ := h
   rfl
 . obtain ⟨Hb, w, fs, oc, sent, f, fns, F, j, r, rfl, h, hFl, hF, hn, hk, hw, q⟩ := h
   refine ⟨_, (@zad _ _ _ _ _ (zdw (pv 1) (@zao _ _ _ _ _ _ _ zaq (@zao _ _ _ _ _ _ _ za1 (zdm (u1' hr.units) (zbj (zbj (pv 0) (by rfl)) (by rfl)) (zbj (pv 1) (by rfl)) (λ _ _ => rfl)) (zbj (pv 1) (by rfl)) (λ _ _ => rfl)) (pv 2) (λ _ _ => rfl)) (by rfl)) zal), ?_⟩
   have hf := h.fr f (List.mem_append_right _ (List.mem_singleton.mpr rfl))
   have hFl := hFl.mono h.b
   obtain ⟨wl, tp, vs, l, ⟨dx, gs, d, kvs, e1, e2, e3, e4⟩, e5, e6, e7, e8⟩ := zv9 hFl hF hk hw
   rw [hn] at e4
   refine ⟨_, rfl, w.a, _, _, _, _, rfl, h.o, T.cl_TextWalker.cl, T.n_TextWalker_flows, rfl, w.fl, _, _, _, _, rfl, e1, T.cl_Flows.cl, T.n_Flows_ways_in, e2, _, rfl, f.a, _, _, _, _, rfl, hf.o, T.cl_TextFrame.cl, T.n_TextFrame_function, rfl, d, _, rfl, zgy e3 e4, _, rfl, f.a, _, _, _, _, rfl, hf.o, T.cl_TextFrame.cl, T.n_TextFrame_row, rfl, wl, _, _, _, rfl, rfl, SqL.of e5, zen e6, _, rfl, tp, _, _, _, rfl, rfl, SqT.of e7, zvr e8, _, rfl, f.a, _, _, _, rfl, hf.o, T.cl_TextFrame.cl, T.n_TextFrame_row, (by show 3 < 1000; decide), ?_⟩
   exact q _ (h.goto (r := r))
theorem zh2 : FnScope ["self", "function", "named"] ["self", "function", "named"] (zac zbw) := ⟨rfl, rfl, rfl, by decide +kernel, rfl, by decide +kernel, by decide +kernel⟩
theorem zhw (T : Txt K mg t) : FnOk P w K mg base CX0 1 t.a_TextFrame_init t.d_TextFrame_init ["self", "function", "named"] (ze9 K t) := by
 refine T.TextFrame_init.F.ok zh2 (λ vs H Q E h => ?_) (λ cdv A outer s H vs Q E hr h => ?_)
 . obtain ⟨x, dx, nd, fn, rfl, hx, q⟩ := h
   rfl
 . obtain ⟨x, dx, nd, fn, rfl, hx, q⟩ := h
   refine ⟨_, (@zad _ _ _ _ _ (zdw (pv 0) (pv 1) (by rfl)) (@zad _ _ _ _ _ (zdw (pv 0) zae (by rfl)) (@zah _ _ _ (zdw (pv 0) (pv 2) (by rfl))))), ?_⟩
   refine ⟨_, rfl, _, rfl, x, _, _, _, rfl, hx, T.cl_TextFrame.cl, T.n_TextFrame_function, (by decide), _, rfl, x, _, _, _, rfl, zab, T.cl_TextFrame.cl, T.n_TextFrame_row, put1 _ _, _, rfl, _, rfl, x, _, _, _, rfl, zab, T.cl_TextFrame.cl, T.n_TextFrame_named, put2 _ _ _ _, ?_⟩
   rw [zjo, zjo]
   exact q
theorem zcv : FnScope ["self", "function", "args", "named", "name", "number"] ["self", "function", "args"] (zac zbd) := ⟨rfl, rfl, rfl, by decide +kernel, rfl, by decide +kernel, by decide +kernel⟩
theorem zeq (T : Txt K mg t) : FnOk P w K mg base CX0 3 t.a_TextWalker_begin t.d_TextWalker_begin ["self", "function", "args"] (zde K t) := by
 have G_TextFrame_init : FnOk P w K mg base CX0 1 t.a_TextFrame_init t.d_TextFrame_init ["self", "function", "named"] (ze9 K t) := zhw T
 refine T.TextWalker_begin.F.ok zcv (λ vs H Q E h => ?_) (λ cdv A outer s H vs Q E hr h => ?_)
 . obtain ⟨Hb, w, fs, oc, sent, fns, F, ar, vals, rfl, h, hFl, hF, har, hv, hl, hnn, hps, q⟩ := h
   rfl
 . obtain ⟨Hb, w, fs, oc, sent, fns, F, ar, vals, rfl, h, hFl, hF, har, hv, hl, hnn, hps, q⟩ := h
   refine ⟨_, (@zad _ _ _ _ _ (@zba _ _ 3 _ _ _ _ zcv.nd rfl (Or.inl rfl) (zcg (zia rfl) (by rfl) T.b_dict zr8 (@zaa _ _ _ _ _ (zgv (N' := ["name"]) (js := [none]) (by kernel_rfl) rfl (zf0 (zdm (u1' hr.units) (zbj (zbj (pv 0) (by rfl)) (by rfl)) (pv 1) (λ _ _ => rfl))) zek (λ _ _ _ _ => (zbc (i := 0) (show (["name"] : List Str).Nodup by decide +kernel) rfl (Or.inl rfl) (.inr rfl))) (λ _ _ _ _ => zge) (λ _ _ _ _ => (@zcz _ _ _ _ _ (@zaa _ _ _ _ _ (pv 0) (@zaa _ _ _ _ _ zae zag (by rfl)) (by rfl))))) zag (by rfl))) (by rfl) (by first | exact .inl rfl | exact .inr rfl | assumption)) (@zad _ _ _ _ _ (zd5 PassesOwn.never rfl (zq6 true false rfl T.b_zip (@zaa _ _ _ _ _ (zdm (u1' hr.units) (zbj (zbj (pv 0) (by rfl)) (by rfl)) (pv 1) (λ _ _ => rfl)) (@zaa _ _ _ _ _ (pv 2) zag (by rfl)) (by rfl))) (zh8 rfl (zcp (zbc (i := 4) zcv.nd rfl (Or.inl rfl)) (zcp (zbc (i := 5) zcv.nd rfl (Or.inl rfl)) zgb))) (@zah _ _ _ (zc1 (u1' hr.units) (pv 3) (pv 4) (pv 5) (by rfl)))) (@zah _ _ _ (@zbt _ _ _ _ (zgo PySem.F.plainAttrs_list PySem.F.slot_list_append PySem.F.type_list_append zcj (zbj (pv 0) (by rfl)) (@zaa _ _ _ _ _ (zu2 T.cl_TextFrame T.TextFrame_init G_TextFrame_init (hr.mono (by decide)) (@zaa _ _ _ _ _ (pv 1) (@zaa _ _ _ _ _ (pv 3) zag (by rfl)) (by rfl))) zag (by rfl))) (by rfl))))), ?_⟩
   have hFlH := hFl.mono h.b
   obtain ⟨nl, ⟨dx1, gs1, d1, kv1, a1, a2, a3, a4⟩, a5⟩ := zor hFlH hF
   obtain ⟨dx2, gs2, d2, kv2, b1, b2, b3, b4⟩ := zr9 hFlH hF
   refine ⟨_, rfl, w.a, _, _, _, _, rfl, h.o, T.cl_TextWalker.cl, T.n_TextWalker_flows, rfl, w.fl, _, _, _, _, rfl, a1, T.cl_Flows.cl, T.n_Flows_names_in, a2, _, rfl, d1, _, rfl, zgy a3 a4, nl, rfl, ⟨_, SqL.of a5⟩, λ u hu => zi2 (K := K) (λ i Hq v => ∃ y tp, (F2.nms F)[i]? = some y /\ v = .ref tp /\ Hq tp = some (.tup [.str y, .int 0])) (λ i v H1 H2 e z => let ⟨y, tp, z1, z2, z3⟩ := z; ⟨y, tp, z1, z2, e _ _ z3⟩) (xs := (F2.nms F).map V.str) (by rw [List.length_map]; omega) (SqL.of a5) hu ?_ ?_⟩
   . rintro i z H2 R' hz s2 ⟨acc, ha⟩ r2
     obtain ⟨y, hy, hym, rfl⟩ := ziy hz
     refine ⟨_, rfl, le2, λ tp htp => r2 _ _ (zak.new htp) ⟨y, tp, hy, rfl, ?_⟩⟩
     rw [zec (λ z => by rw [z, ha] at htp; cases htp)]
     exact zab
   intro H3 vs s3 e3 lv tv
   rw [List.length_map] at lv
   obtain ⟨ps, rfl, hps2⟩ := zoy (K := K) lv tv
   refine ⟨u, ps, (F2.nms F).map λ n => ((Sum.inr n : Key), V.int 0), rfl, SqL.of e3, ?_, by rw [List.length_map]; omega, λ d hd => ?_⟩
   . exact hps2.mono λ a kv z => zis.tup z
   have d0 : H d = none := s3.free hd
   have s4 := s3.trans (zak.new (o := .dK (((F2.nms F).map λ n => ((Sum.inr n : Key), V.int 0)).foldl (λ acc kv => zbu acc kv.1 kv.2) [])) hd)
   have e4 := zab (H := H3) (a := d) (o := .dK (((F2.nms F).map λ n => ((Sum.inr n : Key), V.int 0)).foldl (λ acc kv => zbu acc kv.1 kv.2) []))
   have k0l : (((F2.nms F).map λ n => ((Sum.inr n : Key), V.int 0)).foldl (λ acc kv => zbu acc kv.1 kv.2) []).length <= 1000 := by
     refine Nat.le_trans (zes (λ kv : Key × V => kv) ((F2.nms F).map λ n => ((Sum.inr n : Key), V.int 0)) []) ?_
     rw [List.length_map]
     show 0 + (F2.nms F).length <= 1000
     omega
   have hbg : znw F vals = (F.ps.zip vals).foldl (λ d p => zbu d (Sum.inr p.1 : Key) p.2) (((F2.nms F).map λ n => ((Sum.inr n : Key), V.int 0)).foldl (λ acc kv => zbu acc kv.1 kv.2) []) := rfl
   generalize (((F2.nms F).map λ n => ((Sum.inr n : Key), V.int 0)).foldl (λ acc kv => zbu acc kv.1 kv.2) []) = k0 at s4 e4 k0l hbg ⊢
   generalize upd H3 d (.dK k0) = H4 at s4 e4 ⊢
   have h4 := h.grow s4
   have hpa : SqT K H F.pa (F.ps.map V.str) := (hFlH.all F hF).pr
   have har1 : SqL K H ar vals := h.b.seq har
   refine ⟨_, rfl, w.a, _, _, _, _, rfl, h4.o, T.cl_TextWalker.cl, T.n_TextWalker_flows, rfl, w.fl, _, _, _, _, rfl, s4 _ _ b1, T.cl_Flows.cl, T.n_Flows_params_of, b2, _, rfl, d2, _, rfl, zgy (s4 _ _ b3) b4, _, rfl, F.pa, ar, rfl, ⟨_, s4.tup hpa⟩, ⟨_, s4.seq har1⟩, znj (b1 := true) (b2 := false) (xs := F.ps.map V.str) (ys := vals) (λ i σ H' => ∃ v4 v5 : Option V, σ = [some (.ref w.a), some (.str F.name), some (.ref ar), some (.ref d), v4, v5] /\ zak H H' /\ H' d = some (.dK (((F.ps.zip vals).take i).foldl (λ d p => zbu d (Sum.inr p.1 : Key) p.2) k0))) ⟨_, _, rfl, s4, e4⟩ ?_ ?_ ?_⟩
   . rintro i σ H' hi ⟨v4, v5, rfl, s5, e5⟩
     exact ⟨s5.tup hpa, s5.seq har1⟩
   . rintro i x y σ H' b hx hy ⟨v4, v5, rfl, s5, e5⟩ hb
     obtain ⟨n, hn, hnm, rfl⟩ := ziy hx
     have s6 := zak.new (o := .tup [.str n, y]) hb
     have nb : d ≠ b := λ z => by rw [<- z, e5] at hb; cases hb
     have lz : (((F.ps.zip vals).take i).foldl (λ d p => zbu d (Sum.inr p.1 : Key) p.2) k0).length < 1000000 := by
       refine Nat.lt_of_le_of_lt (zes (λ p : Str × V => ((Sum.inr p.1 : Key), p.2)) ((F.ps.zip vals).take i) k0) ?_
       have l2 : ((F.ps.zip vals).take i).length <= 1000 := by
         rw [List.length_take, List.length_zip]
         omega
       omega
     refine ⟨b, _, rfl, SqT.of zab, rfl, _, _, rfl, _, _, rfl, rfl, _, rfl, _, rfl, _, rfl, d, _, rfl, zi0.k (k := (Sum.inr n : Key)) (s6 _ _ e5) (zbs lz), _, _, rfl, (s5.trans s6).upd d0, ?_⟩
     rw [zab, List.take_add_one, List.foldl_append]
     have hz : (F.ps.zip vals)[i]? = some (n, y) := List.getElem?_zip_eq_some.mpr ⟨hn, hy⟩
     rw [hz]
     rfl
   . rintro σ H' ⟨v4, v5, rfl, s5, e5⟩
     rw [List.take_of_length_le (by rw [List.length_zip, List.length_map]; exact Nat.le_refl _), <- hbg] at e5
     have h5 := h.grow s5
     refine ⟨_, rfl, w.a, _, _, _, _, rfl, h5.o, T.cl_TextWalker.cl, T.n_TextWalker_stack, rfl, .inl ⟨rfl, _, SqL.of h5.st⟩, _, rfl, _, rfl, λ fa fdx hfa hfdx nfd => ⟨fa, fdx, d, F.name, rfl, zab, rfl, ?_⟩⟩
     have n1 : ∀ {b : Addr} {o : HO}, H' b = some o -> b ≠ fa /\ b ≠ fdx := λ hb => ⟨(λ z => by rw [z, hfa] at hb; cases hb), (λ z => by rw [z, hfdx] at hb; cases hb)⟩
     have s6 : zak H' (upd (upd (upd H' fdx (.own fa)) fa (.ins t.c_TextFrame fdx [])) fa (.ins t.c_TextFrame fdx (fF ⟨fa, fdx, d, F.name, 0, []⟩))) := λ b o hb => by
       rw [zaf (n1 hb).1, zaf (n1 hb).1, zaf (n1 hb).2]
       exact hb
     have hfr : FrAt t.c_TextFrame (upd (upd (upd H' fdx (.own fa)) fa (.ins t.c_TextFrame fdx [])) fa (.ins t.c_TextFrame fdx (fF ⟨fa, fdx, d, F.name, 0, []⟩))) ⟨fa, fdx, d, F.name, 0, znw F vals⟩ := ⟨zab, s6 _ _ e5⟩
     obtain ⟨p1, p2⟩ := h.push (s5.trans s6) (s5.free hfa) d0 hfr
     rw [List.map_append] at p1
     refine ⟨w.st, _, _, rfl, rfl, s6 _ _ h5.st, zbs (by rw [List.length_map]; omega), ?_⟩
     exact q _ _ _ p2 p1 rfl rfl rfl
theorem zd4 : FnScope ["self", "number", "caller"] ["self", "number"] (zac za4) := ⟨rfl, rfl, rfl, by decide +kernel, rfl, by decide +kernel, by decide +kernel⟩
theorem zf8 (T : Txt K mg t) : FnOk P w K mg base CX0 2 t.a_TextWalker_go_back t.d_TextWalker_go_back ["self", "number"] (zd2 K t) := by
 have G_TextWalker_go_on : FnOk P w K mg base CX0 1 t.a_TextWalker_go_on t.d_TextWalker_go_on ["self", "frame", "way"] (zdd K t) := zem T
 have G_TextWalker_row_of : FnOk P w K mg base CX0 1 t.a_TextWalker_row_of t.d_TextWalker_row_of ["self", "frame"] (zc9 K t) := zeg T
 refine T.TextWalker_go_back.F.ok zd4 (λ vs H Q E h => ?_) (λ cdv A outer s H vs Q E hr h => ?_)
 . obtain ⟨Hb, w, f, oc, sent, v, rfl, h, q⟩ := h
   rfl
 . obtain ⟨Hb, w, f, oc, sent, v, rfl, h, q⟩ := h
   refine ⟨_, (@zad _ _ _ _ _ (@zbt _ _ _ _ (zl4 PySem.F.plainAttrs_list PySem.F.slot_list_pop PySem.F.type_list_pop zuf (zbj (pv 0) (by rfl))) (by rfl)) (@zah _ _ _ (@zbk _ _ _ _ _ _ _ _ (zxo (K := K) rfl (zbj (pv 0) (by rfl)) (by intro _; rfl)) (@zad _ _ _ _ _ (@zba _ _ 2 _ _ _ _ zd4.nd rfl (Or.inl rfl) (@zao _ _ _ _ _ _ _ za1 (zbj (pv 0) (by rfl)) (zm2 zjp zae) (λ _ _ => rfl)) (by rfl) (by first | exact .inl rfl | exact .inr rfl | assumption)) (@zad _ _ _ _ _ (zc1 (u1' hr.units) (zbj (pv 2) (by rfl)) (@zao _ _ _ _ _ _ _ zaq (zbi (pv 0) T.cl_TextWalker.cl T.TextWalker_row_of.m G_TextWalker_row_of (hr.mono (by decide)) T.TextWalker_row_of.b .nil zcb (@zaa _ _ _ _ _ (pv 2) zag (by rfl))) zae (λ _ _ => rfl)) (pv 1) (by rfl)) (@zah _ _ _ (@zbt _ _ _ _ (zbi (pv 0) T.cl_TextWalker.cl T.TextWalker_go_on.m G_TextWalker_go_on (hr.mono (by decide)) T.TextWalker_go_on.b .nil zcb (@zaa _ _ _ _ _ (pv 2) (@zaa _ _ _ _ _ zae zag (by rfl)) (by rfl))) (by rfl))))) (@zah _ _ _ (zdw (pv 0) (pv 1) (by rfl)))))), ?_⟩
   have h1 := WAt.pop (fs := []) h
   refine ⟨_, rfl, w.a, _, _, _, _, rfl, h.o, T.cl_TextWalker.cl, T.n_TextWalker_stack, rfl, .inl ⟨rfl, _, SqL.of h.st⟩, w.st, _, _, rfl, rfl, h.st, rfl, ?_⟩
   refine ⟨_, rfl, w.a, _, _, _, _, rfl, h1.o, T.cl_TextWalker.cl, T.n_TextWalker_stack, rfl, false, .inl ⟨[], SqL.of h1.st, rfl⟩, zco Bool.false_ne_true ?_⟩
   exact ⟨_, rfl, _, rfl, w.a, _, _, _, rfl, h1.o, T.cl_TextWalker.cl, T.n_TextWalker_outcome, (by show 6 < 1000; decide), q _ h1.out⟩
theorem zcf : FnScope ["self", "frame", "row", "deed"] ["self"] (zac za6) := ⟨rfl, rfl, rfl, by decide +kernel, rfl, by decide +kernel, by decide +kernel⟩
theorem zf2 (T : Txt K mg t) : FnOk P w K mg base CX0 4 t.a_TextWalker_walk_on t.d_TextWalker_walk_on ["self"] (zc4 K t) := by
 have G_TextWalker_row_of : FnOk P w K mg base CX0 1 t.a_TextWalker_row_of t.d_TextWalker_row_of ["self", "frame"] (zc9 K t) := zeg T
 have G_TextWalker_do_row : FnOk P w K mg base CX0 3 t.a_TextWalker_do_row t.d_TextWalker_do_row ["self", "frame", "row"] (zei K t) := zgn T
 have G_TextWalker_go_on : FnOk P w K mg base CX0 1 t.a_TextWalker_go_on t.d_TextWalker_go_on ["self", "frame", "way"] (zdd K t) := zem T
 have G_TextWalker_begin : FnOk P w K mg base CX0 3 t.a_TextWalker_begin t.d_TextWalker_begin ["self", "function", "args"] (zde K t) := zeq T
 have G_TextWalker_go_back : FnOk P w K mg base CX0 2 t.a_TextWalker_go_back t.d_TextWalker_go_back ["self", "number"] (zd2 K t) := zf8 T
 have G_TextFrame_value_of : FnOk P w K mg base CX0 1 t.a_TextFrame_value_of t.d_TextFrame_value_of ["self", "atom"] (zch K t) := zc3 T
 refine T.TextWalker_walk_on.F.ok zcf (λ vs H Q E h => ?_) (λ cdv A outer s H vs Q E hr h => ?_)
 . obtain ⟨Hb, w, fs, f, sent, fns, F, r, rv, rfl, h, hFl, hF, hn, hr1, hq, hs, hk, q⟩ := h
   rfl
 . obtain ⟨Hb, w, fs, f, sent, fns, F, r, rv, rfl, h, hFl, hF, hn, hr1, hq, hs, hk, q⟩ := h
   refine ⟨_, (@zad _ _ _ _ _ (@zba _ _ 1 _ _ _ _ zcf.nd rfl (Or.inr rfl) (@zao _ _ _ _ _ _ _ za1 (zbj (pv 0) (by rfl)) (zm2 zjp zae) (λ _ _ => rfl)) (by rfl) (by first | exact .inl rfl | exact .inr rfl | assumption)) (@zad _ _ _ _ _ (@zba _ _ 2 _ _ _ _ zcf.nd rfl (Or.inl rfl) (zbi (pv 0) T.cl_TextWalker.cl T.TextWalker_row_of.m G_TextWalker_row_of (hr.mono (by decide)) T.TextWalker_row_of.b .nil zcb (@zaa _ _ _ _ _ (pv 1) zag (by rfl))) (by rfl) (by first | exact .inl rfl | exact .inr rfl | assumption)) (@zad _ _ _ _ _ (@zbk _ _ _ _ _ _ _ _ (@zap _ _ _ _ _ _ _ _ zcc (@zao _ _ _ _ _ _ _ zaq (pv 2) zae (λ _ _ => rfl)) zav (zar _)) (@zad _ _ _ _ _ (@zbt _ _ _ _ (zbi (pv 0) T.cl_TextWalker.cl T.TextWalker_begin.m G_TextWalker_begin (hr.mono (by decide)) T.TextWalker_begin.b .nil zcb (@zaa _ _ _ _ _ (@zao _ _ _ _ _ _ _ zaq (pv 2) zae (λ _ _ => rfl)) (@zaa _ _ _ _ _ (zgv (N' := ["atom", "frame"]) (js := [none, some 1]) (by kernel_rfl) rfl (zrl (@zao _ _ _ _ _ _ _ zaq (pv 2) zae (λ _ _ => rfl))) zek (λ _ _ _ _ => (zbc (i := 0) (show (["atom", "frame"] : List Str).Nodup by decide +kernel) rfl (Or.inl rfl) (.inr rfl))) (λ _ _ _ _ => zge) (λ _ _ _ _ => (zbi (pv 1) T.cl_TextFrame.cl T.TextFrame_value_of.m G_TextFrame_value_of (hr.mono (by decide)) T.TextFrame_value_of.b .nil zcb (@zaa _ _ _ _ _ (pv 0) zag (by rfl))))) zag (by rfl)) (by rfl))) (by rfl)) (@zah _ _ _ (@zan _ _ _ _ zfo))) zal) (@zad _ _ _ _ _ (@zbk _ _ _ _ _ _ _ _ (@zap _ _ _ _ _ _ _ _ zcc (@zao _ _ _ _ _ _ _ zaq (pv 2) zae (λ _ _ => rfl)) zav (zar _)) (@zad _ _ _ _ _ (@zbt _ _ _ _ (zbi (pv 0) T.cl_TextWalker.cl T.TextWalker_go_back.m G_TextWalker_go_back (hr.mono (by decide)) T.TextWalker_go_back.b .nil zcb (@zaa _ _ _ _ _ (zbi (pv 1) T.cl_TextFrame.cl T.TextFrame_value_of.m G_TextFrame_value_of (hr.mono (by decide)) T.TextFrame_value_of.b .nil zcb (@zaa _ _ _ _ _ (@zao _ _ _ _ _ _ _ zaq (pv 2) zae (λ _ _ => rfl)) zag (by rfl))) zag (by rfl))) (by rfl)) (@zah _ _ _ (@zan _ _ _ _ zfo))) zal) (@zad _ _ _ _ _ (@zbk _ _ _ _ _ _ _ _ (@zap _ _ _ _ _ _ _ _ zf9 (@zao _ _ _ _ _ _ _ zaq (pv 2) zae (λ _ _ => rfl)) (@zcz _ _ _ _ _ (@zaa _ _ _ _ _ zav (@zaa _ _ _ _ _ zav zag (by rfl)) (by rfl))) (by with_unfolding_all rfl)) (@zad _ _ _ _ _ (@zbt _ _ _ _ (zbi (pv 0) T.cl_TextWalker.cl T.TextWalker_go_on.m G_TextWalker_go_on (hr.mono (by decide)) T.TextWalker_go_on.b .nil zcb (@zaa _ _ _ _ _ (pv 1) (@zaa _ _ _ _ _ (@zgh _ _ _ _ _ _ _ _ (@zap _ _ _ _ _ _ _ _ zrp (zbi (pv 1) T.cl_TextFrame.cl T.TextFrame_value_of.m G_TextFrame_value_of (hr.mono (by decide)) T.TextFrame_value_of.b .nil zcb (@zaa _ _ _ _ _ (@zao _ _ _ _ _ _ _ zaq (pv 2) zae (λ _ _ => rfl)) zag (by rfl))) zae (zar _)) zae zae) zag (by rfl)) (by rfl))) (by rfl)) (@zah _ _ _ (@zan _ _ _ _ zfo))) zal) (@zad _ _ _ _ _ (@zba _ _ 3 _ _ _ _ zcf.nd rfl (Or.inl rfl) (zbi (pv 0) T.cl_TextWalker.cl T.TextWalker_do_row.m G_TextWalker_do_row (hr.mono (by decide)) T.TextWalker_do_row.b .nil zcb (@zaa _ _ _ _ _ (pv 1) (@zaa _ _ _ _ _ (pv 2) zag (by rfl)) (by rfl))) (by rfl) (by first | exact .inl rfl | exact .inr rfl | assumption)) (@zad _ _ _ _ _ (@zbt _ _ _ _ (zbi (pv 0) T.cl_TextWalker.cl T.TextWalker_go_on.m G_TextWalker_go_on (hr.mono (by decide)) T.TextWalker_go_on.b .nil zcb (@zaa _ _ _ _ _ (pv 1) (@zaa _ _ _ _ _ zae zag (by rfl)) (by rfl))) (by rfl)) (@zah _ _ _ (@zan _ _ _ _ (pv 3)))))))))), ?_⟩
   have hfm : f ∈ fs ++ [f] := List.mem_append_right _ (List.mem_singleton.mpr rfl)
   have hf := h.fr f hfm
   have hqH := h.b.tup hq
   have hrow : f.row < F.rs.length := (List.getElem?_eq_some_iff.mp hr1).1
   refine ⟨_, rfl, w.a, _, _, _, _, rfl, h.o, T.cl_TextWalker.cl, T.n_TextWalker_stack, rfl, _, rfl, w.st, _, _, _, rfl, rfl, SqL.of h.st, zrq _ _, ?_⟩
   refine ⟨_, rfl, w.a, _, _, rfl, h.o, rfl, _, rfl, Hb, w, fs ++ [f], .non, sent, f, fns, F, r, rfl, h, hfm, hFl, hF, hn, hr1, ?_⟩
   cases rv with
   | back a =>
     obtain ⟨rfl, v, hv, q⟩ := q
     exact ⟨_, rfl, r.r, _, _, _, rfl, rfl, hqH, at0, rfl, _, rfl, zco (by decide +kernel) ⟨_, rfl, r.r, _, _, _, rfl, rfl, hqH, at0, rfl, _, rfl, zeu (by decide +kernel) ⟨_, rfl, w.a, _, _, rfl, h.o, rfl, _, rfl, f.a, _, _, rfl, hf.o, rfl, _, rfl, r.r, _, _, _, rfl, rfl, hqH, rfl, f, a, v, rfl, hf, hv, Hb, w, f, .non, sent, v, rfl, h, λ H1 h1 => q H1 h1⟩⟩⟩
   | out a =>
     refine ⟨_, rfl, r.r, _, _, _, rfl, rfl, hqH, at0, rfl, _, rfl, zco (by decide +kernel) ⟨_, rfl, r.r, _, _, _, rfl, rfl, hqH, at0, rfl, _, rfl, zco (by decide +kernel) ⟨_, rfl, r.r, _, _, _, rfl, rfl, hqH, at0, le2, λ tp htp => ⟨tp, _, rfl, .inr (SqT.of zab), rfl, (by decide +kernel), _, rfl, zco (by decide +kernel) ?_⟩⟩⟩⟩
     have s1 := zak.new (o := .tup [.str (PySem.Str.ofString "if"), .str (PySem.Str.ofString "while")]) htp
     have h1 := h.grow s1
     have g1 := zb3 (H2 := upd H tp (.tup [.str (PySem.Str.ofString "if"), .str (PySem.Str.ofString "while")])) h.b
     obtain ⟨r2, v, hw, hv, q⟩ := q
     refine ⟨_, rfl, w.a, _, _, rfl, h1.o, rfl, _, rfl, _, rfl, _, w, fs, f, .non, sent, r.r, .out a, rfl, h1, s1.tup hqH, hs, hk, (λ a z => by cases z), v, hv, λ Hb2 H2 tq s2 h2 e2 => ?_⟩
     refine ⟨_, rfl, w.a, _, _, rfl, h2.o, rfl, _, rfl, Hb2, w, fs, .non, sent ++ [v], f, fns, F, 0, r2, rfl, h2, (hFl.mono g1).mono s2, hF, hn, hrow, hw, λ H3 h3 => ⟨_, rfl, q Hb2 H3 tq (g1.trans s2) h3 e2⟩⟩
   | copy y a =>
     refine ⟨_, rfl, r.r, _, _, _, rfl, rfl, hqH, at0, rfl, _, rfl, zco (by decide +kernel) ⟨_, rfl, r.r, _, _, _, rfl, rfl, hqH, at0, rfl, _, rfl, zco (by decide +kernel) ⟨_, rfl, r.r, _, _, _, rfl, rfl, hqH, at0, le2, λ tp htp => ⟨tp, _, rfl, .inr (SqT.of zab), rfl, (by decide +kernel), _, rfl, zco (by decide +kernel) ?_⟩⟩⟩⟩
     have s1 := zak.new (o := .tup [.str (PySem.Str.ofString "if"), .str (PySem.Str.ofString "while")]) htp
     have h1 := h.grow s1
     have g1 := zb3 (H2 := upd H tp (.tup [.str (PySem.Str.ofString "if"), .str (PySem.Str.ofString "while")])) h.b
     obtain ⟨r2, x, v, hw, hg, q⟩ := q
     refine ⟨_, rfl, w.a, _, _, rfl, h1.o, rfl, _, rfl, _, rfl, _, w, fs, f, .non, sent, r.r, (.copy y a), rfl, h1, s1.tup hqH, hs, hk, (λ a z => by cases z), x, v, hg, λ Hb2 H2 s2 h2 => ?_⟩
     refine ⟨_, rfl, w.a, _, _, rfl, h2.o, rfl, _, rfl, Hb2, w, fs, .non, sent, { f with kvs := zbu f.kvs (Sum.inr x : Key) v }, fns, F, 0, r2, rfl, h2, (hFl.mono g1).mono s2, hF, hn, hrow, hw, λ H3 h3 => ⟨_, rfl, q Hb2 H3 (g1.trans s2) h3⟩⟩
   | op y s a b =>
     refine ⟨_, rfl, r.r, _, _, _, rfl, rfl, hqH, at0, rfl, _, rfl, zco (by decide +kernel) ⟨_, rfl, r.r, _, _, _, rfl, rfl, hqH, at0, rfl, _, rfl, zco (by decide +kernel) ⟨_, rfl, r.r, _, _, _, rfl, rfl, hqH, at0, le2, λ tp htp => ⟨tp, _, rfl, .inr (SqT.of zab), rfl, (by decide +kernel), _, rfl, zco (by decide +kernel) ?_⟩⟩⟩⟩
     have s1 := zak.new (o := .tup [.str (PySem.Str.ofString "if"), .str (PySem.Str.ofString "while")]) htp
     have h1 := h.grow s1
     have g1 := zb3 (H2 := upd H tp (.tup [.str (PySem.Str.ofString "if"), .str (PySem.Str.ofString "while")])) h.b
     obtain ⟨r2, x, v, hw, hg, q⟩ := q
     refine ⟨_, rfl, w.a, _, _, rfl, h1.o, rfl, _, rfl, _, rfl, _, w, fs, f, .non, sent, r.r, (.op y s a b), rfl, h1, s1.tup hqH, hs, hk, (λ a z => by cases z), x, v, hg, λ Hb2 H2 s2 h2 => ?_⟩
     refine ⟨_, rfl, w.a, _, _, rfl, h2.o, rfl, _, rfl, Hb2, w, fs, .non, sent, { f with kvs := zbu f.kvs (Sum.inr x : Key) v }, fns, F, 0, r2, rfl, h2, (hFl.mono g1).mono s2, hF, hn, hrow, hw, λ H3 h3 => ⟨_, rfl, q Hb2 H3 (g1.trans s2) h3⟩⟩
theorem zjx : FnScope ["self"] ["self"] (zac zck) := ⟨rfl, rfl, rfl, by decide +kernel, rfl, by decide +kernel, by decide +kernel⟩
theorem zju (T : Txt K mg t) : FnOk P w K mg base CX0 5 t.a_Walker_step t.d_Walker_step ["self"] (zgt K t) := by
 have G_Walker_ended : FnOk P w K mg base CX0 1 t.a_Walker_ended t.d_Walker_ended ["self"] (zdo K t) := zer T
 have G_TextWalker_walk_on : FnOk P w K mg base CX0 4 t.a_TextWalker_walk_on t.d_TextWalker_walk_on ["self"] (zc4 K t) := zf2 T
 refine T.Walker_step.F.ok zjx (λ vs H Q E h => ?_) (λ cdv A outer s H vs Q E hr h => ?_)
 . obtain ⟨Hb, w, fs, f, sent, fns, F, r, rv, rfl, h, hFl, hF, hn, hr1, hq, hs, hk, q⟩ := h
   rfl
 . obtain ⟨Hb, w, fs, f, sent, fns, F, r, rv, rfl, h, hFl, hF, hn, hr1, hq, hs, hk, q⟩ := h
   refine ⟨_, (@zad _ _ _ _ _ (@zbk _ _ _ _ _ _ _ _ (zfs (zdb (pv 0) T.cl_TextWalker.cl T.Walker_ended.m G_Walker_ended (hr.mono (by decide)) T.Walker_ended.b .nil zcb)) (@zah _ _ _ zk6) zal) (@zah _ _ _ (@zan _ _ _ _ (zdb (pv 0) T.cl_TextWalker.cl T.TextWalker_walk_on.m G_TextWalker_walk_on (hr.mono (by decide)) T.TextWalker_walk_on.b .nil zcb)))), ?_⟩
   exact ⟨_, rfl, w.a, _, _, rfl, h.o, rfl, Hb, w, fs ++ [f], .non, sent, rfl, h, _, rfl, zco (by simp) ⟨_, rfl, w.a, _, _, rfl, h.o, rfl, Hb, w, fs, f, sent, fns, F, r, rv, rfl, h, hFl, hF, hn, hr1, hq, hs, hk, q⟩⟩
theorem zho : FnScope ["self", "program", "args"] ["self", "program", "args"] (zac zbp) := ⟨rfl, rfl, rfl, by decide +kernel, rfl, by decide +kernel, by decide +kernel⟩
theorem zg4 (T : Txt K mg t) : FnOk P w K mg base CX0 7 t.a_TextWalker_init t.d_TextWalker_init ["self", "program", "args"] (zex K t) := by
 have G_Walker_init : FnOk P w K mg base CX0 6 t.a_Walker_init t.d_Walker_init ["self", "program"] (zgu K t) := zjz T
 have G_TextWalker_begin : FnOk P w K mg base CX0 3 t.a_TextWalker_begin t.d_TextWalker_begin ["self", "function", "args"] (zde K t) := zeq T
 refine T.TextWalker_init.F.ok zho (λ vs H Q E h => ?_) (λ cdv A outer s H vs Q E hr h => ?_)
 . obtain ⟨x, dx, p, ar, fns, F, vals, rfl, hx, hp, hne, hlen, hall, hnd, hF, har, hv, hnn, hps, q⟩ := h
   rfl
 . obtain ⟨x, dx, p, ar, fns, F, vals, rfl, hx, hp, hne, hlen, hall, hnd, hF, har, hv, hnn, hps, q⟩ := h
   refine ⟨_, (@zad _ _ _ _ _ (@zbt _ _ _ _ (zvk (znh rfl T.cl_Walker.g rfl) T.Walker_init.B G_Walker_init (hr.mono (by decide)) T.Walker_init.b .nil zcb (@zaa _ _ _ _ _ (pv 0) (@zaa _ _ _ _ _ (pv 1) zag (by rfl)) (by rfl))) (by rfl)) (@zah _ _ _ (@zbt _ _ _ _ (zbi (pv 0) T.cl_TextWalker.cl T.TextWalker_begin.m G_TextWalker_begin (hr.mono (by decide)) T.TextWalker_begin.b .nil zcb (@zaa _ _ _ _ _ (zbj (zbj (pv 0) (by rfl)) (by rfl)) (@zaa _ _ _ _ _ (pv 2) zag (by rfl)) (by rfl))) (by rfl)))), ?_⟩
   refine ⟨_, rfl, _, rfl, x, dx, p, fns, rfl, hx, hp, hne, hlen, hall, hnd, λ Hb w H1 ew s1 h1 hFl => ?_⟩
   subst ew
   obtain ⟨dx3, gs3, fz, c1, c2, c3⟩ := zv6 (hFl.mono h1.b)
   rw [hF] at c2
   cases c2
   have hFm : F ∈ fns := List.mem_of_getElem? hF
   refine ⟨_, rfl, w.a, _, _, rfl, h1.o, rfl, _, rfl, w.a, _, _, _, _, rfl, h1.o, T.cl_TextWalker.cl, T.n_TextWalker_flows, rfl, w.fl, _, _, _, _, rfl, c1, T.cl_Flows.cl, T.n_Flows_last, c3, _, rfl, Hb, w, [], .non, [], fns, F, ar, vals, rfl, h1, hFl, hFm, s1.seq har, hv, by decide, hnn, hps, λ Hb2 H2 f s2 h2 e1 e2 e3 => ?_⟩
   exact q Hb2 w f H2 rfl (s1.trans s2) h2 (hFl.mono s2) e1 e2 e3
theorem zlq : FnScope ["_law_script", "_law_k"] ["_law_script", "_law_k"] (zac zc0) := ⟨rfl, rfl, rfl, by decide +kernel, rfl, by decide +kernel, by decide +kernel⟩
theorem zln (T : Txt K mg t) : FnOk P w K mg base CX0 1 t.a_l_cell_at t.d_l_cell_at ["_law_script", "_law_k"] (zic K) := by
 refine T.l_cell_at.F.ok zlq (λ vs H Q E h => ?_) (λ cdv A outer s H vs Q E hr h => ?_)
 . obtain ⟨a, ns, k, rfl, hS, hl, h0, q⟩ := h
   rfl
 . obtain ⟨a, ns, k, rfl, hS, hl, h0, q⟩ := h
   refine ⟨_, (@zad _ _ _ _ _ (@zbk _ _ _ _ _ _ _ _ (@zap _ _ _ _ _ _ _ _ zta (pv 1) (zbz zbv (by rfl) T.b_len zfp (@zaa _ _ _ _ _ (pv 0) zag (by rfl))) (zar _)) (@zah _ _ _ (@zan _ _ _ _ (@zao _ _ _ _ _ _ _ za1 (pv 0) (pv 1) (λ _ _ => rfl)))) zal) (@zah _ _ _ (@zan _ _ _ _ zae))), ?_⟩
   have hlen : (ns.map V.int).length = ns.length := List.length_map _
   refine ⟨_, rfl, _, rfl, a, _, rfl, .inl hS, _, _, rfl, rfl, _, rfl, ?_⟩
   refine zud (λ c => ?_) (λ c => ?_)
   . have c := za7 c
     rw [hlen] at c
     obtain ⟨z, hz⟩ := zvt h0 c
     exact ⟨_, rfl, _, rfl, a, _, _, _, rfl, rfl, hS, hz, q _⟩
   . exact q _
theorem zp4 : FnScope ["_law_found"] ["_law_found"] (zac zed) := ⟨rfl, rfl, rfl, by decide +kernel, rfl, by decide +kernel, by decide +kernel⟩
theorem zkh (T : Txt K mg t) : FnOk P w K mg base CX0 1 t.a_l_whole t.d_l_whole ["_law_found"] (zh0 K) := by
 refine T.l_whole.F.ok zp4 (λ vs H Q E h => ?_) (λ cdv A outer s H vs Q E hr h => ?_)
 . obtain ⟨z, rfl, q⟩ := h
   rfl
 . obtain ⟨z, rfl, q⟩ := h
   refine ⟨_, (@zad _ _ _ _ _ (@zan _ _ _ _ (zmn (zbz zcu (by rfl) T.b_isinstance zb4 (@zaa _ _ _ _ _ (pv 0) (@zaa _ _ _ _ _ (zff (v := V.ty "int") rfl T.b_int zow rfl) zag (by rfl)) (by rfl))) (zsg (zxz (zbz zcu (by rfl) T.b_isinstance zb4 (@zaa _ _ _ _ _ (pv 0) (@zaa _ _ _ _ _ (zff (v := V.ty "bool") rfl T.b_bool zrm rfl) zag (by rfl)) (by rfl))))))) zal), ?_⟩
   exact ⟨_, rfl, _, _, _, true, rfl, .int _, rfl, _, rfl, zeu rfl ⟨_, rfl, _, _, _, false, rfl, .int _, rfl, _, rfl, q⟩⟩
theorem zeo : FnScope ["_law_cell", "_law_many", "_law_found", "_law_number", "_law_k"] ["_law_cell", "_law_many"] (zac zdg) := ⟨rfl, rfl, rfl, by decide +kernel, rfl, by decide +kernel, by decide +kernel⟩
theorem zjj (T : Txt K mg t) : FnOk P w K mg base CX0 1 t.a_l_stream t.d_l_stream ["_law_cell", "_law_many"] (zgz K) := by
 refine T.l_stream.F.ok zeo (λ vs H Q E h => ?_) (λ cdv A outer s H vs Q E hr h => ?_)
 . obtain ⟨c, m, rfl, hm, q⟩ := h
   rfl
 . obtain ⟨c, m, rfl, hm, q⟩ := h
   refine ⟨_, (@zad _ _ _ _ _ (@zba _ _ 2 _ _ _ _ zeo.nd rfl (Or.inl rfl) (@zd8 _ _ _ _ zag) (by rfl) (by first | exact .inl rfl | exact .inr rfl | assumption)) (@zad _ _ _ _ _ (@zba _ _ 3 _ _ _ _ zeo.nd rfl (Or.inl rfl) (@zat _ _ _ _ _ _ _ _ zf6 (@zat _ _ _ _ _ _ _ _ zca (pv 0) zae) zae) (by rfl) (by first | exact .inl rfl | exact .inr rfl | assumption)) (@zad _ _ _ _ _ (zd5 PassesOwn.never rfl (zfx rfl T.b_range (@zaa _ _ _ _ _ (@zat _ _ _ _ _ _ _ _ zf6 (pv 1) zae) zag (by rfl))) (zbc (i := 4) zeo.nd rfl (Or.inl rfl)) (@zad _ _ _ _ _ (@zba _ _ 3 _ _ _ _ zeo.nd rfl (Or.inl rfl) (@zat _ _ _ _ _ _ _ _ zca (@zat _ _ _ _ _ _ _ _ zf6 (@zat _ _ _ _ _ _ _ _ zf6 (@zat _ _ _ _ _ _ _ _ zid (pv 3) (pv 3)) (@zat _ _ _ _ _ _ _ _ zid zae (pv 3))) (pv 4)) zae) (by rfl) (by first | exact .inl rfl | exact .inr rfl | assumption)) (@zah _ _ _ (@zbt _ _ _ _ (zgo PySem.F.plainAttrs_list PySem.F.slot_list_append PySem.F.type_list_append zcj (pv 2) (@zaa _ _ _ _ _ (pv 3) zag (by rfl))) (by rfl))))) (@zah _ _ _ (@zan _ _ _ _ (@ze4 _ _ _ _ _ _ _ _ _ _ zjh (pv 2) (zfe zae) zg1)))))), ?_⟩
   have bM : ∀ z : Int, 0 <= z % 2147483647 /\ z % 2147483647 < 2147483647 := λ z => zdn z 2147483647 (by decide)
   refine ⟨le0, λ l hl => ?_⟩
   have s1 := zak.new (o := .lst []) hl
   have e1 := zab (H := H) (a := l) (o := .lst [])
   generalize upd H l (.lst []) = H1 at s1 e1 ⊢
   refine ⟨_, rfl, _, _, rfl, rfl, (show (0 : Int) < 2147483647 by decide), _, _, rfl, rfl, ?_⟩
   have b0 := bM c
   refine ⟨_, rfl, _, _, rfl, rfl, _, rfl, by omega, by omega, zi6 (lo := 0) (n := ((m : Int) + 1).toNat) (λ i σ H' => ∃ (k : Int) (v4 : Option V) (ns : List Int), σ = [some (.int c), some (.int m), some (.ref l), some (.int k), v4] /\ 0 <= k /\ k < 2 ^ 40 /\ zak H H' /\ H' l = some (.lst (ns.map V.int)) /\ ns.length = i /\ ∀ n ∈ ns, 0 <= n) ⟨c % 2147483647 + 48271, _, [], rfl, by omega, by omega, s1, e1, rfl, λ n h => by cases h⟩ ?_ ?_⟩
   . rintro i σ H' hi ⟨k, v4, ns, rfl, k0, k1, s2, e2, hlen, hns⟩
     have b := bM (k * k + 48271 * k + (0 + (i : Int)))
     refine ⟨_, rfl, _, rfl, _, _, rfl, rfl, .inl ⟨by omega, by omega⟩, _, rfl, _, _, rfl, rfl, .inl ⟨by decide, by decide⟩, _, _, rfl, rfl, _, rfl, _, _, rfl, rfl, _, _, rfl, rfl, (show (0 : Int) < 2147483647 by decide), _, rfl, .inl ⟨rfl, _, SqL.of e2⟩, _, rfl, l, _, _, rfl, rfl, e2, zbs (by rw [List.length_map]; omega), (k * k + 48271 * k + (0 + (i : Int))) % 2147483647, _, ns ++ [(k * k + 48271 * k + (0 + (i : Int))) % 2147483647], rfl, b.1, by omega, s2.upd hl, ?_, by rw [List.length_append, hlen]; rfl, λ n hn => ?_⟩
     . rw [List.map_append]; exact zab
     . rcases List.mem_append.mp hn with hn | hn
       . exact hns n hn
       . rw [List.mem_singleton.mp hn]; exact b.1
   . rintro σ H' ⟨k, v4, ns, rfl, k0, k1, s2, e2, hlen, hns⟩
     refine ⟨_, rfl, _, rfl, l, _, rfl, SqL.of e2, λ p hp => ?_⟩
     have hc : zew (ns.map V.int) (some 1) none = (ns.drop 1).map V.int := by rw [zq1, List.map_drop]
     rw [hc]
     exact q p _ (ns.drop 1) (s2.free hp) (s2.trans (zak.new hp)) zab (by rw [List.length_drop, hlen]; omega) λ n hn => hns n (List.mem_of_mem_drop hn)
theorem zc7 : FnScope ["_law_cell", "_law_many", "_law_letters", "_law_size", "_law_at", "_law_common", "_law_found", "_law_k", "_law_name"] ["_law_cell", "_law_many"] (zac zd3) := ⟨rfl, rfl, rfl, by decide +kernel, rfl, by decide +kernel, by decide +kernel⟩
theorem zp8 (T : Txt K mg t) : FnOk P w K mg base CX0 1 t.a_l_names t.d_l_names ["_law_cell", "_law_many"] (zj2 K) := by
 refine T.l_names.F.ok zc7 (λ vs H Q E h => ?_) (λ cdv A outer s H vs Q E hr h => ?_)
 . obtain ⟨c, m, rfl, hm, q⟩ := h
   rfl
 . obtain ⟨c, m, rfl, hm, q⟩ := h
   refine ⟨_, (@zad _ _ _ _ _ (@zba _ _ 2 _ _ _ _ zc7.nd rfl (Or.inr rfl) zav (by rfl) (by first | exact .inl rfl | exact .inr rfl | assumption)) (@zad _ _ _ _ _ (@zbk _ _ _ _ _ _ _ _ (@zap _ _ _ _ _ _ _ _ zcc (@zat _ _ _ _ _ _ _ _ zca (pv 0) zae) zae (zar _)) (@zah _ _ _ (@zan _ _ _ _ (zgv (N' := ["_law_k", "_law_letters", "_law_cell"]) (js := [none, some 2, some 0]) (by kernel_rfl) rfl (zfx rfl T.b_range (@zaa _ _ _ _ _ (pv 1) zag (by rfl))) zek (λ _ _ _ _ => (zbc (i := 0) (show (["_law_k", "_law_letters", "_law_cell"] : List Str).Nodup by decide +kernel) rfl (Or.inl rfl) (.inr rfl))) (λ _ _ _ _ => zge) (λ _ _ _ _ => (@zat _ _ _ _ _ _ _ _ zu4 (@zao _ _ _ _ _ _ _ zo1 (pv 1) (@zat _ _ _ _ _ _ _ _ zca (@zat _ _ _ _ _ _ _ _ zel (pv 2) zae) zae) (λ _ _ => rfl)) (@zat _ _ _ _ _ _ _ _ zf6 (pv 0) zae)))))) zal) (@zad _ _ _ _ _ (@zba _ _ 3 _ _ _ _ zc7.nd rfl (Or.inl rfl) (@zat _ _ _ _ _ _ _ _ zca (@zat _ _ _ _ _ _ _ _ zel (pv 0) zae) zae) (by rfl) (by first | exact .inl rfl | exact .inr rfl | assumption)) (@zad _ _ _ _ _ (@zba _ _ 4 _ _ _ _ zc7.nd rfl (Or.inl rfl) (@zat _ _ _ _ _ _ _ _ zca (@zat _ _ _ _ _ _ _ _ zel (pv 0) zae) (@zat _ _ _ _ _ _ _ _ zf6 (pv 3) zae)) (by rfl) (by first | exact .inl rfl | exact .inr rfl | assumption)) (@zad _ _ _ _ _ (@zba _ _ 5 _ _ _ _ zc7.nd rfl (Or.inl rfl) (zgo PySem.F.plainAttrs_str PySem.F.slot_str_join PySem.F.type_str_join zu0 zav (@zaa _ _ _ _ _ (zgv (N' := ["_law_k", "_law_letters", "_law_cell"]) (js := [none, some 2, some 0]) (by kernel_rfl) rfl (zfx rfl T.b_range (@zaa _ _ _ _ _ (pv 3) zag (by rfl))) zek (λ _ _ _ _ => (zbc (i := 0) (show (["_law_k", "_law_letters", "_law_cell"] : List Str).Nodup by decide +kernel) rfl (Or.inl rfl) (.inr rfl))) (λ _ _ _ _ => zge) (λ _ _ _ _ => (@zao _ _ _ _ _ _ _ zo1 (pv 1) (@zat _ _ _ _ _ _ _ _ zca (@zat _ _ _ _ _ _ _ _ zel (pv 2) (@zat _ _ _ _ _ _ _ _ zf6 zae (@zat _ _ _ _ _ _ _ _ zid (pv 0) (@zat _ _ _ _ _ _ _ _ zca (pv 2) zae)))) zae) (λ _ _ => rfl)))) zag (by rfl))) (by rfl) (by first | exact .inl rfl | exact .inr rfl | assumption)) (@zad _ _ _ _ _ (@zba _ _ 6 _ _ _ _ zc7.nd rfl (Or.inl rfl) (@zd8 _ _ _ _ zag) (by rfl) (by first | exact .inl rfl | exact .inr rfl | assumption)) (@zad _ _ _ _ _ (zd5 PassesOwn.never rfl (zfx rfl T.b_range (@zaa _ _ _ _ _ (pv 1) zag (by rfl))) (zbc (i := 7) zc7.nd rfl (Or.inl rfl)) (@zad _ _ _ _ _ (@zba _ _ 8 _ _ _ _ zc7.nd rfl (Or.inl rfl) (@zat _ _ _ _ _ _ _ _ zht (@zat _ _ _ _ _ _ _ _ zht (@ze4 _ _ _ _ _ _ _ _ _ _ zut (pv 5) zg1 (zfe (pv 4))) (@zao _ _ _ _ _ _ _ zo1 (pv 2) (@zat _ _ _ _ _ _ _ _ zca (@zat _ _ _ _ _ _ _ _ zf6 (@zat _ _ _ _ _ _ _ _ zel (pv 0) zae) (@zat _ _ _ _ _ _ _ _ zid zae (pv 7))) zae) (λ _ _ => rfl))) (@ze4 _ _ _ _ _ _ _ _ _ _ zut (pv 5) (zfe (pv 4)) zg1)) (by rfl) (by first | exact .inl rfl | exact .inr rfl | assumption)) (@zad _ _ _ _ _ (@zbk _ _ _ _ _ _ _ _ (@zap _ _ _ _ _ _ _ _ zf9 (pv 8) (@zvo _ _ [V.str "fn", V.str "in", V.str "new", V.str "get", V.str "put", V.str "call", V.str "out", V.str "if", V.str "while", V.str "else", V.str "end", V.str "back"] (by kernel_rfl)) (by with_unfolding_all rfl)) (@zah _ _ _ (@zba _ _ 8 _ _ _ _ zc7.nd rfl (Or.inl rfl) (@zat _ _ _ _ _ _ _ _ zht (pv 8) zav) (by rfl) (by first | exact .inl rfl | exact .inr rfl | assumption))) zal) (@zah _ _ _ (@zbt _ _ _ _ (zgo PySem.F.plainAttrs_list PySem.F.slot_list_append PySem.F.type_list_append zcj (pv 6) (@zaa _ _ _ _ _ (pv 8) zag (by rfl))) (by rfl)))))) (@zah _ _ _ (@zan _ _ _ _ (pv 6)))))))))), ?_⟩
   have lf : ("abcdefghijklmnopqrstuvwxyz" : Str).length <= sizeLine := by decide +kernel
   refine ⟨_, rfl, _, _, rfl, rfl, (show (0 : Int) < 5 by decide), rfl, _, rfl, ?_⟩
   refine zud (λ _ => ?_) (λ _ => ?_)
   . have b := zdn (c / 5) 26 (by decide)
     refine ⟨_, rfl, _, rfl, by omega, by omega, λ u hu => zmv (lo := 0) (n := (m : Int).toNat) (λ i _ v => v = .str (tx (List.replicate (i + 1) (97 + (c / 5 % 26).toNat)))) (λ _ _ _ _ _ h => h) (by omega) hu ?_ ?_⟩
     . rintro i H2 R' hi s2 _ r2
       refine ⟨_, rfl, _, rfl, _, _, rfl, rfl, zrc _ _ (by decide), _, _, rfl, rfl, (show (0 : Int) < 26 by decide), _, _, _, rfl, rfl, lf, K14.let_at b.1 b.2, _, rfl, _, _, rfl, rfl, _, _, rfl, rfl, by omega, by omega, r2 _ H2 (zak.refl _) ?_⟩
       rw [show (0 + (i : Int) + 1).toNat = i + 1 by omega]
       rfl
     . intro H2 vs s2 e2 lv tv
       have ev := ztm (m := m) (by omega) tv
       subst ev
       refine q u H2 ((List.range m).map λ k => tx (List.replicate (k + 1) (97 + (c / 5 % 26).toNat))) hu s2 (by rw [List.map_map]; exact e2) (by simp) ⟨nodup_range λ j k hj hk z => ?_, λ n hn => ?_⟩
       . have := congrArg (λ y : Str => y.length) z
         simp only [zhh, List.length_replicate] at this
         omega
       . obtain ⟨k, hk, rfl⟩ := List.mem_map.mp hn
         have := List.mem_range.mp hk
         refine ⟨_, rfl, λ x hx => ?_, by simp, by simp; omega⟩
         rw [(List.mem_replicate.mp hx).2]
         omega
   . have b7 := zdn (c / 5) 7 (by decide)
     refine ⟨_, rfl, _, _, rfl, rfl, zrc _ _ (by decide), _, _, rfl, rfl, (show (0 : Int) < 7 by decide), ?_⟩
     refine ⟨_, rfl, _, _, rfl, rfl, zrc _ _ (by decide), _, rfl, _, _, rfl, rfl, _, _, rfl, rfl, (show (0 : Int) < c / 5 % 7 + 1 by omega), ?_⟩
     have ba := zdn (c / 35) (c / 5 % 7 + 1) (by omega)
     obtain ⟨at', hat'⟩ : ∃ a : Nat, c / 35 % (c / 5 % 7 + 1) = (a : Int) := ⟨(c / 35 % (c / 5 % 7 + 1)).toNat, by omega⟩
     refine ⟨rfl, _, rfl, _, rfl, by omega, by omega, λ u hu => zmv (lo := 0) (n := (c / 5 % 7).toNat) (λ _ _ v => ∃ ch, (97 <= ch /\ ch <= 122) /\ v = .str (tx [ch])) (λ _ _ _ _ _ h => h) (by omega) hu ?_ ?_⟩
     . rintro i H2 R' hi s2 _ r2
       have b2 := zdn c 2 (by decide)
       have den : 0 < 9 + (0 + (i : Int)) * (c % 2) /\ 9 + (0 + (i : Int)) * (c % 2) < 1073741824 := by
         have : c % 2 = 0 \/ c % 2 = 1 := by omega
         rcases this with z | z <;> rw [z] <;> omega
       have b := zdn (c / (9 + (0 + (i : Int)) * (c % 2))) 26 (by decide)
       exact ⟨_, rfl, _, rfl, _, rfl, _, rfl, _, _, rfl, rfl, (show (0 : Int) < 2 by decide), _, _, rfl, rfl, .inr ⟨by omega, by omega⟩, _, _, rfl, rfl, _, _, rfl, rfl, den, _, _, rfl, rfl, (show (0 : Int) < 26 by decide), _, _, _, rfl, rfl, lf, K14.let_at b.1 b.2, r2 _ H2 (zak.refl _) ⟨_, by omega, rfl⟩⟩
     intro H2 vs s2 e2 lv tv
     obtain ⟨cs, rfl, hcs, hcl⟩ := zr0 tv
     have hcl2 : cs.length <= 6 := by omega
     refine ⟨_, u, cs.map λ c => tx [c], rfl, rfl, SqL.of e2, K14.one_fit (by omega), ?_⟩
     rw [K14.one_join]
     refine ⟨le0, λ l hl => ?_⟩
     have s3 := s2.trans (zak.new (o := .lst []) hl)
     have e3 := zab (H := H2) (a := l) (o := .lst [])
     have l0 : H l = none := s2.free hl
     generalize upd H2 l (.lst []) = H3 at s3 e3 ⊢
     have tcl : (tx cs).length <= sizeLine := Nat.le_of_lt (zbs (by rw [zhh]; omega))
     refine ⟨_, rfl, _, rfl, by omega, by omega, zi6 (lo := 0) (n := (m : Int).toNat) (λ i σ H' => ∃ v7 v8 : Option V, σ = [some (.int c), some (.int m), some (.str "abcdefghijklmnopqrstuvwxyz"), some (.int (c / 5 % 7)), some (.int (c / 35 % (c / 5 % 7 + 1))), some (.str (tx cs)), some (.ref l), v7, v8] /\ zak H H' /\ H' l = some (.lst (((List.range i).map λ k => tx (nmF WN cs at' (c / 3) k)).map V.str))) ?_ ?_ ?_⟩
     . exact ⟨_, _, rfl, s3, e3⟩
     . rintro i σ H' hi ⟨v7, v8, rfl, s4, e4⟩
       have b := zdn (c / 3 + 7 * (0 + (i : Int))) 26 (by decide)
       have hb1 : (Txt.slice (tx cs) none (some (c / 35 % (c / 5 % 7 + 1)))) = tx (cs.take at') := by rw [hat']; exact K15.sl_to cs at'
       have hb2 : (Txt.slice (tx cs) (some (c / 35 % (c / 5 % 7 + 1))) none) = tx (cs.drop at') := by rw [hat']; exact K15.sl_from cs at'
       have l1 : (tx (cs.take at')).length <= 6 := by rw [zhh, List.length_take]; omega
       have l2 : (tx (cs.drop at')).length <= 6 := by rw [zhh, List.length_drop]; omega
       refine ⟨_, rfl, _, rfl, _, rfl, _, rfl, tcl, _, rfl, _, rfl, _, _, rfl, rfl, zrc _ _ (by decide), _, rfl, _, _, rfl, rfl, .inl ⟨by decide, by decide⟩, _, _, rfl, rfl, _, _, rfl, rfl, (show (0 : Int) < 26 by decide), _, _, _, rfl, rfl, lf, K14.let_at b.1 b.2, _, _, rfl, rfl, (by rw [hb1]; exact Nat.le_of_lt (zbs (by show (tx (cs.take at')).length + 1 < 1000000; omega))), _, rfl, _, rfl, _, rfl, _, rfl, tcl, _, _, rfl, rfl, ?_, ?_⟩
       . rw [hb1, hb2, Str.length_append]
         exact Nat.le_of_lt (zbs (by show (tx (cs.take at')).length + 1 + (tx (cs.drop at')).length < 1000000; omega))
       rw [hb1, hb2]
       have enm : tx (cs.take at') ++ (⟨#[97 + ((c / 3 + 7 * (0 + (i : Int))) % 26).toNat]⟩ : Str) ++ tx (cs.drop at') = tx (nmB cs at' (c / 3) i) := by
         refine K14.str_ext ?_
         rw [Int.zero_add]
         show ((tx (cs.take at')).cps ++ #[chr (c / 3) i] ++ (tx (cs.drop at')).cps).toList = _
         unfold nmB
         rw [zhk]
         simp [tx]
       rw [enm]
       refine ⟨_, rfl, (by show 12 <= sizeLine; decide), λ tp htp => ⟨tp, zj5.map V.str, rfl, .inr (SqT.of zab), rfl, (by decide +kernel), _, rfl, ?_⟩⟩
       have sT := zak.new (o := .tup (zj5.map V.str)) htp
       have e5 := sT _ _ e4
       have s5 := s4.trans sT
       rw [show (if false = true then !inV (.str (tx (nmB cs at' (c / 3) i))) (zj5.map V.str) else inV (.str (tx (nmB cs at' (c / 3) i))) (zj5.map V.str)) = decide (nmB cs at' (c / 3) i ∈ WN) from inW _]
       have ll : (nmB cs at' (c / 3) i).length <= 7 := by rw [zkr]; omega
       have push : ∀ y, y = tx (nmF WN cs at' (c / 3) i) -> ((List.range i).map λ k => tx (nmF WN cs at' (c / 3) k)).map V.str ++ [V.str y] = ((List.range (i + 1)).map λ k => tx (nmF WN cs at' (c / 3) k)).map V.str := λ y hy => by rw [List.range_succ, List.map_append, List.map_append, hy]; rfl
       by_cases hW : nmB cs at' (c / 3) i ∈ WN
       . refine zeu (decide_eq_true hW) ⟨_, rfl, _, _, rfl, rfl, Nat.le_of_lt (zbs (by rw [zhh]; show (nmB cs at' (c / 3) i).length + 1 < 1000000; omega)), _, rfl, .inl ⟨rfl, _, SqL.of e5⟩, _, rfl, l, _, _, rfl, rfl, e5, zbs (by rw [List.length_map, List.length_map, List.length_range]; omega), _, _, rfl, s5.upd l0, ?_⟩
         rw [zab, push]
         unfold nmF
         rw [if_pos hW]
         refine K14.str_ext ?_
         rw [zhk]
         show ((tx (nmB cs at' (c / 3) i)).cps ++ _).toList = _
         simp [tx]
         decide +kernel
       . refine zco (λ z => hW (of_decide_eq_true z)) ⟨_, rfl, .inl ⟨rfl, _, SqL.of e5⟩, _, rfl, l, _, _, rfl, rfl, e5, zbs (by rw [List.length_map, List.length_map, List.length_range]; omega), _, _, rfl, s5.upd l0, ?_⟩
         rw [zab, push]
         unfold nmF
         rw [if_neg hW]
     . rintro σ H' ⟨v7, v8, rfl, s4, e4⟩
       rw [Int.toNat_natCast] at e4
       refine ⟨_, rfl, q l H' _ l0 s4 e4 (by simp) ⟨nodup_range λ j k hj hk z => zv8 (by omega) (by omega) (zya z), λ n hn => ?_⟩⟩
       obtain ⟨k, hk, rfl⟩ := List.mem_map.mp hn
       have hB := zkr cs at' (c / 3) k
       have hL : Let (nmB cs at' (c / 3) k) := λ x hx => by
         unfold nmB at hx
         rcases List.mem_append.mp hx with hx | hx
         . exact hcs x (List.mem_of_mem_take hx)
         rcases List.mem_cons.mp hx with rfl | hx
         . exact zw4 _ _
         . exact hcs x (List.mem_of_mem_drop hx)
       refine ⟨_, rfl, ?_⟩
       unfold nmF
       split
       . refine ⟨λ x hx => ?_, by simp, by rw [List.length_append]; show _ + 1 <= 9; omega⟩
         rcases List.mem_append.mp hx with hx | hx
         . exact hL x hx
         . rw [List.mem_singleton.mp hx]; decide
       . exact ⟨hL, by omega, by omega⟩
theorem zkq : FnScope ["_law_number"] ["_law_number"] (zac zct) := ⟨rfl, rfl, rfl, by decide +kernel, rfl, by decide +kernel, by decide +kernel⟩
theorem zg9 (T : Txt K mg t) : FnOk P w K mg base CX0 1 t.a_l_value_by t.d_l_value_by ["_law_number"] (zfc K) := by
 refine T.l_value_by.F.ok zkq (λ vs H Q E h => ?_) (λ cdv A outer s H vs Q E hr h => ?_)
 . obtain ⟨n, rfl, q⟩ := h
   rfl
 . obtain ⟨n, rfl, q⟩ := h
   refine ⟨_, (@zad _ _ _ _ _ (@zbk _ _ _ _ _ _ _ _ (@zap _ _ _ _ _ _ _ _ zcc (@zat _ _ _ _ _ _ _ _ zca (pv 0) zae) zae (zar _)) (@zah _ _ _ (@zan _ _ _ _ (@zat _ _ _ _ _ _ _ _ zca (@zat _ _ _ _ _ _ _ _ zel (pv 0) zae) zae))) zal) (@zad _ _ _ _ _ (@zbk _ _ _ _ _ _ _ _ (@zap _ _ _ _ _ _ _ _ zcc (@zat _ _ _ _ _ _ _ _ zca (pv 0) zae) zae (zar _)) (@zah _ _ _ (@zan _ _ _ _ (@zat _ _ _ _ _ _ _ _ zml (@zat _ _ _ _ _ _ _ _ zml (@zat _ _ _ _ _ _ _ _ zl2 zae zae) zae) (@zat _ _ _ _ _ _ _ _ zca (@zat _ _ _ _ _ _ _ _ zel (pv 0) zae) zae)))) zal) (@zah _ _ _ (@zan _ _ _ _ (@zat _ _ _ _ _ _ _ _ zca (@zat _ _ _ _ _ _ _ _ zid (@zat _ _ _ _ _ _ _ _ zel (pv 0) zae) zae) (@zat _ _ _ _ _ _ _ _ zl2 zae zae)))))), ?_⟩
   have x1 : (2 : Int) ^ (48 : Int).toNat = 281474976710656 := by decide
   have w1 : K21.wide = 281474976710656 := by decide
   have b5 := zdn (n / 3) 5 (by decide)
   refine ⟨_, rfl, _, _, rfl, rfl, (show (0 : Int) < 3 by decide), rfl, _, rfl, ?_⟩
   refine zud (λ _ => ?_) (λ _ => ?_)
   . exact ⟨_, rfl, _, _, rfl, rfl, zqm _, _, _, rfl, rfl, (show (0 : Int) < 5 by decide), q _ ⟨b5.1, by rw [w1]; omega⟩⟩
   refine ⟨_, rfl, _, _, rfl, rfl, (show (0 : Int) < 3 by decide), rfl, _, rfl, ?_⟩
   refine zud (λ _ => ?_) (λ _ => ?_)
   . refine ⟨_, _, rfl, rfl, ⟨by decide, by decide, by decide⟩, _, _, rfl, rfl, _, rfl, _, _, rfl, rfl, zqm _, _, _, rfl, rfl, (show (0 : Int) < 5 by decide), _, _, rfl, rfl, q _ ⟨?_, ?_⟩⟩
     . rw [x1]; omega
     . rw [x1, w1]; omega
   . refine ⟨_, rfl, _, _, rfl, rfl, zqm _, _, _, rfl, rfl, .inr ⟨by decide, by decide⟩, _, _, rfl, rfl, ⟨by decide, by decide, by decide⟩, _, _, rfl, rfl, (show (0 : Int) < 2 ^ (48 : Int).toNat by decide), q _ ?_⟩
     rw [x1]
     have b := zdn (n / 3 * 160481183) 281474976710656 (by decide)
     exact ⟨b.1, by rw [w1]; exact b.2⟩
theorem zrd : FnScope ["_law_number", "_law_names_here"] ["_law_number", "_law_names_here"] (zac ze1) := ⟨rfl, rfl, rfl, by decide +kernel, rfl, by decide +kernel, by decide +kernel⟩
theorem zlh (T : Txt K mg t) : FnOk P w K mg base CX0 2 t.a_l_atom t.d_l_atom ["_law_number", "_law_names_here"] (zi3 K) := by
 have G_l_value_by : FnOk P w K mg base CX0 1 t.a_l_value_by t.d_l_value_by ["_law_number"] (zfc K) := zg9 T
 refine T.l_atom.F.ok zrd (λ vs H Q E h => ?_) (λ cdv A outer s H vs Q E hr h => ?_)
 . obtain ⟨n, a, ns, rfl, ha, hn, q⟩ := h
   rfl
 . obtain ⟨n, a, ns, rfl, ha, hn, q⟩ := h
   refine ⟨_, (@zad _ _ _ _ _ (@zbk _ _ _ _ _ _ _ _ (@zap _ _ _ _ _ _ _ _ zcc (@zat _ _ _ _ _ _ _ _ zca (pv 0) zae) zae (zar _)) (@zah _ _ _ (@zan _ _ _ _ (zcr T.l_value_by G_l_value_by (hr.mono (by decide)) (@zaa _ _ _ _ _ (@zat _ _ _ _ _ _ _ _ zel (pv 0) zae) zag (by rfl))))) zal) (@zah _ _ _ (@zan _ _ _ _ (@zao _ _ _ _ _ _ _ za1 (pv 1) (@zat _ _ _ _ _ _ _ _ zca (@zat _ _ _ _ _ _ _ _ zel (pv 0) zae) (zbz zbv (by rfl) T.b_len zfp (@zaa _ _ _ _ _ (pv 1) zag (by rfl)))) (λ _ _ => rfl))))), ?_⟩
   refine ⟨_, rfl, _, _, rfl, rfl, (show (0 : Int) < 3 by decide), rfl, _, rfl, ?_⟩
   refine zud (λ _ => ?_) (λ _ => ?_)
   . exact ⟨_, rfl, _, _, rfl, rfl, zqm _, n / 3, rfl, λ v hv => q _ (.inl ⟨v, rfl, hv⟩)⟩
   . have hl : (0 : Int) < ((ns.map V.str).length : Nat) := by rw [List.length_map]; omega
     have b := zdn (n / 3) _ hl
     obtain ⟨v, hv, hm⟩ := zio (xs := ns.map V.str) b.1 b.2
     obtain ⟨s, hs, rfl⟩ := List.mem_map.mp hm
     exact ⟨_, rfl, _, rfl, _, _, rfl, rfl, zqm _, _, rfl, a, _, rfl, .inl ha, _, _, rfl, rfl, hl, a, _, _, _, rfl, rfl, ha, hv, q _ (.inr ⟨s, rfl, hs⟩)⟩
theorem zkx : FnScope ["_law_cell", "_law_names_here", "_law_xs", "_law_sign"] ["_law_cell", "_law_names_here"] (zac zf5) := ⟨rfl, rfl, rfl, by decide +kernel, rfl, by decide +kernel, by decide +kernel⟩
theorem zts (T : Txt K mg t) : FnOk P w K mg base CX0 3 t.a_l_row t.d_l_row ["_law_cell", "_law_names_here"] (zod K) := by
 have G_l_stream : FnOk P w K mg base CX0 1 t.a_l_stream t.d_l_stream ["_law_cell", "_law_many"] (zgz K) := zjj T
 have G_l_atom : FnOk P w K mg base CX0 2 t.a_l_atom t.d_l_atom ["_law_number", "_law_names_here"] (zi3 K) := zlh T
 refine T.l_row.F.ok zkx (λ vs H Q E h => ?_) (λ cdv A outer s H vs Q E hr h => ?_)
 . obtain ⟨c, a, ns, rfl, ha, hn, q⟩ := h
   rfl
 . obtain ⟨c, a, ns, rfl, ha, hn, q⟩ := h
   refine ⟨_, (@zad _ _ _ _ _ (@zba _ _ 2 _ _ _ _ zkx.nd rfl (Or.inl rfl) (zcr T.l_stream G_l_stream (hr.mono (by decide)) (@zaa _ _ _ _ _ (pv 0) (@zaa _ _ _ _ _ zae zag (by rfl)) (by rfl))) (by rfl) (by first | exact .inl rfl | exact .inr rfl | assumption)) (@zad _ _ _ _ _ (@zbk _ _ _ _ _ _ _ _ (@zap _ _ _ _ _ _ _ _ zcc (@zat _ _ _ _ _ _ _ _ zca (@zao _ _ _ _ _ _ _ za1 (pv 2) zae (λ _ _ => rfl)) zae) zae (zar _)) (@zah _ _ _ (@zan _ _ _ _ (@zcz _ _ _ _ _ (@zaa _ _ _ _ _ zav (@zaa _ _ _ _ _ (zcr T.l_atom G_l_atom (hr.mono (by decide)) (@zaa _ _ _ _ _ (@zao _ _ _ _ _ _ _ za1 (pv 2) zae (λ _ _ => rfl)) (@zaa _ _ _ _ _ (pv 1) zag (by rfl)) (by rfl))) zag (by rfl)) (by rfl))))) zal) (@zad _ _ _ _ _ (@zbk _ _ _ _ _ _ _ _ (@zap _ _ _ _ _ _ _ _ zcc (@zat _ _ _ _ _ _ _ _ zca (@zao _ _ _ _ _ _ _ za1 (pv 2) zae (λ _ _ => rfl)) zae) zae (zar _)) (@zah _ _ _ (@zan _ _ _ _ (@zcz _ _ _ _ _ (@zaa _ _ _ _ _ zav (@zaa _ _ _ _ _ (@zao _ _ _ _ _ _ _ za1 (pv 1) (@zat _ _ _ _ _ _ _ _ zca (@zao _ _ _ _ _ _ _ za1 (pv 2) zae (λ _ _ => rfl)) (zbz zbv (by rfl) T.b_len zfp (@zaa _ _ _ _ _ (pv 1) zag (by rfl)))) (λ _ _ => rfl)) (@zaa _ _ _ _ _ (zcr T.l_atom G_l_atom (hr.mono (by decide)) (@zaa _ _ _ _ _ (@zao _ _ _ _ _ _ _ za1 (pv 2) zae (λ _ _ => rfl)) (@zaa _ _ _ _ _ (pv 1) zag (by rfl)) (by rfl))) zag (by rfl)) (by rfl)) (by rfl))))) zal) (@zad _ _ _ _ _ (@zba _ _ 3 _ _ _ _ zkx.nd rfl (Or.inl rfl) (@zao _ _ _ _ _ _ _ zo1 zav (@zat _ _ _ _ _ _ _ _ zca (@zao _ _ _ _ _ _ _ za1 (pv 2) zae (λ _ _ => rfl)) zae) (λ _ _ => rfl)) (by rfl) (by first | exact .inl rfl | exact .inr rfl | assumption)) (@zah _ _ _ (@zan _ _ _ _ (@zcz _ _ _ _ _ (@zaa _ _ _ _ _ zav (@zaa _ _ _ _ _ (@zao _ _ _ _ _ _ _ za1 (pv 1) (@zat _ _ _ _ _ _ _ _ zca (@zao _ _ _ _ _ _ _ za1 (pv 2) zae (λ _ _ => rfl)) (zbz zbv (by rfl) T.b_len zfp (@zaa _ _ _ _ _ (pv 1) zag (by rfl)))) (λ _ _ => rfl)) (@zaa _ _ _ _ _ (pv 3) (@zaa _ _ _ _ _ (zcr T.l_atom G_l_atom (hr.mono (by decide)) (@zaa _ _ _ _ _ (@zao _ _ _ _ _ _ _ za1 (pv 2) zae (λ _ _ => rfl)) (@zaa _ _ _ _ _ (pv 1) zag (by rfl)) (by rfl))) (@zaa _ _ _ _ _ (zcr T.l_atom G_l_atom (hr.mono (by decide)) (@zaa _ _ _ _ _ (@zao _ _ _ _ _ _ _ za1 (pv 2) zae (λ _ _ => rfl)) (@zaa _ _ _ _ _ (pv 1) zag (by rfl)) (by rfl))) zag (by rfl)) (by rfl)) (by rfl)) (by rfl)) (by rfl))))))))), ?_⟩
   refine ⟨_, rfl, c, 5, rfl, by decide, λ l H1 xs hl0 s1 e1 hx hx0 => ?_⟩
   match xs, hx with
   | [n0, n1, n2, n3, n4], _ =>
   have hl : (0 : Int) < ((ns.map V.str).length : Nat) := by rw [List.length_map]; omega
   have b := zdn n1 _ hl
   obtain ⟨v, hv, hm⟩ := zio (xs := ns.map V.str) b.1 b.2
   obtain ⟨x, hxm, rfl⟩ := List.mem_map.mp hm
   have sa := s1.seq ha
   refine ⟨_, rfl, l, _, _, _, rfl, rfl, SqL.of e1, rfl, _, _, rfl, rfl, (show (0 : Int) < 5 by decide), rfl, _, rfl, ?_⟩
   refine zud (λ _ => ?_) (λ _ => ?_)
   . exact ⟨_, rfl, l, _, _, _, rfl, rfl, SqL.of e1, rfl, _, rfl, n1, a, ns, rfl, sa, hn, λ v hv => ⟨le2, λ tp htp => q tp _ (.out v) (s1.free htp) (s1.trans (zak.new htp)) zab hv⟩⟩
   refine ⟨_, rfl, l, _, _, _, rfl, rfl, SqL.of e1, rfl, _, _, rfl, rfl, (show (0 : Int) < 5 by decide), rfl, _, rfl, ?_⟩
   refine zud (λ _ => ?_) (λ _ => ?_)
   . exact ⟨_, rfl, _, rfl, l, _, _, _, rfl, rfl, SqL.of e1, rfl, _, rfl, a, _, rfl, .inl (s1.seq ha), _, _, rfl, rfl, hl, a, _, _, _, rfl, rfl, s1.seq ha, hv, _, rfl, l, _, _, _, rfl, rfl, SqL.of e1, rfl, _, rfl, n2, a, ns, rfl, sa, hn, λ v hv => ⟨le3, λ tp htp => q tp _ (.copy x v) (s1.free htp) (s1.trans (zak.new htp)) zab ⟨hxm, hv⟩⟩⟩
   have b9 := zdn n4 9 (by decide)
   obtain ⟨g, hg, hgm⟩ := zvs b9.1 b9.2
   exact ⟨_, rfl, l, _, _, _, rfl, rfl, SqL.of e1, rfl, _, _, rfl, rfl, (show (0 : Int) < 9 by decide), _, _, _, rfl, rfl, (by decide +kernel), hg, _, rfl, _, rfl, l, _, _, _, rfl, rfl, SqL.of e1, rfl, _, rfl, a, _, rfl, .inl (s1.seq ha), _, _, rfl, rfl, hl, a, _, _, _, rfl, rfl, s1.seq ha, hv, _, rfl, _, rfl, l, _, _, _, rfl, rfl, SqL.of e1, rfl, _, rfl, n2, a, ns, rfl, sa, hn, λ v hv => ⟨_, rfl, l, _, _, _, rfl, rfl, SqL.of e1, rfl, _, rfl, n3, a, ns, rfl, sa, hn, λ u hu => ⟨le5, λ tp htp => q tp _ (.op x ⟨#[g]⟩ v u) (s1.free htp) (s1.trans (zak.new htp)) zab ⟨hxm, hgm, hv, hu⟩⟩⟩⟩
end
end K22
namespace K22
open PySem L2 Gx Wk K21
section
variable {P : Program} {w : World} {K : W.Frag} {mg : Str -> Option Value} {base : Heap} {t : Adr}
theorem zpx : FnScope ["_law_sign", "_law_one", "_law_other"] ["_law_sign", "_law_one", "_law_other"] (zac zd9) := ⟨rfl, rfl, rfl, by decide +kernel, rfl, by decide +kernel, by decide +kernel⟩
theorem zph (T : Txt K mg t) : FnOk P w K mg base CX0 1 t.a_l_value t.d_l_value ["_law_sign", "_law_one", "_law_other"] (zj0 K) := by
 refine T.l_value.F.ok zpx (λ vs H Q E h => ?_) (λ cdv A outer s H vs Q E hr h => ?_)
 . obtain ⟨s, a, b, rfl, ha, hb, hs, qs⟩ := h
   rfl
 . obtain ⟨s, a, b, rfl, ha, hb, hs, qs⟩ := h
   refine ⟨_, (@zad _ _ _ _ _ (@zbk _ _ _ _ _ _ _ _ (@zap _ _ _ _ _ _ _ _ zcc (pv 0) zav (zar _)) (@zah _ _ _ (@zan _ _ _ _ (@zat _ _ _ _ _ _ _ _ zca (@zat _ _ _ _ _ _ _ _ zf6 (pv 1) (pv 2)) (@zat _ _ _ _ _ _ _ _ zl2 zae zae)))) zal) (@zad _ _ _ _ _ (@zbk _ _ _ _ _ _ _ _ (@zap _ _ _ _ _ _ _ _ zcc (pv 0) zav (zar _)) (@zah _ _ _ (@zan _ _ _ _ (@zat _ _ _ _ _ _ _ _ zca (@zat _ _ _ _ _ _ _ _ zml (pv 1) (pv 2)) (@zat _ _ _ _ _ _ _ _ zl2 zae zae)))) zal) (@zad _ _ _ _ _ (@zbk _ _ _ _ _ _ _ _ (@zap _ _ _ _ _ _ _ _ zcc (pv 0) zav (zar _)) (@zah _ _ _ (@zan _ _ _ _ (@zat _ _ _ _ _ _ _ _ zca (@zat _ _ _ _ _ _ _ _ zid (pv 1) (pv 2)) (@zat _ _ _ _ _ _ _ _ zl2 zae zae)))) zal) (@zad _ _ _ _ _ (@zbk _ _ _ _ _ _ _ _ (@zap _ _ _ _ _ _ _ _ zcc (pv 0) zav (zar _)) (@zah _ _ _ (@zan _ _ _ _ (@zat _ _ _ _ _ _ _ _ zid (@zat _ _ _ _ _ _ _ _ zn4 (pv 1) (zbz (zre rfl) (by rfl) T.b_max zx9 (@zaa _ _ _ _ _ zae (@zaa _ _ _ _ _ (pv 2) zag (by rfl)) (by rfl)))) (zcg zix (by rfl) T.b_int zow (@zaa _ _ _ _ _ (zfj zy8 (pv 2) zae (zar _)) zag (by rfl)))))) zal) (@zad _ _ _ _ _ (@zbk _ _ _ _ _ _ _ _ (@zap _ _ _ _ _ _ _ _ zcc (pv 0) zav (zar _)) (@zah _ _ _ (@zan _ _ _ _ (zcg zix (by rfl) T.b_int zow (@zaa _ _ _ _ _ (zfj zta (pv 1) (pv 2) (zar _)) zag (by rfl))))) zal) (@zad _ _ _ _ _ (@zbk _ _ _ _ _ _ _ _ (@zap _ _ _ _ _ _ _ _ zcc (pv 0) zav (zar _)) (@zah _ _ _ (@zan _ _ _ _ (zcg zix (by rfl) T.b_int zow (@zaa _ _ _ _ _ (zfj zcc (pv 1) (pv 2) (zar _)) zag (by rfl))))) zal) (@zah _ _ _ (@zan _ _ _ _ (zdm (u1' hr.units) (zvp (zk4 zav (@zat _ _ _ _ _ _ _ _ zus (pv 1) (pv 2)) (zk4 zav (@zat _ _ _ _ _ _ _ _ zxi (pv 1) (pv 2)) (zk4 zav (@zat _ _ _ _ _ _ _ _ zua (pv 1) (pv 2)) zv3))) (by rfl) (by rfl) (by simp) (by decide)) (pv 0) (λ _ _ => rfl)))))))))), ?_⟩
   have q := qs H (zak.refl _)
   have ha0 := ha.1
   have hb0 := hb.1
   have ha1 : a < 281474976710656 := ha.2
   have hb1 : b < 281474976710656 := hb.2
   have hw : wide = 281474976710656 := rfl
   refine ⟨_, rfl, rfl, _, rfl, ?_⟩
   by_cases k1 : s = "+"
   . refine zeu (decide_eq_true (congrArg V.str k1)) ?_
     have e : valOf s a b = (a + b) % wide := by unfold valOf; rw [if_pos k1]
     rw [e] at q
     exact ⟨_, rfl, _, rfl, _, _, rfl, rfl, _, _, rfl, rfl, ⟨by decide, by decide, by decide⟩, _, _, rfl, rfl, zvb, vq (congrArg V.int (congrArg (λ z => (a + b) % z) zy6)) q⟩
   refine zco (λ z => k1 (V.str.inj (za7 z))) ?_
   refine ⟨_, rfl, rfl, _, rfl, ?_⟩
   by_cases k2 : s = "-"
   . refine zeu (decide_eq_true (congrArg V.str k2)) ?_
     have e : valOf s a b = (a - b) % wide := by unfold valOf; rw [if_neg k1, if_pos k2]
     rw [e] at q
     exact ⟨_, rfl, _, rfl, _, _, rfl, rfl, _, _, rfl, rfl, ⟨by decide, by decide, by decide⟩, _, _, rfl, rfl, zvb, vq (congrArg V.int (congrArg (λ z => (a - b) % z) zy6)) q⟩
   refine zco (λ z => k2 (V.str.inj (za7 z))) ?_
   refine ⟨_, rfl, rfl, _, rfl, ?_⟩
   by_cases k3 : s = "*"
   . refine zeu (decide_eq_true (congrArg V.str k3)) ?_
     have e : valOf s a b = (a * b) % wide := by unfold valOf; rw [if_neg k1, if_neg k2, if_pos k3]
     rw [e] at q
     exact ⟨_, rfl, _, rfl, _, _, rfl, rfl, .inl ⟨by omega, by omega⟩, _, _, rfl, rfl, ⟨by decide, by decide, by decide⟩, _, _, rfl, rfl, zvb, vq (congrArg V.int (congrArg (λ z => (a * b) % z) zy6)) q⟩
   refine zco (λ z => k3 (V.str.inj (za7 z))) ?_
   refine ⟨_, rfl, rfl, _, rfl, ?_⟩
   by_cases k4 : s = "/"
   . refine zeu (decide_eq_true (congrArg V.str k4)) ?_
     have e : valOf s a b = if b = 0 then 0 else a / b := by unfold valOf; rw [if_neg k1, if_neg k2, if_neg k3, if_pos k4]
     rw [e] at q
     have hp : (0 : Int) < (if b > 1 then b else 1) := by split <;> omega
     refine ⟨_, rfl, _, rfl, _, _, rfl, _, _, rfl, rfl, ⟨hp, (by split <;> omega)⟩, _, rfl, _, _, rfl, rfl, .inr ⟨_, rfl, _, _, rfl, rfl, .inr ⟨by split <;> decide, by split <;> decide⟩, vq (congrArg V.int ?_) q⟩⟩
     by_cases z0 : b = 0
     . subst z0; simp
     . rw [if_neg z0, if_pos (decide_eq_true (show 0 < b by omega)), Int.mul_one]
       by_cases z1 : b > 1
       . rw [if_pos z1]
       . rw [if_neg z1, show b = 1 by omega]
   refine zco (λ z => k4 (V.str.inj (za7 z))) ?_
   refine ⟨_, rfl, rfl, _, rfl, ?_⟩
   by_cases k5 : s = "<"
   . refine zeu (decide_eq_true (congrArg V.str k5)) ?_
     have e : valOf s a b = if a < b then 1 else 0 := by unfold valOf; rw [if_neg k1, if_neg k2, if_neg k3, if_neg k4, if_pos k5]
     rw [e] at q
     refine ⟨_, rfl, _, rfl, _, _, rfl, rfl, .inr ⟨_, rfl, vq ?_ q⟩⟩
     by_cases hb : a < b <;> simp [hb]
   refine zco (λ z => k5 (V.str.inj (za7 z))) ?_
   refine ⟨_, rfl, rfl, _, rfl, ?_⟩
   by_cases k6 : s = "="
   . refine zeu (decide_eq_true (congrArg V.str k6)) ?_
     have e : valOf s a b = if a = b then 1 else 0 := by unfold valOf; rw [if_neg k1, if_neg k2, if_neg k3, if_neg k4, if_neg k5, if_pos k6]
     rw [e] at q
     refine ⟨_, rfl, _, rfl, rfl, .inr ⟨_, rfl, vq ?_ q⟩⟩
     by_cases hb : a = b <;> simp [hb]
   refine zco (λ z => k6 (V.str.inj (za7 z))) ?_
   have hs3 : s = "&" \/ s = "|" \/ s = "^" := by
     simp only [sgs, List.mem_cons, List.not_mem_nil, or_false] at hs
     rcases hs with z | z | z | z | z | z | z | z | z
     . exact absurd z k1
     . exact absurd z k2
     . exact absurd z k3
     . exact absurd z k4
     . exact absurd z k5
     . exact absurd z k6
     . exact .inl z
     . exact .inr (.inl z)
     . exact .inr (.inr z)
   refine λ p hp => ⟨_, rfl, _, rfl, _, _, rfl, rfl, _, rfl, _, rfl, _, _, rfl, rfl, _, rfl, _, rfl, _, _, rfl, rfl, zab, [((Sum.inr "&" : Key), .int (Builtin.bitAnd a b)), ((Sum.inr "|" : Key), .int (Builtin.bitOr a b)), ((Sum.inr "^" : Key), .int (Builtin.bitXor a b))], rfl, (by show 3 <= 15; decide), _, rfl, p, .int (valOf s a b), rfl, zgy zab ?_, qs _ ((zak.new hp).upd hp)⟩
   rcases hs3 with rfl | rfl | rfl
   . rfl
   . rfl
   . rfl
end
end K22
namespace K22
open PySem L2 Gx Fl Wk
section
variable {P : Program} {w : World} {K : W.Frag} {mg : Str -> Option Value} {base : Heap} {t : Adr}
theorem zp6 : FnScope ["_law_atom_here", "_law_now"] ["_law_atom_here", "_law_now"] (zac zd6) := ⟨rfl, rfl, rfl, by decide +kernel, rfl, by decide +kernel, by decide +kernel⟩
theorem zkb (T : Txt K mg t) : FnOk P w K mg base CX0 1 t.a_l_worth t.d_l_worth ["_law_atom_here", "_law_now"] (zh3 K) := by
 refine T.l_worth.F.ok zp6 (λ vs H Q E h => ?_) (λ cdv A outer s H vs Q E hr h => ?_)
 . obtain ⟨v, y, d, kvs, rfl, hd, hv, q⟩ := h
   rfl
 . obtain ⟨v, y, d, kvs, rfl, hd, hv, q⟩ := h
   refine ⟨_, (@zad _ _ _ _ _ (@zbk _ _ _ _ _ _ _ _ (zfs (zbz zcu (by rfl) T.b_isinstance zb4 (@zaa _ _ _ _ _ (pv 0) (@zaa _ _ _ _ _ (zff (v := V.ty "str") rfl T.b_str zop rfl) zag (by rfl)) (by rfl)))) (@zah _ _ _ (@zan _ _ _ _ (zdm (u1' hr.units) (pv 1) (pv 0) (λ _ _ => rfl)))) zal) (@zah _ _ _ (@zan _ _ _ _ (pv 0)))), ?_⟩
   cases v with
   | str n => exact ⟨_, rfl, _, "str", _, true, rfl, .str _, rfl, _, rfl, zu3 ⟨_, rfl, _, rfl, d, _, rfl, zgy hd hv, q⟩⟩
   | int i =>
     cases hv
     exact ⟨_, rfl, _, "str", _, false, rfl, .int _, rfl, _, rfl, zun ⟨_, rfl, q⟩⟩
   | _ => cases hv
theorem zdj : FnScope ["_law_params", "_law_args", "_law_rows", "_law_now", "_law_row_here", "_law_parts", "_law_part", "_law_name", "_law_number"] ["_law_params", "_law_args", "_law_rows"] (zac zea) := ⟨rfl, rfl, rfl, by decide +kernel, rfl, by decide +kernel, by decide +kernel⟩
theorem zpw (T : Txt K mg t) : FnOk P w K mg base CX0 1 t.a_l_begin t.d_l_begin ["_law_params", "_law_args", "_law_rows"] (zkf K) := by
 refine T.l_begin.F.ok zdj (λ vs H Q E h => ?_) (λ cdv A outer s H vs Q E hr h => ?_)
 . obtain ⟨pa, aa, ra, ps, vals, rs, rvs, rfl, hpa, haa, hra, hlen, hrw, hn, hps, q⟩ := h
   rfl
 . obtain ⟨pa, aa, ra, ps, vals, rs, rvs, rfl, hpa, haa, hra, hlen, hrw, hn, hps, q⟩ := h
   refine ⟨_, (@zad _ _ _ _ _ (@zba _ _ 3 _ _ _ _ zdj.nd rfl (Or.inl rfl) zdp (by rfl) (by first | exact .inl rfl | exact .inr rfl | assumption)) (@zad _ _ _ _ _ (zd5 PassesOwn.never rfl (zf0 (pv 2)) (zbc (i := 4) zdj.nd rfl (Or.inl rfl)) (@zad _ _ _ _ _ (@zba _ _ 5 _ _ _ _ zdj.nd rfl (Or.inl rfl) (@zat _ _ _ _ _ _ _ _ zuk (@zd8 _ _ _ _ (@zaa _ _ _ _ _ (@zao _ _ _ _ _ _ _ zaq (pv 4) zae (λ _ _ => rfl)) zag (by rfl))) (zcg zdh (by rfl) T.b_list zf7 (@zaa _ _ _ _ _ (@ze4 _ _ _ _ _ _ _ _ _ _ zvq (pv 4) (zfe zae) zg1) zag (by rfl)))) (by rfl) (by first | exact .inl rfl | exact .inr rfl | assumption)) (@zad _ _ _ _ _ (@zbk _ _ _ _ _ _ _ _ (@zap _ _ _ _ _ _ _ _ zcc (@zao _ _ _ _ _ _ _ zaq (pv 4) zae (λ _ _ => rfl)) zav (zar _)) (@zah _ _ _ (@zba _ _ 5 _ _ _ _ zdj.nd rfl (Or.inl rfl) (@zd8 _ _ _ _ (@zaa _ _ _ _ _ (@zao _ _ _ _ _ _ _ zaq (pv 4) zae (λ _ _ => rfl)) (@zaa _ _ _ _ _ (@zao _ _ _ _ _ _ _ zaq (pv 4) zae (λ _ _ => rfl)) (@zaa _ _ _ _ _ (@zao _ _ _ _ _ _ _ zaq (pv 4) zae (λ _ _ => rfl)) zag (by rfl)) (by rfl)) (by rfl))) (by rfl) (by first | exact .inl rfl | exact .inr rfl | assumption))) zal) (@zah _ _ _ (zd5 PassesOwn.never rfl (zf0 (pv 5)) (zbc (i := 6) zdj.nd rfl (Or.inl rfl)) (@zah _ _ _ (@zbk _ _ _ _ _ _ _ _ (zfs (zbz zcu (by rfl) T.b_isinstance zb4 (@zaa _ _ _ _ _ (pv 6) (@zaa _ _ _ _ _ (zff (v := V.ty "str") rfl T.b_str zop rfl) zag (by rfl)) (by rfl)))) (@zah _ _ _ (zc1 (u1' hr.units) (pv 3) (pv 6) zae (by rfl))) zal))))))) (@zad _ _ _ _ _ (zd5 PassesOwn.never rfl (zq6 false false rfl T.b_zip (@zaa _ _ _ _ _ (pv 0) (@zaa _ _ _ _ _ (pv 1) zag (by rfl)) (by rfl))) (zh8 rfl (zcp (zbc (i := 7) zdj.nd rfl (Or.inl rfl)) (zcp (zbc (i := 8) zdj.nd rfl (Or.inl rfl)) zgb))) (@zah _ _ _ (zc1 (u1' hr.units) (pv 3) (pv 7) (pv 8) (by rfl)))) (@zah _ _ _ (@zan _ _ _ _ (pv 3)))))), ?_⟩
   intro d hd
   have s1 := zak.new (o := .dK []) hd
   have e1 := zab (H := H) (a := d) (o := .dK [])
   generalize upd H d (.dK []) = H1 at s1 e1 ⊢
   refine ⟨_, rfl, ra, rfl, ⟨_, s1.seq hra⟩, zgi (xs := rs.map V.ref) (λ i σ H' => ∃ v4 v5 v6 v7 v8 : Option V, σ = [some (.ref pa), some (.ref aa), some (.ref ra), some (.ref d), v4, v5, v6, v7, v8] /\ zak H H' /\ H' d = some (.dK ((rvs.take i).foldl (λ d rv => (zax rv).foldl ze8 d) []))) ?_ ?_ ?_ ?_⟩
   . exact ⟨_, _, _, _, _, rfl, s1, e1⟩
   . rintro i σ H2 hi ⟨v4, v5, v6, v7, v8, rfl, s2, e2⟩
     exact s2.seq hra
   . rintro i x σ H2 hx ⟨v4, v5, v6, v7, v8, rfl, s2, e2⟩
     obtain ⟨r, hr, hrm, rfl⟩ := ziy hx
     have hi : i < rvs.length := by have := (List.getElem?_eq_some_iff.mp hr).1; omega
     obtain ⟨rv, hrv⟩ : ∃ rv, rvs[i]? = some rv := ⟨_, List.getElem?_eq_getElem hi⟩
     obtain ⟨hq, hv⟩ := hrw i r rv hr hrv
     have hq2 := s2.tup hq
     have hk0 := ziq (rvs.take i) []
     rw [List.length_take] at hk0
     generalize hke : (rvs.take i).foldl (λ d rv => (zax rv).foldl ze8 d) [] = k0 at e2 hk0
     simp only [List.length_nil] at hk0
     cases rv with
     | out a =>
       refine ⟨_, rfl, r, _, _, _, rfl, rfl, hq2, rfl, le1, λ p1 h1 => ⟨_, rfl, _, rfl, zkt ((zak.new h1).tup hq2) λ p2 H4 s4 e4 => ⟨p2, _, rfl, .inr e4, λ p3 h3 => ⟨p1, p3, _, _, rfl, rfl, zak.new h3 _ _ (s4 _ _ zab), zab, (by show 1 + 0 <= sizeLine; decide), λ p4 h4 => ?_⟩⟩⟩⟩
       have sA := ((zak.new (o := .lst [a]) h1).trans s4).trans ((zak.new (o := .lst (zew (RV.items (RV.out a)) (some 2) none)) h3).trans (zak.new (o := .lst ([a] ++ zew (RV.items (RV.out a)) (some 2) none)) h4))
       have e5_ := zab (H := upd H4 p3 (.lst (zew (RV.items (RV.out a)) (some 2) none))) (a := p4) (o := .lst ([a] ++ zew (RV.items (RV.out a)) (some 2) none))
       generalize upd (upd H4 p3 (.lst (zew (RV.items (RV.out a)) (some 2) none))) p4 (.lst ([a] ++ zew (RV.items (RV.out a)) (some 2) none)) = H5 at sA e5_ ⊢
       have hq5 := sA.tup hq2
       refine ⟨_, rfl, r, _, _, _, rfl, rfl, hq5, at0, rfl, _, rfl, zco (by decide +kernel) ?_⟩
       have s5 := s2.trans sA
       have d5 := sA _ _ e2
       have e5 : H5 p4 = some (.lst (zax (RV.out a))) := e5_
       refine ⟨_, rfl, p4, rfl, ⟨_, SqL.of e5⟩, zgi (xs := zax (RV.out a)) (λ j σ H' => ∃ v6 : Option V, σ = [some (.ref pa), some (.ref aa), some (.ref ra), some (.ref d), some (.ref r), some (.ref p4), v6, v7, v8] /\ zak H H' /\ H' p4 = some (.lst (zax (RV.out a))) /\ H' d = some (.dK (((zax (RV.out a)).take j).foldl ze8 k0))) ?_ ?_ ?_ ?_⟩
       . exact ⟨_, rfl, s5, e5, d5⟩
       . rintro j σ H' hj ⟨v6, rfl, s6, e6, d6⟩
         exact SqL.of e6
       . rintro j x σ H' hx ⟨v6, rfl, s6, e6, d6⟩
         have hstep : ((zax (RV.out a)).take (j + 1)).foldl ze8 k0 = ze8 (((zax (RV.out a)).take j).foldl ze8 k0) x := by rw [List.take_add_one, hx, List.foldl_append]; rfl
         have np : p4 ≠ d := λ z => by rw [z, d6] at e6; cases e6
         have lk : (((zax (RV.out a)).take j).foldl ze8 k0).length < 1000000 := by
           have l1 := zfa ((zax (RV.out a)).take j) k0
           have l2 := zfz (RV.out a)
           rw [List.length_take] at l1
           omega
         rcases hv x (List.mem_of_getElem? hx) with ⟨z, rfl⟩ | ⟨n, rfl⟩
         . refine ⟨_, rfl, _, "str", _, false, rfl, .int _, rfl, _, rfl, zun ⟨_, rfl, s6, e6, ?_⟩⟩
           rw [hstep]
           exact d6
         . refine ⟨_, rfl, _, "str", _, true, rfl, .str _, rfl, _, rfl, zu3 ⟨_, rfl, _, rfl, d, _, rfl, zi0.k (k := (Sum.inr n : Key)) d6 (zbs lk), _, rfl, s6.upd hd, by rw [zaf np]; exact e6, ?_⟩⟩
           rw [zab, hstep]
           rfl
       . rintro σ H' ⟨v6, rfl, s6, e6, d6⟩
         refine ⟨_, _, _, _, _, rfl, s6, ?_⟩
         rw [d6, List.take_of_length_le (Nat.le_refl _), List.take_add_one, hrv, List.foldl_append, hke]
         rfl
     | back a =>
       refine ⟨_, rfl, r, _, _, _, rfl, rfl, hq2, rfl, le1, λ p1 h1 => ⟨_, rfl, _, rfl, zkt ((zak.new h1).tup hq2) λ p2 H4 s4 e4 => ⟨p2, _, rfl, .inr e4, λ p3 h3 => ⟨p1, p3, _, _, rfl, rfl, zak.new h3 _ _ (s4 _ _ zab), zab, (by show 1 + 0 <= sizeLine; decide), λ p4 h4 => ?_⟩⟩⟩⟩
       have sA := ((zak.new (o := .lst [a]) h1).trans s4).trans ((zak.new (o := .lst (zew (RV.items (RV.back a)) (some 2) none)) h3).trans (zak.new (o := .lst ([a] ++ zew (RV.items (RV.back a)) (some 2) none)) h4))
       have e5_ := zab (H := upd H4 p3 (.lst (zew (RV.items (RV.back a)) (some 2) none))) (a := p4) (o := .lst ([a] ++ zew (RV.items (RV.back a)) (some 2) none))
       generalize upd (upd H4 p3 (.lst (zew (RV.items (RV.back a)) (some 2) none))) p4 (.lst ([a] ++ zew (RV.items (RV.back a)) (some 2) none)) = H5 at sA e5_ ⊢
       have hq5 := sA.tup hq2
       refine ⟨_, rfl, r, _, _, _, rfl, rfl, hq5, at0, rfl, _, rfl, zco (by decide +kernel) ?_⟩
       have s5 := s2.trans sA
       have d5 := sA _ _ e2
       have e5 : H5 p4 = some (.lst (zax (RV.back a))) := e5_
       refine ⟨_, rfl, p4, rfl, ⟨_, SqL.of e5⟩, zgi (xs := zax (RV.back a)) (λ j σ H' => ∃ v6 : Option V, σ = [some (.ref pa), some (.ref aa), some (.ref ra), some (.ref d), some (.ref r), some (.ref p4), v6, v7, v8] /\ zak H H' /\ H' p4 = some (.lst (zax (RV.back a))) /\ H' d = some (.dK (((zax (RV.back a)).take j).foldl ze8 k0))) ?_ ?_ ?_ ?_⟩
       . exact ⟨_, rfl, s5, e5, d5⟩
       . rintro j σ H' hj ⟨v6, rfl, s6, e6, d6⟩
         exact SqL.of e6
       . rintro j x σ H' hx ⟨v6, rfl, s6, e6, d6⟩
         have hstep : ((zax (RV.back a)).take (j + 1)).foldl ze8 k0 = ze8 (((zax (RV.back a)).take j).foldl ze8 k0) x := by rw [List.take_add_one, hx, List.foldl_append]; rfl
         have np : p4 ≠ d := λ z => by rw [z, d6] at e6; cases e6
         have lk : (((zax (RV.back a)).take j).foldl ze8 k0).length < 1000000 := by
           have l1 := zfa ((zax (RV.back a)).take j) k0
           have l2 := zfz (RV.back a)
           rw [List.length_take] at l1
           omega
         rcases hv x (List.mem_of_getElem? hx) with ⟨z, rfl⟩ | ⟨n, rfl⟩
         . refine ⟨_, rfl, _, "str", _, false, rfl, .int _, rfl, _, rfl, zun ⟨_, rfl, s6, e6, ?_⟩⟩
           rw [hstep]
           exact d6
         . refine ⟨_, rfl, _, "str", _, true, rfl, .str _, rfl, _, rfl, zu3 ⟨_, rfl, _, rfl, d, _, rfl, zi0.k (k := (Sum.inr n : Key)) d6 (zbs lk), _, rfl, s6.upd hd, by rw [zaf np]; exact e6, ?_⟩⟩
           rw [zab, hstep]
           rfl
       . rintro σ H' ⟨v6, rfl, s6, e6, d6⟩
         refine ⟨_, _, _, _, _, rfl, s6, ?_⟩
         rw [d6, List.take_of_length_le (Nat.le_refl _), List.take_add_one, hrv, List.foldl_append, hke]
         rfl
     | copy x0 a =>
       refine ⟨_, rfl, r, _, _, _, rfl, rfl, hq2, rfl, le1, λ p1 h1 => ⟨_, rfl, _, rfl, zkt ((zak.new h1).tup hq2) λ p2 H4 s4 e4 => ⟨p2, _, rfl, .inr e4, λ p3 h3 => ⟨p1, p3, _, _, rfl, rfl, zak.new h3 _ _ (s4 _ _ zab), zab, (by show 1 + 1 <= sizeLine; decide), λ p4 h4 => ?_⟩⟩⟩⟩
       have sA := ((zak.new (o := .lst [.str x0]) h1).trans s4).trans ((zak.new (o := .lst (zew (RV.items (RV.copy x0 a)) (some 2) none)) h3).trans (zak.new (o := .lst ([.str x0] ++ zew (RV.items (RV.copy x0 a)) (some 2) none)) h4))
       have e5_ := zab (H := upd H4 p3 (.lst (zew (RV.items (RV.copy x0 a)) (some 2) none))) (a := p4) (o := .lst ([.str x0] ++ zew (RV.items (RV.copy x0 a)) (some 2) none))
       generalize upd (upd H4 p3 (.lst (zew (RV.items (RV.copy x0 a)) (some 2) none))) p4 (.lst ([.str x0] ++ zew (RV.items (RV.copy x0 a)) (some 2) none)) = H5 at sA e5_ ⊢
       have hq5 := sA.tup hq2
       refine ⟨_, rfl, r, _, _, _, rfl, rfl, hq5, at0, rfl, _, rfl, zco (by decide +kernel) ?_⟩
       have s5 := s2.trans sA
       have d5 := sA _ _ e2
       have e5 : H5 p4 = some (.lst (zax (RV.copy x0 a))) := e5_
       refine ⟨_, rfl, p4, rfl, ⟨_, SqL.of e5⟩, zgi (xs := zax (RV.copy x0 a)) (λ j σ H' => ∃ v6 : Option V, σ = [some (.ref pa), some (.ref aa), some (.ref ra), some (.ref d), some (.ref r), some (.ref p4), v6, v7, v8] /\ zak H H' /\ H' p4 = some (.lst (zax (RV.copy x0 a))) /\ H' d = some (.dK (((zax (RV.copy x0 a)).take j).foldl ze8 k0))) ?_ ?_ ?_ ?_⟩
       . exact ⟨_, rfl, s5, e5, d5⟩
       . rintro j σ H' hj ⟨v6, rfl, s6, e6, d6⟩
         exact SqL.of e6
       . rintro j x σ H' hx ⟨v6, rfl, s6, e6, d6⟩
         have hstep : ((zax (RV.copy x0 a)).take (j + 1)).foldl ze8 k0 = ze8 (((zax (RV.copy x0 a)).take j).foldl ze8 k0) x := by rw [List.take_add_one, hx, List.foldl_append]; rfl
         have np : p4 ≠ d := λ z => by rw [z, d6] at e6; cases e6
         have lk : (((zax (RV.copy x0 a)).take j).foldl ze8 k0).length < 1000000 := by
           have l1 := zfa ((zax (RV.copy x0 a)).take j) k0
           have l2 := zfz (RV.copy x0 a)
           rw [List.length_take] at l1
           omega
         rcases hv x (List.mem_of_getElem? hx) with ⟨z, rfl⟩ | ⟨n, rfl⟩
         . refine ⟨_, rfl, _, "str", _, false, rfl, .int _, rfl, _, rfl, zun ⟨_, rfl, s6, e6, ?_⟩⟩
           rw [hstep]
           exact d6
         . refine ⟨_, rfl, _, "str", _, true, rfl, .str _, rfl, _, rfl, zu3 ⟨_, rfl, _, rfl, d, _, rfl, zi0.k (k := (Sum.inr n : Key)) d6 (zbs lk), _, rfl, s6.upd hd, by rw [zaf np]; exact e6, ?_⟩⟩
           rw [zab, hstep]
           rfl
       . rintro σ H' ⟨v6, rfl, s6, e6, d6⟩
         refine ⟨_, _, _, _, _, rfl, s6, ?_⟩
         rw [d6, List.take_of_length_le (Nat.le_refl _), List.take_add_one, hrv, List.foldl_append, hke]
         rfl
     | op x0 s0 a b0 =>
       refine ⟨_, rfl, r, _, _, _, rfl, rfl, hq2, rfl, le1, λ p1 h1 => ⟨_, rfl, _, rfl, zkt ((zak.new h1).tup hq2) λ p2 H4 s4 e4 => ⟨p2, _, rfl, .inr e4, λ p3 h3 => ⟨p1, p3, _, _, rfl, rfl, zak.new h3 _ _ (s4 _ _ zab), zab, (by show 1 + 3 <= sizeLine; decide), λ p4 h4 => ?_⟩⟩⟩⟩
       have sA := ((zak.new (o := .lst [.str x0]) h1).trans s4).trans ((zak.new (o := .lst (zew (RV.items (RV.op x0 s0 a b0)) (some 2) none)) h3).trans (zak.new (o := .lst ([.str x0] ++ zew (RV.items (RV.op x0 s0 a b0)) (some 2) none)) h4))
       have e5_ := zab (H := upd H4 p3 (.lst (zew (RV.items (RV.op x0 s0 a b0)) (some 2) none))) (a := p4) (o := .lst ([.str x0] ++ zew (RV.items (RV.op x0 s0 a b0)) (some 2) none))
       generalize upd (upd H4 p3 (.lst (zew (RV.items (RV.op x0 s0 a b0)) (some 2) none))) p4 (.lst ([.str x0] ++ zew (RV.items (RV.op x0 s0 a b0)) (some 2) none)) = H5 at sA e5_ ⊢
       have hq5 := sA.tup hq2
       refine ⟨_, rfl, r, _, _, _, rfl, rfl, hq5, at0, rfl, _, rfl, zeu (by decide +kernel) ⟨_, rfl, r, _, _, _, rfl, rfl, hq5, rfl, _, rfl, r, _, _, _, rfl, rfl, hq5, rfl, _, rfl, r, _, _, _, rfl, rfl, hq5, rfl, le3, λ p5 h5 => ?_⟩⟩
       have sB := zak.new (o := .lst [.str x0, a, b0]) h5
       have e6_ := zab (H := H5) (a := p5) (o := .lst [.str x0, a, b0])
       generalize upd H5 p5 (.lst [.str x0, a, b0]) = H6 at sB e6_ ⊢
       have s5 := (s2.trans sA).trans sB
       have d5 := sB _ _ (sA _ _ e2)
       have e5 : H6 p5 = some (.lst (zax (RV.op x0 s0 a b0))) := e6_
       refine ⟨_, rfl, p5, rfl, ⟨_, SqL.of e5⟩, zgi (xs := zax (RV.op x0 s0 a b0)) (λ j σ H' => ∃ v6 : Option V, σ = [some (.ref pa), some (.ref aa), some (.ref ra), some (.ref d), some (.ref r), some (.ref p5), v6, v7, v8] /\ zak H H' /\ H' p5 = some (.lst (zax (RV.op x0 s0 a b0))) /\ H' d = some (.dK (((zax (RV.op x0 s0 a b0)).take j).foldl ze8 k0))) ?_ ?_ ?_ ?_⟩
       . exact ⟨_, rfl, s5, e5, d5⟩
       . rintro j σ H' hj ⟨v6, rfl, s6, e6, d6⟩
         exact SqL.of e6
       . rintro j x σ H' hx ⟨v6, rfl, s6, e6, d6⟩
         have hstep : ((zax (RV.op x0 s0 a b0)).take (j + 1)).foldl ze8 k0 = ze8 (((zax (RV.op x0 s0 a b0)).take j).foldl ze8 k0) x := by rw [List.take_add_one, hx, List.foldl_append]; rfl
         have np : p5 ≠ d := λ z => by rw [z, d6] at e6; cases e6
         have lk : (((zax (RV.op x0 s0 a b0)).take j).foldl ze8 k0).length < 1000000 := by
           have l1 := zfa ((zax (RV.op x0 s0 a b0)).take j) k0
           have l2 := zfz (RV.op x0 s0 a b0)
           rw [List.length_take] at l1
           omega
         rcases hv x (List.mem_of_getElem? hx) with ⟨z, rfl⟩ | ⟨n, rfl⟩
         . refine ⟨_, rfl, _, "str", _, false, rfl, .int _, rfl, _, rfl, zun ⟨_, rfl, s6, e6, ?_⟩⟩
           rw [hstep]
           exact d6
         . refine ⟨_, rfl, _, "str", _, true, rfl, .str _, rfl, _, rfl, zu3 ⟨_, rfl, _, rfl, d, _, rfl, zi0.k (k := (Sum.inr n : Key)) d6 (zbs lk), _, rfl, s6.upd hd, by rw [zaf np]; exact e6, ?_⟩⟩
           rw [zab, hstep]
           rfl
       . rintro σ H' ⟨v6, rfl, s6, e6, d6⟩
         refine ⟨_, _, _, _, _, rfl, s6, ?_⟩
         rw [d6, List.take_of_length_le (Nat.le_refl _), List.take_add_one, hrv, List.foldl_append, hke]
         rfl
   . rintro σ H' ⟨v4, v5, v6, v7, v8, rfl, s2, e2⟩
     rw [List.length_map, List.take_of_length_le (by omega)] at e2
     have hk0 := ziq rvs []
     have hnow : znu rvs ps vals = (ps.zip vals).foldl (λ d p => zbu d (Sum.inr p.1 : Key) p.2) (rvs.foldl (λ d rv => (zax rv).foldl ze8 d) []) := rfl
     generalize rvs.foldl (λ d rv => (zax rv).foldl ze8 d) [] = k0 at e2 hk0 hnow
     simp only [List.length_nil] at hk0
     refine ⟨_, rfl, _, rfl, pa, aa, rfl, ⟨_, s2.seq hpa⟩, ⟨_, s2.seq haa⟩, znj (b1 := false) (b2 := false) (xs := ps.map V.str) (ys := vals) (λ i σ H' => ∃ v4 v5 v6 v7 v8 : Option V, σ = [some (.ref pa), some (.ref aa), some (.ref ra), some (.ref d), v4, v5, v6, v7, v8] /\ zak H H' /\ H' d = some (.dK (((ps.zip vals).take i).foldl (λ d p => zbu d (Sum.inr p.1 : Key) p.2) k0))) ?_ ?_ ?_ ?_⟩
     . exact ⟨_, _, _, _, _, rfl, s2, e2⟩
     . rintro i σ H3 hi ⟨v4, v5, v6, v7, v8, rfl, s3, e3⟩
       exact ⟨s3.seq hpa, s3.seq haa⟩
     . rintro i x y σ H3 b hx hy ⟨v4, v5, v6, v7, v8, rfl, s3, e3⟩ hb
       obtain ⟨n, hn1, hnm, rfl⟩ := ziy hx
       have s6 := zak.new (o := .tup [.str n, y]) hb
       have lz : (((ps.zip vals).take i).foldl (λ d p => zbu d (Sum.inr p.1 : Key) p.2) k0).length < 1000000 := by
         refine Nat.lt_of_le_of_lt (zes (λ p : Str × V => ((Sum.inr p.1 : Key), p.2)) ((ps.zip vals).take i) k0) ?_
         have l2 : ((ps.zip vals).take i).length <= 1000 := by
           rw [List.length_take, List.length_zip]
           omega
         omega
       refine ⟨b, _, rfl, SqT.of zab, rfl, _, _, rfl, _, _, rfl, rfl, _, rfl, _, rfl, _, rfl, d, _, rfl, zi0.k (k := (Sum.inr n : Key)) (s6 _ _ e3) (zbs lz), _, _, _, _, _, rfl, (s3.trans s6).upd hd, ?_⟩
       rw [zab, List.take_add_one, List.foldl_append]
       have hz : (ps.zip vals)[i]? = some (n, y) := List.getElem?_zip_eq_some.mpr ⟨hn1, hy⟩
       rw [hz]
       rfl
     . rintro σ H3 ⟨v4, v5, v6, v7, v8, rfl, s3, e3⟩
       rw [List.take_of_length_le (by rw [List.length_zip, List.length_map]; exact Nat.le_refl _), <- hnow] at e3
       exact ⟨_, rfl, q d H3 hd s3 e3⟩
theorem zrv : FnScope ["_law_now", "_law_row_here"] ["_law_now", "_law_row_here"] (zac zez) := ⟨rfl, rfl, rfl, by decide +kernel, rfl, by decide +kernel, by decide +kernel⟩
theorem zrx (T : Txt K mg t) : FnOk P w K mg base CX0 2 t.a_l_done t.d_l_done ["_law_now", "_law_row_here"] (zld K) := by
 have G_l_worth : FnOk P w K mg base CX0 1 t.a_l_worth t.d_l_worth ["_law_atom_here", "_law_now"] (zh3 K) := zkb T
 have G_l_value : FnOk P w K mg base CX0 1 t.a_l_value t.d_l_value ["_law_sign", "_law_one", "_law_other"] (zj0 K) := zph T
 refine T.l_done.F.ok zrv (λ vs H Q E h => ?_) (λ cdv A outer s H vs Q E hr h => ?_)
 . obtain ⟨d, r, kvs, rv, rfl, hd, hr1, hk, hsg, q⟩ := h
   rfl
 . obtain ⟨d, r, kvs, rv, rfl, hd, hr1, hk, hsg, q⟩ := h
   refine ⟨_, (@zad _ _ _ _ _ (@zbk _ _ _ _ _ _ _ _ (@zap _ _ _ _ _ _ _ _ zcc (@zao _ _ _ _ _ _ _ zaq (pv 1) zae (λ _ _ => rfl)) zav (zar _)) (@zah _ _ _ (@zan _ _ _ _ (@zcz _ _ _ _ _ (@zaa _ _ _ _ _ zav (@zaa _ _ _ _ _ (zcr T.l_worth G_l_worth (hr.mono (by decide)) (@zaa _ _ _ _ _ (@zao _ _ _ _ _ _ _ zaq (pv 1) zae (λ _ _ => rfl)) (@zaa _ _ _ _ _ (pv 0) zag (by rfl)) (by rfl))) zag (by rfl)) (by rfl))))) zal) (@zad _ _ _ _ _ (@zbk _ _ _ _ _ _ _ _ (@zap _ _ _ _ _ _ _ _ zcc (@zao _ _ _ _ _ _ _ zaq (pv 1) zae (λ _ _ => rfl)) zav (zar _)) (@zah _ _ _ (zc1 (u1' hr.units) (pv 0) (@zao _ _ _ _ _ _ _ zaq (pv 1) zae (λ _ _ => rfl)) (zcr T.l_worth G_l_worth (hr.mono (by decide)) (@zaa _ _ _ _ _ (@zao _ _ _ _ _ _ _ zaq (pv 1) zae (λ _ _ => rfl)) (@zaa _ _ _ _ _ (pv 0) zag (by rfl)) (by rfl))) (by rfl))) (@zah _ _ _ (zc1 (u1' hr.units) (pv 0) (@zao _ _ _ _ _ _ _ zaq (pv 1) zae (λ _ _ => rfl)) (zcr T.l_value G_l_value (hr.mono (by decide)) (@zaa _ _ _ _ _ (@zao _ _ _ _ _ _ _ zaq (pv 1) zae (λ _ _ => rfl)) (@zaa _ _ _ _ _ (zcr T.l_worth G_l_worth (hr.mono (by decide)) (@zaa _ _ _ _ _ (@zao _ _ _ _ _ _ _ zaq (pv 1) zae (λ _ _ => rfl)) (@zaa _ _ _ _ _ (pv 0) zag (by rfl)) (by rfl))) (@zaa _ _ _ _ _ (zcr T.l_worth G_l_worth (hr.mono (by decide)) (@zaa _ _ _ _ _ (@zao _ _ _ _ _ _ _ zaq (pv 1) zae (λ _ _ => rfl)) (@zaa _ _ _ _ _ (pv 0) zag (by rfl)) (by rfl))) zag (by rfl)) (by rfl)) (by rfl))) (by rfl)))) (@zah _ _ _ (@zan _ _ _ _ zfo)))), ?_⟩
   cases rv with
   | back a => exact q.elim
   | out a =>
     obtain ⟨v, hv, q⟩ := q
     exact ⟨_, rfl, r, _, _, _, rfl, rfl, hr1, at0, rfl, _, rfl, zeu (by decide +kernel) ⟨_, rfl, r, _, _, _, rfl, rfl, hr1, rfl, _, rfl, a, v, d, kvs, rfl, hd, hv, le2, λ tp htp => q tp htp⟩⟩
   | copy y a =>
     obtain ⟨x, v, hg, q⟩ := q
     obtain ⟨rfl, hv⟩ := zhu hg
     exact ⟨_, rfl, r, _, _, _, rfl, rfl, hr1, at0, rfl, _, rfl, zco (by decide +kernel) ⟨_, rfl, r, _, _, _, rfl, rfl, hr1, at0, rfl, _, rfl, zeu (by decide +kernel) ⟨_, rfl, r, _, _, _, rfl, rfl, hr1, rfl, _, rfl, a, v, d, kvs, rfl, hd, hv, _, rfl, _, rfl, r, _, _, _, rfl, rfl, hr1, rfl, d, _, rfl, zi0.k (k := (Sum.inr x : Key)) hd (zbs hk), q H (zak.refl _)⟩⟩⟩
   | op y s a b =>
     obtain ⟨x, v, hg, q⟩ := q
     obtain ⟨rfl, i, j, ea, eb, hb, rfl⟩ := zku hg
     exact ⟨_, rfl, r, _, _, _, rfl, rfl, hr1, at0, rfl, _, rfl, zco (by decide +kernel) ⟨_, rfl, r, _, _, _, rfl, rfl, hr1, at0, rfl, _, rfl, zco (by decide +kernel) ⟨_, rfl, r, _, _, _, rfl, rfl, hr1, rfl, _, rfl, r, _, _, _, rfl, rfl, hr1, rfl, _, rfl, a, _, d, kvs, rfl, hd, ea, _, rfl, r, _, _, _, rfl, rfl, hr1, rfl, _, rfl, b, _, d, kvs, rfl, hd, eb, s, i, j, rfl, ⟨hb.1, hb.2.2.1⟩, ⟨hb.2.1, hb.2.2.2⟩, hsg _ _ _ _ rfl, λ H1 s1 => ⟨_, rfl, _, rfl, r, _, _, _, rfl, rfl, s1.tup hr1, rfl, d, _, rfl, zi0.k (k := (Sum.inr x : Key)) (s1 _ _ hd) (zbs hk), q H1 s1⟩⟩⟩⟩
theorem zhv : FnScope ["_law_found", "_law_due", "_law_one", "_law_other"] ["_law_found", "_law_due"] (zac zd1) := ⟨rfl, rfl, rfl, by decide +kernel, rfl, by decide +kernel, by decide +kernel⟩
theorem zpd (T : Txt K mg t) : FnOk P w K mg base CX0 1 t.a_l_alike t.d_l_alike ["_law_found", "_law_due"] (zkl K) := by
 refine T.l_alike.F.ok zhv (λ vs H Q E h => ?_) (λ cdv A outer s H vs Q E hr h => ?_)
 . obtain ⟨x, y, rfl, hxy, q⟩ := h
   rfl
 . obtain ⟨x, y, rfl, hxy, q⟩ := h
   refine ⟨_, (@zad _ _ _ _ _ (@zbk _ _ _ _ _ _ _ _ (zmx (zon (pv 1))) (@zah _ _ _ (@zan _ _ _ _ (zuc (zon (pv 0))))) zal) (@zad _ _ _ _ _ (@zbk _ _ _ _ _ _ _ _ (@PW.pt _ _ _ (zns (zka (zfs (zbz zcu (by rfl) T.b_isinstance zb4 (@zaa _ _ _ _ _ (pv 0) (@zaa _ _ _ _ _ (zff (v := V.ty "tuple") rfl T.b_tuple zky rfl) zag (by rfl)) (by rfl))))) (zkj (@zap _ _ _ _ _ _ _ _ zrp (zbz zbv (by rfl) T.b_len zfp (@zaa _ _ _ _ _ (pv 0) zag (by rfl))) (zbz zbv (by rfl) T.b_len zfp (@zaa _ _ _ _ _ (pv 1) zag (by rfl))) (zar _))))) (@zah _ _ _ (@zan _ _ _ _ zh1)) zal) (@zad _ _ _ _ _ (zd5 PassesOwn.never rfl (zq6 true true rfl T.b_zip (@zaa _ _ _ _ _ (pv 0) (@zaa _ _ _ _ _ (pv 1) zag (by rfl)) (by rfl))) (zh8 rfl (zcp (zbc (i := 2) zhv.nd rfl (Or.inl rfl)) (zcp (zbc (i := 3) zhv.nd rfl (Or.inl rfl)) zgb))) (@zah _ _ _ (@zbk _ _ _ _ _ _ _ _ (@PW.pt _ _ _ (zns (zfs (zbz zcu (by rfl) T.b_isinstance zb4 (@zaa _ _ _ _ _ (pv 2) (@zaa _ _ _ _ _ (zff (v := V.ty "bool") rfl T.b_bool zrm rfl) zag (by rfl)) (by rfl)))) (zkj (@zap _ _ _ _ _ _ _ _ zrp (pv 2) (pv 3) (zar _))))) (@zah _ _ _ (@zan _ _ _ _ zh1)) zal))) (@zah _ _ _ (@zan _ _ _ _ zh1))))), ?_⟩
   rcases hxy with ⟨rfl, rfl⟩ | ⟨p, p2, i, rfl, rfl, e1, e2⟩
   . exact ⟨_, rfl, _, rfl, zeu rfl ⟨_, rfl, q H (zak.refl _)⟩⟩
   refine ⟨_, rfl, _, rfl, zco (by simp) ?_⟩
   refine ⟨_, rfl, _, "tuple", _, true, rfl, .tup e1, rfl, _, rfl, zco (by decide) ⟨_, rfl, p, _, rfl, .inr (SqT.of e1), _, rfl, p2, _, rfl, .inr (SqT.of e2), rfl, _, rfl, zco (by rw [decide_eq_true rfl]; decide) ?_⟩⟩
   refine ⟨_, rfl, _, rfl, p, p2, rfl, ⟨_, SqT.of e1⟩, ⟨_, SqT.of e2⟩, znj (b1 := true) (b2 := true) (xs := [.str "out", .int i]) (ys := [.str "out", .int i]) (λ k σ H' => ∃ v2 v3 : Option V, σ = [some (.ref p), some (.ref p2), v2, v3] /\ zak H H') ⟨_, _, rfl, zak.refl _⟩ ?_ ?_ ?_⟩
   . rintro k σ H' hk ⟨v2, v3, rfl, s1⟩
     exact ⟨SqT.of (s1 _ _ e1), SqT.of (s1 _ _ e2)⟩
   . rintro k u v σ H' b hu hv ⟨v2, v3, rfl, s1⟩ hb
     rw [hu] at hv
     cases hv
     refine ⟨b, _, rfl, SqT.of zab, rfl, _, _, rfl, _, _, rfl, rfl, ?_⟩
     have fin : ∃ v2 v3 : Option V, [some (V.ref p), some (V.ref p2), some u, some u] = [some (.ref p), some (.ref p2), v2, v3] /\ zak H (upd H' b (.tup [u, u])) := ⟨_, _, rfl, s1.trans (zak.new hb)⟩
     match k, hu with
     | 0, hu =>
       cases hu
       exact ⟨_, rfl, _, "bool", _, false, rfl, .str _, rfl, _, rfl, zco (by decide) ⟨_, rfl, _, rfl, rfl, _, rfl, zco (by rw [decide_eq_true rfl]; decide) fin⟩⟩
     | 1, hu =>
       cases hu
       exact ⟨_, rfl, _, "bool", _, false, rfl, .int _, rfl, _, rfl, zco (by decide) ⟨_, rfl, _, rfl, rfl, _, rfl, zco (by rw [decide_eq_true rfl]; decide) fin⟩⟩
     | k + 2, hu => simp at hu
   . rintro σ H' ⟨v2, v3, rfl, s1⟩
     exact q H' s1
theorem zfg : FnScope ["_law_walker", "_law_name", "_law_k", "_law_now", "_law_found", "_law_word", "_law_told"] ["_law_walker", "_law_name", "_law_k", "_law_now"] (zac zdi) := ⟨rfl, rfl, rfl, by decide +kernel, rfl, by decide +kernel, by decide +kernel⟩
theorem zng (T : Txt K mg t) : FnOk P w K mg base CX0 6 t.a_l_stands t.d_l_stands ["_law_walker", "_law_name", "_law_k", "_law_now"] (zi8 K t) := by
 have G_l_whole : FnOk P w K mg base CX0 1 t.a_l_whole t.d_l_whole ["_law_found"] (zh0 K) := zkh T
 have G_Walker_frames : FnOk P w K mg base CX0 2 t.a_Walker_frames t.d_Walker_frames ["self"] (zfr K t) := zik T
 have G_Walker_told : FnOk P w K mg base CX0 5 t.a_Walker_told t.d_Walker_told ["self", "level", "name"] (zgq K t) := zjv T
 have G_Walker_ended : FnOk P w K mg base CX0 1 t.a_Walker_ended t.d_Walker_ended ["self"] (zdo K t) := zer T
 have G_Walker_answer : FnOk P w K mg base CX0 1 t.a_Walker_answer t.d_Walker_answer ["self"] (zee K t) := zfq T
 refine T.l_stands.F.ok zfg (λ vs H Q E h => ?_) (λ cdv A outer s H vs Q E hr h => ?_)
 . obtain ⟨H0, Hb, w, f, sent, fns, F, d, kvs, rfl, S, hs, q⟩ := h
   rfl
 . obtain ⟨H0, Hb, w, f, sent, fns, F, d, kvs, rfl, S, hs, q⟩ := h
   refine ⟨_, (@zad _ _ _ _ _ (@zba _ _ 4 _ _ _ _ zfg.nd rfl (Or.inl rfl) (zdb (pv 0) T.cl_TextWalker.cl T.Walker_frames.m G_Walker_frames (hr.mono (by decide)) T.Walker_frames.b .nil zcb) (by rfl) (by first | exact .inl rfl | exact .inr rfl | assumption)) (@zad _ _ _ _ _ (@zbk _ _ _ _ _ _ _ _ (@PW.pt _ _ _ (zns (zka (zfs (zbz zcu (by rfl) T.b_isinstance zb4 (@zaa _ _ _ _ _ (pv 4) (@zaa _ _ _ _ _ (zff (v := V.ty "list") rfl T.b_list zf7 rfl) zag (by rfl)) (by rfl))))) (zns (@zap _ _ _ _ _ _ _ _ (zq9 hr.units) (pv 4) (@zd8 _ _ _ _ (@zaa _ _ _ _ _ (@zcz _ _ _ _ _ (@zaa _ _ _ _ _ (pv 1) (@zaa _ _ _ _ _ (pv 2) zag (by rfl)) (by rfl))) zag (by rfl))) (zar _)) (zkj (zka (zfs (zcr T.l_whole G_l_whole (hr.mono (by decide)) (@zaa _ _ _ _ _ (@zao _ _ _ _ _ _ _ zaq (@zao _ _ _ _ _ _ _ za1 (pv 4) zae (λ _ _ => rfl)) zae (λ _ _ => rfl)) zag (by rfl))))))))) (@zah _ _ _ (@zan _ _ _ _ zh1)) zal) (@zad _ _ _ _ _ (@zbt _ _ _ _ (zl4 PySem.F.plainAttrs_list PySem.F.slot_list_clear PySem.F.type_list_clear zk8 (pv 4)) (by rfl)) (@zad _ _ _ _ _ (zwh (zd5 PassesOwn.never rfl (zyl (pv 3)) (zbc (i := 5) zfg.nd rfl (Or.inl rfl)) (@zad _ _ _ _ _ (@zba _ _ 6 _ _ _ _ zfg.nd rfl (Or.inl rfl) (zbi (pv 0) T.cl_TextWalker.cl T.Walker_told.m G_Walker_told (hr.mono (by decide)) T.Walker_told.b .nil zcb (@zaa _ _ _ _ _ zae (@zaa _ _ _ _ _ (pv 5) zag (by rfl)) (by rfl))) (by rfl) (by first | exact .inl rfl | exact .inr rfl | assumption)) (@zah _ _ _ (@zbk _ _ _ _ _ _ _ _ (@PW.pt _ _ _ (zns (zka (zfs (zcr T.l_whole G_l_whole (hr.mono (by decide)) (@zaa _ _ _ _ _ (pv 6) zag (by rfl))))) (zkj (@zap _ _ _ _ _ _ _ _ zrp (pv 6) (zdm (u1' hr.units) (pv 3) (pv 5) (λ _ _ => rfl)) (zar _))))) (@zah _ _ _ (@zan _ _ _ _ zh1)) zal))))) (@zah _ _ _ (@zan _ _ _ _ (zmn (zfj zuq (zdb (pv 0) T.cl_TextWalker.cl T.Walker_ended.m G_Walker_ended (hr.mono (by decide)) T.Walker_ended.b .nil zcb) zh1 (zar _)) (zsg (zuc (zon (zdb (pv 0) T.cl_TextWalker.cl T.Walker_answer.m G_Walker_answer (hr.mono (by decide)) T.Walker_answer.b .nil zcb))))))))))), ?_⟩
   have h := S.wa
   refine ⟨_, rfl, w.a, _, _, rfl, h.o, rfl, Hb, w, [f], .non, sent, rfl, h, (by show 1 <= 1000; decide), λ l H1 tps hl s1 e1 hlen hat => ?_⟩
   match tps, hlen with
   | [tp], _ =>
   obtain ⟨a1, a2, a3⟩ := hat 0 f tp rfl rfl
   refine ⟨_, rfl, _, "list", _, true, rfl, .lst e1, rfl, _, rfl, zco (by decide) ⟨_, rfl, _, rfl, _, rfl, le2, λ t2 ht2 => ⟨le1, λ l2 hl2 => ?_⟩⟩⟩
   have sA := zak.new (o := zsm f) ht2
   have sB := zak.new (o := .lst [.ref t2]) hl2
   refine zjm (by decide) (zpl S.ok) (zke (sB _ _ (sA _ _ e1)) (sB _ _ (sA _ _ a3))) (zke zab (sB _ _ zab)) ⟨_, rfl, zco Bool.false_ne_true ?_⟩
   have e1' := sB _ _ (sA _ _ e1)
   have a3' := sB _ _ (sA _ _ a3)
   have s2 := (s1.trans sA).trans sB
   generalize upd (upd H1 t2 (zsm f)) l2 (.lst [.ref t2]) = H2 at e1' a3' s2 ⊢
   refine ⟨_, rfl, l, _, _, _, rfl, rfl, SqL.of e1', at0, tp, _, _, _, rfl, rfl, SqT.of a3', rfl, f.row, rfl, _, rfl, zco (by decide) ?_⟩
   refine ⟨_, rfl, .inl ⟨rfl, _, SqL.of e1'⟩, l, _, rfl, rfl, e1', ?_⟩
   have s3 : zak H (upd H2 l (.lst [])) := s2.upd hl
   generalize upd H2 l (.lst []) = H3 at s3 ⊢
   have h3 := h.grow s3
   have g3 := zb3 (H2 := H3) h.b
   have db3 := g3 _ _ S.db
   have hd3 := h3.b _ _ db3
   generalize gr Hb H H3 = B3 at h3 g3 db3
   refine ⟨d, kvs, hd3, _, rfl, d, kvs, rfl, hd3, λ o => ?_⟩
   have hf := h3.put (o' := .frz o (.dK kvs)) db3
   have hFl : F2.FlowsAt K t.c_Flows (upd B3 d (.frz o (.dK kvs))) w.fl fns := S.fl.mono ((S.s0.trans g3).upd S.d0)
   refine zx6 (λ i σ H' => ∃ v5 v6 : Option V, σ = [some (.ref w.a), some (.str f.fn), some (.int f.row), some (.ref d), some (.ref l), v5, v6] /\ zak (upd H3 d (.frz o (.dK kvs))) H') ⟨_, _, rfl, zak.refl _⟩ ?_ ?_ ?_
   . rintro i σ H' hi ⟨v5, v6, rfl, s5⟩
     exact s5 _ _ zab
   . rintro i kv σ H' hkv ⟨v5, v6, rfl, s5⟩
     obtain ⟨n, z, rfl, hn, hv1, hv2⟩ := hs kv (List.mem_of_getElem? hkv)
     have h5 := hf.grow s5
     refine ⟨_, rfl, w.a, _, _, rfl, h5.o, rfl, _, rfl, _, w, [f], .non, sent, 0, f, n, .int z, fns, F, rfl, h5, rfl, hFl.mono (zb3 hf.b), S.mem, S.nm, hn, hv1, λ H6 s6 => ?_⟩
     have hz := s6 _ _ (s5 _ _ zab)
     exact ⟨_, rfl, z, rfl, _, rfl, zco (by decide) ⟨_, rfl, _, rfl, _, rfl, d, _, rfl, ztd hz hv2, rfl, _, rfl, zco (by rw [decide_eq_true rfl]; decide) ⟨_, _, rfl, s5.trans s6⟩⟩⟩
   . rintro σ H' ⟨v5, v6, rfl, s5⟩
     have h5 := hf.grow s5
     have db5 := zb3 (H2 := H') hf.b _ _ zab
     have hz := h5.put (o' := .dK kvs) db5
     have sb : zak Hb (upd (gr (upd B3 d (.frz o (.dK kvs))) (upd H3 d (.frz o (.dK kvs))) H') d (.dK kvs)) := λ b u hb => by
       by_cases z : b = d
       . subst z
         rw [S.db] at hb
         cases hb
         exact zab
       . rw [zaf z]
         refine zb3 hf.b _ _ ?_
         rw [zaf z]
         exact g3 _ _ hb
     refine ⟨o, s5 _ _ zab, _, rfl, w.a, _, _, rfl, hz.o, rfl, _, w, [f], .non, sent, rfl, hz, _, _, rfl, rfl, _, rfl, zeu (by simp) ⟨_, rfl, w.a, _, _, rfl, hz.o, rfl, _, w, [f], .non, sent, rfl, hz, vq (by simp) (q _ _ sb ⟨hz, S.fl, S.s0.trans sb, S.d0, zab, S.mem, S.nm, S.ok⟩)⟩⟩
theorem zdc : FnScope ["_law_walker", "_law_name", "_law_rows", "_law_now", "_law_sent", "_law_k", "_law_due", "_law_last", "_law_told"] ["_law_walker", "_law_name", "_law_rows", "_law_now"] (zac zdl) := ⟨rfl, rfl, rfl, by decide +kernel, rfl, by decide +kernel, by decide +kernel⟩
theorem znc (T : Txt K mg t) : FnOk P w K mg base CX0 7 t.a_l_walked t.d_l_walked ["_law_walker", "_law_name", "_law_rows", "_law_now"] (ziu K t) := by
 have G_l_worth : FnOk P w K mg base CX0 1 t.a_l_worth t.d_l_worth ["_law_atom_here", "_law_now"] (zh3 K) := zkb T
 have G_l_whole : FnOk P w K mg base CX0 1 t.a_l_whole t.d_l_whole ["_law_found"] (zh0 K) := zkh T
 have G_l_done : FnOk P w K mg base CX0 2 t.a_l_done t.d_l_done ["_law_now", "_law_row_here"] (zld K) := zrx T
 have G_l_alike : FnOk P w K mg base CX0 1 t.a_l_alike t.d_l_alike ["_law_found", "_law_due"] (zkl K) := zpd T
 have G_l_stands : FnOk P w K mg base CX0 6 t.a_l_stands t.d_l_stands ["_law_walker", "_law_name", "_law_k", "_law_now"] (zi8 K t) := zng T
 have G_Walker_answer : FnOk P w K mg base CX0 1 t.a_Walker_answer t.d_Walker_answer ["self"] (zee K t) := zfq T
 have G_Walker_ended : FnOk P w K mg base CX0 1 t.a_Walker_ended t.d_Walker_ended ["self"] (zdo K t) := zer T
 have G_Walker_sent : FnOk P w K mg base CX0 1 t.a_Walker_sent t.d_Walker_sent ["self"] (zgs K t) := zjt T
 have G_Walker_step : FnOk P w K mg base CX0 5 t.a_Walker_step t.d_Walker_step ["self"] (zgt K t) := zju T
 refine T.l_walked.F.ok zdc (λ vs H Q E h => ?_) (λ cdv A outer s H vs Q E hr h => ?_)
 . obtain ⟨H0, Hb, w, f, fns, F, d, kvs, ra, NS, rvs, a, rfl, S, hrow, hc, hsy, hra, st, hk1, hk2, q⟩ := h
   rfl
 . obtain ⟨H0, Hb, w, f, fns, F, d, kvs, ra, NS, rvs, a, rfl, S, hrow, hc, hsy, hra, st, hk1, hk2, q⟩ := h
   refine ⟨_, (@zad _ _ _ _ _ (@zba _ _ 4 _ _ _ _ zdc.nd rfl (Or.inl rfl) (@zd8 _ _ _ _ zag) (by rfl) (by first | exact .inl rfl | exact .inr rfl | assumption)) (@zad _ _ _ _ _ (zd5 PassesOwn.never rfl (zfx rfl T.b_range (@zaa _ _ _ _ _ (zbz zbv (by rfl) T.b_len zfp (@zaa _ _ _ _ _ (pv 2) zag (by rfl))) zag (by rfl))) (zbc (i := 5) zdc.nd rfl (Or.inl rfl)) (@zad _ _ _ _ _ (@zbk _ _ _ _ _ _ _ _ (@PW.pt _ _ _ (zns (zka (zfs (zcr T.l_stands G_l_stands (hr.mono (by decide)) (@zaa _ _ _ _ _ (pv 0) (@zaa _ _ _ _ _ (pv 1) (@zaa _ _ _ _ _ (pv 5) (@zaa _ _ _ _ _ (pv 3) zag (by rfl)) (by rfl)) (by rfl)) (by rfl))))) (zkj (@zap _ _ _ _ _ _ _ _ (zq9 hr.units) (zdb (pv 0) T.cl_TextWalker.cl T.Walker_sent.m G_Walker_sent (hr.mono (by decide)) T.Walker_sent.b .nil zcb) (pv 4) (zar _))))) (@zah _ _ _ (@zan _ _ _ _ zh1)) zal) (@zad _ _ _ _ _ (@zba _ _ 6 _ _ _ _ zdc.nd rfl (Or.inl rfl) zfo (by rfl) (by first | exact .inl rfl | exact .inr rfl | assumption)) (@zad _ _ _ _ _ (@zbk _ _ _ _ _ _ _ _ (@zap _ _ _ _ _ _ _ _ zrp (@zao _ _ _ _ _ _ _ zaq (@zao _ _ _ _ _ _ _ za1 (pv 2) (pv 5) (λ _ _ => rfl)) zae (λ _ _ => rfl)) zav (zar _)) (@zah _ _ _ (@zba _ _ 6 _ _ _ _ zdc.nd rfl (Or.inl rfl) (zcr T.l_done G_l_done (hr.mono (by decide)) (@zaa _ _ _ _ _ (pv 3) (@zaa _ _ _ _ _ (@zao _ _ _ _ _ _ _ za1 (pv 2) (pv 5) (λ _ _ => rfl)) zag (by rfl)) (by rfl))) (by rfl) (by first | exact .inl rfl | exact .inr rfl | assumption))) zal) (@zad _ _ _ _ _ (@zbk _ _ _ _ _ _ _ _ (zka (zfs (zcr T.l_alike G_l_alike (hr.mono (by decide)) (@zaa _ _ _ _ _ (zdb (pv 0) T.cl_TextWalker.cl T.Walker_step.m G_Walker_step (hr.mono (by decide)) T.Walker_step.b .nil zcb) (@zaa _ _ _ _ _ (pv 6) zag (by rfl)) (by rfl))))) (@zah _ _ _ (@zan _ _ _ _ zh1)) zal) (@zah _ _ _ (@zbk _ _ _ _ _ _ _ _ (zmx (zqb (pv 6))) (@zad _ _ _ _ _ (@zbt _ _ _ _ (zgo PySem.F.plainAttrs_list PySem.F.slot_list_append PySem.F.type_list_append zcj (pv 4) (@zaa _ _ _ _ _ (@zao _ _ _ _ _ _ _ zaq (pv 6) zae (λ _ _ => rfl)) zag (by rfl))) (by rfl)) (@zah _ _ _ (@zbt _ _ _ _ (zgo PySem.F.plainAttrs_list PySem.F.slot_list_append PySem.F.type_list_append zcj (zdb (pv 0) T.cl_TextWalker.cl T.Walker_sent.m G_Walker_sent (hr.mono (by decide)) T.Walker_sent.b .nil zcb) (@zaa _ _ _ _ _ zae zag (by rfl))) (by rfl)))) zal))))))) (@zad _ _ _ _ _ (@zba _ _ 7 _ _ _ _ zdc.nd rfl (Or.inl rfl) (zcr T.l_worth G_l_worth (hr.mono (by decide)) (@zaa _ _ _ _ _ (@zao _ _ _ _ _ _ _ zaq (@zao _ _ _ _ _ _ _ za1 (pv 2) (zm2 zjp zae) (λ _ _ => rfl)) zae (λ _ _ => rfl)) (@zaa _ _ _ _ _ (pv 3) zag (by rfl)) (by rfl))) (by rfl) (by first | exact .inl rfl | exact .inr rfl | assumption)) (@zad _ _ _ _ _ (@zba _ _ 8 _ _ _ _ zdc.nd rfl (Or.inl rfl) (zdb (pv 0) T.cl_TextWalker.cl T.Walker_answer.m G_Walker_answer (hr.mono (by decide)) T.Walker_answer.b .nil zcb) (by rfl) (by first | exact .inl rfl | exact .inr rfl | assumption)) (@zah _ _ _ (@zan _ _ _ _ (zmn (zfj zuq (zdb (pv 0) T.cl_TextWalker.cl T.Walker_ended.m G_Walker_ended (hr.mono (by decide)) T.Walker_ended.b .nil zcb) zh1 (zar _)) (zmn (zcr T.l_whole G_l_whole (hr.mono (by decide)) (@zaa _ _ _ _ _ (pv 8) zag (by rfl))) (zmn (zfj zcc (pv 8) (pv 7) (zar _)) (zsg (zfj (zwv hr.units) (zdb (pv 0) T.cl_TextWalker.cl T.Walker_sent.m G_Walker_sent (hr.mono (by decide)) T.Walker_sent.b .nil zcb) (pv 4) (zar _)))))))))))), ?_⟩
   have hN := st.len
   have hsm := st.small
   refine ⟨le0, λ ls hls => ?_⟩
   have s1 := zak.new (o := .lst []) hls
   have e1 := zab (H := H) (a := ls) (o := .lst [])
   have nls : ls ≠ d := λ z => by rw [z, S.wa.b _ _ S.db] at hls; cases hls
   have ls0 : H0 ls = none := (S.s0.trans S.wa.b).free hls
   generalize upd H ls (.lst []) = H1 at s1 e1 ⊢
   have S1 := S.grow s1
   refine ⟨_, rfl, ra, _, rfl, .inl (S1.wa.b.seq (S1.s0.seq hra)), _, rfl, by rw [List.length_map]; omega, by rw [List.length_map]; omega, zi6 (lo := 0) (n := ((F.rs.map λ r => V.ref r.r).length : Int).toNat) (λ i σ H' => ∃ v5 v6 : Option V, σ = [some (.ref w.a), some (.str f.fn), some (.ref ra), some (.ref d), some (.ref ls), v5, v6, none, none] /\ ∃ (Hb' : Hp) (kvs' : List (Key × V)) (zs : List Int), Hb' ls = some (.lst (zs.map V.int)) /\ zs.length <= i /\ kvs'.length <= 1000 + i /\
     ((i < F.rs.length /\ ∃ f' : Fm, f'.fn = f.fn /\ f'.row = i /\ f'.kvs.length <= 1000 + i /\ Stand K t H0 Hb' H' w f' (zs.map V.int) fns F d kvs' /\ Cpl NS F f' kvs' /\ zqt F f' kvs') \/ (i = F.rs.length /\ ∃ v, av kvs' a = some (.int v) /\ WA t Hb' H' w [] (.int v) (zs.map V.int) /\ Hb' d = some (.dK kvs') /\ zak H0 Hb'))) ?_ ?_ ?_⟩
   . exact ⟨_, _, rfl, _, kvs, [], zo5 hls e1, Nat.le_refl _, by omega, .inl ⟨by omega, f, rfl, hrow, by omega, S1, hc, hsy⟩⟩
   . rintro i σ H' hi ⟨v5, v6, rfl, Hb', kvs', zs, ls1, hzs, hk3, hcase⟩
     rw [List.length_map, Int.toNat_natCast] at hi
     rcases hcase with ⟨_, f', f1, f2, f3, S', hc', hsy'⟩ | ⟨z, _⟩
     rotate_left
     . omega
     obtain ⟨r, hr⟩ : ∃ r, F.rs[i]? = some r := ⟨F.rs[i], List.getElem?_eq_getElem hi⟩
     have hil : i < (rvs ++ [RV.back a]).length := by rw [List.length_append]; show i < rvs.length + 1; omega
     obtain ⟨rv, hrv⟩ : ∃ rv, (rvs ++ [RV.back a])[i]? = some rv := ⟨_, List.getElem?_eq_getElem hil⟩
     have hq0 := st.it i r rv hr hrv
     have hat : atI (F.rs.map λ r => V.ref r.r) (0 + (i : Int)) = some (.ref r.r) := zlb (by omega) (by rw [show (0 + (i : Int)).toNat = i by omega]; exact hr)
     refine ⟨_, rfl, _, rfl, _, rfl, _, rfl, H0, Hb', w, f', zs.map V.int, fns, F, d, kvs', (show [V.ref w.a, V.str f.fn, V.int (0 + (i : Int)), V.ref d] = [.ref w.a, .str f'.fn, .int f'.row, .ref d] by rw [f1, f2, Int.zero_add]), S', hsy', λ Hb2 H2 s2 S2 => ⟨_, rfl, zco (by decide) ?_⟩⟩
     refine ⟨_, rfl, w.a, _, _, rfl, S2.wa.o, rfl, Hb2, w, [f'], .non, zs.map V.int, rfl, S2.wa, λ l2 hl2 => ⟨_, rfl, ?_⟩⟩
     have s3 := zak.new (o := .lst (zs.map V.int)) hl2
     have e3 := zab (H := H2) (a := l2) (o := .lst (zs.map V.int))
     have S3 := S2.grow s3
     have ls3 := zb3 (H2 := upd H2 l2 (.lst (zs.map V.int))) S2.wa.b _ _ (s2 _ _ ls1)
     generalize upd H2 l2 (.lst (zs.map V.int)) = H3 at s3 e3 S3 ls3 ⊢
     refine zjm (by decide) (zn6 zs) (zir (SqL.of e3)) (zir (SqL.of (S3.wa.b _ _ ls3))) ⟨_, rfl, zco Bool.false_ne_true ?_⟩
     generalize gr Hb2 H2 H3 = B3 at S3 ls3
     have hq3 := S3.wa.b.tup (S3.s0.tup hq0)
     by_cases hlast : i < rvs.length
     rotate_left
     . have hi2 : i = rvs.length := by omega
       rw [hi2, List.getElem?_append_right (Nat.le_refl _), Nat.sub_self] at hrv
       cases hrv
       obtain ⟨v, vv, w1, w2⟩ := zhj hc' st.last
       refine ⟨_, rfl, _, rfl, ra, _, _, _, rfl, rfl, S3.wa.b.seq (S3.s0.seq hra), hat, r.r, _, _, _, rfl, rfl, hq3, at0, rfl, _, rfl, zco (by decide +kernel) ?_⟩
       refine ⟨_, rfl, w.a, _, _, rfl, S3.wa.o, rfl, B3, w, [], f', zs.map V.int, fns, F, r, .back a, rfl, S3.wa, S.fl.mono S3.s0, S.mem, S'.nm, (by rw [f2]; exact hr), S3.s0.tup hq0, (by rw [List.length_map]; omega), by omega, rfl, .int v, w1, λ H4 h4 => ?_⟩
       refine ⟨_, rfl, .non, .non, rfl, .inl ⟨rfl, rfl⟩, λ H5 s5 => ⟨_, rfl, zco (by decide) ⟨_, rfl, _, rfl, zco (by simp) ?_⟩⟩⟩
       exact ⟨_, _, rfl, _, kvs', zs, zb3 h4.b _ _ ls3, by omega, by omega, .inr ⟨by omega, v, w2, h4.grow s5, zb3 h4.b _ _ S3.db, S3.s0.trans (zb3 h4.b)⟩⟩
     have hway := st.way i hlast
     rw [List.getElem?_append_left hlast] at hrv
     have hmem := List.mem_of_getElem? hrv
     cases rv with
     | back b => exact (st.ok _ hmem).elim
     | out b =>
       obtain ⟨v, vv, w1, w2⟩ := zhj hc' (show zey NS b from st.ok _ hmem)
       refine ⟨_, rfl, _, rfl, ra, _, _, _, rfl, rfl, S3.wa.b.seq (S3.s0.seq hra), hat, r.r, _, _, _, rfl, rfl, hq3, at0, rfl, _, rfl, zeu (by decide +kernel) ⟨_, rfl, _, rfl, _, rfl, ra, _, _, _, rfl, rfl, S3.wa.b.seq (S3.s0.seq hra), hat, d, r.r, kvs', .out b, rfl, S3.wa.b _ _ S3.db, hq3, by omega, (λ y s a b z => by cases z), .int v, w2, λ tp htp => ?_⟩⟩
       have S4 := S3.grow (zak.new (o := .tup [.str "out", .int v]) htp)
       have g4 := zb3 (H2 := upd H3 tp (.tup [.str "out", .int v])) S3.wa.b
       have tp4 := zo5 (Hb := B3) htp (zab (H := H3) (a := tp) (o := .tup [.str "out", .int v]))
       generalize upd H3 tp (.tup [.str "out", .int v]) = H4 at S4 g4 tp4 ⊢
       generalize gr B3 H3 H4 = B4 at S4 g4 tp4
       refine ⟨_, rfl, w.a, _, _, rfl, S4.wa.o, rfl, B4, w, [], f', zs.map V.int, fns, F, r, .out b, rfl, S4.wa, S.fl.mono S4.s0, S.mem, S'.nm, (by rw [f2]; exact hr), S4.s0.tup hq0, (by rw [List.length_map]; omega), by omega, i + 1, .int v, (by rw [f2]; exact hway), w1, λ B5 H5 tq s5 h5 e5 => ?_⟩
       refine ⟨_, rfl, .ref tq, .ref tp, rfl, .inr ⟨tq, tp, v, rfl, rfl, h5.b _ _ e5, h5.b _ _ (s5 _ _ tp4)⟩, λ H6 s6 => ⟨_, rfl, zco (by decide) ⟨_, rfl, _, rfl, zeu (by simp) ?_⟩⟩⟩
       have h6 := h5.grow s6
       have g6 := zb3 (H2 := H6) h5.b
       have ls6 := g6 _ _ (s5 _ _ (g4 _ _ ls3))
       have tp6 := h6.b _ _ (g6 _ _ (s5 _ _ tp4))
       have db6 := g6 _ _ (s5 _ _ S4.db)
       generalize gr B5 H5 H6 = B6 at h6 g6 ls6 db6
       have h7 := h6.put (o' := .lst ((zs ++ [v]).map V.int)) ls6
       refine ⟨_, rfl, .inl ⟨rfl, _, SqL.of (h6.b _ _ ls6)⟩, _, rfl, tp, _, _, _, rfl, rfl, SqT.of tp6, rfl, ls, _, _, rfl, rfl, h6.b _ _ ls6, zbs (by rw [List.length_map]; omega), ?_⟩
       rw [show zs.map V.int ++ [V.int v] = (zs ++ [v]).map V.int by rw [List.map_append]; rfl] at h7 ⊢
       have s07 : zak H0 (upd B6 ls (.lst ((zs ++ [v]).map V.int))) := ((S4.s0.trans s5).trans g6).upd ls0
       have S7 : Stand K t H0 (upd B6 ls (.lst ((zs ++ [v]).map V.int))) (upd H6 ls (.lst ((zs ++ [v]).map V.int))) w { f' with row := i + 1 } ((zs ++ [v]).map V.int) fns F d kvs' := ⟨h7, S.fl, s07, S.d0, by rw [zaf nls.symm]; exact db6, S.mem, S'.nm, S'.ok⟩
       refine ⟨_, rfl, w.a, _, _, rfl, h7.o, rfl, _, w, [{ f' with row := i + 1 }], .non, (zs ++ [v]).map V.int, rfl, h7, λ l3 hl3 => ⟨.inl ⟨rfl, _, SqL.of zab⟩, l3, _, _, rfl, rfl, zab, zbs (by rw [List.length_map, List.length_append]; show zs.length + 1 < 1000000; omega), ?_⟩⟩
       have s9 := (zak.new (o := .lst ((zs ++ [v]).map V.int)) hl3).upd hl3 (o := .lst ((zs ++ [v]).map V.int ++ [.int 7]))
       exact ⟨_, _, rfl, _, kvs', zs ++ [v], zb3 h7.b _ _ zab, by rw [List.length_append]; show zs.length + 1 <= i + 1; omega, by omega, .inl ⟨by omega, { f' with row := i + 1 }, f1, rfl, by show f'.kvs.length <= _; omega, S7.grow s9, hc', hsy'⟩⟩
     | copy y b =>
     obtain ⟨x, v, vv, hx, g1, g2⟩ := zmw hc' (st.ok _ hmem) (λ _ z => by cases z)
     refine ⟨_, rfl, _, rfl, ra, _, _, _, rfl, rfl, S3.wa.b.seq (S3.s0.seq hra), hat, r.r, _, _, _, rfl, rfl, hq3, at0, rfl, _, rfl, zeu (by decide +kernel) ⟨_, rfl, _, rfl, _, rfl, ra, _, _, _, rfl, rfl, S3.wa.b.seq (S3.s0.seq hra), hat, d, r.r, kvs', (.copy y b), rfl, S3.wa.b _ _ S3.db, hq3, by omega, (λ y s a b z => by cases z), x, .int v, g2, λ H4 s4 => ?_⟩⟩
     have h4 := S3.wa.grow s4
     have g4 := zb3 (H2 := H4) S3.wa.b
     have h5 := h4.put (o' := .dK (zbu kvs' (Sum.inr x : Key) (.int v))) (g4 _ _ S3.db)
     have s05 : zak H0 (upd (gr B3 H3 H4) d (.dK (zbu kvs' (Sum.inr x : Key) (.int v)))) := (S3.s0.trans g4).upd S.d0
     refine ⟨_, rfl, w.a, _, _, rfl, h5.o, rfl, _, w, [], f', zs.map V.int, fns, F, r, (.copy y b), rfl, h5, S.fl.mono s05, S.mem, S'.nm, (by rw [f2]; exact hr), s05.tup hq0, (by rw [List.length_map]; omega), by omega, i + 1, x, .int v, (by rw [f2]; exact hway), g1, λ B6 H6 s6 h6 => ?_⟩
     refine ⟨_, rfl, .non, .non, rfl, .inl ⟨rfl, rfl⟩, λ H7 s7 => ⟨_, rfl, zco (by decide) ⟨_, rfl, _, rfl, zco (by simp) ?_⟩⟩⟩
     have S7 : Stand K t H0 B6 H6 w { f' with kvs := zbu f'.kvs (Sum.inr x : Key) (.int v), row := i + 1 } (zs.map V.int) fns F d (zbu kvs' (Sum.inr x : Key) (.int v)) := ⟨h6, S.fl, s05.trans s6, S.d0, s6 _ _ zab, S.mem, S'.nm, S'.ok⟩
     have S8 := S7.grow s7
     have l1 := za2 f'.kvs (Sum.inr x : Key) (.int v)
     have l2 := za2 kvs' (Sum.inr x : Key) (.int v)
     refine ⟨_, _, rfl, _, _, zs, zb3 h6.b _ _ (s6 _ _ (by rw [zaf nls]; exact g4 _ _ ls3)), by omega, by omega, .inl ⟨by omega, { f' with kvs := zbu f'.kvs (Sum.inr x : Key) (.int v), row := i + 1 }, f1, rfl, ?_, S8, hc'.put vv rfl, zqt.put (g := { f' with kvs := zbu f'.kvs (Sum.inr x : Key) (.int v), row := i + 1 }) hsy' ((hc' x hx).1) rfl⟩⟩
     show (zbu f'.kvs (Sum.inr x : Key) (.int v)).length <= _
     omega
     | op y s b b2 =>
     obtain ⟨x, v, vv, hx, g1, g2⟩ := zmw hc' (st.ok _ hmem) (λ _ z => by cases z)
     refine ⟨_, rfl, _, rfl, ra, _, _, _, rfl, rfl, S3.wa.b.seq (S3.s0.seq hra), hat, r.r, _, _, _, rfl, rfl, hq3, at0, rfl, _, rfl, zeu (by decide +kernel) ⟨_, rfl, _, rfl, _, rfl, ra, _, _, _, rfl, rfl, S3.wa.b.seq (S3.s0.seq hra), hat, d, r.r, kvs', (.op y s b b2), rfl, S3.wa.b _ _ S3.db, hq3, by omega, (λ y s a b z => by cases z; exact (st.ok _ hmem).2.1), x, .int v, g2, λ H4 s4 => ?_⟩⟩
     have h4 := S3.wa.grow s4
     have g4 := zb3 (H2 := H4) S3.wa.b
     have h5 := h4.put (o' := .dK (zbu kvs' (Sum.inr x : Key) (.int v))) (g4 _ _ S3.db)
     have s05 : zak H0 (upd (gr B3 H3 H4) d (.dK (zbu kvs' (Sum.inr x : Key) (.int v)))) := (S3.s0.trans g4).upd S.d0
     refine ⟨_, rfl, w.a, _, _, rfl, h5.o, rfl, _, w, [], f', zs.map V.int, fns, F, r, (.op y s b b2), rfl, h5, S.fl.mono s05, S.mem, S'.nm, (by rw [f2]; exact hr), s05.tup hq0, (by rw [List.length_map]; omega), by omega, i + 1, x, .int v, (by rw [f2]; exact hway), g1, λ B6 H6 s6 h6 => ?_⟩
     refine ⟨_, rfl, .non, .non, rfl, .inl ⟨rfl, rfl⟩, λ H7 s7 => ⟨_, rfl, zco (by decide) ⟨_, rfl, _, rfl, zco (by simp) ?_⟩⟩⟩
     have S7 : Stand K t H0 B6 H6 w { f' with kvs := zbu f'.kvs (Sum.inr x : Key) (.int v), row := i + 1 } (zs.map V.int) fns F d (zbu kvs' (Sum.inr x : Key) (.int v)) := ⟨h6, S.fl, s05.trans s6, S.d0, s6 _ _ zab, S.mem, S'.nm, S'.ok⟩
     have S8 := S7.grow s7
     have l1 := za2 f'.kvs (Sum.inr x : Key) (.int v)
     have l2 := za2 kvs' (Sum.inr x : Key) (.int v)
     refine ⟨_, _, rfl, _, _, zs, zb3 h6.b _ _ (s6 _ _ (by rw [zaf nls]; exact g4 _ _ ls3)), by omega, by omega, .inl ⟨by omega, { f' with kvs := zbu f'.kvs (Sum.inr x : Key) (.int v), row := i + 1 }, f1, rfl, ?_, S8, hc'.put vv rfl, zqt.put (g := { f' with kvs := zbu f'.kvs (Sum.inr x : Key) (.int v), row := i + 1 }) hsy' ((hc' x hx).1) rfl⟩⟩
     show (zbu f'.kvs (Sum.inr x : Key) (.int v)).length <= _
     omega
   . rintro σ H' ⟨v5, v6, rfl, Hb', kvs', zs, ls1, hzs, hk3, hcase⟩
     rw [List.length_map, Int.toNat_natCast] at hcase
     rcases hcase with ⟨z, _⟩ | ⟨_, v, hv, hw, hd, s0⟩
     . omega
     have hne : F.rs ≠ [] := λ z => by rw [z] at hN; simp at hN
     obtain ⟨ini, r, e⟩ : ∃ ini r, F.rs = ini ++ [r] := ⟨F.rs.dropLast, F.rs.getLast hne, (List.dropLast_concat_getLast hne).symm⟩
     have hini : ini.length = rvs.length := by rw [e, List.length_append] at hN; simpa using hN
     have hr : F.rs[rvs.length]? = some r := by rw [e, <- hini, List.getElem?_append_right (Nat.le_refl _), Nat.sub_self]; rfl
     have hq0 := st.it rvs.length r (.back a) hr (by rw [List.getElem?_append_right (Nat.le_refl _), Nat.sub_self]; rfl)
     have hat : atI (F.rs.map λ r => V.ref r.r) (-1) = some (.ref r.r) := by
       rw [e, List.map_append]
       exact zn1 _ _
     refine ⟨_, rfl, _, rfl, ra, _, _, _, rfl, rfl, hw.b.seq (s0.seq hra), hat, r.r, _, _, _, rfl, rfl, hw.b.tup (s0.tup hq0), rfl, _, rfl, a, .int v, d, kvs', rfl, hw.b _ _ hd, hv, ?_⟩
     refine ⟨_, rfl, w.a, _, _, rfl, hw.o, rfl, Hb', w, [], .int v, _, rfl, hw, ?_⟩
     refine ⟨_, rfl, w.a, _, _, rfl, hw.o, rfl, Hb', w, [], .int v, _, rfl, hw, _, _, rfl, rfl, _, rfl, zeu (by simp) ⟨_, rfl, v, rfl, _, rfl, zeu rfl ⟨_, rfl, _, rfl, rfl, _, rfl, zeu (by simp) ⟨_, rfl, w.a, _, _, rfl, hw.o, rfl, Hb', w, [], .int v, zs.map V.int, rfl, hw, λ l3 hl3 => ⟨_, rfl, zq2 (by decide) (zn6 zs) (zir (SqL.of zab)) (zir (SqL.of (zak.new hl3 _ _ (hw.b _ _ ls1)))) (q _)⟩⟩⟩⟩⟩
theorem zhg : FnScope ["_law_script", "_law_names_here", "_law_params", "_law_rows", "_law_args", "_law_program", "_law_handed", "_law_walker"] ["_law_script"] (zac zi7) := ⟨rfl, rfl, rfl, by decide +kernel, rfl, by decide +kernel, by decide +kernel⟩
theorem ok_law (T : Txt K mg t) : FnOk P w K mg base CX0 9 t.a_law t.d_law ["_law_script"] (sp_law K) := by
 have G_l_names : FnOk P w K mg base CX0 1 t.a_l_names t.d_l_names ["_law_cell", "_law_many"] (zj2 K) := zp8 T
 have G_TextWalker_init : FnOk P w K mg base CX0 7 t.a_TextWalker_init t.d_TextWalker_init ["self", "program", "args"] (zex K t) := zg4 T
 have G_l_walked : FnOk P w K mg base CX0 7 t.a_l_walked t.d_l_walked ["_law_walker", "_law_name", "_law_rows", "_law_now"] (ziu K t) := znc T
 have G_l_cell_at : FnOk P w K mg base CX0 1 t.a_l_cell_at t.d_l_cell_at ["_law_script", "_law_k"] (zic K) := zln T
 have G_l_row : FnOk P w K mg base CX0 3 t.a_l_row t.d_l_row ["_law_cell", "_law_names_here"] (zod K) := zts T
 have G_l_value_by : FnOk P w K mg base CX0 1 t.a_l_value_by t.d_l_value_by ["_law_number"] (zfc K) := zg9 T
 have G_l_begin : FnOk P w K mg base CX0 1 t.a_l_begin t.d_l_begin ["_law_params", "_law_args", "_law_rows"] (zkf K) := zpw T
 have G_l_atom : FnOk P w K mg base CX0 2 t.a_l_atom t.d_l_atom ["_law_number", "_law_names_here"] (zi3 K) := zlh T
 have G_l_stream : FnOk P w K mg base CX0 1 t.a_l_stream t.d_l_stream ["_law_cell", "_law_many"] (zgz K) := zjj T
 refine T.law.F.ok zhg (λ vs H Q E h => ?_) (λ cdv A outer s H vs Q E hr h => ?_)
 . obtain ⟨a, sc, rfl, ha, hn, q⟩ := h
   rfl
 . obtain ⟨a, sc, rfl, ha, hn, q⟩ := h
   refine ⟨_, (@zad _ _ _ _ _ (@zba _ _ 1 _ _ _ _ zhg.nd rfl (Or.inr rfl) (zcr T.l_names G_l_names (hr.mono (by decide)) (@zaa _ _ _ _ _ (zcr T.l_cell_at G_l_cell_at (hr.mono (by decide)) (@zaa _ _ _ _ _ (pv 0) (@zaa _ _ _ _ _ zae zag (by rfl)) (by rfl))) (@zaa _ _ _ _ _ zae zag (by rfl)) (by rfl))) (by rfl) (by first | exact .inl rfl | exact .inr rfl | assumption)) (@zad _ _ _ _ _ (@zba _ _ 2 _ _ _ _ zhg.nd rfl (Or.inl rfl) (@ze4 _ _ _ _ _ _ _ _ _ _ zjh (pv 1) zg1 (zfe (@zat _ _ _ _ _ _ _ _ zca (zcr T.l_cell_at G_l_cell_at (hr.mono (by decide)) (@zaa _ _ _ _ _ (pv 0) (@zaa _ _ _ _ _ zae zag (by rfl)) (by rfl))) zae))) (by rfl) (by first | exact .inl rfl | exact .inr rfl | assumption)) (@zad _ _ _ _ _ (zqh (i := 3) zhg.nd rfl (Or.inl rfl) (N' := ["_law_cell", "_law_names_here"]) (js := [none, some 1]) (by kernel_rfl) rfl (zf0 (@ze4 _ _ _ _ _ _ _ _ _ _ zjh (pv 0) (zfe zae) (zfe zae))) zek (λ _ _ _ _ => (zbc (i := 0) (show (["_law_cell", "_law_names_here"] : List Str).Nodup by decide +kernel) rfl (Or.inl rfl) (.inr rfl))) (λ _ _ _ _ => zge) (λ _ _ _ _ => (zcr T.l_row G_l_row (hr.mono (by decide)) (@zaa _ _ _ _ _ (pv 0) (@zaa _ _ _ _ _ (@ze4 _ _ _ _ _ _ _ _ _ _ (show SlR _ (rSlL K) from zjh) (pv 1) zg1 (zfe zae)) zag (by rfl)) (by rfl)))) (by rfl)) (@zad _ _ _ _ _ (@zbt _ _ _ _ (zgo PySem.F.plainAttrs_list PySem.F.slot_list_append PySem.F.type_list_append zcj (pv 3) (@zaa _ _ _ _ _ (@zcz _ _ _ _ _ (@zaa _ _ _ _ _ zav (@zaa _ _ _ _ _ (zcr T.l_atom G_l_atom (hr.mono (by decide)) (@zaa _ _ _ _ _ (@zat _ _ _ _ _ _ _ _ zca (zcr T.l_cell_at G_l_cell_at (hr.mono (by decide)) (@zaa _ _ _ _ _ (pv 0) (@zaa _ _ _ _ _ zae zag (by rfl)) (by rfl))) zae) (@zaa _ _ _ _ _ (@ze4 _ _ _ _ _ _ _ _ _ _ zjh (pv 1) zg1 (zfe zae)) zag (by rfl)) (by rfl))) zag (by rfl)) (by rfl))) zag (by rfl))) (by rfl)) (@zad _ _ _ _ _ (zqh (i := 4) zhg.nd rfl (Or.inl rfl) (N' := ["_law_number"]) (js := [none]) (by kernel_rfl) rfl (zf0 (zcr T.l_stream G_l_stream (hr.mono (by decide)) (@zaa _ _ _ _ _ (zcr T.l_cell_at G_l_cell_at (hr.mono (by decide)) (@zaa _ _ _ _ _ (pv 0) (@zaa _ _ _ _ _ zae zag (by rfl)) (by rfl))) (@zaa _ _ _ _ _ (zbz zbv (by rfl) T.b_len zfp (@zaa _ _ _ _ _ (pv 2) zag (by rfl))) zag (by rfl)) (by rfl)))) zek (λ _ _ _ _ => (zbc (i := 0) (show (["_law_number"] : List Str).Nodup by decide +kernel) rfl (Or.inl rfl) (.inr rfl))) (λ _ _ _ _ => zge) (λ _ _ _ _ => (zcr T.l_value_by G_l_value_by (hr.mono (by decide)) (@zaa _ _ _ _ _ (pv 0) zag (by rfl)))) (by rfl)) (@zad _ _ _ _ _ (@zba _ _ 5 _ _ _ _ zhg.nd rfl (Or.inl rfl) (@zd8 _ _ _ _ (@zaa _ _ _ _ _ (@zcz _ _ _ _ _ (@zaa _ _ _ _ _ (@zao _ _ _ _ _ _ _ za1 (pv 1) zae (λ _ _ => rfl)) (@zaa _ _ _ _ _ (zfj zcc (@zat _ _ _ _ _ _ _ _ zca (zcr T.l_cell_at G_l_cell_at (hr.mono (by decide)) (@zaa _ _ _ _ _ (pv 0) (@zaa _ _ _ _ _ zae zag (by rfl)) (by rfl))) zae) zae (zar _)) (@zaa _ _ _ _ _ (zcg zhi (by rfl) T.b_tuple zky (@zaa _ _ _ _ _ (pv 2) zag (by rfl))) (@zaa _ _ _ _ _ (zcg zhi (by rfl) T.b_tuple zky (@zaa _ _ _ _ _ (pv 3) zag (by rfl))) zag (by rfl)) (by rfl)) (by rfl)) (by rfl))) zag (by rfl))) (by rfl) (by first | exact .inl rfl | exact .inr rfl | assumption)) (@zq8 _ _ _ _ _ (@zbk _ _ _ _ _ _ _ _ (@zap _ _ _ _ _ _ _ _ zcc (@zat _ _ _ _ _ _ _ _ zca (@zat _ _ _ _ _ _ _ _ zel (zcr T.l_cell_at G_l_cell_at (hr.mono (by decide)) (@zaa _ _ _ _ _ (pv 0) (@zaa _ _ _ _ _ zae zag (by rfl)) (by rfl))) zae) zae) zae (zar _)) (@zah _ _ _ (@zba _ _ 5 _ _ _ _ zhg.nd rfl (Or.inl rfl) (@zat _ _ _ _ _ _ _ _ zuk (@zd8 _ _ _ _ (@zaa _ _ _ _ _ (@zcz _ _ _ _ _ (@zaa _ _ _ _ _ (@zao _ _ _ _ _ _ _ za1 (pv 1) zae (λ _ _ => rfl)) (@zaa _ _ _ _ _ zh1 (@zaa _ _ _ _ _ (@zcz _ _ _ _ _ (@zaa _ _ _ _ _ (@zao _ _ _ _ _ _ _ za1 (pv 1) zae (λ _ _ => rfl)) zag (by rfl))) (@zaa _ _ _ _ _ (@zcz _ _ _ _ _ (@zaa _ _ _ _ _ (@zcz _ _ _ _ _ (@zaa _ _ _ _ _ zav (@zaa _ _ _ _ _ (@zao _ _ _ _ _ _ _ za1 (pv 1) zae (λ _ _ => rfl)) zag (by rfl)) (by rfl))) (@zaa _ _ _ _ _ (@zcz _ _ _ _ _ (@zaa _ _ _ _ _ zav (@zaa _ _ _ _ _ zae zag (by rfl)) (by rfl))) zag (by rfl)) (by rfl))) zag (by rfl)) (by rfl)) (by rfl)) (by rfl))) zag (by rfl))) (pv 5)) (by rfl) (by first | exact .inl rfl | exact .inr rfl | assumption))) zal) (@zad _ _ _ _ _ (@zba _ _ 6 _ _ _ _ zhg.nd rfl (Or.inl rfl) (@zd8 _ _ _ _ (@zaa _ _ _ _ _ (zcg zdh (by rfl) T.b_list zf7 (@zaa _ _ _ _ _ (pv 5) zag (by rfl))) (@zaa _ _ _ _ _ (zcg zdh (by rfl) T.b_list zf7 (@zaa _ _ _ _ _ (pv 4) zag (by rfl))) zag (by rfl)) (by rfl))) (by rfl) (by first | exact .inl rfl | exact .inr rfl | assumption)) (@zad _ _ _ _ _ (@zba _ _ 7 _ _ _ _ zhg.nd rfl (Or.inl rfl) (zu2 T.cl_TextWalker T.TextWalker_init G_TextWalker_init (hr.mono (by decide)) (@zaa _ _ _ _ _ (@zao _ _ _ _ _ _ _ za1 (pv 6) zae (λ _ _ => rfl)) (@zaa _ _ _ _ _ (@zao _ _ _ _ _ _ _ za1 (pv 6) zae (λ _ _ => rfl)) zag (by rfl)) (by rfl))) (by rfl) (by first | exact .inl rfl | exact .inr rfl | assumption)) (@zad _ _ _ _ _ (@zbk _ _ _ _ _ _ _ _ (@zap _ _ _ _ _ _ _ _ (zq9 hr.units) (pv 6) (@zd8 _ _ _ _ (@zaa _ _ _ _ _ (pv 5) (@zaa _ _ _ _ _ (pv 4) zag (by rfl)) (by rfl))) (zar _)) (@zah _ _ _ (@zan _ _ _ _ zh1)) zal) (@zad _ _ _ _ _ (@zbt _ _ _ _ (zl4 PySem.F.plainAttrs_list PySem.F.slot_list_clear PySem.F.type_list_clear zk8 (@zao _ _ _ _ _ _ _ za1 (pv 6) zae (λ _ _ => rfl))) (by rfl)) (@zad _ _ _ _ _ (@zbt _ _ _ _ (zl4 PySem.F.plainAttrs_list PySem.F.slot_list_clear PySem.F.type_list_clear zk8 (@zao _ _ _ _ _ _ _ za1 (pv 6) zae (λ _ _ => rfl))) (by rfl)) (@zah _ _ _ (@zan _ _ _ _ (zcr T.l_walked G_l_walked (hr.mono (by decide)) (@zaa _ _ _ _ _ (pv 7) (@zaa _ _ _ _ _ (@zao _ _ _ _ _ _ _ za1 (pv 1) zae (λ _ _ => rfl)) (@zaa _ _ _ _ _ (pv 3) (@zaa _ _ _ _ _ (zcr T.l_begin G_l_begin (hr.mono (by decide)) (@zaa _ _ _ _ _ (pv 2) (@zaa _ _ _ _ _ (pv 4) (@zaa _ _ _ _ _ (pv 3) zag (by rfl)) (by rfl)) (by rfl))) zag (by rfl)) (by rfl)) (by rfl)) (by rfl))))))))))))))))), ?_⟩
   refine ⟨_, rfl, a, sc, 0, rfl, ha, hn, by decide, λ c0 => ⟨c0, 8, rfl, by decide, λ nl H1 ns hnl s1 e1 n8 nok => ?_⟩⟩
   have nN := zt5 nok
   refine ⟨_, rfl, _, rfl, a, sc, 1, rfl, s1.seq ha, hn, by decide, λ c1 => ⟨_, _, rfl, rfl, (show (0 : Int) < 7 by decide), _, rfl, nl, _, rfl, SqL.of e1, λ pl hpl => ?_⟩⟩
   have b7 := zdn c1 7 (by decide)
   obtain ⟨m, hm⟩ := Int.eq_ofNat_of_zero_le b7.1
   have m6 : m <= 6 := by omega
   rw [hm, zoi ns m (by omega)]
   have s2 := zak.new (o := .lst ((ns.take m).map V.str)) hpl
   have e2 := zab (H := H1) (a := pl) (o := .lst ((ns.take m).map V.str))
   have en2 := s2 _ _ e1
   generalize upd H1 pl (.lst ((ns.take m).map V.str)) = H2 at s2 e2 en2 ⊢
   have s02 := s1.trans s2
   have c6 := zoi ns 6 (by omega)
   refine ⟨_, rfl, _, rfl, _, rfl, a, _, rfl, s02.seq ha, λ sl hsl => ⟨sl, rfl, ⟨_, SqL.of zab⟩, ?_⟩⟩
   have s3 := zak.new (o := .lst (zew (sc.map V.int) (some 3) (some 23))) hsl
   have e3 := zab (H := H2) (a := sl) (o := .lst (zew (sc.map V.int) (some 3) (some 23)))
   generalize upd H2 sl (.lst (zew (sc.map V.int) (some 3) (some 23))) = H3 at s3 e3 ⊢
   have lc := zvn (sc.map V.int) (some 3) (some 23)
   rw [List.length_map] at lc
   refine λ u hu => zi2 (K := K) (λ i G v => ∃ tp rv, v = .ref tp /\ G tp = some (.tup (RV.items rv)) /\ zqx (ns.take 6) rv) (λ i v G G' s h => let ⟨tp, rv, h1, h2, h3⟩ := h; ⟨tp, rv, h1, s _ _ h2, h3⟩) (xs := zew (sc.map V.int) (some 3) (some 23)) (by omega) (SqL.of e3) hu ?_ ?_
   . intro i x G R hx sG ⟨acc, hacc⟩ hR
     obtain ⟨z, hz, rfl⟩ := List.mem_map.mp (zvw (List.mem_of_getElem? hx))
     refine ⟨_, rfl, _, rfl, _, rfl, nl, _, rfl, SqL.of (sG _ _ (s3 _ _ en2)), λ p hp => ?_⟩
     rw [show ((6 : Int)) = ((6 : Nat) : Int) from rfl, c6]
     refine ⟨z, p, ns.take 6, rfl, SqL.of zab, by rw [List.length_take]; omega, λ tp G' rv htp sG' etp ok => ?_⟩
     have sA := (zak.new (o := .lst ((ns.take 6).map V.str)) hp).trans sG'
     have ntp : tp ≠ u := λ z => by
       rw [z] at htp
       have := zak.new (o := .lst ((ns.take 6).map V.str)) hp _ _ hacc
       rw [htp] at this
       cases this
     exact hR (.ref tp) G' sA ⟨tp, rv, rfl, by rw [zec ntp]; exact etp, ok⟩
   rintro H4 vs s4 e4 lvs hvs
   obtain ⟨rs, rvs, rfl, lrs, okr, itr⟩ := zqf hvs
   rw [List.length_map] at lvs
   have s04 := (s02.trans s3).trans s4
   have en4 := s4 _ _ (s3 _ _ en2)
   have ep4 := s4 _ _ (s3 _ _ e2)
   refine ⟨_, rfl, .inl ⟨rfl, _, SqL.of e4⟩, _, rfl, a, sc, 2, rfl, s04.seq ha, hn, by decide, λ c2 => ⟨_, _, rfl, rfl, (show (0 : Int) < 2147483647 by decide), _, rfl, _, rfl, nl, _, rfl, SqL.of en4, λ p hp => ?_⟩⟩
   rw [show ((6 : Int)) = ((6 : Nat) : Int) from rfl, c6]
   refine ⟨_, p, ns.take 6, rfl, SqL.of zab, by rw [List.length_take]; omega, λ at_ okat => ⟨le2, λ bk hbk => ⟨u, _, _, rfl, rfl, zak.new hbk _ _ (zak.new hp _ _ e4), zbs (by rw [List.length_map]; omega), ?_⟩⟩⟩
   have s25 := (((s3.trans s4).trans (zak.new (o := .lst ((ns.take 6).map V.str)) hp)).trans (zak.new (o := .tup [.str "back", at_]) hbk)).upd (s3.free hu) (o := .lst (rs.map V.ref ++ [V.ref bk]))
   have nbu : bk ≠ u := λ z => by
     have := zak.new (o := .lst ((ns.take 6).map V.str)) hp _ _ e4
     rw [<- z, hbk] at this
     cases this
   have sE : zak (ers u H4) (upd (upd (upd H4 p (.lst ((ns.take 6).map V.str))) bk (.tup [.str "back", at_])) u (.lst (rs.map V.ref ++ [V.ref bk]))) := ((zis.trans (zak.new (o := .lst ((ns.take 6).map V.str)) hp)).trans (zak.new (o := .tup [.str "back", at_]) hbk)).upd (by unfold L2.ers; rw [if_pos rfl])
   have ebk : (upd (upd (upd H4 p (.lst ((ns.take 6).map V.str))) bk (.tup [.str "back", at_])) u (.lst (rs.map V.ref ++ [V.ref bk]))) bk = some (.tup [.str "back", at_]) := by rw [zaf nbu, zab]
   have e5 := zab (H := upd (upd H4 p (.lst ((ns.take 6).map V.str))) bk (.tup [.str "back", at_])) (a := u) (o := .lst (rs.map V.ref ++ [V.ref bk]))
   generalize upd (upd (upd H4 p (.lst ((ns.take 6).map V.str))) bk (.tup [.str "back", at_])) u (.lst (rs.map V.ref ++ [V.ref bk])) = H5 at s25 sE ebk e5 ⊢
   rw [show rs.map V.ref ++ [V.ref bk] = (rs ++ [bk]).map V.ref by rw [List.map_append]; rfl] at e5
   have it5 : ∀ (i : Nat) r rv, (rs ++ [bk])[i]? = some r -> (rvs ++ [RV.back at_])[i]? = some rv -> H5 r = some (.tup (RV.items rv)) := λ i r rv h1 h2 => by
     by_cases hi : i < rs.length
     . rw [List.getElem?_append_left hi] at h1
       rw [List.getElem?_append_left (by omega)] at h2
       exact sE _ _ (itr i r rv h1 h2)
     . have hi2 : i = rs.length := by
         have := (List.getElem?_eq_some_iff.mp h1).1
         rw [List.length_append] at this
         have : i < rs.length + 1 := this
         omega
       rw [hi2, List.getElem?_append_right (Nat.le_refl _), Nat.sub_self] at h1
       rw [hi2, lrs, List.getElem?_append_right (Nat.le_refl _), Nat.sub_self] at h2
       cases h1
       cases h2
       exact ebk
   have ltk : (ns.take m).length <= 6 := by rw [List.length_take]; omega
   refine ⟨_, rfl, a, sc, 1, rfl, (s02.trans s25).seq ha, hn, by decide, λ c3 => ⟨_, rfl, pl, _, rfl, .inl (SqL.of (s25 _ _ e2)), c3, _, rfl, by rw [List.length_map]; omega, λ l6 H6 xs6 hl6 s6 e6 len6 nn6 => ⟨l6, rfl, ⟨_, SqL.of e6⟩, λ al hal => zi2 (K := K) (λ i G v => ∃ z, v = V.int z /\ Val z) (λ _ _ _ _ _ h => h) (xs := xs6.map V.int) (by rw [List.length_map, len6, List.length_map]; omega) (SqL.of e6) hal ?_ ?_⟩⟩⟩
   . intro i x G R hx sG _ hR
     obtain ⟨z, _, _, rfl⟩ := ziy hx
     exact ⟨_, rfl, z, rfl, λ v hv => hR (.int v) G (zak.refl _) ⟨v, rfl, hv⟩⟩
   rintro H7 vals s7 e7 lv7 hv7
   rw [List.length_map, len6, List.length_map] at lv7
   have s57 := s6.trans s7
   have en7 := s57 _ _ (s25 _ _ en2)
   have ep7 := s57 _ _ (s25 _ _ e2)
   have er7 := s57 _ _ e5
   have s07 := (s02.trans s25).trans s57
   have pn : ∀ j : Nat, j < 8 -> ∃ s, atI (ns.map V.str) (j : Int) = some (V.str s) /\ s ∈ ns /\ ns[j]? = some s := λ j j1 => by
     have hj : j < ns.length := by omega
     exact ⟨ns[j], zlb (by omega) (by rw [Int.toNat_natCast]; exact List.getElem?_eq_getElem hj), List.getElem_mem hj, List.getElem?_eq_getElem hj⟩
   obtain ⟨nk, q6, k6, i6⟩ := pn 6 (by decide)
   obtain ⟨n7, q7, k7, i7⟩ := pn 7 (by decide)
   obtain ⟨n0, q0, k0, i0⟩ := pn 0 (by decide)
   have nsub : ∀ {j : Nat} {s : Str}, s ∈ ns.take j -> s ∈ ns := λ h => List.mem_of_mem_take h
   refine ⟨_, rfl, nl, _, _, _, rfl, rfl, SqL.of en7, q6, _, rfl, a, sc, 2, rfl, s07.seq ha, hn, by decide, λ c4 => ⟨_, _, rfl, rfl, (show (0 : Int) < 2 by decide), rfl, _, rfl, pl, _, rfl, .inl ⟨SqL.of ep7, λ qC hqC => ⟨_, rfl, u, _, rfl, .inl ⟨SqL.of (zak.new hqC _ _ er7), λ tr htr => ⟨le4, λ fa hfa => ⟨le1, λ pr hpr => ?_⟩⟩⟩⟩⟩⟩⟩
   have w1 := zak.new (o := .tup ((ns.take m).map V.str)) hqC
   have w2 := zak.new (o := .tup ((rs ++ [bk]).map V.ref)) htr
   have w3 := zak.new (o := .tup [V.str nk, V.bl (decide (V.int (c4 % 2) = V.int 1)), V.ref qC, V.ref tr]) hfa
   have w4 := zak.new (o := .lst [V.ref fa]) hpr
   have w14 := ((w1.trans w2).trans w3).trans w4
   have eqC := w4 _ _ (w3 _ _ (w2 _ _ (zab (H := H7) (a := qC) (o := .tup ((ns.take m).map V.str)))))
   have etr := w4 _ _ (w3 _ _ (zab (H := upd H7 qC (.tup ((ns.take m).map V.str))) (a := tr) (o := .tup ((rs ++ [bk]).map V.ref))))
   have efa := w4 _ _ (zab (H := upd (upd H7 qC (.tup ((ns.take m).map V.str))) tr (.tup ((rs ++ [bk]).map V.ref))) (a := fa) (o := .tup [V.str nk, V.bl (decide (V.int (c4 % 2) = V.int 1)), V.ref qC, V.ref tr]))
   have epr := zab (H := upd (upd (upd H7 qC (.tup ((ns.take m).map V.str))) tr (.tup ((rs ++ [bk]).map V.ref))) fa (.tup [V.str nk, V.bl (decide (V.int (c4 % 2) = V.int 1)), V.ref qC, V.ref tr])) (a := pr) (o := .lst [V.ref fa])
   generalize decide (V.int (c4 % 2) = V.int 1) = fo at w3 w4 w14 eqC etr efa epr ⊢
   generalize upd (upd (upd (upd H7 qC (.tup ((ns.take m).map V.str))) tr (.tup ((rs ++ [bk]).map V.ref))) fa (.tup [V.str nk, V.bl fo, V.ref qC, V.ref tr])) pr (.lst [V.ref fa]) = H8 at w4 w14 eqC etr efa epr ⊢
   have lrr : (rs ++ [bk]).length = (rvs ++ [RV.back at_]).length := by rw [List.length_append, List.length_append]; show rs.length + 1 = rvs.length + 1; omega
   have nT : ∀ s ∈ ns.take 6, K12.Nm s := λ s hs => nN s (nsub hs)
   have okv : ∀ (i : Nat) rv, (rvs ++ [RV.back at_])[i]? = some rv -> rv.Ok := λ i rv h => by
     rcases List.mem_append.mp (List.mem_of_getElem? h) with h | h
     . exact zyn (okr rv h) nT
     . rw [List.mem_singleton.mp h]; exact zve okat nT
   have it8 : ∀ (i : Nat) r rv, (rs ++ [bk])[i]? = some r -> (rvs ++ [RV.back at_])[i]? = some rv -> H8 r = some (.tup (RV.items rv)) := λ i r rv h1 h2 => w14 _ _ (s57 _ _ (it5 i r rv h1 h2))
   have it8' : ∀ (i : Nat) r rv, (rs ++ [bk])[i]? = some r -> (rvs ++ [RV.back at_])[i]? = some rv -> SqT K H8 r (RV.items rv) /\ rv.Ok := λ i r rv h1 h2 => ⟨SqT.of (it8 i r rv h1 h2), okv i rv h2⟩
   have hpN : ∀ s ∈ ns.take m, K12.Nm s := λ s hs => nN s (nsub hs)
   have lrv : rvs.length <= 63 := by omega
   have M1 : Made K H8 nl pl u al pr ns m (rs ++ [bk]) rvs at_ vals [fnOf nk (.bl fo) fa qC tr (ns.take m) (rs ++ [bk]) (rvs ++ [RV.back at_])] (fnOf nk (.bl fo) fa qC tr (ns.take m) (rs ++ [bk]) (rvs ++ [RV.back at_])) :=
     { n8 := n8, nok := nok, m6 := m6, en := w14 _ _ en7, ep := w14 _ _ ep7, er := w14 _ _ er7, ea := w14 _ _ e7, eg := epr, lr := lrr, sm := lrv, it := it8, ok := okr, last := okat, lv := by omega, vv := zvx hv7, ne := by simp, two := by simp,
       fn := λ f hf => by
         rw [List.mem_singleton.mp hf]
         exact ⟨zt7 lrr (SqT.of efa) (SqT.of etr) it8' (SqT.of eqC) hpN (by omega) (by rw [List.length_append]; show rvs.length + 1 <= 100; omega) (zuh rvs at_), zuo lrr (nN nk k6).2 .bl (SqT.of efa) (SqT.of etr) it8' (SqT.of eqC) hpN, _, efa⟩
       nd := by simp, fl := rfl, fs := ⟨.bl fo, fa, qC, tr, by rw [List.getD_eq_getElem?_getD, i6]; rfl⟩ }
   have nmF : (fnOf nk (.bl fo) fa qC tr (ns.take m) (rs ++ [bk]) (rvs ++ [RV.back at_])).name = nk := rfl
   generalize fnOf nk (.bl fo) fa qC tr (ns.take m) (rs ++ [bk]) (rvs ++ [RV.back at_]) = F at M1 nmF
   refine ⟨λ σ G => ∃ (pr : Addr) (fns : List F2.Fd), σ = [some (.ref a), some (.ref nl), some (.ref pl), some (.ref u), some (.ref al), some (.ref pr), none, none] /\ Made K G nl pl u al pr ns m (rs ++ [bk]) rvs at_ vals fns F, ?_, ?_⟩
   . refine ⟨_, rfl, a, sc, 2, rfl, (s07.trans w14).seq ha, hn, by decide, λ c5 => ⟨_, _, rfl, rfl, zrc _ 2 ⟨by decide, by decide⟩, _, _, rfl, rfl, (show (0 : Int) < 2 by decide), rfl, _, rfl, zud (λ _ => ?_) (λ _ => ?_)⟩⟩
     . have en8 := M1.en
       refine ⟨_, rfl, nl, _, _, _, rfl, rfl, SqL.of en8, q7, _, rfl, nl, _, _, _, rfl, rfl, SqL.of en8, q0, le1, λ q1 hq1 => ⟨_, rfl, nl, _, _, _, rfl, rfl, SqL.of (zak.new hq1 _ _ en8), q0, le2, λ o1 ho1 => ⟨le2, λ b1 hb1 => ⟨le2, λ t1 ht1 => ⟨le4, λ f1 hf1 => ⟨le1, λ l1 hl1 => ?_⟩⟩⟩⟩⟩⟩
       have x1 := zak.new (o := .tup [V.str n0]) hq1
       have x2 := zak.new (o := .tup [V.str "out", V.str n0]) ho1
       have x3 := zak.new (o := .tup [V.str "back", V.int 5]) hb1
       have x4 := zak.new (o := .tup [V.ref o1, V.ref b1]) ht1
       have x5 := zak.new (o := .tup [V.str n7, V.bl false, V.ref q1, V.ref t1]) hf1
       have x6 := zak.new (o := .lst [V.ref f1]) hl1
       have x16 := ((((x1.trans x2).trans x3).trans x4).trans x5).trans x6
       have y1 := x6 _ _ (x5 _ _ (x4 _ _ (x3 _ _ (x2 _ _ (zab (H := H8) (a := q1) (o := .tup [V.str n0]))))))
       have y2 := x6 _ _ (x5 _ _ (x4 _ _ (x3 _ _ (zab (H := upd H8 q1 (.tup [V.str n0])) (a := o1) (o := .tup [V.str "out", V.str n0])))))
       have y3 := x6 _ _ (x5 _ _ (x4 _ _ (zab (H := upd (upd H8 q1 (.tup [V.str n0])) o1 (.tup [V.str "out", V.str n0])) (a := b1) (o := .tup [V.str "back", V.int 5]))))
       have y4 := x6 _ _ (x5 _ _ (zab (H := upd (upd (upd H8 q1 (.tup [V.str n0])) o1 (.tup [V.str "out", V.str n0])) b1 (.tup [V.str "back", V.int 5])) (a := t1) (o := .tup [V.ref o1, V.ref b1])))
       have y5 := x6 _ _ (zab (H := upd (upd (upd (upd H8 q1 (.tup [V.str n0])) o1 (.tup [V.str "out", V.str n0])) b1 (.tup [V.str "back", V.int 5])) t1 (.tup [V.ref o1, V.ref b1])) (a := f1) (o := .tup [V.str n7, V.bl false, V.ref q1, V.ref t1]))
       have y6 := zab (H := upd (upd (upd (upd (upd H8 q1 (.tup [V.str n0])) o1 (.tup [V.str "out", V.str n0])) b1 (.tup [V.str "back", V.int 5])) t1 (.tup [V.ref o1, V.ref b1])) f1 (.tup [V.str n7, V.bl false, V.ref q1, V.ref t1])) (a := l1) (o := .lst [V.ref f1])
       generalize upd (upd (upd (upd (upd (upd H8 q1 (.tup [V.str n0])) o1 (.tup [V.str "out", V.str n0])) b1 (.tup [V.str "back", V.int 5])) t1 (.tup [V.ref o1, V.ref b1])) f1 (.tup [V.str n7, V.bl false, V.ref q1, V.ref t1])) l1 (.lst [V.ref f1]) = H9 at x6 x16 y1 y2 y3 y4 y5 y6 ⊢
       refine ⟨_, rfl, l1, pr, _, _, rfl, rfl, y6, x16 _ _ M1.eg, (by show 1 + 1 <= sizeLine; decide), λ p2 hp2 => ?_⟩
       have z1 := zak.new (o := .lst ([V.ref f1] ++ [F].map λ f => V.ref f.fa)) hp2
       have it9 : ∀ (i : Nat) r rv, [o1, b1][i]? = some r -> [RV.out (.str n0), RV.back (.int 5)][i]? = some rv -> SqT K (upd H9 p2 (.lst ([V.ref f1] ++ [F].map λ f => V.ref f.fa))) r (RV.items rv) /\ rv.Ok := λ i r rv h1 h2 => by
         match i, h1, h2 with
         | 0, h1, h2 =>
           cases h1; cases h2
           exact ⟨SqT.of (z1 _ _ y2), ⟨λ v hv => by rw [List.mem_singleton.mp hv]; exact .inl ⟨n0, rfl, nN n0 k0⟩, λ _ _ _ _ z => by cases z⟩⟩
         | 1, h1, h2 =>
           cases h1; cases h2
           exact ⟨SqT.of (z1 _ _ y3), ⟨λ v hv => by rw [List.mem_singleton.mp hv]; exact .inr ⟨5, rfl⟩, λ _ _ _ _ z => by cases z⟩⟩
         | (_ + 2), h1, _ => cases h1
       have hp1 : ∀ s ∈ [n0], K12.Nm s := λ s hs => by rw [List.mem_singleton.mp hs]; exact nN n0 k0
       exact ⟨p2, [fnOf n7 (.bl false) f1 q1 t1 [n0] [o1, b1] [RV.out (.str n0), RV.back (.int 5)], F], rfl, M1.add (x16.trans z1) zab ⟨zt7 rfl (SqT.of (z1 _ _ y5)) (SqT.of (z1 _ _ y4)) it9 (SqT.of (z1 _ _ y1)) hp1 (by show 1 <= 100; decide) (by show 2 <= 100; decide) (zxd _ _), zuo (ps := [n0]) (rs := [o1, b1]) (rvs := [RV.out (.str n0), RV.back (.int 5)]) rfl (nN n7 k7).2 .bl (SqT.of (z1 _ _ y5)) (SqT.of (z1 _ _ y4)) it9 (SqT.of (z1 _ _ y1)) hp1, _, z1 _ _ y5⟩ (by rw [nmF]; exact zsy nok.nd i7 i6 (by decide))⟩
     . exact ⟨pr, [F], rfl, M1⟩
   clear w1 w2 w3 w4 w14 eqC etr efa epr it8 it8' M1
   rintro σ G ⟨pr, fns, rfl, M⟩
   refine ⟨_, rfl, pr, _, rfl, .inl (SqL.of M.eg), λ l1 hl1 => ⟨_, rfl, al, _, rfl, .inl (SqL.of (zak.new hl1 _ _ M.ea)), λ l2 hl2 => ⟨le2, λ lh hlh => ?_⟩⟩⟩
   have g1 := zak.new (o := .lst (fns.map λ f => V.ref f.fa)) hl1
   have g2 := zak.new (o := .lst vals) hl2
   have g3 := zak.new (o := .lst [V.ref l1, V.ref l2]) hlh
   have g13 := (g1.trans g2).trans g3
   have n12 : l2 ≠ l1 := λ z => by rw [z, zab] at hl2; cases hl2
   have Gl2 : G l2 = none := g1.free hl2
   have nlh1 : lh ≠ l1 := λ z => by
     have := g2 _ _ (zab (H := G) (a := l1) (o := .lst (fns.map λ f => V.ref f.fa)))
     rw [z, this] at hlh
     cases hlh
   have nlh2 : lh ≠ l2 := λ z => by rw [z, zab] at hlh; cases hlh
   have el1 := g3 _ _ (g2 _ _ (zab (H := G) (a := l1) (o := .lst (fns.map λ f => V.ref f.fa))))
   have el2 := g3 _ _ (zab (H := upd G l1 (.lst (fns.map λ f => V.ref f.fa))) (a := l2) (o := .lst vals))
   have elh := zab (H := upd (upd G l1 (.lst (fns.map λ f => V.ref f.fa))) l2 (.lst vals)) (a := lh) (o := .lst [V.ref l1, V.ref l2])
   generalize upd (upd (upd G l1 (.lst (fns.map λ f => V.ref f.fa))) l2 (.lst vals)) lh (.lst [V.ref l1, V.ref l2]) = G3 at g3 g13 el1 el2 elh ⊢
   obtain ⟨fo', fa', qC', tr', hFe⟩ := M.fs
   have hps : F.ps = ns.take m := by rw [hFe]; rfl
   have hnm : F.name = nk := nmF
   have hnms : ∀ x, x ∈ F2.nms F <-> x ∈ F.ps \/ x ∈ ze6 (rvs ++ [RV.back at_]) := λ x => by rw [hFe]; exact zx0 lrr
   have hnl' : (F2.nms F).length <= 6 + 3 * 64 := by
     rw [hFe]
     refine Nat.le_trans (zp1 lrr) ?_
     rw [List.length_append]
     show (ns.take m).length + 3 * (rvs.length + 1) <= _
     omega
   refine ⟨_, rfl, lh, _, _, _, rfl, rfl, SqL.of elh, rfl, _, rfl, lh, _, _, _, rfl, rfl, SqL.of elh, rfl, λ x dx hx hdx ndx => ?_⟩
   have sX := zsj (o1 := HO.own x) (o2 := HO.ins t.c_TextWalker dx []) hx hdx
   refine ⟨x, dx, l1, l2, fns, F, vals, rfl, zab, SqL.of (sX _ _ el1), M.ne, by have := M.two; omega, λ f hf => (M.fn f hf).1.mono (g13.trans sX), M.nd, M.fl, SqL.of (sX _ _ el2), by have := M.lv; omega, by omega, by rw [hps]; omega, λ Hb w f H' hw sb wa fl fn row kv => ⟨rfl, ?_⟩⟩
   have sGb := g13.trans (sX.trans sb)
   have el1b := sb _ _ (sX _ _ el1)
   have el2b := sb _ _ (sX _ _ el2)
   have elhb := sb _ _ (sX _ _ elh)
   subst hw
   clear sX sb hx hdx
   refine ⟨_, rfl, _, rfl, _, rfl, le2, λ lc hlc => ?_⟩
   have h8 := wa.grow (zak.new (o := .lst [V.ref pr, V.ref al]) hlc)
   have g8 := zb3 (H2 := upd H' lc (.lst [V.ref pr, V.ref al])) wa.b
   have elc := zab (H := H') (a := lc) (o := .lst [V.ref pr, V.ref al])
   generalize upd H' lc (.lst [V.ref pr, V.ref al]) = H8' at h8 g8 elc ⊢
   generalize gr Hb H' H8' = B8 at h8 g8
   have sG8 := sGb.trans g8
   have el1B := g8 _ _ el1b
   have el2B := g8 _ _ el2b
   have elhB := g8 _ _ elhb
   have fl8 := fl.mono g8
   have tw : Bg.Twin K H8' 5 (.ref lh) (.ref lc) := Bg.Twin.lst (SqL.of (h8.b _ _ elhB)) (SqL.of elc) (.cons (Bg.Twin.lst (n := 3) (SqL.of (h8.b _ _ el1B)) (SqL.of (h8.b _ _ (sG8 _ _ M.eg))) (Bg.TwinA.of (Bg.HasA.of λ v hv => by
       obtain ⟨f, hf, rfl⟩ := List.mem_map.mp hv
       exact (M.fn f hf).2.1.mono (sG8.trans h8.b)))) (.cons (Bg.Twin.lst (n := 3) (SqL.of (h8.b _ _ el2B)) (SqL.of (h8.b _ _ (sG8 _ _ M.ea))) (Bg.TwinA.of (Bg.HasA.of λ v hv => by
       obtain ⟨z, rfl, _⟩ := M.vv v hv
       exact .int))) .nil))
   obtain ⟨dd, ld, d1, d2⟩ := tw
   refine zjm (by decide) ld d1 d2 ⟨_, rfl, zco Bool.false_ne_true ?_⟩
   refine ⟨_, rfl, lh, _, _, _, rfl, rfl, SqL.of (h8.b _ _ elhB), rfl, .inl ⟨rfl, _, SqL.of (h8.b _ _ el1B)⟩, l1, _, rfl, rfl, h8.b _ _ el1B, ?_⟩
   have h9 := h8.put (o' := .lst []) el1B
   have fl9 : F2.FlowsAt K t.c_Flows (upd B8 l1 (.lst [])) w.fl fns := zlz fl8 el1B (by
       intro z
       exact M.ne (List.map_eq_nil_iff.mp z)) (λ v hv => by
       obtain ⟨f, hf, rfl⟩ := List.mem_map.mp hv
       refine ⟨(λ s z => by cases z), (λ z => by cases z), λ p ns' z z2 => ?_⟩
       cases z
       obtain ⟨_, _, xs, h3⟩ := M.fn f hf
       rw [sG8 _ _ h3] at z2
       cases ns' with
       | nil => cases z2
       | cons _ _ => cases z2)
   have sG9 : zak G (upd B8 l1 (.lst [])) := sG8.upd hl1
   have el2B9 : upd B8 l1 (.lst []) l2 = some (.lst vals) := by rw [zaf n12]; exact el2B
   have elhB9 : upd B8 l1 (.lst []) lh = some (.lst [V.ref l1, V.ref l2]) := by rw [zaf nlh1]; exact elhB
   generalize upd B8 l1 (.lst []) = B9 at h9 fl9 sG9 el2B9 elhB9
   generalize upd H8' l1 (.lst []) = H9' at h9 ⊢
   refine ⟨_, rfl, lh, _, _, _, rfl, rfl, SqL.of (h9.b _ _ elhB9), rfl, .inl ⟨rfl, _, SqL.of (h9.b _ _ el2B9)⟩, l2, _, rfl, rfl, h9.b _ _ el2B9, ?_⟩
   have h10 := h9.put (o' := .lst []) el2B9
   have fl10 : F2.FlowsAt K t.c_Flows (upd B9 l2 (.lst [])) w.fl fns := by
     by_cases hv : vals = []
     . rw [hv] at el2B9
       exact fl9.mono (noop el2B9)
     . exact zlz fl9 el2B9 hv (λ v hv => by
         obtain ⟨z, rfl, _⟩ := M.vv v hv
         exact ⟨(λ s z => by cases z), (λ z => by cases z), (λ p ns' z => by cases z)⟩)
   have sG10 : zak G (upd B9 l2 (.lst [])) := sG9.upd Gl2
   generalize upd B9 l2 (.lst []) = B10 at h10 fl10 sG10
   generalize upd H9' l2 (.lst []) = H10 at h10 ⊢
   have sH := sG10.trans h10.b
   have lrs' : (rs ++ [bk]).length <= 64 := by
     rw [List.length_append]
     show rs.length + 1 <= 64
     omega
   refine ⟨_, rfl, _, rfl, nl, _, _, _, rfl, rfl, SqL.of (sH _ _ M.en), q6, _, rfl, _, rfl, _, rfl, _, rfl, pl, al, u, ns.take m, vals, rs ++ [bk], rvs ++ [RV.back at_], rfl, SqL.of (sH _ _ M.ep), SqL.of (sH _ _ M.ea), SqL.of (sH _ _ M.er), lrr, λ i r rv h1 h2 => ⟨SqT.of (sH _ _ (M.it i r rv h1 h2)), zwt (okv i rv h2)⟩, by omega, by omega, λ d H11 hd s11 e11 => ?_⟩
   obtain ⟨cp, sy⟩ := ztb (f := f) (rvs := rvs ++ [RV.back at_]) kv hnms M.vv
   rw [hps] at cp sy
   have fnk : f.fn = nk := fn.trans hnm
   have st : Straight K B10 F (ze6 (rvs ++ [RV.back at_])) rvs at_ := by
     rw [hFe]
     exact znl lrr (λ i r rv h1 h2 => SqT.of (sG10 _ _ (M.it i r rv h1 h2))) M.ok M.last (by omega)
   have hrs : (F.rs.map λ r => V.ref r.r) = (rs ++ [bk]).map V.ref := by
     rw [hFe]
     show ((rrs _ _).map (·.w)).map _ = _
     rw [List.map_map]
     exact zox lrr
   have lk1 : f.kvs.length <= 1000 := by
     rw [kv]
     unfold znw
     refine Nat.le_trans (zes (λ p : Str × V => ((Sum.inr p.1 : Key), p.2)) _ _) ?_
     have l1 : (((F2.nms F).map λ n => ((Sum.inr n : Key), V.int 0)).foldl (λ acc kv => zbu acc kv.1 kv.2) []).length <= ([] : List (Key × V)).length + ((F2.nms F).map λ n => ((Sum.inr n : Key), V.int 0)).length := zes (λ kv : Key × V => kv) ((F2.nms F).map λ n => ((Sum.inr n : Key), V.int 0)) []
     refine Nat.le_trans (Nat.add_le_add_right l1 _) ?_
     rw [List.length_map, List.length_zip, hps]
     show 0 + (F2.nms F).length + _ <= 1000
     omega
   have lk2 : (znu (rvs ++ [RV.back at_]) (ns.take m) vals).length <= 1000 := by
     unfold znu
     refine Nat.le_trans (zes (λ p : Str × V => ((Sum.inr p.1 : Key), p.2)) _ _) ?_
     have l1 := ziq (rvs ++ [RV.back at_]) []
     rw [List.length_append] at l1
     simp only [List.length_nil, List.length_cons] at l1
     rw [List.length_zip]
     omega
   have hmem : F ∈ fns := List.mem_of_getElem? M.fl
   exact ⟨B10, _, w, f, fns, F, d, _, u, ze6 (rvs ++ [RV.back at_]), rvs, at_, (show [V.ref w.a, V.str nk, V.ref u, V.ref d] = [.ref w.a, .str f.fn, .ref u, .ref d] by rw [fnk]), ⟨h10.grow s11, fl10, zb3 h10.b, h10.b.free hd, zo5 hd e11, hmem, fn.symm, by rw [fnk]; exact (nN nk k6).2⟩, row, cp, sy, by rw [hrs]; exact SqL.of (sG10 _ _ M.er), st, lk1, lk2, λ H' => q H'⟩
end
end K22
namespace K22
open PySem L2
set_option maxHeartbeats 4000000 in
theorem txt_mk {K : W.Frag} {h : Heap} {mg : Str -> Option Value} (X : K.In h) (G : h.Ns mainGlobals mg)
   {C_Flows : Addr} (aC_Flows : PySem.W.nsIn K mainGlobals "Flows" = some (some (.ref C_Flows))) (pg_Flows : PySem.W.plainGet K C_Flows Str.empty = true) (hd_Flows : PySem.W.hasDictIn K C_Flows = true) (po_Flows : PySem.W.plainOver K C_Flows = true) (sa_Flows : PySem.W.findIn K (.ref C_Flows) "__setattr__" = some (some (.builtin "object.__setattr__"))) (mk_Flows : PySem.W.makesIn K C_Flows = true) (kc_Flows : PySem.W.keepIn K (.ref C_Flows) = true)
   (n_Flows_last : PySem.W.findIn K (.ref C_Flows) "last" = some none)
   (n_Flows_number_of : PySem.W.findIn K (.ref C_Flows) "number_of" = some none)
   (n_Flows_folded_of : PySem.W.findIn K (.ref C_Flows) "folded_of" = some none)
   (n_Flows_params_of : PySem.W.findIn K (.ref C_Flows) "params_of" = some none)
   (n_Flows_rows_of : PySem.W.findIn K (.ref C_Flows) "rows_of" = some none)
   (n_Flows_names_in : PySem.W.findIn K (.ref C_Flows) "names_in" = some none)
   (n_Flows_ways_in : PySem.W.findIn K (.ref C_Flows) "ways_in" = some none)
   {C_Walker : Addr} (aC_Walker : PySem.W.nsIn K mainGlobals "Walker" = some (some (.ref C_Walker))) (pg_Walker : PySem.W.plainGet K C_Walker Str.empty = true) (hd_Walker : PySem.W.hasDictIn K C_Walker = true) (po_Walker : PySem.W.plainOver K C_Walker = true) (sa_Walker : PySem.W.findIn K (.ref C_Walker) "__setattr__" = some (some (.builtin "object.__setattr__"))) (mk_Walker : PySem.W.makesIn K C_Walker = true) (kc_Walker : PySem.W.keepIn K (.ref C_Walker) = true)
   {C_TextWalker : Addr} (aC_TextWalker : PySem.W.nsIn K mainGlobals "TextWalker" = some (some (.ref C_TextWalker))) (pg_TextWalker : PySem.W.plainGet K C_TextWalker Str.empty = true) (hd_TextWalker : PySem.W.hasDictIn K C_TextWalker = true) (po_TextWalker : PySem.W.plainOver K C_TextWalker = true) (sa_TextWalker : PySem.W.findIn K (.ref C_TextWalker) "__setattr__" = some (some (.builtin "object.__setattr__"))) (mk_TextWalker : PySem.W.makesIn K C_TextWalker = true) (kc_TextWalker : PySem.W.keepIn K (.ref C_TextWalker) = true)
   (n_TextWalker_flows : PySem.W.findIn K (.ref C_TextWalker) "flows" = some none)
   (n_TextWalker_stack : PySem.W.findIn K (.ref C_TextWalker) "stack" = some none)
   (n_TextWalker_outcome : PySem.W.findIn K (.ref C_TextWalker) "outcome" = some none)
   (n_TextWalker_sendings : PySem.W.findIn K (.ref C_TextWalker) "sendings" = some none)
   (n_TextWalker_contents : PySem.W.findIn K (.ref C_TextWalker) "contents" = some none)
   (n_TextWalker_records : PySem.W.findIn K (.ref C_TextWalker) "records" = some none)
   {C_TextFrame : Addr} (aC_TextFrame : PySem.W.nsIn K mainGlobals "TextFrame" = some (some (.ref C_TextFrame))) (pg_TextFrame : PySem.W.plainGet K C_TextFrame Str.empty = true) (hd_TextFrame : PySem.W.hasDictIn K C_TextFrame = true) (po_TextFrame : PySem.W.plainOver K C_TextFrame = true) (sa_TextFrame : PySem.W.findIn K (.ref C_TextFrame) "__setattr__" = some (some (.builtin "object.__setattr__"))) (mk_TextFrame : PySem.W.makesIn K C_TextFrame = true) (kc_TextFrame : PySem.W.keepIn K (.ref C_TextFrame) = true)
   (n_TextFrame_function : PySem.W.findIn K (.ref C_TextFrame) "function" = some none)
   (n_TextFrame_row : PySem.W.findIn K (.ref C_TextFrame) "row" = some none)
   (n_TextFrame_named : PySem.W.findIn K (.ref C_TextFrame) "named" = some none)
   {f0 : Addr} {oc0 kV0 dc0 pm0 cd0 ct0 : Value} {od0 an0 : Option Addr} {sl0 : Array (Option Value)} (a0 : PySem.W.nsIn K mainGlobals "names_of" = some (some (.ref f0))) (l0 : K.lookup f0 = some ⟨oc0, od0, .func (PySem.W.fnOf "names_of" "names_of" (zaj zdk) (zai zdk) (zac zdk) .none kV0 dc0 pm0 an0 cd0 ct0), sl0⟩) (c0 : PySem.W.codeIn K cd0 "names_of" = true) (k0 : PySem.W.keepIn K (.ref f0) = true)
   {f1 : Addr} {oc1 kV1 dc1 pm1 cd1 ct1 : Value} {od1 an1 : Option Addr} {sl1 : Array (Option Value)} (a1 : PySem.W.nsIn K mainGlobals "reads" = some (some (.ref f1))) (l1 : K.lookup f1 = some ⟨oc1, od1, .func (PySem.W.fnOf "reads" "reads" (zaj zf4) (zai zf4) (zac zf4) .none kV1 dc1 pm1 an1 cd1 ct1), sl1⟩) (c1 : PySem.W.codeIn K cd1 "reads" = true) (k1 : PySem.W.keepIn K (.ref f1) = true)
   {f2 : Addr} {oc2 kV2 dc2 pm2 cd2 ct2 : Value} {od2 an2 : Option Addr} {sl2 : Array (Option Value)} (a2 : PySem.W.nsIn K mainGlobals "gives" = some (some (.ref f2))) (l2 : K.lookup f2 = some ⟨oc2, od2, .func (PySem.W.fnOf "gives" "gives" (zaj zgf) (zai zgf) (zac zgf) .none kV2 dc2 pm2 an2 cd2 ct2), sl2⟩) (c2 : PySem.W.codeIn K cd2 "gives" = true) (k2 : PySem.W.keepIn K (.ref f2) = true)
   {f3 : Addr} {oc3 kV3 dc3 pm3 cd3 ct3 : Value} {od3 an3 : Option Addr} {sl3 : Array (Option Value)} (a3 : PySem.W.nsIn K mainGlobals "atoms_of" = some (some (.ref f3))) (l3 : K.lookup f3 = some ⟨oc3, od3, .func (PySem.W.fnOf "atoms_of" "atoms_of" (zaj zdf) (zai zdf) (zac zdf) .none kV3 dc3 pm3 an3 cd3 ct3), sl3⟩) (c3 : PySem.W.codeIn K cd3 "atoms_of" = true) (k3 : PySem.W.keepIn K (.ref f3) = true)
   {f4 : Addr} {oc4 kV4 dc4 pm4 cd4 ct4 : Value} {od4 an4 : Option Addr} {sl4 : Array (Option Value)} (a4 : PySem.W.nsIn K mainGlobals "each_once" = some (some (.ref f4))) (l4 : K.lookup f4 = some ⟨oc4, od4, .func (PySem.W.fnOf "each_once" "each_once" (zaj zc5) (zai zc5) (zac zc5) .none kV4 dc4 pm4 an4 cd4 ct4), sl4⟩) (c4 : PySem.W.codeIn K cd4 "each_once" = true) (k4 : PySem.W.keepIn K (.ref f4) = true)
   {f5 : Addr} {oc5 kV5 dc5 pm5 cd5 ct5 : Value} {od5 an5 : Option Addr} {sl5 : Array (Option Value)} (a5 : PySem.W.nsIn K mainGlobals "ways" = some (some (.ref f5))) (l5 : K.lookup f5 = some ⟨oc5, od5, .func (PySem.W.fnOf "ways" "ways" (zaj zh9) (zai zh9) (zac zh9) .none kV5 dc5 pm5 an5 cd5 ct5), sl5⟩) (c5 : PySem.W.codeIn K cd5 "ways" = true) (k5 : PySem.W.keepIn K (.ref f5) = true)
   {f6 : Addr} {oc6 kV6 dc6 pm6 cd6 ct6 : Value} {od6 an6 : Option Addr} {sl6 : Array (Option Value)} (a6 : PySem.W.nsIn K mainGlobals "begins_of" = some (some (.ref f6))) (l6 : K.lookup f6 = some ⟨oc6, od6, .func (PySem.W.fnOf "begins_of" "begins_of" (zaj zc6) (zai zc6) (zac zc6) .none kV6 dc6 pm6 an6 cd6 ct6), sl6⟩) (c6 : PySem.W.codeIn K cd6 "begins_of" = true) (k6 : PySem.W.keepIn K (.ref f6) = true)
   {f7 : Addr} {oc7 kV7 dc7 pm7 cd7 ct7 : Value} {od7 an7 : Option Addr} {sl7 : Array (Option Value)} (a7 : PySem.W.nsIn K mainGlobals "firsts_behind" = some (some (.ref f7))) (l7 : K.lookup f7 = some ⟨oc7, od7, .func (PySem.W.fnOf "firsts_behind" "firsts_behind" (zaj zb2) (zai zb2) (zac zb2) .none kV7 dc7 pm7 an7 cd7 ct7), sl7⟩) (c7 : PySem.W.codeIn K cd7 "firsts_behind" = true) (k7 : PySem.W.keepIn K (.ref f7) = true)
   {f8 : Addr} {oc8 kV8 dc8 pm8 cd8 ct8 : Value} {od8 an8 : Option Addr} {sl8 : Array (Option Value)} (a8 : PySem.W.findIn K (.ref C_Flows) "__init__" = some (some (.ref f8))) (i8 : PySem.W.isFn K (.ref f8) = true) (l8 : K.lookup f8 = some ⟨oc8, od8, .func (PySem.W.fnOf "__init__" "Flows.__init__" (zaj zcs) (zai zcs) (zac zcs) .none kV8 dc8 pm8 an8 cd8 ct8), sl8⟩) (c8 : PySem.W.codeIn K cd8 "Flows.__init__" = true) (k8 : PySem.W.keepIn K (.ref f8) = true)
   {f9 : Addr} {oc9 kV9 dc9 pm9 cd9 ct9 : Value} {od9 an9 : Option Addr} {sl9 : Array (Option Value)} (a9 : PySem.W.nsIn K mainGlobals "value" = some (some (.ref f9))) (l9 : K.lookup f9 = some ⟨oc9, od9, .func (PySem.W.fnOf "value" "value" (zaj zf3) (zai zf3) (zac zf3) .none kV9 dc9 pm9 an9 cd9 ct9), sl9⟩) (c9 : PySem.W.codeIn K cd9 "value" = true) (k9 : PySem.W.keepIn K (.ref f9) = true)
   (ga10 : PySem.W.specialIn K (.ref C_Walker) "__getattribute__" = some (some (.builtin "type.__getattribute__"))) (rd10 : PySem.W.readsIn K C_Walker (.type "type") = true)
   {f10 : Addr} {oc10 kV10 dc10 pm10 cd10 ct10 : Value} {od10 an10 : Option Addr} {sl10 : Array (Option Value)} (a10 : PySem.W.findIn K (.ref C_Walker) "__init__" = some (some (.ref f10))) (i10 : PySem.W.isFn K (.ref f10) = true) (l10 : K.lookup f10 = some ⟨oc10, od10, .func (PySem.W.fnOf "__init__" "Walker.__init__" (zaj zcd) (zai zcd) (zac zcd) .none kV10 dc10 pm10 an10 cd10 ct10), sl10⟩) (c10 : PySem.W.codeIn K cd10 "Walker.__init__" = true) (k10 : PySem.W.keepIn K (.ref f10) = true)
   (fc10 : PySem.W.findCls K (.ref C_Walker) (.type "type") "__init__" = some (.val (.ref f10)))
   {f11 : Addr} {oc11 kV11 dc11 pm11 cd11 ct11 : Value} {od11 an11 : Option Addr} {sl11 : Array (Option Value)} (a11 : PySem.W.findIn K (.ref C_TextWalker) "ended" = some (some (.ref f11))) (i11 : PySem.W.isFn K (.ref f11) = true) (l11 : K.lookup f11 = some ⟨oc11, od11, .func (PySem.W.fnOf "ended" "Walker.ended" (zaj zb5) (zai zb5) (zac zb5) .none kV11 dc11 pm11 an11 cd11 ct11), sl11⟩) (c11 : PySem.W.codeIn K cd11 "Walker.ended" = true) (k11 : PySem.W.keepIn K (.ref f11) = true)
   {f12 : Addr} {oc12 kV12 dc12 pm12 cd12 ct12 : Value} {od12 an12 : Option Addr} {sl12 : Array (Option Value)} (a12 : PySem.W.findIn K (.ref C_TextWalker) "answer" = some (some (.ref f12))) (i12 : PySem.W.isFn K (.ref f12) = true) (l12 : K.lookup f12 = some ⟨oc12, od12, .func (PySem.W.fnOf "answer" "Walker.answer" (zaj zb0) (zai zb0) (zac zb0) .none kV12 dc12 pm12 an12 cd12 ct12), sl12⟩) (c12 : PySem.W.codeIn K cd12 "Walker.answer" = true) (k12 : PySem.W.keepIn K (.ref f12) = true)
   {f13 : Addr} {oc13 kV13 dc13 pm13 cd13 ct13 : Value} {od13 an13 : Option Addr} {sl13 : Array (Option Value)} (a13 : PySem.W.findIn K (.ref C_TextWalker) "sent" = some (some (.ref f13))) (i13 : PySem.W.isFn K (.ref f13) = true) (l13 : K.lookup f13 = some ⟨oc13, od13, .func (PySem.W.fnOf "sent" "Walker.sent" (zaj zce) (zai zce) (zac zce) .none kV13 dc13 pm13 an13 cd13 ct13), sl13⟩) (c13 : PySem.W.codeIn K cd13 "Walker.sent" = true) (k13 : PySem.W.keepIn K (.ref f13) = true)
   {f14 : Addr} {oc14 kV14 dc14 pm14 cd14 ct14 : Value} {od14 an14 : Option Addr} {sl14 : Array (Option Value)} (a14 : PySem.W.findIn K (.ref C_TextWalker) "field" = some (some (.ref f14))) (i14 : PySem.W.isFn K (.ref f14) = true) (l14 : K.lookup f14 = some ⟨oc14, od14, .func (PySem.W.fnOf "field" "Walker.field" (zaj zb7) (zai zb7) (zac zb7) .none kV14 dc14 pm14 an14 cd14 ct14), sl14⟩) (c14 : PySem.W.codeIn K cd14 "Walker.field" = true) (k14 : PySem.W.keepIn K (.ref f14) = true)
   {f15 : Addr} {oc15 kV15 dc15 pm15 cd15 ct15 : Value} {od15 an15 : Option Addr} {sl15 : Array (Option Value)} (a15 : PySem.W.findIn K (.ref C_TextWalker) "frames" = some (some (.ref f15))) (i15 : PySem.W.isFn K (.ref f15) = true) (l15 : K.lookup f15 = some ⟨oc15, od15, .func (PySem.W.fnOf "frames" "Walker.frames" (zaj zb1) (zai zb1) (zac zb1) .none kV15 dc15 pm15 an15 cd15 ct15), sl15⟩) (c15 : PySem.W.codeIn K cd15 "Walker.frames" = true) (k15 : PySem.W.keepIn K (.ref f15) = true)
   {f16 : Addr} {oc16 kV16 dc16 pm16 cd16 ct16 : Value} {od16 an16 : Option Addr} {sl16 : Array (Option Value)} (a16 : PySem.W.findIn K (.ref C_TextWalker) "told" = some (some (.ref f16))) (i16 : PySem.W.isFn K (.ref f16) = true) (l16 : K.lookup f16 = some ⟨oc16, od16, .func (PySem.W.fnOf "told" "Walker.told" (zaj zci) (zai zci) (zac zci) .none kV16 dc16 pm16 an16 cd16 ct16), sl16⟩) (c16 : PySem.W.codeIn K cd16 "Walker.told" = true) (k16 : PySem.W.keepIn K (.ref f16) = true)
   {f17 : Addr} {oc17 kV17 dc17 pm17 cd17 ct17 : Value} {od17 an17 : Option Addr} {sl17 : Array (Option Value)} (a17 : PySem.W.findIn K (.ref C_TextWalker) "step" = some (some (.ref f17))) (i17 : PySem.W.isFn K (.ref f17) = true) (l17 : K.lookup f17 = some ⟨oc17, od17, .func (PySem.W.fnOf "step" "Walker.step" (zaj zck) (zai zck) (zac zck) .none kV17 dc17 pm17 an17 cd17 ct17), sl17⟩) (c17 : PySem.W.codeIn K cd17 "Walker.step" = true) (k17 : PySem.W.keepIn K (.ref f17) = true)
   {f18 : Addr} {oc18 kV18 dc18 pm18 cd18 ct18 : Value} {od18 an18 : Option Addr} {sl18 : Array (Option Value)} (a18 : PySem.W.findIn K (.ref C_TextWalker) "ask_for_level" = some (some (.ref f18))) (i18 : PySem.W.isFn K (.ref f18) = true) (l18 : K.lookup f18 = some ⟨oc18, od18, .func (PySem.W.fnOf "ask_for_level" "Walker.ask_for_level" (zaj zau) (zai zau) (zac zau) .none kV18 dc18 pm18 an18 cd18 ct18), sl18⟩) (c18 : PySem.W.codeIn K cd18 "Walker.ask_for_level" = true) (k18 : PySem.W.keepIn K (.ref f18) = true)
   {f19 : Addr} {oc19 kV19 dc19 pm19 cd19 ct19 : Value} {od19 an19 : Option Addr} {sl19 : Array (Option Value)} (a19 : PySem.W.findIn K (.ref C_TextWalker) "ask_for_name" = some (some (.ref f19))) (i19 : PySem.W.isFn K (.ref f19) = true) (l19 : K.lookup f19 = some ⟨oc19, od19, .func (PySem.W.fnOf "ask_for_name" "Walker.ask_for_name" (zaj za0) (zai za0) (zac za0) .none kV19 dc19 pm19 an19 cd19 ct19), sl19⟩) (c19 : PySem.W.codeIn K cd19 "Walker.ask_for_name" = true) (k19 : PySem.W.keepIn K (.ref f19) = true)
   {f20 : Addr} {oc20 kV20 dc20 pm20 cd20 ct20 : Value} {od20 an20 : Option Addr} {sl20 : Array (Option Value)} (a20 : PySem.W.findIn K (.ref C_TextWalker) "names_at" = some (some (.ref f20))) (i20 : PySem.W.isFn K (.ref f20) = true) (l20 : K.lookup f20 = some ⟨oc20, od20, .func (PySem.W.fnOf "names_at" "Walker.names_at" (zaj zbn) (zai zbn) (zac zbn) .none kV20 dc20 pm20 an20 cd20 ct20), sl20⟩) (c20 : PySem.W.codeIn K cd20 "Walker.names_at" = true) (k20 : PySem.W.keepIn K (.ref f20) = true)
   {f21 : Addr} {oc21 kV21 dc21 pm21 cd21 ct21 : Value} {od21 an21 : Option Addr} {sl21 : Array (Option Value)} (a21 : PySem.W.findIn K (.ref C_TextWalker) "send_out" = some (some (.ref f21))) (i21 : PySem.W.isFn K (.ref f21) = true) (l21 : K.lookup f21 = some ⟨oc21, od21, .func (PySem.W.fnOf "send_out" "Walker.send_out" (zaj zbo) (zai zbo) (zac zbo) .none kV21 dc21 pm21 an21 cd21 ct21), sl21⟩) (c21 : PySem.W.codeIn K cd21 "Walker.send_out" = true) (k21 : PySem.W.keepIn K (.ref f21) = true)
   {f22 : Addr} {oc22 kV22 dc22 pm22 cd22 ct22 : Value} {od22 an22 : Option Addr} {sl22 : Array (Option Value)} (a22 : PySem.W.findIn K (.ref C_TextWalker) "put_field" = some (some (.ref f22))) (i22 : PySem.W.isFn K (.ref f22) = true) (l22 : K.lookup f22 = some ⟨oc22, od22, .func (PySem.W.fnOf "put_field" "Walker.put_field" (zaj zbf) (zai zbf) (zac zbf) .none kV22 dc22 pm22 an22 cd22 ct22), sl22⟩) (c22 : PySem.W.codeIn K cd22 "Walker.put_field" = true) (k22 : PySem.W.keepIn K (.ref f22) = true)
   {f23 : Addr} {oc23 kV23 dc23 pm23 cd23 ct23 : Value} {od23 an23 : Option Addr} {sl23 : Array (Option Value)} (a23 : PySem.W.findIn K (.ref C_TextWalker) "make_record" = some (some (.ref f23))) (i23 : PySem.W.isFn K (.ref f23) = true) (l23 : K.lookup f23 = some ⟨oc23, od23, .func (PySem.W.fnOf "make_record" "Walker.make_record" (zaj za3) (zai za3) (zac za3) .none kV23 dc23 pm23 an23 cd23 ct23), sl23⟩) (c23 : PySem.W.codeIn K cd23 "Walker.make_record" = true) (k23 : PySem.W.keepIn K (.ref f23) = true)
   {f24 : Addr} {oc24 kV24 dc24 pm24 cd24 ct24 : Value} {od24 an24 : Option Addr} {sl24 : Array (Option Value)} (a24 : PySem.W.findIn K (.ref C_TextFrame) "__init__" = some (some (.ref f24))) (i24 : PySem.W.isFn K (.ref f24) = true) (l24 : K.lookup f24 = some ⟨oc24, od24, .func (PySem.W.fnOf "__init__" "TextFrame.__init__" (zaj zbw) (zai zbw) (zac zbw) .none kV24 dc24 pm24 an24 cd24 ct24), sl24⟩) (c24 : PySem.W.codeIn K cd24 "TextFrame.__init__" = true) (k24 : PySem.W.keepIn K (.ref f24) = true)
   {f25 : Addr} {oc25 kV25 dc25 pm25 cd25 ct25 : Value} {od25 an25 : Option Addr} {sl25 : Array (Option Value)} (a25 : PySem.W.findIn K (.ref C_TextFrame) "value_of" = some (some (.ref f25))) (i25 : PySem.W.isFn K (.ref f25) = true) (l25 : K.lookup f25 = some ⟨oc25, od25, .func (PySem.W.fnOf "value_of" "TextFrame.value_of" (zaj za5) (zai za5) (zac za5) .none kV25 dc25 pm25 an25 cd25 ct25), sl25⟩) (c25 : PySem.W.codeIn K cd25 "TextFrame.value_of" = true) (k25 : PySem.W.keepIn K (.ref f25) = true)
   {f26 : Addr} {oc26 kV26 dc26 pm26 cd26 ct26 : Value} {od26 an26 : Option Addr} {sl26 : Array (Option Value)} (a26 : PySem.W.findIn K (.ref C_TextWalker) "__init__" = some (some (.ref f26))) (i26 : PySem.W.isFn K (.ref f26) = true) (l26 : K.lookup f26 = some ⟨oc26, od26, .func (PySem.W.fnOf "__init__" "TextWalker.__init__" (zaj zbp) (zai zbp) (zac zbp) .none kV26 dc26 pm26 an26 cd26 ct26), sl26⟩) (c26 : PySem.W.codeIn K cd26 "TextWalker.__init__" = true) (k26 : PySem.W.keepIn K (.ref f26) = true)
   {f27 : Addr} {oc27 kV27 dc27 pm27 cd27 ct27 : Value} {od27 an27 : Option Addr} {sl27 : Array (Option Value)} (a27 : PySem.W.findIn K (.ref C_TextWalker) "chain_of" = some (some (.ref f27))) (i27 : PySem.W.isFn K (.ref f27) = true) (l27 : K.lookup f27 = some ⟨oc27, od27, .func (PySem.W.fnOf "chain_of" "TextWalker.chain_of" (zaj zaz) (zai zaz) (zac zaz) .none kV27 dc27 pm27 an27 cd27 ct27), sl27⟩) (c27 : PySem.W.codeIn K cd27 "TextWalker.chain_of" = true) (k27 : PySem.W.keepIn K (.ref f27) = true)
   {f28 : Addr} {oc28 kV28 dc28 pm28 cd28 ct28 : Value} {od28 an28 : Option Addr} {sl28 : Array (Option Value)} (a28 : PySem.W.findIn K (.ref C_TextWalker) "shown_at" = some (some (.ref f28))) (i28 : PySem.W.isFn K (.ref f28) = true) (l28 : K.lookup f28 = some ⟨oc28, od28, .func (PySem.W.fnOf "shown_at" "TextWalker.shown_at" (zaj zay) (zai zay) (zac zay) .none kV28 dc28 pm28 an28 cd28 ct28), sl28⟩) (c28 : PySem.W.codeIn K cd28 "TextWalker.shown_at" = true) (k28 : PySem.W.keepIn K (.ref f28) = true)
   {f29 : Addr} {oc29 kV29 dc29 pm29 cd29 ct29 : Value} {od29 an29 : Option Addr} {sl29 : Array (Option Value)} (a29 : PySem.W.findIn K (.ref C_TextWalker) "tell" = some (some (.ref f29))) (i29 : PySem.W.isFn K (.ref f29) = true) (l29 : K.lookup f29 = some ⟨oc29, od29, .func (PySem.W.fnOf "tell" "TextWalker.tell" (zaj zbl) (zai zbl) (zac zbl) .none kV29 dc29 pm29 an29 cd29 ct29), sl29⟩) (c29 : PySem.W.codeIn K cd29 "TextWalker.tell" = true) (k29 : PySem.W.keepIn K (.ref f29) = true)
   {f30 : Addr} {oc30 kV30 dc30 pm30 cd30 ct30 : Value} {od30 an30 : Option Addr} {sl30 : Array (Option Value)} (a30 : PySem.W.findIn K (.ref C_TextWalker) "walk_on" = some (some (.ref f30))) (i30 : PySem.W.isFn K (.ref f30) = true) (l30 : K.lookup f30 = some ⟨oc30, od30, .func (PySem.W.fnOf "walk_on" "TextWalker.walk_on" (zaj za6) (zai za6) (zac za6) .none kV30 dc30 pm30 an30 cd30 ct30), sl30⟩) (c30 : PySem.W.codeIn K cd30 "TextWalker.walk_on" = true) (k30 : PySem.W.keepIn K (.ref f30) = true)
   {f31 : Addr} {oc31 kV31 dc31 pm31 cd31 ct31 : Value} {od31 an31 : Option Addr} {sl31 : Array (Option Value)} (a31 : PySem.W.findIn K (.ref C_TextWalker) "begin" = some (some (.ref f31))) (i31 : PySem.W.isFn K (.ref f31) = true) (l31 : K.lookup f31 = some ⟨oc31, od31, .func (PySem.W.fnOf "begin" "TextWalker.begin" (zaj zbd) (zai zbd) (zac zbd) .none kV31 dc31 pm31 an31 cd31 ct31), sl31⟩) (c31 : PySem.W.codeIn K cd31 "TextWalker.begin" = true) (k31 : PySem.W.keepIn K (.ref f31) = true)
   {f32 : Addr} {oc32 kV32 dc32 pm32 cd32 ct32 : Value} {od32 an32 : Option Addr} {sl32 : Array (Option Value)} (a32 : PySem.W.findIn K (.ref C_TextWalker) "row_of" = some (some (.ref f32))) (i32 : PySem.W.isFn K (.ref f32) = true) (l32 : K.lookup f32 = some ⟨oc32, od32, .func (PySem.W.fnOf "row_of" "TextWalker.row_of" (zaj zbb) (zai zbb) (zac zbb) .none kV32 dc32 pm32 an32 cd32 ct32), sl32⟩) (c32 : PySem.W.codeIn K cd32 "TextWalker.row_of" = true) (k32 : PySem.W.keepIn K (.ref f32) = true)
   {f33 : Addr} {oc33 kV33 dc33 pm33 cd33 ct33 : Value} {od33 an33 : Option Addr} {sl33 : Array (Option Value)} (a33 : PySem.W.findIn K (.ref C_TextWalker) "go_on" = some (some (.ref f33))) (i33 : PySem.W.isFn K (.ref f33) = true) (l33 : K.lookup f33 = some ⟨oc33, od33, .func (PySem.W.fnOf "go_on" "TextWalker.go_on" (zaj zbe) (zai zbe) (zac zbe) .none kV33 dc33 pm33 an33 cd33 ct33), sl33⟩) (c33 : PySem.W.codeIn K cd33 "TextWalker.go_on" = true) (k33 : PySem.W.keepIn K (.ref f33) = true)
   {f34 : Addr} {oc34 kV34 dc34 pm34 cd34 ct34 : Value} {od34 an34 : Option Addr} {sl34 : Array (Option Value)} (a34 : PySem.W.findIn K (.ref C_TextWalker) "go_back" = some (some (.ref f34))) (i34 : PySem.W.isFn K (.ref f34) = true) (l34 : K.lookup f34 = some ⟨oc34, od34, .func (PySem.W.fnOf "go_back" "TextWalker.go_back" (zaj za4) (zai za4) (zac za4) .none kV34 dc34 pm34 an34 cd34 ct34), sl34⟩) (c34 : PySem.W.codeIn K cd34 "TextWalker.go_back" = true) (k34 : PySem.W.keepIn K (.ref f34) = true)
   {f35 : Addr} {oc35 kV35 dc35 pm35 cd35 ct35 : Value} {od35 an35 : Option Addr} {sl35 : Array (Option Value)} (a35 : PySem.W.findIn K (.ref C_TextWalker) "do_row" = some (some (.ref f35))) (i35 : PySem.W.isFn K (.ref f35) = true) (l35 : K.lookup f35 = some ⟨oc35, od35, .func (PySem.W.fnOf "do_row" "TextWalker.do_row" (zaj za9) (zai za9) (zac za9) .none kV35 dc35 pm35 an35 cd35 ct35), sl35⟩) (c35 : PySem.W.codeIn K cd35 "TextWalker.do_row" = true) (k35 : PySem.W.keepIn K (.ref f35) = true)
   {f36 : Addr} {oc36 kV36 dc36 pm36 cd36 ct36 : Value} {od36 an36 : Option Addr} {sl36 : Array (Option Value)} (a36 : PySem.W.findIn K (.ref C_TextWalker) "value_given" = some (some (.ref f36))) (i36 : PySem.W.isFn K (.ref f36) = true) (l36 : K.lookup f36 = some ⟨oc36, od36, .func (PySem.W.fnOf "value_given" "TextWalker.value_given" (zaj zas) (zai zas) (zac zas) .none kV36 dc36 pm36 an36 cd36 ct36), sl36⟩) (c36 : PySem.W.codeIn K cd36 "TextWalker.value_given" = true) (k36 : PySem.W.keepIn K (.ref f36) = true)
   {f37 : Addr} {oc37 kV37 dc37 pm37 cd37 ct37 : Value} {od37 an37 : Option Addr} {sl37 : Array (Option Value)} (a37 : PySem.W.nsIn K mainGlobals "_law_cell_at" = some (some (.ref f37))) (l37 : K.lookup f37 = some ⟨oc37, od37, .func (PySem.W.fnOf "_law_cell_at" "_law_cell_at" (zaj zc0) (zai zc0) (zac zc0) .none kV37 dc37 pm37 an37 cd37 ct37), sl37⟩) (c37 : PySem.W.codeIn K cd37 "_law_cell_at" = true) (k37 : PySem.W.keepIn K (.ref f37) = true)
   {f38 : Addr} {oc38 kV38 dc38 pm38 cd38 ct38 : Value} {od38 an38 : Option Addr} {sl38 : Array (Option Value)} (a38 : PySem.W.nsIn K mainGlobals "_law_whole" = some (some (.ref f38))) (l38 : K.lookup f38 = some ⟨oc38, od38, .func (PySem.W.fnOf "_law_whole" "_law_whole" (zaj zed) (zai zed) (zac zed) .none kV38 dc38 pm38 an38 cd38 ct38), sl38⟩) (c38 : PySem.W.codeIn K cd38 "_law_whole" = true) (k38 : PySem.W.keepIn K (.ref f38) = true)
   {f39 : Addr} {oc39 kV39 dc39 pm39 cd39 ct39 : Value} {od39 an39 : Option Addr} {sl39 : Array (Option Value)} (a39 : PySem.W.nsIn K mainGlobals "_law_stream" = some (some (.ref f39))) (l39 : K.lookup f39 = some ⟨oc39, od39, .func (PySem.W.fnOf "_law_stream" "_law_stream" (zaj zdg) (zai zdg) (zac zdg) .none kV39 dc39 pm39 an39 cd39 ct39), sl39⟩) (c39 : PySem.W.codeIn K cd39 "_law_stream" = true) (k39 : PySem.W.keepIn K (.ref f39) = true)
   {f40 : Addr} {oc40 kV40 dc40 pm40 cd40 ct40 : Value} {od40 an40 : Option Addr} {sl40 : Array (Option Value)} (a40 : PySem.W.nsIn K mainGlobals "_law_names" = some (some (.ref f40))) (l40 : K.lookup f40 = some ⟨oc40, od40, .func (PySem.W.fnOf "_law_names" "_law_names" (zaj zd3) (zai zd3) (zac zd3) .none kV40 dc40 pm40 an40 cd40 ct40), sl40⟩) (c40 : PySem.W.codeIn K cd40 "_law_names" = true) (k40 : PySem.W.keepIn K (.ref f40) = true)
   {f41 : Addr} {oc41 kV41 dc41 pm41 cd41 ct41 : Value} {od41 an41 : Option Addr} {sl41 : Array (Option Value)} (a41 : PySem.W.nsIn K mainGlobals "_law_value_by" = some (some (.ref f41))) (l41 : K.lookup f41 = some ⟨oc41, od41, .func (PySem.W.fnOf "_law_value_by" "_law_value_by" (zaj zct) (zai zct) (zac zct) .none kV41 dc41 pm41 an41 cd41 ct41), sl41⟩) (c41 : PySem.W.codeIn K cd41 "_law_value_by" = true) (k41 : PySem.W.keepIn K (.ref f41) = true)
   {f42 : Addr} {oc42 kV42 dc42 pm42 cd42 ct42 : Value} {od42 an42 : Option Addr} {sl42 : Array (Option Value)} (a42 : PySem.W.nsIn K mainGlobals "_law_atom" = some (some (.ref f42))) (l42 : K.lookup f42 = some ⟨oc42, od42, .func (PySem.W.fnOf "_law_atom" "_law_atom" (zaj ze1) (zai ze1) (zac ze1) .none kV42 dc42 pm42 an42 cd42 ct42), sl42⟩) (c42 : PySem.W.codeIn K cd42 "_law_atom" = true) (k42 : PySem.W.keepIn K (.ref f42) = true)
   {f43 : Addr} {oc43 kV43 dc43 pm43 cd43 ct43 : Value} {od43 an43 : Option Addr} {sl43 : Array (Option Value)} (a43 : PySem.W.nsIn K mainGlobals "_law_row" = some (some (.ref f43))) (l43 : K.lookup f43 = some ⟨oc43, od43, .func (PySem.W.fnOf "_law_row" "_law_row" (zaj zf5) (zai zf5) (zac zf5) .none kV43 dc43 pm43 an43 cd43 ct43), sl43⟩) (c43 : PySem.W.codeIn K cd43 "_law_row" = true) (k43 : PySem.W.keepIn K (.ref f43) = true)
   {f44 : Addr} {oc44 kV44 dc44 pm44 cd44 ct44 : Value} {od44 an44 : Option Addr} {sl44 : Array (Option Value)} (a44 : PySem.W.nsIn K mainGlobals "_law_value" = some (some (.ref f44))) (l44 : K.lookup f44 = some ⟨oc44, od44, .func (PySem.W.fnOf "_law_value" "_law_value" (zaj zd9) (zai zd9) (zac zd9) .none kV44 dc44 pm44 an44 cd44 ct44), sl44⟩) (c44 : PySem.W.codeIn K cd44 "_law_value" = true) (k44 : PySem.W.keepIn K (.ref f44) = true)
   {f45 : Addr} {oc45 kV45 dc45 pm45 cd45 ct45 : Value} {od45 an45 : Option Addr} {sl45 : Array (Option Value)} (a45 : PySem.W.nsIn K mainGlobals "_law_worth" = some (some (.ref f45))) (l45 : K.lookup f45 = some ⟨oc45, od45, .func (PySem.W.fnOf "_law_worth" "_law_worth" (zaj zd6) (zai zd6) (zac zd6) .none kV45 dc45 pm45 an45 cd45 ct45), sl45⟩) (c45 : PySem.W.codeIn K cd45 "_law_worth" = true) (k45 : PySem.W.keepIn K (.ref f45) = true)
   {f46 : Addr} {oc46 kV46 dc46 pm46 cd46 ct46 : Value} {od46 an46 : Option Addr} {sl46 : Array (Option Value)} (a46 : PySem.W.nsIn K mainGlobals "_law_begin" = some (some (.ref f46))) (l46 : K.lookup f46 = some ⟨oc46, od46, .func (PySem.W.fnOf "_law_begin" "_law_begin" (zaj zea) (zai zea) (zac zea) .none kV46 dc46 pm46 an46 cd46 ct46), sl46⟩) (c46 : PySem.W.codeIn K cd46 "_law_begin" = true) (k46 : PySem.W.keepIn K (.ref f46) = true)
   {f47 : Addr} {oc47 kV47 dc47 pm47 cd47 ct47 : Value} {od47 an47 : Option Addr} {sl47 : Array (Option Value)} (a47 : PySem.W.nsIn K mainGlobals "_law_done" = some (some (.ref f47))) (l47 : K.lookup f47 = some ⟨oc47, od47, .func (PySem.W.fnOf "_law_done" "_law_done" (zaj zez) (zai zez) (zac zez) .none kV47 dc47 pm47 an47 cd47 ct47), sl47⟩) (c47 : PySem.W.codeIn K cd47 "_law_done" = true) (k47 : PySem.W.keepIn K (.ref f47) = true)
   {f48 : Addr} {oc48 kV48 dc48 pm48 cd48 ct48 : Value} {od48 an48 : Option Addr} {sl48 : Array (Option Value)} (a48 : PySem.W.nsIn K mainGlobals "_law_alike" = some (some (.ref f48))) (l48 : K.lookup f48 = some ⟨oc48, od48, .func (PySem.W.fnOf "_law_alike" "_law_alike" (zaj zd1) (zai zd1) (zac zd1) .none kV48 dc48 pm48 an48 cd48 ct48), sl48⟩) (c48 : PySem.W.codeIn K cd48 "_law_alike" = true) (k48 : PySem.W.keepIn K (.ref f48) = true)
   {f49 : Addr} {oc49 kV49 dc49 pm49 cd49 ct49 : Value} {od49 an49 : Option Addr} {sl49 : Array (Option Value)} (a49 : PySem.W.nsIn K mainGlobals "_law_stands" = some (some (.ref f49))) (l49 : K.lookup f49 = some ⟨oc49, od49, .func (PySem.W.fnOf "_law_stands" "_law_stands" (zaj zdi) (zai zdi) (zac zdi) .none kV49 dc49 pm49 an49 cd49 ct49), sl49⟩) (c49 : PySem.W.codeIn K cd49 "_law_stands" = true) (k49 : PySem.W.keepIn K (.ref f49) = true)
   {f50 : Addr} {oc50 kV50 dc50 pm50 cd50 ct50 : Value} {od50 an50 : Option Addr} {sl50 : Array (Option Value)} (a50 : PySem.W.nsIn K mainGlobals "_law_walked" = some (some (.ref f50))) (l50 : K.lookup f50 = some ⟨oc50, od50, .func (PySem.W.fnOf "_law_walked" "_law_walked" (zaj zdl) (zai zdl) (zac zdl) .none kV50 dc50 pm50 an50 cd50 ct50), sl50⟩) (c50 : PySem.W.codeIn K cd50 "_law_walked" = true) (k50 : PySem.W.keepIn K (.ref f50) = true)
   {f51 : Addr} {oc51 kV51 dc51 pm51 cd51 ct51 : Value} {od51 an51 : Option Addr} {sl51 : Array (Option Value)} (a51 : PySem.W.nsIn K mainGlobals "law" = some (some (.ref f51))) (l51 : K.lookup f51 = some ⟨oc51, od51, .func (PySem.W.fnOf "law" "law" (zaj zi7) (zai zi7) (zac zi7) .none kV51 dc51 pm51 an51 cd51 ct51), sl51⟩) (c51 : PySem.W.codeIn K cd51 "law" = true) (k51 : PySem.W.keepIn K (.ref f51) = true)
   {tk0 : Tok} (w0 : PySem.W.nsIn K mainGlobals "WIDE" = some (some (.int 281474976710656 tk0)))
   {aT0 : Addr} {odT0 : Option Addr} {itT0 : Array Value} {nT0 : Nat} {slT0 : Array (Option Value)} (q0 : PySem.W.nsIn K mainGlobals "GIVING_KINDS" = some (some (.ref aT0))) (m0 : K.lookup aT0 = some ⟨.type "tuple", odT0, .seq itT0 nT0, slT0⟩) (v0 : zcm (K12.giving.map V.str) itT0.toList) (s0 : itT0.size <= sizeLine)
   {aD0 : Addr} (qD0 : PySem.W.nsIn K mainGlobals "ATOM_PLACES" = some (some (.ref aD0))) (mD0 : PyProof.Rows.KTD.tabLook (zkw K) (λ a => K.lookup a) aD0 K12.tabl = true)
   (z_len : PySem.W.nsIn K mainGlobals "len" = some none)
   (z_list : PySem.W.nsIn K mainGlobals "list" = some none)
   (z_tuple : PySem.W.nsIn K mainGlobals "tuple" = some none)
   (z_isinstance : PySem.W.nsIn K mainGlobals "isinstance" = some none)
   (z_range : PySem.W.nsIn K mainGlobals "range" = some none)
   (z_enumerate : PySem.W.nsIn K mainGlobals "enumerate" = some none)
   (z_dict : PySem.W.nsIn K mainGlobals "dict" = some none)
   (z_str : PySem.W.nsIn K mainGlobals "str" = some none)
   (z_min : PySem.W.nsIn K mainGlobals "min" = some none)
   (z_max : PySem.W.nsIn K mainGlobals "max" = some none)
   (z_int : PySem.W.nsIn K mainGlobals "int" = some none)
   (z_zip : PySem.W.nsIn K mainGlobals "zip" = some none)
   (z_bool : PySem.W.nsIn K mainGlobals "bool" = some none)
   : ∃ t, Txt K mg t := by
 refine ⟨⟨C_Flows, C_Walker, C_TextWalker, C_TextFrame, f0, PySem.W.fnOf "names_of" "names_of" (zaj zdk) (zai zdk) (zac zdk) .none kV0 dc0 pm0 an0 cd0 ct0, f1, PySem.W.fnOf "reads" "reads" (zaj zf4) (zai zf4) (zac zf4) .none kV1 dc1 pm1 an1 cd1 ct1, f2, PySem.W.fnOf "gives" "gives" (zaj zgf) (zai zgf) (zac zgf) .none kV2 dc2 pm2 an2 cd2 ct2, f3, PySem.W.fnOf "atoms_of" "atoms_of" (zaj zdf) (zai zdf) (zac zdf) .none kV3 dc3 pm3 an3 cd3 ct3, f4, PySem.W.fnOf "each_once" "each_once" (zaj zc5) (zai zc5) (zac zc5) .none kV4 dc4 pm4 an4 cd4 ct4, f5, PySem.W.fnOf "ways" "ways" (zaj zh9) (zai zh9) (zac zh9) .none kV5 dc5 pm5 an5 cd5 ct5, f6, PySem.W.fnOf "begins_of" "begins_of" (zaj zc6) (zai zc6) (zac zc6) .none kV6 dc6 pm6 an6 cd6 ct6, f7, PySem.W.fnOf "firsts_behind" "firsts_behind" (zaj zb2) (zai zb2) (zac zb2) .none kV7 dc7 pm7 an7 cd7 ct7, f8, PySem.W.fnOf "__init__" "Flows.__init__" (zaj zcs) (zai zcs) (zac zcs) .none kV8 dc8 pm8 an8 cd8 ct8, f9, PySem.W.fnOf "value" "value" (zaj zf3) (zai zf3) (zac zf3) .none kV9 dc9 pm9 an9 cd9 ct9, f10, PySem.W.fnOf "__init__" "Walker.__init__" (zaj zcd) (zai zcd) (zac zcd) .none kV10 dc10 pm10 an10 cd10 ct10, f11, PySem.W.fnOf "ended" "Walker.ended" (zaj zb5) (zai zb5) (zac zb5) .none kV11 dc11 pm11 an11 cd11 ct11, f12, PySem.W.fnOf "answer" "Walker.answer" (zaj zb0) (zai zb0) (zac zb0) .none kV12 dc12 pm12 an12 cd12 ct12, f13, PySem.W.fnOf "sent" "Walker.sent" (zaj zce) (zai zce) (zac zce) .none kV13 dc13 pm13 an13 cd13 ct13, f14, PySem.W.fnOf "field" "Walker.field" (zaj zb7) (zai zb7) (zac zb7) .none kV14 dc14 pm14 an14 cd14 ct14, f15, PySem.W.fnOf "frames" "Walker.frames" (zaj zb1) (zai zb1) (zac zb1) .none kV15 dc15 pm15 an15 cd15 ct15, f16, PySem.W.fnOf "told" "Walker.told" (zaj zci) (zai zci) (zac zci) .none kV16 dc16 pm16 an16 cd16 ct16, f17, PySem.W.fnOf "step" "Walker.step" (zaj zck) (zai zck) (zac zck) .none kV17 dc17 pm17 an17 cd17 ct17, f18, PySem.W.fnOf "ask_for_level" "Walker.ask_for_level" (zaj zau) (zai zau) (zac zau) .none kV18 dc18 pm18 an18 cd18 ct18, f19, PySem.W.fnOf "ask_for_name" "Walker.ask_for_name" (zaj za0) (zai za0) (zac za0) .none kV19 dc19 pm19 an19 cd19 ct19, f20, PySem.W.fnOf "names_at" "Walker.names_at" (zaj zbn) (zai zbn) (zac zbn) .none kV20 dc20 pm20 an20 cd20 ct20, f21, PySem.W.fnOf "send_out" "Walker.send_out" (zaj zbo) (zai zbo) (zac zbo) .none kV21 dc21 pm21 an21 cd21 ct21, f22, PySem.W.fnOf "put_field" "Walker.put_field" (zaj zbf) (zai zbf) (zac zbf) .none kV22 dc22 pm22 an22 cd22 ct22, f23, PySem.W.fnOf "make_record" "Walker.make_record" (zaj za3) (zai za3) (zac za3) .none kV23 dc23 pm23 an23 cd23 ct23, f24, PySem.W.fnOf "__init__" "TextFrame.__init__" (zaj zbw) (zai zbw) (zac zbw) .none kV24 dc24 pm24 an24 cd24 ct24, f25, PySem.W.fnOf "value_of" "TextFrame.value_of" (zaj za5) (zai za5) (zac za5) .none kV25 dc25 pm25 an25 cd25 ct25, f26, PySem.W.fnOf "__init__" "TextWalker.__init__" (zaj zbp) (zai zbp) (zac zbp) .none kV26 dc26 pm26 an26 cd26 ct26, f27, PySem.W.fnOf "chain_of" "TextWalker.chain_of" (zaj zaz) (zai zaz) (zac zaz) .none kV27 dc27 pm27 an27 cd27 ct27, f28, PySem.W.fnOf "shown_at" "TextWalker.shown_at" (zaj zay) (zai zay) (zac zay) .none kV28 dc28 pm28 an28 cd28 ct28, f29, PySem.W.fnOf "tell" "TextWalker.tell" (zaj zbl) (zai zbl) (zac zbl) .none kV29 dc29 pm29 an29 cd29 ct29, f30, PySem.W.fnOf "walk_on" "TextWalker.walk_on" (zaj za6) (zai za6) (zac za6) .none kV30 dc30 pm30 an30 cd30 ct30, f31, PySem.W.fnOf "begin" "TextWalker.begin" (zaj zbd) (zai zbd) (zac zbd) .none kV31 dc31 pm31 an31 cd31 ct31, f32, PySem.W.fnOf "row_of" "TextWalker.row_of" (zaj zbb) (zai zbb) (zac zbb) .none kV32 dc32 pm32 an32 cd32 ct32, f33, PySem.W.fnOf "go_on" "TextWalker.go_on" (zaj zbe) (zai zbe) (zac zbe) .none kV33 dc33 pm33 an33 cd33 ct33, f34, PySem.W.fnOf "go_back" "TextWalker.go_back" (zaj za4) (zai za4) (zac za4) .none kV34 dc34 pm34 an34 cd34 ct34, f35, PySem.W.fnOf "do_row" "TextWalker.do_row" (zaj za9) (zai za9) (zac za9) .none kV35 dc35 pm35 an35 cd35 ct35, f36, PySem.W.fnOf "value_given" "TextWalker.value_given" (zaj zas) (zai zas) (zac zas) .none kV36 dc36 pm36 an36 cd36 ct36, f37, PySem.W.fnOf "_law_cell_at" "_law_cell_at" (zaj zc0) (zai zc0) (zac zc0) .none kV37 dc37 pm37 an37 cd37 ct37, f38, PySem.W.fnOf "_law_whole" "_law_whole" (zaj zed) (zai zed) (zac zed) .none kV38 dc38 pm38 an38 cd38 ct38, f39, PySem.W.fnOf "_law_stream" "_law_stream" (zaj zdg) (zai zdg) (zac zdg) .none kV39 dc39 pm39 an39 cd39 ct39, f40, PySem.W.fnOf "_law_names" "_law_names" (zaj zd3) (zai zd3) (zac zd3) .none kV40 dc40 pm40 an40 cd40 ct40, f41, PySem.W.fnOf "_law_value_by" "_law_value_by" (zaj zct) (zai zct) (zac zct) .none kV41 dc41 pm41 an41 cd41 ct41, f42, PySem.W.fnOf "_law_atom" "_law_atom" (zaj ze1) (zai ze1) (zac ze1) .none kV42 dc42 pm42 an42 cd42 ct42, f43, PySem.W.fnOf "_law_row" "_law_row" (zaj zf5) (zai zf5) (zac zf5) .none kV43 dc43 pm43 an43 cd43 ct43, f44, PySem.W.fnOf "_law_value" "_law_value" (zaj zd9) (zai zd9) (zac zd9) .none kV44 dc44 pm44 an44 cd44 ct44, f45, PySem.W.fnOf "_law_worth" "_law_worth" (zaj zd6) (zai zd6) (zac zd6) .none kV45 dc45 pm45 an45 cd45 ct45, f46, PySem.W.fnOf "_law_begin" "_law_begin" (zaj zea) (zai zea) (zac zea) .none kV46 dc46 pm46 an46 cd46 ct46, f47, PySem.W.fnOf "_law_done" "_law_done" (zaj zez) (zai zez) (zac zez) .none kV47 dc47 pm47 an47 cd47 ct47, f48, PySem.W.fnOf "_law_alike" "_law_alike" (zaj zd1) (zai zd1) (zac zd1) .none kV48 dc48 pm48 an48 cd48 ct48, f49, PySem.W.fnOf "_law_stands" "_law_stands" (zaj zdi) (zai zdi) (zac zdi) .none kV49 dc49 pm49 an49 cd49 ct49, f50, PySem.W.fnOf "_law_walked" "_law_walked" (zaj zdl) (zai zdl) (zac zdl) .none kV50 dc50 pm50 an50 cd50 ct50, f51, PySem.W.fnOf "law" "law" (zaj zi7) (zai zi7) (zac zi7) .none kV51 dc51 pm51 an51 cd51 ct51, aT0, aD0⟩, ?_⟩
 have bl : ∀ (s : Shared) (u : Value), BindsTo s (PySem.W.fnOf "law" "law" (zaj zi7) (zai zi7) (zac zi7) .none kV51 dc51 pm51 an51 cd51 ct51) ⟨[u], []⟩ [("_law_script", u)] := λ s u => .of_eq rfl
 exact ⟨(zbr X G a0 l0 c0 k0 λ _ _ _ _ _ _ us hl => match us, hl with | [_], _ => rfl),
   (zbr X G a1 l1 c1 k1 λ _ _ _ _ _ _ us hl => match us, hl with | [_], _ => rfl),
   (zbr X G a2 l2 c2 k2 λ _ _ _ _ _ _ us hl => match us, hl with | [_], _ => rfl),
   (zbr X G a3 l3 c3 k3 λ _ _ _ _ _ _ us hl => match us, hl with | [_], _ => rfl),
   (zbr X G a4 l4 c4 k4 λ _ _ _ _ _ _ us hl => match us, hl with | [_], _ => rfl),
   (zbr X G a5 l5 c5 k5 λ _ _ _ _ _ _ us hl => match us, hl with | [_], _ => rfl),
   (zbr X G a6 l6 c6 k6 λ _ _ _ _ _ _ us hl => match us, hl with | [_], _ => rfl),
   (zbr X G a7 l7 c7 k7 λ _ _ _ _ _ _ us hl => match us, hl with | [_, _], _ => rfl),
   (zkz mk_Flows kc_Flows a8 i8 l8 c8 k8 λ _ _ _ _ _ _ us hl => match us, hl with | [_, _], _ => rfl),
   (zbr X G a9 l9 c9 k9 λ _ _ _ _ _ _ us hl => match us, hl with | [_, _, _], _ => rfl),
   (zsz ga10 rd10 fc10 l10 c10 k10 λ _ _ _ _ _ _ us hl => match us, hl with | [_, _], _ => rfl),
   (zbq a11 i11 l11 c11 k11 λ _ _ _ _ _ _ us hl => match us, hl with | [_], _ => rfl),
   (zbq a12 i12 l12 c12 k12 λ _ _ _ _ _ _ us hl => match us, hl with | [_], _ => rfl),
   (zbq a13 i13 l13 c13 k13 λ _ _ _ _ _ _ us hl => match us, hl with | [_], _ => rfl),
   (zbq a14 i14 l14 c14 k14 λ _ _ _ _ _ _ us hl => match us, hl with | [_, _, _], _ => rfl),
   (zbq a15 i15 l15 c15 k15 λ _ _ _ _ _ _ us hl => match us, hl with | [_], _ => rfl),
   (zbq a16 i16 l16 c16 k16 λ _ _ _ _ _ _ us hl => match us, hl with | [_, _, _], _ => rfl),
   (zbq a17 i17 l17 c17 k17 λ _ _ _ _ _ _ us hl => match us, hl with | [_], _ => rfl),
   (zbq a18 i18 l18 c18 k18 λ _ _ _ _ _ _ us hl => match us, hl with | [_, _], _ => rfl),
   (zbq a19 i19 l19 c19 k19 λ _ _ _ _ _ _ us hl => match us, hl with | [_, _, _], _ => rfl),
   (zbq a20 i20 l20 c20 k20 λ _ _ _ _ _ _ us hl => match us, hl with | [_, _], _ => rfl),
   (zbq a21 i21 l21 c21 k21 λ _ _ _ _ _ _ us hl => match us, hl with | [_, _], _ => rfl),
   (zbq a22 i22 l22 c22 k22 λ _ _ _ _ _ _ us hl => match us, hl with | [_, _, _, _], _ => rfl),
   (zbq a23 i23 l23 c23 k23 λ _ _ _ _ _ _ us hl => match us, hl with | [_], _ => rfl),
   (zkz mk_TextFrame kc_TextFrame a24 i24 l24 c24 k24 λ _ _ _ _ _ _ us hl => match us, hl with | [_, _, _], _ => rfl),
   (zbq a25 i25 l25 c25 k25 λ _ _ _ _ _ _ us hl => match us, hl with | [_, _], _ => rfl),
   (zkz mk_TextWalker kc_TextWalker a26 i26 l26 c26 k26 λ _ _ _ _ _ _ us hl => match us, hl with | [_, _, _], _ => rfl),
   (zbq a27 i27 l27 c27 k27 λ _ _ _ _ _ _ us hl => match us, hl with | [_, _], _ => rfl),
   (zbq a28 i28 l28 c28 k28 λ _ _ _ _ _ _ us hl => match us, hl with | [_, _], _ => rfl),
   (zbq a29 i29 l29 c29 k29 λ _ _ _ _ _ _ us hl => match us, hl with | [_, _, _], _ => rfl),
   (zbq a30 i30 l30 c30 k30 λ _ _ _ _ _ _ us hl => match us, hl with | [_], _ => rfl),
   (zbq a31 i31 l31 c31 k31 λ _ _ _ _ _ _ us hl => match us, hl with | [_, _, _], _ => rfl),
   (zbq a32 i32 l32 c32 k32 λ _ _ _ _ _ _ us hl => match us, hl with | [_, _], _ => rfl),
   (zbq a33 i33 l33 c33 k33 λ _ _ _ _ _ _ us hl => match us, hl with | [_, _, _], _ => rfl),
   (zbq a34 i34 l34 c34 k34 λ _ _ _ _ _ _ us hl => match us, hl with | [_, _], _ => rfl),
   (zbq a35 i35 l35 c35 k35 λ _ _ _ _ _ _ us hl => match us, hl with | [_, _, _], _ => rfl),
   (zbq a36 i36 l36 c36 k36 λ _ _ _ _ _ _ us hl => match us, hl with | [_, _, _], _ => rfl),
   (zbr X G a37 l37 c37 k37 λ _ _ _ _ _ _ us hl => match us, hl with | [_, _], _ => rfl),
   (zbr X G a38 l38 c38 k38 λ _ _ _ _ _ _ us hl => match us, hl with | [_], _ => rfl),
   (zbr X G a39 l39 c39 k39 λ _ _ _ _ _ _ us hl => match us, hl with | [_, _], _ => rfl),
   (zbr X G a40 l40 c40 k40 λ _ _ _ _ _ _ us hl => match us, hl with | [_, _], _ => rfl),
   (zbr X G a41 l41 c41 k41 λ _ _ _ _ _ _ us hl => match us, hl with | [_], _ => rfl),
   (zbr X G a42 l42 c42 k42 λ _ _ _ _ _ _ us hl => match us, hl with | [_, _], _ => rfl),
   (zbr X G a43 l43 c43 k43 λ _ _ _ _ _ _ us hl => match us, hl with | [_, _], _ => rfl),
   (zbr X G a44 l44 c44 k44 λ _ _ _ _ _ _ us hl => match us, hl with | [_, _, _], _ => rfl),
   (zbr X G a45 l45 c45 k45 λ _ _ _ _ _ _ us hl => match us, hl with | [_, _], _ => rfl),
   (zbr X G a46 l46 c46 k46 λ _ _ _ _ _ _ us hl => match us, hl with | [_, _, _], _ => rfl),
   (zbr X G a47 l47 c47 k47 λ _ _ _ _ _ _ us hl => match us, hl with | [_, _], _ => rfl),
   (zbr X G a48 l48 c48 k48 λ _ _ _ _ _ _ us hl => match us, hl with | [_, _], _ => rfl),
   (zbr X G a49 l49 c49 k49 λ _ _ _ _ _ _ us hl => match us, hl with | [_, _, _, _], _ => rfl),
   (zbr X G a50 l50 c50 k50 λ _ _ _ _ _ _ us hl => match us, hl with | [_, _, _, _], _ => rfl),
   (zbr X G a51 l51 c51 k51 λ _ _ _ _ _ _ us hl => match us, hl with | [_], _ => rfl),
   ⟨⟨pg_Flows, hd_Flows, po_Flows, sa_Flows⟩, PySem.W.mg_of X G aC_Flows⟩,
   ⟨⟨pg_Walker, hd_Walker, po_Walker, sa_Walker⟩, PySem.W.mg_of X G aC_Walker⟩,
   ⟨⟨pg_TextWalker, hd_TextWalker, po_TextWalker, sa_TextWalker⟩, PySem.W.mg_of X G aC_TextWalker⟩,
   ⟨⟨pg_TextFrame, hd_TextFrame, po_TextFrame, sa_TextFrame⟩, PySem.W.mg_of X G aC_TextFrame⟩,
   n_Flows_last,
   n_Flows_number_of,
   n_Flows_folded_of,
   n_Flows_params_of,
   n_Flows_rows_of,
   n_Flows_names_in,
   n_Flows_ways_in,
   n_TextWalker_flows,
   n_TextWalker_stack,
   n_TextWalker_outcome,
   n_TextWalker_sendings,
   n_TextWalker_contents,
   n_TextWalker_records,
   n_TextFrame_function,
   n_TextFrame_row,
   n_TextFrame_named,
   ⟨_, PySem.W.mg_of X G w0⟩,
   PySem.W.mg_of X G q0,
   (λ H => .inr ⟨_, itT0, nT0, m0, rfl, rfl, s0, v0⟩),
   PySem.W.mg_of X G qD0,
   zlo mD0,
   PySem.W.mg_none_of X G z_len,
   PySem.W.mg_none_of X G z_list,
   PySem.W.mg_none_of X G z_tuple,
   PySem.W.mg_none_of X G z_isinstance,
   PySem.W.mg_none_of X G z_range,
   PySem.W.mg_none_of X G z_enumerate,
   PySem.W.mg_none_of X G z_dict,
   PySem.W.mg_none_of X G z_str,
   PySem.W.mg_none_of X G z_min,
   PySem.W.mg_none_of X G z_max,
   PySem.W.mg_none_of X G z_int,
   PySem.W.mg_none_of X G z_zip,
   PySem.W.mg_none_of X G z_bool,
   bl⟩
end K22
open PySem PySem.W PyProof.Rows
set_option maxRecDepth 100000 in
set_option maxHeartbeats 0 in
theorem PySem.Challenge.cw_stopglass_k22_straight_rows_holds : PySem.Challenge.rw_stopglass_k22_straight_rows.Holds := by
 refine Hd.pk.2 ?_
 unfold Hd.pk
 dsimp only
 k_fill
 refine L2.walk_ofK (l := PySem.Challenge.rw_stopglass_k22_straight_rows) (n := 63) (k := 9) (x := "_law_script") (CX := L2.CX0) (sp := K22.sp_law) rfl (by decide) rfl ⟨rfl, by decide, by decide⟩ (λ w h Y => PySem.W.kIn_of Y) ?F ?S ?C
 case F =>
   intro w mg fa h KX G hmg
   have T : ∃ t, K22.Txt (L2.KOf KX) mg t := by
     dsimp only [L2.KOf]
     refine' K22.txt_mk KX G ?aC_Flows ?pg_Flows ?hd_Flows ?po_Flows ?sa_Flows ?mk_Flows ?kc_Flows ?n_Flows_last ?n_Flows_number_of ?n_Flows_folded_of ?n_Flows_params_of ?n_Flows_rows_of ?n_Flows_names_in ?n_Flows_ways_in ?aC_Walker ?pg_Walker ?hd_Walker ?po_Walker ?sa_Walker ?mk_Walker ?kc_Walker ?aC_TextWalker ?pg_TextWalker ?hd_TextWalker ?po_TextWalker ?sa_TextWalker ?mk_TextWalker ?kc_TextWalker ?n_TextWalker_flows ?n_TextWalker_stack ?n_TextWalker_outcome ?n_TextWalker_sendings ?n_TextWalker_contents ?n_TextWalker_records ?aC_TextFrame ?pg_TextFrame ?hd_TextFrame ?po_TextFrame ?sa_TextFrame ?mk_TextFrame ?kc_TextFrame ?n_TextFrame_function ?n_TextFrame_row ?n_TextFrame_named ?a0 ?l0 ?c0 ?k0 ?a1 ?l1 ?c1 ?k1 ?a2 ?l2 ?c2 ?k2 ?a3 ?l3 ?c3 ?k3 ?a4 ?l4 ?c4 ?k4 ?a5 ?l5 ?c5 ?k5 ?a6 ?l6 ?c6 ?k6 ?a7 ?l7 ?c7 ?k7 ?a8 ?i8 ?l8 ?c8 ?k8 ?a9 ?l9 ?c9 ?k9 ?ga10 ?rd10 ?a10 ?i10 ?l10 ?c10 ?k10 ?fc10 ?a11 ?i11 ?l11 ?c11 ?k11 ?a12 ?i12 ?l12 ?c12 ?k12 ?a13 ?i13 ?l13 ?c13 ?k13 ?a14 ?i14 ?l14 ?c14 ?k14 ?a15 ?i15 ?l15 ?c15 ?k15 ?a16 ?i16 ?l16 ?c16 ?k16 ?a17 ?i17 ?l17 ?c17 ?k17 ?a18 ?i18 ?l18 ?c18 ?k18 ?a19 ?i19 ?l19 ?c19 ?k19 ?a20 ?i20 ?l20 ?c20 ?k20 ?a21 ?i21 ?l21 ?c21 ?k21 ?a22 ?i22 ?l22 ?c22 ?k22 ?a23 ?i23 ?l23 ?c23 ?k23 ?a24 ?i24 ?l24 ?c24 ?k24 ?a25 ?i25 ?l25 ?c25 ?k25 ?a26 ?i26 ?l26 ?c26 ?k26 ?a27 ?i27 ?l27 ?c27 ?k27 ?a28 ?i28 ?l28 ?c28 ?k28 ?a29 ?i29 ?l29 ?c29 ?k29 ?a30 ?i30 ?l30 ?c30 ?k30 ?a31 ?i31 ?l31 ?c31 ?k31 ?a32 ?i32 ?l32 ?c32 ?k32 ?a33 ?i33 ?l33 ?c33 ?k33 ?a34 ?i34 ?l34 ?c34 ?k34 ?a35 ?i35 ?l35 ?c35 ?k35 ?a36 ?i36 ?l36 ?c36 ?k36 ?a37 ?l37 ?c37 ?k37 ?a38 ?l38 ?c38 ?k38 ?a39 ?l39 ?c39 ?k39 ?a40 ?l40 ?c40 ?k40 ?a41 ?l41 ?c41 ?k41 ?a42 ?l42 ?c42 ?k42 ?a43 ?l43 ?c43 ?k43 ?a44 ?l44 ?c44 ?k44 ?a45 ?l45 ?c45 ?k45 ?a46 ?l46 ?c46 ?k46 ?a47 ?l47 ?c47 ?k47 ?a48 ?l48 ?c48 ?k48 ?a49 ?l49 ?c49 ?k49 ?a50 ?l50 ?c50 ?k50 ?a51 ?l51 ?c51 ?k51 ?w0 ?q0 ?m0 ?v0 ?s0 ?qD0 ?mD0 ?z_len ?z_list ?z_tuple ?z_isinstance ?z_range ?z_enumerate ?z_dict ?z_str ?z_min ?z_max ?z_int ?z_zip ?z_bool
     (case aC_Flows => k_is)
     (case pg_Flows => k_is)
     (case hd_Flows => k_is)
     (case po_Flows => k_is)
     (case sa_Flows => k_is)
     (case mk_Flows => k_is)
     (case kc_Flows => k_is)
     (case n_Flows_last => k_is)
     (case n_Flows_number_of => k_is)
     (case n_Flows_folded_of => k_is)
     (case n_Flows_params_of => k_is)
     (case n_Flows_rows_of => k_is)
     (case n_Flows_names_in => k_is)
     (case n_Flows_ways_in => k_is)
     (case aC_Walker => k_is)
     (case pg_Walker => k_is)
     (case hd_Walker => k_is)
     (case po_Walker => k_is)
     (case sa_Walker => k_is)
     (case mk_Walker => k_is)
     (case kc_Walker => k_is)
     (case aC_TextWalker => k_is)
     (case pg_TextWalker => k_is)
     (case hd_TextWalker => k_is)
     (case po_TextWalker => k_is)
     (case sa_TextWalker => k_is)
     (case mk_TextWalker => k_is)
     (case kc_TextWalker => k_is)
     (case n_TextWalker_flows => k_is)
     (case n_TextWalker_stack => k_is)
     (case n_TextWalker_outcome => k_is)
     (case n_TextWalker_sendings => k_is)
     (case n_TextWalker_contents => k_is)
     (case n_TextWalker_records => k_is)
     (case aC_TextFrame => k_is)
     (case pg_TextFrame => k_is)
     (case hd_TextFrame => k_is)
     (case po_TextFrame => k_is)
     (case sa_TextFrame => k_is)
     (case mk_TextFrame => k_is)
     (case kc_TextFrame => k_is)
     (case n_TextFrame_function => k_is)
     (case n_TextFrame_row => k_is)
     (case n_TextFrame_named => k_is)
     (case a0 => k_is)
     (case l0 => k_is)
     (case c0 => k_is)
     (case k0 => k_is)
     (case a1 => k_is)
     (case l1 => k_is)
     (case c1 => k_is)
     (case k1 => k_is)
     (case a2 => k_is)
     (case l2 => k_is)
     (case c2 => k_is)
     (case k2 => k_is)
     (case a3 => k_is)
     (case l3 => k_is)
     (case c3 => k_is)
     (case k3 => k_is)
     (case a4 => k_is)
     (case l4 => k_is)
     (case c4 => k_is)
     (case k4 => k_is)
     (case a5 => k_is)
     (case l5 => k_is)
     (case c5 => k_is)
     (case k5 => k_is)
     (case a6 => k_is)
     (case l6 => k_is)
     (case c6 => k_is)
     (case k6 => k_is)
     (case a7 => k_is)
     (case l7 => k_is)
     (case c7 => k_is)
     (case k7 => k_is)
     (case a8 => k_is)
     (case i8 => k_is)
     (case l8 => k_is)
     (case c8 => k_is)
     (case k8 => k_is)
     (case a9 => k_is)
     (case l9 => k_is)
     (case c9 => k_is)
     (case k9 => k_is)
     (case ga10 => first | k_is | kernel_rfl)
     (case rd10 => first | k_is | kernel_rfl)
     (case a10 => k_is)
     (case i10 => k_is)
     (case l10 => k_is)
     (case c10 => k_is)
     (case k10 => k_is)
     (case fc10 => first | k_is | kernel_rfl)
     (case a11 => k_is)
     (case i11 => k_is)
     (case l11 => k_is)
     (case c11 => k_is)
     (case k11 => k_is)
     (case a12 => k_is)
     (case i12 => k_is)
     (case l12 => k_is)
     (case c12 => k_is)
     (case k12 => k_is)
     (case a13 => k_is)
     (case i13 => k_is)
     (case l13 => k_is)
     (case c13 => k_is)
     (case k13 => k_is)
     (case a14 => k_is)
     (case i14 => k_is)
     (case l14 => k_is)
     (case c14 => k_is)
     (case k14 => k_is)
     (case a15 => k_is)
     (case i15 => k_is)
     (case l15 => k_is)
     (case c15 => k_is)
     (case k15 => k_is)
     (case a16 => k_is)
     (case i16 => k_is)
     (case l16 => k_is)
     (case c16 => k_is)
     (case k16 => k_is)
     (case a17 => k_is)
     (case i17 => k_is)
     (case l17 => k_is)
     (case c17 => k_is)
     (case k17 => k_is)
     (case a18 => k_is)
     (case i18 => k_is)
     (case l18 => k_is)
     (case c18 => k_is)
     (case k18 => k_is)
     (case a19 => k_is)
     (case i19 => k_is)
     (case l19 => k_is)
     (case c19 => k_is)
     (case k19 => k_is)
     (case a20 => k_is)
     (case i20 => k_is)
     (case l20 => k_is)
     (case c20 => k_is)
     (case k20 => k_is)
     (case a21 => k_is)
     (case i21 => k_is)
     (case l21 => k_is)
     (case c21 => k_is)
     (case k21 => k_is)
     (case a22 => k_is)
     (case i22 => k_is)
     (case l22 => k_is)
     (case c22 => k_is)
     (case k22 => k_is)
     (case a23 => k_is)
     (case i23 => k_is)
     (case l23 => k_is)
     (case c23 => k_is)
     (case k23 => k_is)
     (case a24 => k_is)
     (case i24 => k_is)
     (case l24 => k_is)
     (case c24 => k_is)
     (case k24 => k_is)
     (case a25 => k_is)
     (case i25 => k_is)
     (case l25 => k_is)
     (case c25 => k_is)
     (case k25 => k_is)
     (case a26 => k_is)
     (case i26 => k_is)
     (case l26 => k_is)
     (case c26 => k_is)
     (case k26 => k_is)
     (case a27 => k_is)
     (case i27 => k_is)
     (case l27 => k_is)
     (case c27 => k_is)
     (case k27 => k_is)
     (case a28 => k_is)
     (case i28 => k_is)
     (case l28 => k_is)
     (case c28 => k_is)
     (case k28 => k_is)
     (case a29 => k_is)
     (case i29 => k_is)
     (case l29 => k_is)
     (case c29 => k_is)
     (case k29 => k_is)
     (case a30 => k_is)
     (case i30 => k_is)
     (case l30 => k_is)
     (case c30 => k_is)
     (case k30 => k_is)
     (case a31 => k_is)
     (case i31 => k_is)
     (case l31 => k_is)
     (case c31 => k_is)
     (case k31 => k_is)
     (case a32 => k_is)
     (case i32 => k_is)
     (case l32 => k_is)
     (case c32 => k_is)
     (case k32 => k_is)
     (case a33 => k_is)
     (case i33 => k_is)
     (case l33 => k_is)
     (case c33 => k_is)
     (case k33 => k_is)
     (case a34 => k_is)
     (case i34 => k_is)
     (case l34 => k_is)
     (case c34 => k_is)
     (case k34 => k_is)
     (case a35 => k_is)
     (case i35 => k_is)
     (case l35 => k_is)
     (case c35 => k_is)
     (case k35 => k_is)
     (case a36 => k_is)
     (case i36 => k_is)
     (case l36 => k_is)
     (case c36 => k_is)
     (case k36 => k_is)
     (case a37 => k_is)
     (case l37 => k_is)
     (case c37 => k_is)
     (case k37 => k_is)
     (case a38 => k_is)
     (case l38 => k_is)
     (case c38 => k_is)
     (case k38 => k_is)
     (case a39 => k_is)
     (case l39 => k_is)
     (case c39 => k_is)
     (case k39 => k_is)
     (case a40 => k_is)
     (case l40 => k_is)
     (case c40 => k_is)
     (case k40 => k_is)
     (case a41 => k_is)
     (case l41 => k_is)
     (case c41 => k_is)
     (case k41 => k_is)
     (case a42 => k_is)
     (case l42 => k_is)
     (case c42 => k_is)
     (case k42 => k_is)
     (case a43 => k_is)
     (case l43 => k_is)
     (case c43 => k_is)
     (case k43 => k_is)
     (case a44 => k_is)
     (case l44 => k_is)
     (case c44 => k_is)
     (case k44 => k_is)
     (case a45 => k_is)
     (case l45 => k_is)
     (case c45 => k_is)
     (case k45 => k_is)
     (case a46 => k_is)
     (case l46 => k_is)
     (case c46 => k_is)
     (case k46 => k_is)
     (case a47 => k_is)
     (case l47 => k_is)
     (case c47 => k_is)
     (case k47 => k_is)
     (case a48 => k_is)
     (case l48 => k_is)
     (case c48 => k_is)
     (case k48 => k_is)
     (case a49 => k_is)
     (case l49 => k_is)
     (case c49 => k_is)
     (case k49 => k_is)
     (case a50 => k_is)
     (case l50 => k_is)
     (case c50 => k_is)
     (case k50 => k_is)
     (case a51 => k_is)
     (case l51 => k_is)
     (case c51 => k_is)
     (case k51 => k_is)
     (case w0 => k_is)
     (case q0 => k_is)
     (case m0 => k_is)
     (case v0 => (repeat (first | exact .nil | refine .cons ⟨_, rfl⟩ ?_)))
     (case s0 => decide)
     (case qD0 => k_is)
     (case mD0 => kernel_rfl)
     (case z_len => k_is)
     (case z_list => k_is)
     (case z_tuple => k_is)
     (case z_isinstance => k_is)
     (case z_range => k_is)
     (case z_enumerate => k_is)
     (case z_dict => k_is)
     (case z_str => k_is)
     (case z_min => k_is)
     (case z_max => k_is)
     (case z_int => k_is)
     (case z_zip => k_is)
     (case z_bool => k_is)
   obtain ⟨t, T⟩ := T
   have e0 := hmg.symm.trans T.law.g
   cases e0
   exact ⟨t.d_law, T.bl, λ base kb nb => K22.ok_law T⟩
 case S => exact λ K H a ns hl hO hS => ⟨a, ns, rfl, hS, hl, λ _ => rfl⟩
 case C => exact λ _ _ _ _ z => z
