import PyProof.Rows.All
import Wide.All
import OpenK.AllK
import Wide.FinOn
import Lean
import PyProof.EqAt
import PyProof.EqKinds
import PyProof.TupleCall
import KE.KDictLaws
import KE.KDictOf
import KE.KEqDict
import KE.BitLaws
import PyProof.ZipIter
import PyProof.Rows.ZipGen
import PyProof.Rows.StrSplitAre
import PyProof.ExcInit
import PyProof.ExcBaseAll.ValueError
import PyProof.PassesOwn
import PyProof.StationsW
import PyProof.InstStoreFacts
import PyProof.ExcAttrAll.ValueError
import PyProof.NsDelKeeps
import KE.KListMore
import PyProof.P3Eq
import PyProof.Rows.TupDisplay
import PyProof.StrLawsReplace
import PyProof.StrCalls6
import PyProof.Rows.StrStrike
import KE.IntTextText
import PySem.Challenge.RW_stopglass_k23_records_and_fields
set_option Elab.async false
set_option linter.all false
set_option maxRecDepth 100000
section
namespace Hd
open PySem PySem.W PyProof.Rows
lay_quick PySem.W.topFrom
lay_quick PySem.Challenge.pw_stopglass_k23_records_and_fields
noncomputable abbrev TQ := PySem.W.Fast.tw370005188180407882 PySem.W.Fast.tw14364793385576792824
noncomputable abbrev OQ := PySem.W.Fast.tw4187177175401517315
noncomputable abbrev tp : Program := PySem.W.Fast.tw61322267204555701
abbrev lo : List Str := [PySem.Str.ofString "ATOM_PLACES"]
def keeps : PySem.Stmt → Bool
 | .Assign [.Name x _] _ _ => !decide (x = "__name__")
 | _ => true
def viewOf (p : Program) : Program := { p with main := { p.main with body := p.main.body.filter keeps } }
abbrev Xf : Program → Shared → Bool := (fun p s => xlAt (viewOf p) [] s && recOk (RowW.records (OpenRow.toRowW (OpenLaw.row PySem.Challenge.rw_stopglass_k23_records_and_fields))) s)
noncomputable def S0 (w : World) (os : OsState) : Shared := ⟨boot_heap w.params, Array.mk [], boot_drawn, boot_toks, os⟩
section
local macro_rules | `(tactic| o_head $H) => `(tactic| (case Hk => exact $H))
noncomputable def hk : (H : Hook) ×' ((∀ P : Prop, P) → PySem.Challenge.rw_stopglass_k23_records_and_fields.Holds) := by
 refine ⟨?Hk, fun h => ?m⟩
 rotate_left
 w_on; o_law; k_head; exact h _
end
theorem opt3 {σ α β γ : Type} {x : Option σ} {f : σ → α × β} {g : σ → γ} {a : α × β} {c : γ} (h1 : x.map (fun s => (f s).1) = some a.1) (h2 : x.map (fun s => (f s).2) = some a.2) (h3 : x.map g = some c) : x.map (fun s => (f s, g s)) = some (a, c) := by
 cases x with
 | none => cases h1
 | some s =>
  have e1 : (f s).1 = a.1 := Option.some.inj h1
  have e2 : (f s).2 = a.2 := Option.some.inj h2
  have e3 : g s = c := Option.some.inj h3
  show some (f s, g s) = some (a, c)
  rw [show f s = a from Prod.ext e1 e2, e3]
theorem r0a : ∀ (w : World) (os : OsState), (TQ tp (w.withFollow "special-get-raises" false) 20000 (S0 (w.withFollow "special-get-raises" false) os)).map (fun s => (OQ (viewOf tp) lo (importedModules tp.main.body) (Xf tp) true s).1) = some (openGood (viewOf tp) lo).1 := by
 intro w os; kernel_rfl
theorem r0b : ∀ (w : World) (os : OsState), (TQ tp (w.withFollow "special-get-raises" false) 20000 (S0 (w.withFollow "special-get-raises" false) os)).map (fun s => (OQ (viewOf tp) lo (importedModules tp.main.body) (Xf tp) true s).2) = some (openGood (viewOf tp) lo).2 := by
 intro w os; kernel_rfl
theorem r0c : ∀ (w : World) (os : OsState), (TQ tp (w.withFollow "special-get-raises" false) 20000 (S0 (w.withFollow "special-get-raises" false) os)).map (fun s => Hook.obs hk.1 s) = some (Hook.val hk.1 (w.withFollow "special-get-raises" false)) := by
 intro w os; kernel_rfl
theorem r0 : ∀ (w : World) (os : OsState), (TQ tp (w.withFollow "special-get-raises" false) 20000 (S0 (w.withFollow "special-get-raises" false) os)).map (fun s => (OQ (viewOf tp) lo (importedModules tp.main.body) (Xf tp) true s, Hook.obs hk.1 s)) = some (openGood (viewOf tp) lo, Hook.val hk.1 (w.withFollow "special-get-raises" false)) := fun w os => opt3 (r0a w os) (r0b w os) (r0c w os)
theorem r1a : ∀ (w : World) (os : OsState), (TQ tp (w.withFollow "special-get-raises" true) 20000 (S0 (w.withFollow "special-get-raises" true) os)).map (fun s => (OQ (viewOf tp) lo (importedModules tp.main.body) (Xf tp) true s).1) = some (openGood (viewOf tp) lo).1 := by
 intro w os; kernel_rfl
theorem r1b : ∀ (w : World) (os : OsState), (TQ tp (w.withFollow "special-get-raises" true) 20000 (S0 (w.withFollow "special-get-raises" true) os)).map (fun s => (OQ (viewOf tp) lo (importedModules tp.main.body) (Xf tp) true s).2) = some (openGood (viewOf tp) lo).2 := by
 intro w os; kernel_rfl
theorem r1c : ∀ (w : World) (os : OsState), (TQ tp (w.withFollow "special-get-raises" true) 20000 (S0 (w.withFollow "special-get-raises" true) os)).map (fun s => Hook.obs hk.1 s) = some (Hook.val hk.1 (w.withFollow "special-get-raises" true)) := by
 intro w os; kernel_rfl
theorem r1 : ∀ (w : World) (os : OsState), (TQ tp (w.withFollow "special-get-raises" true) 20000 (S0 (w.withFollow "special-get-raises" true) os)).map (fun s => (OQ (viewOf tp) lo (importedModules tp.main.body) (Xf tp) true s, Hook.obs hk.1 s)) = some (openGood (viewOf tp) lo, Hook.val hk.1 (w.withFollow "special-get-raises" true)) := fun w os => opt3 (r1a w os) (r1b w os) (r1c w os)
theorem left_twin {p p' : Program} {F : Program → Program} {X : Program → Shared → Bool} {loose : List Str} {α : Type} {Yf : Shared → α} {Ya : World → α} {N : Nat} {g0 : Bool} (row : String) (ep : p = p') (e : opening p = plainProg p.main.scope.names) (hN : Nat.ble 600 N = true) (f : ∀ s, fenceModules? p s = some s)
  (h0 : ∀ (w : World) (os : OsState), (TQ p' (w.withFollow row false) N (S0 (w.withFollow row false) os)).map (fun s => (OQ (F p') loose (importedModules p'.main.body) (X p') g0 s, Yf s)) = some (openGood (F p') loose, Ya (w.withFollow row false)))
  (h1 : ∀ (w : World) (os : OsState), (TQ p' (w.withFollow row true) N (S0 (w.withFollow row true) os)).map (fun s => (OQ (F p') loose (importedModules p'.main.body) (X p') g0 s, Yf s)) = some (openGood (F p') loose, Ya (w.withFollow row true))) : LeftO p (F p) loose (X p) Yf Ya N g0 := fun w => by
 subst ep
 have key : ∀ b, (openEnds treeTable p (w.withFollow row b) N).map (fun s => (openSeen (F p) loose (importedModules p.main.body) (X p) g0 s, Yf s)) = some (openGood (F p) loose, Ya (w.withFollow row b)) := by
  intro b
  obtain ⟨s, hs, hv⟩ := Option.map_eq_some_iff.mp (boot_open e hN f (w.withFollow row b))
  have es : s = S0 (w.withFollow row b) s.os := by
   cases s
   simp only [Prod.mk.injEq] at hv
   obtain ⟨a1, a2, a3, a4⟩ := hv
   subst a1 a2 a3 a4
   rfl
  unfold openEnds
  rw [hs, es, PySem.W.Fast.te370005188180407882, PySem.W.Fast.te14364793385576792824, PySem.W.Fast.te4187177175401517315]
  cases b
  . exact h0 w s.os
  . exact h1 w s.os
 have e0 := World.withFollow_self w row
 have := key (w.params.followText row)
 rwa [e0] at this
theorem left : LeftO PySem.Challenge.pw_stopglass_k23_records_and_fields (viewOf PySem.Challenge.pw_stopglass_k23_records_and_fields) lo (Xf PySem.Challenge.pw_stopglass_k23_records_and_fields) (Hook.obs hk.1) (Hook.val hk.1) 20000 true :=
 left_twin (p := PySem.Challenge.pw_stopglass_k23_records_and_fields) (p' := tp) (F := viewOf) (X := Xf) (loose := lo) (Yf := Hook.obs hk.1) (Ya := Hook.val hk.1) (N := 20000) (g0 := true) "special-get-raises" PySem.W.Fast.te61322267204555701 (by kernel_rfl) (by decide) (fun s => by kernel_rfl) r0 r1
theorem left_of {H : Hook} (e : H = hk.1) : LeftO PySem.Challenge.pw_stopglass_k23_records_and_fields (viewOf PySem.Challenge.pw_stopglass_k23_records_and_fields) lo (Xf PySem.Challenge.pw_stopglass_k23_records_and_fields) (Hook.obs H) (Hook.val H) 20000 true := by subst e; exact left
local macro_rules | `(tactic| o_head $H) => `(tactic| (
 refine holds_open (q := viewOf PySem.Challenge.pw_stopglass_k23_records_and_fields) (loose := lo) (Xt := Xf PySem.Challenge.pw_stopglass_k23_records_and_fields) (XP := XL (viewOf PySem.Challenge.pw_stopglass_k23_records_and_fields) []) (Yf := Hook.obs $H) (Ya := Hook.val $H) (YP := Hook.says $H) (N := 20000) ?hl (Hook.of $H) (Hook.keeps $H) (fun s e => xl_of s (Bool.and_eq_true_iff.mp e).1) XL.keeps (by rfl) (by rfl) (by rfl) (fun s e => recFacts_of (Bool.and_eq_true_iff.mp e).2) (by rfl) (by assumption) (by decide +kernel) ⟨rfl, rfl, rfl, rfl, rfl, by decide +kernel⟩ ?hw ?hc
 (case hl => exact left_of (H := $H) (by kernel_rfl))))
set_option maxHeartbeats 0 in
noncomputable def pk : (G : Prop) ×' (G → PySem.Challenge.rw_stopglass_k23_records_and_fields.Holds) := by
 refine' ⟨_, fun h => _⟩
 rotate_left
 w_on; o_law; k_head; (case hw => w_witness2)
 exact h
end Hd
end
namespace K11
end K11
namespace L2
open PySem PySem.Spec PyProof.Rows
abbrev Key := Sum Int Str
def zqh : Key -> Value -> Bool
 | .inl k, v => Value.isInt k v
 | .inr x, v => Value.isStrOf x v
def keyH (w : World) : Key -> Int
 | .inl k => hashInt k
 | .inr x => hashStr w x
theorem zc5 : ∀ {k : Key} {v : Value}, zqh k v = true -> (∃ i t, k = Sum.inl i /\ v = Value.int i t) \/ (∃ x t, k = Sum.inr x /\ v = Value.str x t)
 | .inl i, v, h => by
   obtain ⟨t, e⟩ := Value.isInt_shape (k := i) (v := v) h
   exact .inl ⟨i, t, rfl, e⟩
 | .inr x, v, h => by
   obtain ⟨t, e⟩ := Value.isStrOf_shape (x := x) (v := v) h
   exact .inr ⟨x, t, rfl, e⟩
theorem zu5 (i : Int) (t : Tok) : zqh (.inl i) (.int i t) = true := by simp [zqh, Value.isInt]
theorem zt2 (x : Str) (t : Tok) : zqh (.inr x) (.str x t) = true := by simp [zqh, Value.isStrOf]
theorem z0r (a b : Int) : decide ((Sum.inl a : Key) = Sum.inl b) = (a == b) := by
 by_cases e : a = b
 . subst e; simp
 . have h : ¬ (Sum.inl a : Key) = Sum.inl b := λ q => e (Sum.inl.inj q)
   rw [decide_eq_false h]
   exact (beq_eq_false_iff_ne.mpr e).symm
theorem z1b (a b : Str) : decide ((Sum.inr a : Key) = Sum.inr b) = decide (a = b) := by
 by_cases e : a = b
 . subst e; simp
 . have h : ¬ (Sum.inr a : Key) = Sum.inr b := λ q => e (Sum.inr.inj q)
   rw [decide_eq_false h, decide_eq_false e]
theorem z0t (a : Int) (b : Str) : decide ((Sum.inl a : Key) = Sum.inr b) = false := decide_eq_false (λ q => nomatch q)
theorem z0x (a : Str) (b : Int) : decide ((Sum.inr a : Key) = Sum.inl b) = false := decide_eq_false (λ q => nomatch q)
def zcc (prog : Program) (w : World) : PySem.KeyKind prog w Key where
 is := zqh
 hash := keyH w
 inj := λ v a b ha hb => by
   rcases zc5 ha with ⟨i, t, rfl, rfl⟩ | ⟨x, t, rfl, rfl⟩
   . rcases zc5 hb with ⟨j, u, rfl, e⟩ | ⟨y, u, rfl, e⟩
     . injection e with e1 _; rw [e1]
     . exact nomatch e
   . rcases zc5 hb with ⟨j, u, rfl, e⟩ | ⟨y, u, rfl, e⟩
     . exact nomatch e
     . injection e with e1 _; rw [e1]
 byValue := λ k v h => by
   rcases zc5 h with ⟨i, t, rfl, rfl⟩ | ⟨x, t, rfl, rfl⟩ <;> rfl
 pyHash := λ hv h => by
   rcases zc5 hv with ⟨i, t, rfl, rfl⟩ | ⟨x, t, rfl, rfl⟩
   . exact wpAny_pyHash_int h
   . exact wpAny_pyHash_str h
 eqBool := λ hu hv h => by
   rcases zc5 hu with ⟨i, t, rfl, rfl⟩ | ⟨x, t, rfl, rfl⟩
   . rcases zc5 hv with ⟨j, u, rfl, rfl⟩ | ⟨y, u, rfl, rfl⟩
     . rw [z0r] at h; exact wpAny_eqBool_int h
     . rw [z0t] at h; exact SeqAt.EqAt.int_str i t y u _ _ _ _ h
   . rcases zc5 hv with ⟨j, u, rfl, rfl⟩ | ⟨y, u, rfl, rfl⟩
     . rw [z0x] at h; exact SeqAt.EqAt.str_int x t j u _ _ _ _ h
     . rw [z1b] at h; exact wpAny_eqBool_str h
 «strs» := λ k x t v h => by
   rcases zc5 h with ⟨i, u, rfl, e⟩ | ⟨y, u, rfl, e⟩
   . exact nomatch e
   . injection e with e1 _
     subst e1
     cases v <;> rfl
theorem zqb (prog : Program) (w : World) (i : Int) (t : Tok) : (zcc prog w).is (.inl i) (.int i t) = true := zu5 i t
theorem zq9 (prog : Program) (w : World) (x : Str) (t : Tok) : (zcc prog w).is (.inr x) (.str x t) = true := zt2 x t
end L2
namespace L2
open PySem PySem.Spec PyProof.Rows
inductive V where
 | non | bl (b : Bool) | int (i : Int) | str (x : Str) | byt (b : Array UInt8) | flt (b : UInt64) | ref (a : Addr) | ty (n : String)
 deriving DecidableEq
def zdk : V -> Value -> Prop
 | .non, u => u = Value.none
 | .bl b, u => u = Value.bool b
 | .int i, u => ∃ t, u = Value.int i t
 | .str x, u => ∃ t, u = Value.str x t
 | .byt b, u => ∃ t, u = Value.bytes b t
 | .flt b, u => ∃ t, u = Value.float b t
 | .ref a, u => u = Value.ref a
 | .ty n, u => u = Value.type n
abbrev zc6 : List V -> List Value -> Prop := Paired zdk
theorem zc6.length {xs : List V} {us : List Value} (r : zc6 xs us) : xs.length = us.length := Paired.length r
theorem zc6.get : ∀ {xs : List V} {us : List Value} {i : Nat} {x : V}, zc6 xs us -> xs[i]? = some x -> ∃ u, us[i]? = some u /\ zdk x u
 | _, _, _, _, .nil, e => by simp at e
 | _, _, 0, _, .cons r _, e => by simp at e; subst e; exact ⟨_, rfl, r⟩
 | _, _, i + 1, x, .cons _ t, e => by
   obtain ⟨u, h1, h2⟩ := zc6.get (i := i) (x := x) t (by simpa using e)
   exact ⟨u, by simpa using h1, h2⟩
theorem zc6.set {x : V} {u : Value} (r : zdk x u) : ∀ {xs : List V} {us : List Value} (i : Nat), zc6 xs us -> zc6 (xs.set i x) (us.set i u)
 | _, _, _, .nil => .nil
 | _, _, 0, .cons _ t => .cons r t
 | _, _, i + 1, .cons q t => .cons q (zc6.set r i t)
theorem zc6.append : ∀ {xs ys : List V} {us ws : List Value}, zc6 xs us -> zc6 ys ws -> zc6 (xs ++ ys) (us ++ ws)
 | _, _, _, _, .nil, s => s
 | _, _, _, _, .cons r t, s => .cons r (zc6.append t s)
theorem zc6.take : ∀ {xs : List V} {us : List Value} (n : Nat), zc6 xs us -> zc6 (xs.take n) (us.take n)
 | _, _, 0, _ => .nil
 | _, _, _ + 1, .nil => .nil
 | _, _, n + 1, .cons r t => .cons r (zc6.take n t)
theorem zc6.drop : ∀ {xs : List V} {us : List Value} (n : Nat), zc6 xs us -> zc6 (xs.drop n) (us.drop n)
 | _, _, 0, r => r
 | _, _, _ + 1, .nil => .nil
 | _, _, n + 1, .cons _ t => zc6.drop n t
theorem zc6.none_of : ∀ {xs : List V} {us : List Value} {i : Nat}, zc6 xs us -> xs[i]? = none -> us[i]? = none := λ {xs us i} r e => by
 have h1 := r.length
 have h2 : xs.length <= i := List.getElem?_eq_none_iff.mp e
 exact List.getElem?_eq_none_iff.mpr (by omega)
def zof : Option V -> Option Value -> Prop
 | some v, some u => zdk v u
 | none, none => True
 | _, _ => False
def KV {κ : Type} : List (κ × V) -> List (κ × Value) -> Prop := Paired λ (p : κ × V) (q : κ × Value) => p.1 = q.1 /\ zdk p.2 q.2
def kV : Key -> V
 | .inl i => .int i
 | .inr x => .str x
inductive HO where
 | lst (xs : List V)
 | tup (xs : List V)
 | dK (kvs : List (Key × V)) | dT (kvs : List (List Key × V))
 | set (S : Int -> Bool) (n : Nat)
 | ins (C dx : Addr) (fs : List (Str × V))
 | own (x : Addr)
 | xd (fs : List (Str × V))
 | met (f x : Addr)
 | rng (lo hi : Int)
 | frz (o : Obj) (u : HO)
 | tbl (ps : Array Value)
 | ext (φ : Heap -> Prop)
abbrev Hp := Addr -> Option HO
def upd (H : Hp) (a : Addr) (o : HO) : Hp := λ b => if b = a then some o else H b
theorem zab {H : Hp} {a : Addr} {o : HO} : upd H a o a = some o := by unfold upd; rw [if_pos rfl]
theorem zah {H : Hp} {a b : Addr} {o : HO} (h : b ≠ a) : upd H a o b = H b := by unfold upd; rw [if_neg h]
theorem zln {H : Hp} {a : Addr} {o u : HO} : upd (upd H a o) a u = upd H a u := by
 funext b; unfold upd; split <;> rfl
theorem zqx {H : Hp} {a b : Addr} {o u : HO} (h : H a = some o) (h' : H b = some u) (d : o ≠ u) : a ≠ b := by
 intro e; subst e; rw [h] at h'; exact d (Option.some.inj h')
theorem zbv {H : Hp} {a b : Addr} {o : HO} (h : H a = some o) (h' : H b = none) : a ≠ b := by
 intro e; subst e; rw [h] at h'; cases h'
section
variable (P : Program) (w : World)
def zed (H : Hp) (h : Heap) (a : Addr) : HO -> Prop
 | .lst xs => xs.length <= sizeLine /\ ∃ (its : List Value) (n : Nat), zc6 xs its /\ h.get? a = some { cls := .type "list", data := .seq its.toArray n }
 | .tup xs => xs.length <= sizeLine /\ ∃ its : List Value, zc6 xs its /\ IsTup h a its.toArray
 | .dK kvs => kvs.length <= sizeLine /\ (a == sysModules) = false /\ ∃ vs, KV kvs vs /\ h.DictOf (zcc P w) a vs
 | .dT kvs => kvs.length <= sizeLine /\ (a == sysModules) = false /\ ∃ xs : List (List Key × Addr × Value),
     Paired (λ (p : List Key × V) (q : List Key × Addr × Value) => p.1 = q.1 /\ H q.2.1 = some (.tup (p.1.map kV)) /\ zdk p.2 q.2.2) kvs xs /\
     ∃ o es ep, h.get? a = some o /\ o.ExactDict /\ o.data = .dict es ep /\ es.toList = xs.map (entryOfKey (tupleKind (zcc P w))) /\ (xs.map (·.1)).Nodup
 | .set S n => h.SetOf (intKind P w) a S n
 | .ins C dx fs => H dx = some (.own a) /\ fs.length <= 1000 /\ dx ≠ a /\ h.get? a = some (PySem.W.instObj C dx) /\
     ∃ mA, h.Ns1 dx mA /\ (∀ f, zof (fs.lookup f) (mA f)) /\ PySem.Within mA (fs.map (·.1))
 | .own _ => ∃ o, h.get? a = some o
 | .xd fs => ∃ mA, h.Ns1 a mA /\ ∀ f, zof (fs.lookup f) (mA f)
 | .rng lo hi => ∃ t u v, h.get? a = some { cls := .type "range", data := .fields #[.int lo t, .int hi u, .int 1 v] }
 | .frz o u => h.get? a = some o /\ zed H h a u
 | .tbl ps => h.get? a = some { cls := .none, data := .fields ps }
 | .met f x => h.get? a = some (PySem.W.methodObj (.ref f) (.ref x))
 | .ext φ => φ h /\ (∃ o, h.get? a = some o) /\ ∀ h1 h2 : Heap, φ h1 -> (∀ o, h1.get? a = some o -> h2.get? a = some o) -> φ h2
def HOk (H : Hp) (h : Heap) : Prop := ∀ a o, H a = some o -> zed P w H h a o
end
section
variable {P : Program} {w : World} {H H' : Hp} {h h' : Heap} {a : Addr} {o : HO}
theorem zed.lt (x : zed P w H h a o) : a < h.objs.size := by
 cases o with
 | lst xs => obtain ⟨_, _, _, _, e⟩ := x; exact Heap.lt_size e
 | tup xs => obtain ⟨_, _, _, p⟩ := x; exact p.lt
 | dK kvs => obtain ⟨_, _, _, _, o, _, _, e, _⟩ := x; exact Heap.lt_size e
 | dT kvs => obtain ⟨_, _, _, _, o, _, _, e, _⟩ := x; exact Heap.lt_size e
 | set S n => obtain ⟨o, _, _, _, e, _⟩ := x; exact Heap.lt_size e
 | ins C dx fs => obtain ⟨_, _, _, e, _⟩ := x; exact Heap.lt_size e
 | own y => obtain ⟨_, e⟩ := x; exact Heap.lt_size e
 | xd fs => obtain ⟨_, ⟨_, _, _, e, _⟩, _⟩ := x; exact Heap.lt_size e
 | rng lo hi => obtain ⟨_, _, _, e⟩ := x; exact Heap.lt_size e
 | frz ob u => obtain ⟨e, _⟩ := x; exact Heap.lt_size e
 | tbl ps => exact Heap.lt_size (show h.get? a = some _ from x)
 | met f y => exact Heap.lt_size (show h.get? a = some _ from x)
 | ext φ => obtain ⟨_, ⟨_, e⟩, _⟩ := x; exact Heap.lt_size e
theorem Paired.mapP {α β : Type} {F G : α -> β -> Prop} : ∀ {l₁ : List α} {l₂ : List β}, Paired F l₁ l₂ -> (∀ a b, F a b -> G a b) -> Paired G l₁ l₂
 | _, _, .nil, _ => .nil
 | _, _, .cons r t, f => .cons (f _ _ r) (Paired.mapP t f)
theorem zed.stay (x : zed P w H h a o) (k : ∀ b u, (b = a \/ H b = some (.own a)) -> h.get? b = some u -> h'.get? b = some u)
   (ho : ∀ b, H b = some (.own a) -> H' b = some (.own a)) (ht : ∀ b xs, H b = some (.tup xs) -> H' b = some (.tup xs)) : zed P w H' h' a o := by
 induction o with
 | lst xs => obtain ⟨z, its, n, r, e⟩ := x; exact ⟨z, its, n, r, k _ _ (.inl rfl) e⟩
 | tup xs => obtain ⟨z, its, r, ob, e, c⟩ := x; exact ⟨z, its, r, ob, k _ _ (.inl rfl) e, c⟩
 | dK kvs => obtain ⟨z, y, vs, r, ob, es, ep, e, c⟩ := x; exact ⟨z, y, vs, r, ob, es, ep, k _ _ (.inl rfl) e, c⟩
 | dT kvs =>
   obtain ⟨z, y, xs, r, ob, es, ep, e, c⟩ := x
   exact ⟨z, y, xs, Paired.mapP r λ p q z => ⟨z.1, ht _ _ z.2.1, z.2.2⟩, ob, es, ep, k _ _ (.inl rfl) e, c⟩
 | set S n => obtain ⟨ob, es, ep, t, e, c⟩ := x; exact ⟨ob, es, ep, t, k _ _ (.inl rfl) e, c⟩
 | ins C dx fs =>
   obtain ⟨d, z, ne, e, mA, ⟨od, es, ep, e2, c⟩, r⟩ := x
   exact ⟨ho _ d, z, ne, k _ _ (.inl rfl) e, mA, ⟨od, es, ep, k _ _ (.inr d) e2, c⟩, r⟩
 | own y => obtain ⟨ob, e⟩ := x; exact ⟨ob, k _ _ (.inl rfl) e⟩
 | xd fs => obtain ⟨mA, ⟨od, es, ep, e, c⟩, r⟩ := x; exact ⟨mA, ⟨od, es, ep, k _ _ (.inl rfl) e, c⟩, r⟩
 | rng lo hi => obtain ⟨t, u, v, e⟩ := x; exact ⟨t, u, v, k _ _ (.inl rfl) e⟩
 | frz ob u ih => obtain ⟨e, q⟩ := x; exact ⟨k _ _ (.inl rfl) e, ih q⟩
 | tbl ps =>
   have e : h.get? a = some { cls := .none, data := .fields ps } := x
   show h'.get? a = some { cls := .none, data := .fields ps }
   exact k a _ (.inl rfl) e
 | met f y =>
   have e : h.get? a = some (PySem.W.methodObj (.ref f) (.ref y)) := x
   show h'.get? a = some (PySem.W.methodObj (.ref f) (.ref y))
   exact k a _ (.inl rfl) e
 | ext φ => obtain ⟨p, ⟨o, e⟩, st⟩ := x; exact ⟨st _ _ p λ o q => k _ _ (.inl rfl) q, ⟨o, k _ _ (.inl rfl) e⟩, st⟩
theorem HOk.lt (x : HOk P w H h) (e : H a = some o) : a < h.objs.size := (x a o e).lt
theorem HOk.fresh (x : HOk P w H h) (e : h.objs.size <= a) : H a = none := by
 cases q : H a with
 | none => rfl
 | some u => exact absurd (Nat.lt_of_lt_of_le (x.lt q) e) (Nat.lt_irrefl _)
theorem HOk.kept (x : HOk P w H h) (k : ∀ b u, h.get? b = some u -> h'.get? b = some u) : HOk P w H h' := λ a o e =>
 (x a o e).stay (λ b u _ q => k b u q) (λ _ q => q) λ _ _ q => q
theorem HOk.laid (x : HOk P w H h) (k : ∀ b u, h.get? b = some u -> h'.get? b = some u) (hp : h.objs.size <= a) (new : zed P w (upd H a o) h' a o) : HOk P w (upd H a o) h' := λ b u e => by
 have hn := x.fresh hp
 by_cases hb : b = a
 . subst hb; rw [zab] at e; cases e; exact new
 . rw [zah hb] at e
   exact (x b u e).stay (λ c v _ q => k c v q) (λ c q => by rw [zah (zbv q hn)]; exact q) λ c xs q => by rw [zah (zbv q hn)]; exact q
end
def Rd (H : Hp) (a : Addr) (u : HO) : Prop := H a = some u \/ ∃ o, H a = some (.frz o u)
theorem Rd.ok {P : Program} {w : World} {H : Hp} {h : Heap} {a : Addr} {u : HO} (r : Rd H a u) (x : HOk P w H h) : zed P w H h a u := by
 rcases r with r | ⟨o, r⟩
 . exact x a u r
 . obtain ⟨_, q⟩ := x a _ r
   exact q
def Mut : Option HO -> Prop
 | some (.lst _) => True
 | some (.dK _) => True
 | some (.dT _) => True
 | some (.set _ _) => True
 | some (.ins _ _ _) => True
 | some (.ext _) => True
 | _ => False
section
variable {P : Program} {w : World} {H : Hp} {h h' : Heap} {x e : Addr} {o' : HO}
theorem HOk.write (ok : HOk P w H h) (mu : Mut (H x)) (he : e = x \/ H e = some (.own x)) (k : ∀ b u, b ≠ e -> h.get? b = some u -> h'.get? b = some u) (heo : ∃ u, h'.get? e = some u)
   (new : zed P w (upd H x o') h' x o') : HOk P w (upd H x o') h' := λ b u q => by
 have nown : ∀ c y, H c = some (.own y) -> c ≠ x := λ c y r z => by subst z; rw [r] at mu; exact mu
 have ntup : ∀ c xs, H c = some (.tup xs) -> c ≠ x := λ c xs r z => by subst z; rw [r] at mu; exact mu
 by_cases hb : b = x
 . subst hb; rw [zab] at q; cases q; exact new
 . rw [zah hb] at q
   by_cases hbe : b = e
   . have q' : H b = some (.own x) := by
       rcases he with z | z
       . exact absurd (hbe.trans z) hb
       . rw [hbe]; exact z
     rw [q] at q'; cases q'
     obtain ⟨v, hv⟩ := heo
     exact ⟨v, by rw [hbe]; exact hv⟩
   . refine (ok b u q).stay (λ c v hc r => k c v ?_ r) (λ c r => by rw [zah (nown c b r)]; exact r) λ c xs r => by rw [zah (ntup c xs r)]; exact r
     rcases hc with rfl | hc
     . exact hbe
     . rintro rfl
       rcases he with z | z
       . exact nown c b hc z
       . rw [hc] at z; cases z; exact hb rfl
end
structure Un (fs ex : List Addr) (H H' : Hp) (h h' : Heap) : Prop where
 keep : ∀ b o, h.get? b = some o -> H b = none -> b ∉ fs -> b ∉ ex -> h'.get? b = some o
 slot : ∀ b o, h.get? b = some o -> H b = none -> b ∈ fs -> b ∉ ex -> ∃ sl, h'.get? b = some { o with slots := sl }
 free : ∀ b o, h.get? b = some o -> H b = none -> b ∉ ex -> H' b = none
 there : ∀ b o, h.get? b = some o -> b ∉ ex -> ∃ o', h'.get? b = some o'
 tups : ∀ b xs, H b = some (.tup xs) -> H' b = some (.tup xs)
 frzs : ∀ b o u, H b = some (.frz o u) -> H' b = some (.frz o u)
 tbls : ∀ b ps, H b = some (.tbl ps) -> ∃ more, H' b = some (.tbl (ps ++ more))
section
variable {fs fs' ex ex' : List Addr} {H H1 H2 : Hp} {h h1 h2 h' : Heap} {a x e : Addr} {o : HO}
theorem Un.any (u : Un fs ex H H1 h h1) {b : Addr} {ob : Obj} (q : h.get? b = some ob) (n : H b = none) (hx : b ∉ ex) : ∃ sl, h1.get? b = some { ob with slots := sl } := by
 by_cases hb : b ∈ fs
 . exact u.slot b ob q n hb hx
 . exact ⟨ob.slots, u.keep b ob q n hb hx⟩
theorem Un.kept (k : ∀ b u, h.get? b = some u -> h'.get? b = some u) : Un fs ex H H h h' :=
 ⟨λ b ob q _ _ _ => k b ob q, λ b ob q _ _ _ => ⟨ob.slots, k b ob q⟩, λ _ _ _ n _ => n, λ b ob q _ => ⟨ob, k b ob q⟩, λ _ _ q => q, λ _ _ _ q => q, λ _ ps q => ⟨#[], by rw [q]; simp⟩⟩
theorem Un.refl : Un fs ex H H h h := Un.kept λ _ _ q => q
theorem Un.laid (k : ∀ b u, h.get? b = some u -> h'.get? b = some u) (hp : h.objs.size <= a) (hn : H a = none) : Un fs ex H (upd H a o) h h' where
 keep := λ b u q _ _ _ => k b u q
 slot := λ b u q _ _ _ => ⟨u.slots, k b u q⟩
 free := λ b u q n _ => by rw [zah (Nat.ne_of_lt (Nat.lt_of_lt_of_le (Heap.lt_size q) hp))]; exact n
 there := λ b u q _ => ⟨u, k b u q⟩
 tups := λ b xs q => by rw [zah (zbv q hn)]; exact q
 frzs := λ b u xs q => by rw [zah (zbv q hn)]; exact q
 tbls := λ b ps q => ⟨#[], by rw [zah (zbv q hn), q]; simp⟩
theorem Un.write (mu : Mut (H x)) (he : e = x \/ H e = some (.own x)) (k : ∀ b u, b ≠ e -> h.get? b = some u -> h'.get? b = some u) (heo : ∃ u, h'.get? e = some u) : Un fs ex H (upd H x o) h h' := by
 have hx : ∀ b, H b = none -> b ≠ x := λ b n z => by subst z; rw [n] at mu; exact mu
 have hb : ∀ b, H b = none -> b ≠ e := λ b n z => by
   subst z
   rcases he with r | r
   . exact hx b n r
   . rw [n] at r; cases r
 have hm : ∀ b u, H b = some u -> ¬ Mut (some u) -> b ≠ x := λ b u q nm z => by subst z; rw [q] at mu; exact nm mu
 refine ⟨λ b u q n _ _ => k b u (hb b n) q, λ b u q n _ _ => ⟨u.slots, k b u (hb b n) q⟩, λ b u q n _ => by rw [zah (hx b n)]; exact n, λ b u q _ => ?_,
   λ b xs q => by rw [zah (hm b _ q λ z => z)]; exact q, λ b u xs q => by rw [zah (hm b _ q λ z => z)]; exact q, λ b ps q => ⟨#[], by rw [zah (hm b _ q λ z => z), q]; simp⟩⟩
 by_cases hbe : b = e
 . subst hbe; exact heo
 . exact ⟨u, k b u hbe q⟩
end
def trk (h : Heap) (H : Hp) : List Addr := (List.range h.objs.size).filter λ a => (H a).isSome
def zwr (h : Heap) (H : Hp) : Heap := PySem.W.hideAll h (trk h H)
theorem zuw (h : Heap) (H : Hp) : (zwr h H).objs.size = h.objs.size := PySem.W.hideAll_size _ _
theorem zwo {h : Heap} {H : Hp} {b : Addr} {o : Obj} (e : h.get? b = some o) (n : H b = none) : (zwr h H).get? b = some o :=
 PySem.W.hideAll_get _ e λ hm => by
   have q : (H b).isSome = true := (List.mem_filter.mp hm).2
   rw [n] at q; simp at q
theorem zz0 {h : Heap} {H : Hp} {b : Addr} {o : Obj} (e : (zwr h H).get? b = some o) : h.get? b = some o /\ H b = none := by
 have e' : h.get? b = some o := PySem.W.of_hideAll (trk h H) e
 refine ⟨e', ?_⟩
 cases q : H b with
 | none => rfl
 | some x =>
   have hm : b ∈ trk h H := List.mem_filter.mpr ⟨List.mem_range.mpr (Heap.lt_size e'), by simp [q]⟩
   have z : (zwr h H).get? b = none := PySem.W.hideAll_none (trk h H) hm
   rw [z] at e; cases e
end L2
namespace L2
open PySem PySem.Spec PyProof.Rows
structure Mod (K : W.Frag) (mg : Str -> Option Value) (base : Heap) : Prop where
 kin : K.In base
 glob : base.Ns mainGlobals mg
 blt : ∃ mb, base.Ns builtinsNs mb /\ ∀ x : Str, x ≠ "__name__" -> mb x = bootBuiltins x
 nolimit : base.NoLimit
structure Cx where
 prog : Program
 w : World
 K : W.Frag
 mg : Str -> Option Value
 base : Heap
 A : Around
 N : List Str
 s₀ : Shared
 H₀ : Hp
 env : Env
 outer : List Env
 stack : List Env
 ex : List Addr
 fn : Str -> Bool
 calm : Bool
 pn : List (Addr × Obj)
 xe : Value -> Shared -> Prop
def frs (l : List Env) : List Addr := l.filterMap (·.frame)
abbrev Cx.fs (X : Cx) : List Addr := frs X.outer
def Vis (sc : Scope) (x : Str) : Prop := sc.names.lookup x = some .local \/ sc.names.lookup x = some .cell \/ sc.names.lookup x = some .free
def Loc (sc : Scope) (x : Str) : Prop := sc.names.lookup x = some .local \/ sc.names.lookup x = some .cell
def Look (env : Env) (h : Heap) (m : Str -> Option Value) (x : Str) (u : Value) : Prop :=
 (env.kindOf x = some .local /\ m x = some u) \/ ((env.kindOf x = some .cell \/ env.kindOf x = some .free) /\ ∃ c, env.cells.lookup x = some c /\ h.IsCell c (some u))
structure Cx.Ok (X : Cx) : Prop where
 mod : Mod X.K X.mg X.base
 kind : X.env.scope.kind = .function
 glob : X.env.globals = mainGlobals
 blt : X.env.builtins = builtinsNs
 above : X.s₀.heap.objs.size <= X.env.locals
 inj : ∀ x y c, X.env.cells.lookup x = some c -> X.env.cells.lookup y = some c -> x = y
 has : ∀ x, (X.env.kindOf x = some .cell \/ X.env.kindOf x = some .free) -> ∃ c, X.env.cells.lookup x = some c
 cab : ∀ x c, X.fn x = true -> X.env.cells.lookup x = some c -> X.s₀.heap.objs.size <= c
 hd : X.calm = true -> X.A.handled = none
 frames : X.A.frames = some X.stack
 stk : X.stack = X.outer \/ (X.stack = X.env :: X.outer /\ X.env.frame = some X.env.locals)
 exf : ∀ b ∈ X.ex, b ≠ X.env.locals /\ ∀ x c, X.env.cells.lookup x = some c -> c ≠ b
 bs : ∀ b o, X.base.get? b = some o -> X.s₀.heap.get? b = some o /\ X.H₀ b = none
 bsz : X.base.objs.size <= X.s₀.heap.objs.size
 noex : ∀ b o, X.base.get? b = some o -> b ∉ X.ex
 exfs : ∀ b ∈ X.ex, b ∉ X.fs
 funs : X.s₀.heap.FunFrames X.base X.outer
 frf : ∀ b ∈ X.fs, X.H₀ b = none
structure Inv (X : Cx) (pins : List (Addr × Obj)) (σ : List (Option V)) (H : Hp) (s : Shared) : Prop where
 ok : X.Ok
 os : s.os = X.s₀.os
 bare : AllBare s.gens
 base : Un X.fs X.ex X.H₀ H X.s₀.heap s.heap
 loc : ∃ m, s.heap.Ns X.env.locals m /\ ∀ (i : Nat) (x : Str) (v : V), X.N[i]? = some x -> σ[i]? = some (some v) -> Vis X.env.scope x -> ∃ u, zdk v u /\ Look X.env s.heap m x u
 cell : ∀ x c, X.env.cells.lookup x = some c -> ∃ v, s.heap.IsCell c v
 free : H X.env.locals = none
 freeC : ∀ x c, X.env.cells.lookup x = some c -> H c = none
 pin : ∀ p ∈ X.pn ++ pins, s.heap.get? p.1 = some p.2 /\ H p.1 = none /\ p.1 ≠ X.env.locals /\ p.1 ∉ X.fs /\ ∀ v, p.2.data ≠ .cell v
 hok : HOk X.prog X.w H s.heap
 len : σ.length = X.N.length
section
variable {X : Cx} {pins : List (Addr × Obj)} {σ : List (Option V)} {H H' : Hp} {s : Shared} {h' : Heap}
theorem Cx.Ok.nofr (ok : X.Ok) {b : Addr} {o : Obj} (e : X.base.get? b = some o) : b ∉ X.fs := λ hb => by
 have := (ok.funs.mem hb).1
 rw [e] at this; cases this
theorem Inv.bs (I : Inv X pins σ H s) : ∀ b o, X.base.get? b = some o -> s.heap.get? b = some o /\ H b = none := λ b o e =>
 ⟨I.base.keep b o (I.ok.bs b o e).1 (I.ok.bs b o e).2 (I.ok.nofr e) (I.ok.noex b o e), I.base.free b o (I.ok.bs b o e).1 (I.ok.bs b o e).2 (I.ok.noex b o e)⟩
theorem Inv.bk (I : Inv X pins σ H s) : ∀ b o, X.base.get? b = some o -> s.heap.get? b = some o := λ b o e => (I.bs b o e).1
theorem Inv.mod (I : Inv X pins σ H s) : Mod X.K X.mg X.base := I.ok.mod
theorem Inv.kIn (I : Inv X pins σ H s) : X.K.In s.heap := I.ok.mod.kin.keeps I.bk
theorem Inv.fr (I : Inv X pins σ H s) : ∃ m, Fr X.base X.env.locals s.heap m :=
 let ⟨m, hn, _⟩ := I.loc
 ⟨m, hn, I.bk, Nat.le_trans I.ok.bsz I.ok.above⟩
theorem Inv.lt (I : Inv X pins σ H s) : X.env.locals < s.heap.objs.size := let ⟨_, hn, _⟩ := I.loc; hn.lt
theorem Inv.sz (I : Inv X pins σ H s) : X.s₀.heap.objs.size <= s.heap.objs.size := Nat.le_trans I.ok.above (Nat.le_of_lt I.lt)
theorem Inv.nofs (I : Inv X pins σ H s) {a : Addr} (h : s.heap.objs.size <= a) : a ∉ X.fs := λ hb => by
 obtain ⟨_, o, ho, _⟩ := I.ok.funs.mem hb
 exact absurd (Nat.lt_of_lt_of_le (Heap.lt_size ho) (Nat.le_trans I.sz h)) (Nat.lt_irrefl _)
theorem Inv.cne (I : Inv X pins σ H s) : ∀ x c, X.env.cells.lookup x = some c -> c ≠ X.env.locals := λ x c e z => by
 obtain ⟨v, o, ho, hd⟩ := I.cell x c e
 obtain ⟨m, ⟨o', es, ep, ho', hd', _⟩, _⟩ := I.loc
 rw [z, ho'] at ho; cases ho; rw [hd'] at hd; cases hd
theorem Inv.funs (I : Inv X pins σ H s) : s.heap.FunFrames X.base X.outer := by
 have all : ∀ (l : List Env), (∀ b ∈ frs l, b ∈ X.fs) -> X.s₀.heap.FunFrames X.base l -> s.heap.FunFrames X.base l := by
   intro l
   induction l with
   | nil => intro _ _; trivial
   | cons env r ih =>
     intro hs hl
     obtain ⟨hk, ⟨L, o, hf, hn, ho, hd⟩, hr⟩ := hl
     have hL : L ∈ X.fs := hs L (by unfold frs; rw [List.filterMap_cons, hf]; exact List.mem_cons_self)
     obtain ⟨sl, e⟩ := I.base.slot L o ho (I.ok.frf L hL) hL λ z => I.ok.exfs L z hL
     exact ⟨hk, ⟨L, _, hf, hn, e, hd⟩, ih (λ b hb => hs b (by unfold frs; rw [List.filterMap_cons, hf]; exact List.mem_cons_of_mem _ hb)) hr⟩
 exact all X.outer (λ _ hb => hb) I.ok.funs
theorem Inv.stack (I : Inv X pins σ H s) : s.heap.FunFrames X.base X.stack := by
 rcases I.ok.stk with e | ⟨e, hf⟩
 . rw [e]; exact I.funs
 . rw [e]
   obtain ⟨m, hn, _⟩ := I.loc
   refine .cons (by rw [I.ok.kind]; decide) hf hn ?_ I.funs
   exact Heap.get?_none_of_le (Nat.le_trans I.ok.bsz I.ok.above)
theorem Inv.stkSub (I : Inv X pins σ H s) : ∀ b ∈ frs X.stack, b ∈ X.env.locals :: X.fs := λ b hb => by
 rcases I.ok.stk with e | ⟨e, hf⟩
 . rw [e] at hb; exact List.mem_cons_of_mem _ hb
 . rw [e] at hb
   unfold frs at hb
   rw [List.filterMap_cons, hf] at hb
   exact hb
theorem Inv.stkFree (I : Inv X pins σ H s) : ∀ b ∈ frs X.stack, H b = none := λ b hb => by
 rcases List.mem_cons.mp (I.stkSub b hb) with e | hb
 . rw [e]; exact I.free
 . obtain ⟨_, o, ho, _⟩ := I.ok.funs.mem hb
   exact I.base.free b o ho (I.ok.frf b hb) λ z => I.ok.exfs b z hb
theorem Inv.step {g' : Array GenState} {t' : Nat} {d' : Drawn} {ch : List Addr} (I : Inv X pins σ H s)
   (hch : ∀ b ∈ ch, (b ∈ X.ex \/ X.s₀.heap.objs.size <= b) /\ b ≠ X.env.locals /\ (∀ x c, X.env.cells.lookup x = some c -> c ≠ b) /\ ∀ p ∈ X.pn ++ pins, p.1 ≠ b)
   (keep : ∀ b o, b ≠ X.env.locals -> b ∉ X.fs -> b ∉ ch -> s.heap.get? b = some o -> H b = none -> h'.get? b = some o)
   (slot : ∀ b o, b ≠ X.env.locals -> b ∈ X.fs -> b ∉ ch -> s.heap.get? b = some o -> H b = none -> ∃ sl, h'.get? b = some { o with slots := sl }) (free : ∀ b o, b ∉ ch -> s.heap.get? b = some o -> H b = none -> H' b = none)
   (there : ∀ b o, b ∉ ch -> s.heap.get? b = some o -> ∃ o', h'.get? b = some o')
   (tups : ∀ b xs, H b = some (.tup xs) -> H' b = some (.tup xs)) (frzs : ∀ b o u, H b = some (.frz o u) -> H' b = some (.frz o u)) (tbls : ∀ b ps, H b = some (.tbl ps) -> ∃ more, H' b = some (.tbl (ps ++ more)))
   (ns : ∀ m, s.heap.Ns X.env.locals m -> h'.Ns X.env.locals m) (hok : HOk X.prog X.w H' h') (hg : AllBare g') :
   Inv X pins σ H' { s with heap := h', gens := g', drawn := d', toks := t' } := by
 have neL : ∀ b o, X.s₀.heap.get? b = some o -> b ≠ X.env.locals := λ b o e => Nat.ne_of_lt (Nat.lt_of_lt_of_le (Heap.lt_size e) I.ok.above)
 have neC : ∀ b o, X.s₀.heap.get? b = some o -> b ∉ X.ex -> b ∉ ch := λ b o e hx hb => by
   rcases (hch b hb).1 with z | z
   . exact hx z
   . exact absurd (Nat.lt_of_lt_of_le (Heap.lt_size e) z) (Nat.lt_irrefl _)
 have cellK : ∀ x c, X.env.cells.lookup x = some c -> ∀ v, s.heap.IsCell c v -> h'.IsCell c v := λ x c e v ⟨o, ho, hd⟩ => by
   have nch : c ∉ ch := λ z => (hch c z).2.2.1 x c e rfl
   by_cases hc : c ∈ X.fs
   . obtain ⟨sl, q⟩ := slot c o (I.cne x c e) hc nch ho (I.freeC x c e)
     exact ⟨_, q, hd⟩
   . exact ⟨o, keep c o (I.cne x c e) hc nch ho (I.freeC x c e), hd⟩
 refine ⟨I.ok, I.os, hg, ⟨λ b o e n hb hx => ?_, λ b o e n hb hx => ?_, λ b o e n hx => ?_, λ b o e hx => ?_, λ b xs e => tups b xs (I.base.tups b xs e), λ b o xs e => frzs b o xs (I.base.frzs b o xs e), λ b ps e => ?_⟩, ?_, λ x c e => ?_, ?_, λ x c e => ?_, λ p hp => ?_, hok, I.len⟩
 . exact keep b o (neL b o e) hb (neC b o e hx) (I.base.keep b o e n hb hx) (I.base.free b o e n hx)
 . obtain ⟨sl, e1⟩ := I.base.slot b o e n hb hx
   obtain ⟨sl', e2⟩ := slot b _ (neL b o e) hb (neC b o e hx) e1 (I.base.free b o e n hx)
   exact ⟨sl', e2⟩
 . obtain ⟨o', e1⟩ := I.base.there b o e hx
   exact free b o' (neC b o e hx) e1 (I.base.free b o e n hx)
 . obtain ⟨o', e1⟩ := I.base.there b o e hx
   exact there b o' (neC b o e hx) e1
 . obtain ⟨m1, e1⟩ := I.base.tbls b ps e
   obtain ⟨m2, e2⟩ := tbls b _ e1
   exact ⟨m1 ++ m2, by rw [e2, Array.append_assoc]⟩
 . obtain ⟨m, hn, hl⟩ := I.loc
   refine ⟨m, ns m hn, λ i x v e1 e2 e3 => ?_⟩
   obtain ⟨u, r, l⟩ := hl i x v e1 e2 e3
   refine ⟨u, r, ?_⟩
   rcases l with l | ⟨k, c, e, z⟩
   . exact .inl l
   . exact .inr ⟨k, c, e, cellK x c e _ z⟩
 . obtain ⟨v, z⟩ := I.cell x c e
   exact ⟨v, cellK x c e v z⟩
 . obtain ⟨m, ⟨o, _, _, ho, _⟩, _⟩ := I.loc
   exact free _ o (λ z => (hch _ z).2.1 rfl) ho I.free
 . obtain ⟨v, o, ho, hd⟩ := I.cell x c e
   exact free c o (λ z => (hch c z).2.2.1 x c e rfl) ho (I.freeC x c e)
 . obtain ⟨e, n, ne, nf, d⟩ := I.pin p hp
   have nch : p.1 ∉ ch := λ z => (hch p.1 z).2.2.2 p hp rfl
   exact ⟨keep p.1 p.2 ne nf nch e n, free p.1 p.2 nch e n, ne, nf, d⟩
theorem Inv.un {t' : Nat} (I : Inv X pins σ H s) (u : Un X.fs [] H H' s.heap h') (hok : HOk X.prog X.w H' h') : Inv X pins σ H' { s with heap := h', toks := t' } := by
 obtain ⟨m, ⟨o, es, ep, ho, r⟩, _⟩ := id I.loc
 obtain ⟨sl, hL⟩ := u.any ho I.free (by simp)
 exact I.step (g' := s.gens) (d' := s.drawn) (ch := []) (λ _ z => nomatch z) (λ b o _ hb _ e n => u.keep b o e n hb (by simp)) (λ b o _ hb _ e n => u.slot b o e n hb (by simp)) (λ b o _ e n => u.free b o e n (by simp)) (λ b o _ e => u.there b o e (by simp)) u.tups u.frzs u.tbls (λ m' hm => by
   obtain ⟨o', es', ep', ho', r'⟩ := hm
   rw [ho] at ho'; cases ho'
   exact ⟨_, es', ep', hL, r'⟩) hok I.bare
theorem Inv.call {g' : Array GenState} {t' : Nat} {d' : Drawn} {ch : List Addr} (I : Inv X pins σ H s) (u : Un (frs X.stack) ch H H' s.heap h') (hok : HOk X.prog X.w H' h') (hg : AllBare g')
   (hch : ∀ b ∈ ch, (b ∈ X.ex \/ X.s₀.heap.objs.size <= b) /\ b ≠ X.env.locals /\ (∀ x c, X.env.cells.lookup x = some c -> c ≠ b) /\ ∀ p ∈ X.pn ++ pins, p.1 ≠ b) :
   Inv X pins σ H' { s with heap := h', gens := g', drawn := d', toks := t' } := by
 obtain ⟨m, ⟨o, es, ep, ho, r⟩, _⟩ := id I.loc
 obtain ⟨sl, hL⟩ := u.any ho I.free λ z => (hch _ z).2.1 rfl
 exact I.step (ch := ch) hch (λ b o hL hb hc e n => u.keep b o e n (λ z => (List.mem_cons.mp (I.stkSub b z)).elim hL hb) hc) (λ b o _ _ hc e n => u.any e n hc) (λ b o hc e n => u.free b o e n hc) (λ b o hc e => u.there b o e hc) u.tups u.frzs u.tbls (λ m' hm => by
   obtain ⟨o', es', ep', ho', r'⟩ := hm
   rw [ho] at ho'; cases ho'
   exact ⟨_, es', ep', hL, r'⟩) hok hg
theorem Inv.turned {t' : Nat} {it : Addr} (I : Inv X pins σ H s) (k : ∀ b o, b ≠ it -> s.heap.get? b = some o -> h'.get? b = some o) (hn : H it = none) (hL : it ≠ X.env.locals)
   (h1 : it ∈ X.ex \/ X.s₀.heap.objs.size <= it) (h2 : ∀ x c, X.env.cells.lookup x = some c -> c ≠ it) (h3 : ∀ p ∈ X.pn ++ pins, p.1 ≠ it) : Inv X pins σ H { s with heap := h', toks := t' } := by
 have nit : ∀ b u, H b = some u -> b ≠ it := λ b u e z => by rw [z, hn] at e; cases e
 refine I.step (g' := s.gens) (d' := s.drawn) (ch := [it]) (λ b hb => ?_) (λ b o _ _ hc e _ => k b o (λ z => hc (by simp [z])) e) (λ b o _ _ hc e _ => ⟨o.slots, k b o (λ z => hc (by simp [z])) e⟩) (λ _ _ _ _ n => n)
   (λ b o hc e => ⟨o, k b o (λ z => hc (by simp [z])) e⟩) (λ _ _ e => e) (λ _ _ _ e => e) (λ b ps e => ⟨#[], by rw [e]; simp⟩) (λ m hm => ?_) (λ b u e => ?_) I.bare
 . have e : b = it := by simpa using hb
   subst e
   exact ⟨h1, hL, h2, h3⟩
 . obtain ⟨o, es, ep, ho, r⟩ := hm
   exact ⟨o, es, ep, k _ o (Ne.symm hL) ho, r⟩
 . refine (I.hok b u e).stay (λ c v hc q => k c v ?_ q) (λ _ q => q) λ _ _ q => q
   rcases hc with z | z
   . rw [z]; exact nit b u e
   . exact nit c _ z
theorem Inv.tok (I : Inv X pins σ H s) (t : Nat) : Inv X pins σ H { s with toks := t } := I.un (h' := s.heap) (t' := t) Un.refl I.hok
theorem Inv.kept {t' : Nat} (I : Inv X pins σ H s) (k : ∀ b u, s.heap.get? b = some u -> h'.get? b = some u) : Inv X pins σ H { s with heap := h', toks := t' } := I.un (Un.kept k) (I.hok.kept k)
theorem Inv.laid {a : Addr} {o : HO} {t' : Nat} (I : Inv X pins σ H s) (k : ∀ b u, s.heap.get? b = some u -> h'.get? b = some u) (hp : s.heap.objs.size <= a) (new : zed X.prog X.w (upd H a o) h' a o) :
   Inv X pins σ (upd H a o) { s with heap := h', toks := t' } := I.un (Un.laid k hp (I.hok.fresh hp)) (I.hok.laid k hp new)
theorem Inv.write {x e : Addr} {o : HO} {t' : Nat} (I : Inv X pins σ H s) (mu : Mut (H x)) (he : e = x \/ H e = some (.own x)) (k : ∀ b u, b ≠ e -> s.heap.get? b = some u -> h'.get? b = some u) (heo : ∃ u, h'.get? e = some u)
   (new : zed X.prog X.w (upd H x o) h' x o) : Inv X pins σ (upd H x o) { s with heap := h', toks := t' } := I.un (Un.write mu he k heo) (I.hok.write mu he k heo new)
theorem Inv.weak {σ' : List (Option V)} (I : Inv X pins σ H s) (hl : σ'.length = σ.length) (w : ∀ (i : Nat) v, σ'[i]? = some (some v) -> σ[i]? = some (some v)) : Inv X pins σ' H s :=
 ⟨I.ok, I.os, I.bare, I.base, let ⟨m, hn, hl'⟩ := I.loc; ⟨m, hn, λ i x v e1 e2 e3 => hl' i x v e1 (w i v e2) e3⟩, I.cell, I.free, I.freeC, I.pin, I.hok, hl.trans I.len⟩
theorem Inv.pins_of {pins' : List (Addr × Obj)} (I : Inv X pins σ H s) (h : ∀ p ∈ pins', s.heap.get? p.1 = some p.2 /\ H p.1 = none /\ p.1 ≠ X.env.locals /\ p.1 ∉ X.fs /\ ∀ v, p.2.data ≠ .cell v) : Inv X pins' σ H s :=
 ⟨I.ok, I.os, I.bare, I.base, I.loc, I.cell, I.free, I.freeC, λ p hp => (List.mem_append.mp hp).elim (λ z => I.pin p (List.mem_append_left _ z)) (h p), I.hok, I.len⟩
theorem zrd {N : List Str} (hN : N.Nodup) {i j : Nat} {x : Str} (a : N[i]? = some x) (b : N[j]? = some x) : i = j := by
 obtain ⟨h1, e1⟩ := List.getElem?_eq_some_iff.mp a
 obtain ⟨h2, e2⟩ := List.getElem?_eq_some_iff.mp b
 exact (List.getElem_inj hN).mp (e1.trans e2.symm)
theorem zpa {M : Model} {A : Around} {E : Value -> Shared -> Prop} {i : Nat} {x : Str} {v : V} {u : Value} {Q : Unit -> Shared -> Prop} (I : Inv X pins σ H s) (hN : X.N.Nodup) (hi : X.N[i]? = some x) (hx : Loc X.env.scope x) (r : zdk v u)
   (h : ∀ s', Inv X pins (σ.set i (some v)) H s' -> (∃ a, Heap.SameBut a s.heap s'.heap /\ (a = X.env.locals \/ X.env.cells.lookup x = some a)) -> Q () s') (hf : X.fn x = true \/ X.env.scope.names.lookup x = some .local := by first | exact .inl rfl | exact .inr rfl | assumption) : wpAny M A (storeName X.env x u) Q E s := by
 obtain ⟨m, hn, hl⟩ := id I.loc
 have hcls : (X.env.scope.kind == .class || (X.env.scope.kind == .module && X.env.locals != X.env.globals)) = false := by rw [I.ok.kind]; rfl
 have hiσ : i < σ.length := by rw [I.len]; exact (List.getElem?_eq_some_iff.mp hi).1
 have cne := I.cne
 have tracked : ∀ {a : Addr} {h' : Heap}, (∃ o, s.heap.get? a = some o /\ H a = none) -> Heap.SameBut a s.heap h' -> HOk X.prog X.w H h' := λ {a h'} ha hs b ob e => by
   obtain ⟨_, _, hfree⟩ := ha
   refine (I.hok b ob e).stay (λ c w' hc q => (hs.2 c ?_).trans q) (λ _ q => q) λ _ _ q => q
   rintro rfl
   rcases hc with rfl | hc
   . rw [hfree] at e; cases e
   . rw [hfree] at hc; cases hc
 rcases hx with hk | hk
 . refine wpAny_storeName_local hk hn (λ h' hn' hs => ?_) hcls
   obtain ⟨oL, _, _, hoL, _⟩ := id hn
   refine h _ ⟨I.ok, I.os, I.bare, ⟨λ b o e n hb hx => ?_, λ b o e n hb hx => ?_, I.base.free, λ b o e hx => ?_, I.base.tups, I.base.frzs, I.base.tbls⟩, ⟨_, hn', λ j y v' e1 e2 e3 => ?_⟩, λ y c e => ?_, I.free, I.freeC, λ p hp => ?_, tracked ⟨oL, hoL, I.free⟩ hs, by simpa using I.len⟩ ⟨_, hs, .inl rfl⟩
   . exact (hs.2 b (Nat.ne_of_lt (Nat.lt_of_lt_of_le (Heap.lt_size e) I.ok.above))).trans (I.base.keep b o e n hb hx)
   . obtain ⟨sl, e1⟩ := I.base.slot b o e n hb hx
     exact ⟨sl, (hs.2 b (Nat.ne_of_lt (Nat.lt_of_lt_of_le (Heap.lt_size e) I.ok.above))).trans e1⟩
   . obtain ⟨o', e1⟩ := I.base.there b o e hx
     exact ⟨o', (hs.2 b (Nat.ne_of_lt (Nat.lt_of_lt_of_le (Heap.lt_size e) I.ok.above))).trans e1⟩
   . by_cases hj : j = i
     . subst hj
       rw [hi] at e1; cases e1
       rw [List.getElem?_set_self hiσ] at e2
       cases e2
       exact ⟨u, r, .inl ⟨hk, by simp⟩⟩
     . rw [List.getElem?_set_ne (Ne.symm hj)] at e2
       obtain ⟨u', r', q⟩ := hl j y v' e1 e2 e3
       refine ⟨u', r', ?_⟩
       rcases q with ⟨k, e⟩ | ⟨k, c, e, z⟩
       . refine .inl ⟨k, ?_⟩
         have : y ≠ x := λ e => hj (zrd hN e1 (e ▸ hi))
         simp [this, e]
       . exact .inr ⟨k, c, e, z.sameBut hs (cne y c e)⟩
   . obtain ⟨w', z⟩ := I.cell y c e
     exact ⟨w', z.sameBut hs (cne y c e)⟩
   . obtain ⟨e, n, ne, nf, d⟩ := I.pin p hp
     exact ⟨(hs.2 p.1 ne).trans e, n, ne, nf, d⟩
 . have hfn : X.fn x = true := by
     rcases hf with z | z
     . exact z
     . rw [z] at hk; cases hk
   obtain ⟨c, hc⟩ := I.ok.has x (.inl hk)
   obtain ⟨w', z⟩ := I.cell x c hc
   refine wpAny_storeName_cell I.ok.kind hk hc z (λ h' hc' hs => ?_)
   obtain ⟨oc, hoc, hocd⟩ := id z
   refine h { s with heap := h' } ⟨I.ok, I.os, I.bare, ⟨λ b o e n hb hx => ?_, λ b o e n hb hx => ?_, I.base.free, λ b o e hx => ?_, I.base.tups, I.base.frzs, I.base.tbls⟩, ⟨m, hn.sameBut hs (Ne.symm (cne x c hc)), λ j y v' e1 e2 e3 => ?_⟩, λ y c' e => ?_, I.free, I.freeC, λ p hp => ?_, tracked ⟨oc, hoc, I.freeC x c hc⟩ hs, by simpa using I.len⟩ ⟨c, hs, .inr hc⟩
   . exact (hs.2 b (Nat.ne_of_lt (Nat.lt_of_lt_of_le (Heap.lt_size e) (I.ok.cab x c hfn hc)))).trans (I.base.keep b o e n hb hx)
   . obtain ⟨sl, e1⟩ := I.base.slot b o e n hb hx
     exact ⟨sl, (hs.2 b (Nat.ne_of_lt (Nat.lt_of_lt_of_le (Heap.lt_size e) (I.ok.cab x c hfn hc)))).trans e1⟩
   . obtain ⟨o', e1⟩ := I.base.there b o e hx
     exact ⟨o', (hs.2 b (Nat.ne_of_lt (Nat.lt_of_lt_of_le (Heap.lt_size e) (I.ok.cab x c hfn hc)))).trans e1⟩
   . by_cases hj : j = i
     . subst hj
       rw [hi] at e1; cases e1
       rw [List.getElem?_set_self hiσ] at e2
       cases e2
       exact ⟨u, r, .inr ⟨.inl hk, c, hc, hc'⟩⟩
     . rw [List.getElem?_set_ne (Ne.symm hj)] at e2
       obtain ⟨u', r', q⟩ := hl j y v' e1 e2 e3
       refine ⟨u', r', ?_⟩
       rcases q with q | ⟨k, c', e, z'⟩
       . exact .inl q
       . refine .inr ⟨k, c', e, z'.sameBut hs ?_⟩
         rintro rfl
         exact hj (zrd hN e1 (I.ok.inj _ _ _ e hc ▸ hi))
   . by_cases hcc : c' = c
     . subst hcc; exact ⟨_, hc'⟩
     . obtain ⟨w2, z2⟩ := I.cell y c' e
       exact ⟨w2, z2.sameBut hs hcc⟩
   . obtain ⟨e, n, ne, nf, d⟩ := I.pin p hp
     refine ⟨(hs.2 p.1 ?_).trans e, n, ne, nf, d⟩
     intro q
     rw [q, hoc] at e
     have q' : oc = p.2 := Option.some.inj e
     exact d w' (by rw [<- q']; exact hocd)
theorem zr9 {M : Model} {A : Around} {E : Value -> Shared -> Prop} {i : Nat} {x : Str} {v : V} {u : Value} {Q : Unit -> Shared -> Prop} (I : Inv X pins σ H s) (hN : X.N.Nodup) (hi : X.N[i]? = some x) (hx : Loc X.env.scope x) (r : zdk v u)
   (h : ∀ s', Inv X pins (σ.set i (some v)) H s' -> Q () s') (hf : X.fn x = true \/ X.env.scope.names.lookup x = some .local := by first | exact .inl rfl | exact .inr rfl | assumption) : wpAny M A (storeName X.env x u) Q E s :=
 zpa I hN hi hx r (λ s' I' _ => h s' I') hf
theorem Inv.call' {s' : Shared} {ch : List Addr} (I : Inv X pins σ H s) (ho : s'.os = s.os) (u : Un (frs X.stack) ch H H' s.heap s'.heap) (hok : HOk X.prog X.w H' s'.heap) (hg : AllBare s'.gens)
   (hch : ∀ b ∈ ch, (b ∈ X.ex \/ X.s₀.heap.objs.size <= b) /\ b ≠ X.env.locals /\ (∀ x c, X.env.cells.lookup x = some c -> c ≠ b) /\ ∀ p ∈ X.pn ++ pins, p.1 ≠ b) : Inv X pins σ H' s' := by
 obtain ⟨h', g', d', t', o'⟩ := s'
 have e : o' = s.os := ho
 subst e
 exact I.call (g' := g') (t' := t') (d' := d') u hok hg hch
end
abbrev XK := Value -> Option Addr -> Hp -> Prop
abbrev St := List (Option V)
abbrev VK := V -> Hp -> Prop
abbrev TE := St -> Hp -> VK -> Prop
abbrev TT := St -> Hp -> (Bool -> Hp -> Prop) -> Prop
abbrev TA := St -> Hp -> (List V -> Hp -> Prop) -> Prop
structure zj7 where
 nx : St -> Hp -> Prop
 rt : VK
 bk : St -> Hp -> Prop := λ _ _ => False
 ct : St -> Hp -> Prop := λ _ _ => False
abbrev TS := zj7 -> St -> Hp -> Prop
def EP (X : Cx) (pins : List (Addr × Obj)) (σ : St) (Q : VK) (u : Value) (s' : Shared) : Prop := ∃ v H', Inv X pins σ H' s' /\ zdk v u /\ Q v H'
def TP (X : Cx) (pins : List (Addr × Obj)) (σ : St) (Q : Bool -> Hp -> Prop) (b : Bool) (s' : Shared) : Prop := ∃ H', Inv X pins σ H' s' /\ Q b H'
def AP (X : Cx) (pins : List (Addr × Obj)) (σ : St) (Q : List V -> Hp -> Prop) (us : List Value) (s' : Shared) : Prop := ∃ vs H', Inv X pins σ H' s' /\ zc6 vs us /\ Q vs H'
def SP (X : Cx) (pins : List (Addr × Obj)) (D : zj7) (f : Flow) (s' : Shared) : Prop :=
 match f with
 | .next => ∃ σ' H', Inv X pins σ' H' s' /\ D.nx σ' H'
 | .brk => ∃ σ' H', Inv X pins σ' H' s' /\ D.bk σ' H'
 | .cont => ∃ σ' H', Inv X pins σ' H' s' /\ D.ct σ' H'
 | .ret u => ∃ v σ' H', Inv X pins σ' H' s' /\ zdk v u /\ D.rt v H'
def PE (X : Cx) (e : Expr) (t : TE) : Prop :=
 ∀ (pins : List (Addr × Obj)) (s : Shared) (σ : St) (H : Hp) (Q : VK), Inv X pins σ H s -> t σ H Q -> wpAny (model X.prog X.w) X.A (eval e X.env) (EP X pins σ Q) X.xe s
def PT (X : Cx) (e : Expr) (t : TT) : Prop :=
 ∀ (pins : List (Addr × Obj)) (s : Shared) (σ : St) (H : Hp) (Q : Bool -> Hp -> Prop), Inv X pins σ H s -> t σ H Q -> wpAny (model X.prog X.w) X.A (isTrue e X.env (eval e X.env)) (TP X pins σ Q) X.xe s
def PW (X : Cx) (e : Expr) (t : TT) : Prop :=
 ∀ (whole : Sem Value) (pins : List (Addr × Obj)) (s : Shared) (σ : St) (H : Hp) (Q : Bool -> Hp -> Prop), Inv X pins σ H s -> t σ H Q -> wpAny (model X.prog X.w) X.A (isTrue e X.env whole) (TP X pins σ Q) X.xe s
theorem PW.pt {X : Cx} {e : Expr} {t : TT} (h : PW X e t) : PT X e t := h _
def PA (X : Cx) (es : List Expr) (t : TA) : Prop :=
 ∀ (pos : Pos) (pins : List (Addr × Obj)) (s : Shared) (σ : St) (H : Hp) (Q : List V -> Hp -> Prop), Inv X pins σ H s -> t σ H Q -> wpAny (model X.prog X.w) X.A (spliced (backTo pos (starEach es X.env))) (AP X pins σ Q) X.xe s
def PS (X : Cx) (st : Stmt) (t : TS) : Prop :=
 ∀ (pins : List (Addr × Obj)) (s : Shared) (σ : St) (H : Hp) (D : zj7), Inv X pins σ H s -> t D σ H -> wpAny (model X.prog X.w) X.A (exec st X.env) (SP X pins D) X.xe s
def PSs (X : Cx) (st : List Stmt) (t : TS) : Prop :=
 ∀ (pins : List (Addr × Obj)) (s : Shared) (σ : St) (H : Hp) (D : zj7), Inv X pins σ H s -> t D σ H -> wpAny (model X.prog X.w) X.A (execs st X.env) (SP X pins D) X.xe s
theorem thn {α : Type} {t : Sem α} {Q Q' : α -> Shared -> Prop} {M : Model} {A : Around} {E : Value -> Shared -> Prop} {s : Shared} (h : wpAny M A t Q E s) (hQ : ∀ a s, Q a s -> Q' a s) : wpAny M A t Q' E s := wpAny_mono h hQ λ _ _ x => x
end L2
namespace L2
open PySem PySem.Spec PyProof.Rows
section
variable {X : Cx}
def tVar (i : Nat) : TE := λ σ H Q => ∃ v, σ[i]? = some (some v) /\ Q v H
def tC (v : V) : TE := λ _ H Q => Q v H
theorem z02 {i : Nat} {x : Str} {pos : Pos} (hN : X.N[i]? = some x) (hv : Vis X.env.scope x) (hd : (x == ("__debug__" : Str)) = false := by decide) (hcd : (x == ("__classdict__" : Str)) = false := by decide) : PE X (.Name x pos) (tVar i) := by
 intro pins s σ H Q I h
 obtain ⟨v, e, h⟩ := h
 obtain ⟨m, hn, hl⟩ := I.loc
 obtain ⟨u, r, l⟩ := hl i x v hN e hv
 have fin : EP X pins σ Q u s := ⟨v, H, I, r, h⟩
 rcases l with ⟨hk, hm⟩ | ⟨hk, c, hc, hcell⟩
 . exact wpAny_Name (wpAny_loadName_local I.ok.kind hk hn hm fin) hd
 . rcases hk with hk | hk
   . exact wpAny_Name (wpAny_loadName_cell I.ok.kind hk hc hcell fin) hd
   . exact wpAny_Name (wpAny_loadName_free I.ok.kind hk hc hcell fin hcd) hd
theorem zae {i j pos} : PE X (.Constant (.int i) j pos) (tC (.int i)) := λ _ _ _ H _ I h => wpAny_Constant_int ⟨.int i, H, I.tok _, ⟨_, rfl⟩, h⟩
theorem zhi {b j pos} : PE X (.Constant (.bool b) j pos) (tC (.bl b)) := λ _ _ _ H _ I h => Constant_bool ⟨.bl b, H, I, rfl, h⟩
theorem zh1 {j pos} : PE X (.Constant .none j pos) (tC .non) := λ _ _ _ H _ I h => Constant_none ⟨.non, H, I, rfl, h⟩
theorem zbh {x j pos} : PE X (.Constant (.str x) j pos) (tC (.str x)) := λ _ _ _ H _ I h => Calls.Constant_str ⟨.str x, H, I.tok _, ⟨_, rfl⟩, h⟩
def Gl (X : Cx) (x : Str) : Prop := X.env.kindOf x = some .globalImplicit
theorem zq4 {E : Value -> Shared -> Prop} {pins : List (Addr × Obj)} {s : Shared} {σ : St} {H : Hp} {x : Str} {u : Value} {pos : Pos} {Q : Value -> Shared -> Prop} (I : Inv X pins σ H s) (hg : Gl X x) (hm : X.mg x = some u) (h : Q u s)
   (hd : (x == ("__debug__" : Str)) = false := by decide) : wpAny (model X.prog X.w) X.A (eval (.Name x pos) X.env) Q E s :=
 Calls.Name_function_global I.ok.kind hg (Calls.loadGlobal_global (by rw [I.ok.glob]; exact I.mod.glob.keeps I.bk) hm h) hd
theorem zjc {E : Value -> Shared -> Prop} {pins : List (Addr × Obj)} {s : Shared} {σ : St} {H : Hp} {x : Str} {u : Value} {pos : Pos} {Q : Value -> Shared -> Prop} (I : Inv X pins σ H s) (hg : Gl X x) (hm : X.mg x = none) (hv : bootBuiltins x = some u) (h : Q u s)
   (hn : x ≠ "__name__" := by decide) (hd : (x == ("__debug__" : Str)) = false := by decide) : wpAny (model X.prog X.w) X.A (eval (.Name x pos) X.env) Q E s := by
 obtain ⟨mb, h1, h2⟩ := I.mod.blt
 exact Calls.Name_function_global I.ok.kind hg (Calls.loadGlobal_builtin (by rw [I.ok.glob]; exact I.mod.glob.keeps I.bk) hm (by rw [I.ok.blt]; exact h1.keeps I.bk) ((h2 x hn).trans hv) h) hd
theorem zum {x : Str} {v : V} {u : Value} {pos : Pos} (hg : Gl X x) (hm : X.mg x = some u) (r : zdk v u) (hd : (x == ("__debug__" : Str)) = false := by decide) : PE X (.Name x pos) (tC v) :=
 λ _ _ _ H _ I h => zq4 I hg hm ⟨v, H, I, r, h⟩ hd
theorem zhy {x : Str} {v : V} {u : Value} {pos : Pos} (hg : Gl X x) (hm : X.mg x = none) (hv : bootBuiltins x = some u) (r : zdk v u) (hn : x ≠ "__name__" := by decide) (hd : (x == ("__debug__" : Str)) = false := by decide) : PE X (.Name x pos) (tC v) :=
 λ _ _ _ H _ I h => zjc I hg hm hv ⟨v, H, I, r, h⟩ hn hd
variable {a b : Expr} {ta tb : TE} {pos : Pos}
def PC (X : Cx) (op : CmpOp) (a b : Expr) (t : TE) : Prop :=
 ∀ (pins : List (Addr × Obj)) (s : Shared) (σ : St) (H : Hp) (Q : VK), Inv X pins σ H s -> t σ H Q ->
   wpAny (model X.prog X.w) X.A (eval a X.env) (λ v s₁ => wpAny (model X.prog X.w) X.A (eval b X.env) (λ u s₂ => wpAny (model X.prog X.w) X.A (compareOp op v u) (EP X pins σ Q) X.xe s₂) X.xe s₁) X.xe s
theorem zri (b : Expr) {op : CmpOp} (h : op ≠ .In) (h2 : op ≠ .NotIn) : behindInMarks op b = false := by
 have e1 : (op == CmpOp.In) = false := by cases op <;> first | rfl | exact absurd rfl h
 have e2 : (op == CmpOp.NotIn) = false := by cases op <;> first | rfl | exact absurd rfl h2
 cases b <;> simp [behindInMarks, e1, e2]
def tIsN (ta : TE) : TE := λ σ H Q => ta σ H λ x H1 => Q (.bl (decide (x = .non))) H1
def z3e (ta : TE) : TE := λ σ H Q => ta σ H λ x H1 => Q (.bl (!decide (x = .non))) H1
theorem zdk.none_iff {x : V} {v : Value} (r : zdk x v) : (v == Value.none) = decide (x = .non) := by
 cases x with
 | non => cases r; rfl
 | bl _ => cases r; rfl
 | int _ => obtain ⟨t, rfl⟩ := r; rfl
 | str _ => obtain ⟨t, rfl⟩ := r; rfl
 | byt _ => obtain ⟨t, rfl⟩ := r; rfl
 | flt _ => obtain ⟨t, rfl⟩ := r; rfl
 | ref _ => cases r; rfl
 | ty _ => cases r; rfl
theorem zvm {j pos'} (ha : PE X a ta) : PC X .Is a (.Constant .none j pos') (tIsN ta) := by
 intro pins s σ H Q I h
 refine thn (ha pins s σ H _ I h) λ v s1 ⟨x, H1, I1, r1, q1⟩ => ?_
 exact Constant_none (is_none_gen ⟨.bl _, H1, I1, by rw [r1.none_iff]; rfl, q1⟩)
theorem zui {j pos'} (ha : PE X a ta) : PC X .IsNot a (.Constant .none j pos') (z3e ta) := by
 intro pins s σ H Q I h
 refine thn (ha pins s σ H _ I h) λ v s1 ⟨x, H1, I1, r1, q1⟩ => ?_
 exact Constant_none (isnot_none_gen ⟨.bl _, H1, I1, by rw [r1.none_iff]; rfl, q1⟩)
def tB (t : TE) : TT := λ σ H Q => t σ H λ x H1 => ∃ c, x = .bl c /\ Q c H1
theorem z1v {op : CmpOp} {t : TE} (h : PC X op a b t) (h1 : behindInMarks op b = false := by first | exact zri _ (by decide) (by decide) | rfl) : PE X (.Compare a [op] [b] pos) t := λ pins s σ H Q I hw => wpAny_Compare1 (h pins s σ H Q I hw) h1
theorem zpj {op : CmpOp} {t : TE} (h : PC X op a b t) (h1 : behindInMarks op b = false := by first | exact zri _ (by decide) (by decide) | rfl) : PT X (.Compare a [op] [b] pos) (tB t) := by
 intro pins s σ H Q I hw
 refine wpAny_isTrue_Compare1 (thn (h pins s σ H _ I hw) λ v s1 h1 => thn h1 λ u s2 h2 => thn h2 λ c s3 ⟨x, H1, I1, r1, q1⟩ => ?_) h1
 obtain ⟨d, rfl, q⟩ := q1
 cases r1
 exact wpAny_truthy_bool ⟨H1, I1, q⟩
theorem zf6 {e : Expr} {t : TE} (h : PE X e t) (he : ∀ whole, isTrue e X.env whole = (do let v <- whole; standAt e.pos; holding [v] (truthy v)) := by intro _; rfl) : PT X e (tB t) := by
 intro pins s σ H Q I hw
 refine isTrue_plain (thn (h pins s σ H _ I hw) λ v s1 ⟨x, H1, I1, r1, q1⟩ => ?_) (he _)
 obtain ⟨d, rfl, q⟩ := q1
 cases r1
 exact wpAny_truthy_bool ⟨H1, I1, q⟩
variable {tA tB' : TT} {rest : List Expr}
def tAnd (t u : TT) : TT := λ σ H Q => t σ H λ c H1 => if c = true then u σ H1 Q else Q false H1
def tOr (t u : TT) : TT := λ σ H Q => t σ H λ c H1 => if c = true then Q true H1 else u σ H1 Q
def tNot (t : TT) : TT := λ σ H Q => t σ H λ c H1 => Q (!c) H1
theorem znr (ha : PT X a tA) : PW X (.BoolOp .And [a] pos) tA := by
 intro wh pins s σ H Q I h
 refine isTrue_and (thn (ha pins s σ H Q I h) λ c s1 e => ?_)
 cases c with
 | true => exact isTrue_and_nil e
 | false => exact e
theorem zl6 (ha : PT X a tA) : PW X (.BoolOp .Or [a] pos) tA := by
 intro wh pins s σ H Q I h
 refine isTrue_or (thn (ha pins s σ H Q I h) λ c s1 e => ?_)
 cases c with
 | false => exact isTrue_or_nil e
 | true => exact e
theorem zrr (ha : PT X a tA) (hb : PW X (.BoolOp .And (b :: rest) pos) tB') : PW X (.BoolOp .And (a :: b :: rest) pos) (tAnd tA tB') := by
 intro wh pins s σ H Q I h
 refine isTrue_and (thn (ha pins s σ H _ I h) λ c s1 ⟨H1, I1, q1⟩ => ?_)
 cases c with
 | true => exact hb wh pins s1 σ H1 Q I1 q1
 | false => exact ⟨H1, I1, q1⟩
theorem zmm (ha : PT X a tA) (hb : PW X (.BoolOp .Or (b :: rest) pos) tB') : PW X (.BoolOp .Or (a :: b :: rest) pos) (tOr tA tB') := by
 intro wh pins s σ H Q I h
 refine isTrue_or (thn (ha pins s σ H _ I h) λ c s1 ⟨H1, I1, q1⟩ => ?_)
 cases c with
 | true => exact ⟨H1, I1, q1⟩
 | false => exact hb wh pins s1 σ H1 Q I1 q1
theorem zkw (ha : PT X a tA) : PT X (.UnaryOp .Not a pos) (tNot tA) := by
 intro pins s σ H Q I h
 exact isTrue_not (ha pins s σ H (λ c H1 => Q (!c) H1) I h)
def z2u (ta tb : TE) : TE := λ σ H Q => ta σ H λ x H1 => ∃ c, x = .bl c /\ if c = true then tb σ H1 Q else Q (.bl false) H1
theorem z1u {op} {t : TE} (h : PE X a t) : PE X (.BoolOp op [a] pos) t := λ pins s σ H Q I hw => BoolOp_one (h pins s σ H Q I hw)
theorem z1g (ha : PE X a ta) (hb : PE X (.BoolOp .And (b :: rest) pos) tb) : PE X (.BoolOp .And (a :: b :: rest) pos) (z2u ta tb) := by
 intro pins s σ H Q I h
 refine BoolOp_and (thn (ha pins s σ H _ I h) λ v s1 ⟨x, H1, I1, r1, q1⟩ => ?_)
 obtain ⟨c, rfl, q1⟩ := q1
 cases r1
 refine wpAny_truthy_bool ?_
 cases c with
 | true => exact hb pins s1 σ H1 Q I1 q1
 | false => exact ⟨.bl false, H1, I1, rfl, q1⟩
def tIf (t : TT) (ta tb : TE) : TE := λ σ H Q => t σ H λ c H1 => if c = true then ta σ H1 Q else tb σ H1 Q
theorem znp {c : Expr} (hc : PT X c tA) (ha : PE X a ta) (hb : PE X b tb) : PE X (.IfExp c a b pos) (tIf tA ta tb) := by
 intro pins s σ H Q I h
 refine wpAny_IfExp (thn (hc pins s σ H _ I h) λ d s1 ⟨H1, I1, q1⟩ => ?_)
 cases d with
 | true => exact ha pins s1 σ H1 Q I1 q1
 | false => exact hb pins s1 σ H1 Q I1 q1
end
end L2
namespace L2
open PySem PySem.Spec PyProof.Rows
def SqL (K : W.Frag) (H : Hp) (a : Addr) (xs : List V) : Prop :=
 Rd H a (.lst xs) \/
   ∃ (o : Obj) (its : Array Value) (n : Nat), K.lookup a = some o /\ o.cls = .type "list" /\ o.dict = none /\ o.data = .seq its n /\ its.size <= sizeLine /\ zc6 xs its.toList
def SqT (K : W.Frag) (H : Hp) (a : Addr) (xs : List V) : Prop :=
 Rd H a (.tup xs) \/
   ∃ (o : Obj) (its : Array Value) (n : Nat), K.lookup a = some o /\ o.cls = .type "tuple" /\ o.data = .seq its n /\ its.size <= sizeLine /\ zc6 xs its.toList
def absV : Value -> Option V
 | .none => some .non
 | .bool b => some (.bl b)
 | .int i _ => some (.int i)
 | .str x _ => some (.str x)
 | .bytes b _ => some (.byt b)
 | .float b _ => some (.flt b)
 | .ref a => some (.ref a)
 | .type n => some (.ty n)
 | _ => none
theorem zdk.abs {x : V} {u : Value} (r : zdk x u) : absV u = some x := by
 cases x with
 | non => cases r; rfl
 | bl _ => cases r; rfl
 | int _ => obtain ⟨t, rfl⟩ := r; rfl
 | str _ => obtain ⟨t, rfl⟩ := r; rfl
 | byt _ => obtain ⟨t, rfl⟩ := r; rfl
 | flt _ => obtain ⟨t, rfl⟩ := r; rfl
 | ref _ => cases r; rfl
 | ty _ => cases r; rfl
theorem zdk.inj {x y : V} {u : Value} (r : zdk x u) (q : zdk y u) : x = y := Option.some.inj (r.abs.symm.trans q.abs)
theorem zc6.inj : ∀ {xs ys : List V} {us : List Value}, zc6 xs us -> zc6 ys us -> xs = ys
 | _, _, _, .nil, .nil => rfl
 | _, _, _, .cons r t, .cons r' t' => by rw [r.inj r', zc6.inj t t']
section
variable {X : Cx} {pins : List (Addr × Obj)} {σ : St} {H : Hp} {s : Shared} {a : Addr} {xs ys : List V}
theorem SqL.of {K : W.Frag} (h : H a = some (.lst xs)) : SqL K H a xs := .inl (.inl h)
theorem SqT.of {K : W.Frag} (h : H a = some (.tup xs)) : SqT K H a xs := .inl (.inl h)
theorem Inv.list (I : Inv X pins σ H s) (h : SqL X.K H a xs) : ∃ its : List Value, zc6 xs its /\ PlainL s.heap a its.toArray /\ xs.length <= sizeLine := by
 rcases h with h | ⟨o, its, n, hk, hc, hd, hs, hz, r⟩
 . obtain ⟨z, its, n, r, e⟩ := h.ok I.hok
   exact ⟨its, r, ⟨_, n, e, rfl, rfl, rfl⟩, z⟩
 . refine ⟨its.toList, r, ⟨o, n, I.kIn a o hk, hc, hd, by simpa using hs⟩, ?_⟩
   have e := r.length
   simp only [Array.length_toList] at e
   omega
theorem Inv.tuple (I : Inv X pins σ H s) (h : SqT X.K H a xs) : ∃ its : List Value, zc6 xs its /\ IsTup s.heap a its.toArray /\ xs.length <= sizeLine := by
 rcases h with h | ⟨o, its, n, hk, hc, hs, hz, r⟩
 . obtain ⟨z, its, r, p⟩ := h.ok I.hok
   exact ⟨its, r, p, z⟩
 . refine ⟨its.toList, r, ⟨o, I.kIn a o hk, hc, n, by simpa using hs⟩, ?_⟩
   have e := r.length
   simp only [Array.length_toList] at e
   omega
theorem Inv.list_inj (I : Inv X pins σ H s) (h : SqL X.K H a xs) (h' : SqL X.K H a ys) : xs = ys := by
 obtain ⟨its, r, ⟨o, n, e, _, _, d⟩, _⟩ := I.list h
 obtain ⟨its', r', ⟨o', n', e', _, _, d'⟩, _⟩ := I.list h'
 rw [e] at e'; cases e'
 rw [d] at d'
 injection d' with d1 _
 have : its = its' := by simpa using congrArg Array.toList d1
 subst this
 exact r.inj r'
theorem Inv.tuple_inj (I : Inv X pins σ H s) (h : SqT X.K H a xs) (h' : SqT X.K H a ys) : xs = ys := by
 obtain ⟨its, r, ⟨o, e, _, n, d⟩, _⟩ := I.tuple h
 obtain ⟨its', r', ⟨o', e', _, n', d'⟩, _⟩ := I.tuple h'
 rw [e] at e'; cases e'
 rw [d] at d'
 injection d' with d1 _
 have : its = its' := by simpa using congrArg Array.toList d1
 subst this
 exact r.inj r'
end
abbrev Cx.wish (X : Cx) (E : Value -> Shared -> Prop) : Cx := { X with xe := E }
abbrev Cx.nox (X : Cx) : Cx := X.wish λ _ _ => False
theorem Cx.Ok.wish {X : Cx} (ok : X.Ok) (E : Value -> Shared -> Prop) : (X.wish E).Ok :=
 ⟨ok.mod, ok.kind, ok.glob, ok.blt, ok.above, ok.inj, ok.has, ok.cab, ok.hd, ok.frames, ok.stk, ok.exf, ok.bs, ok.bsz, ok.noex, ok.exfs, ok.funs, ok.frf⟩
theorem Cx.Ok.unwish {X : Cx} {E : Value -> Shared -> Prop} (ok : (X.wish E).Ok) : X.Ok :=
 ⟨ok.mod, ok.kind, ok.glob, ok.blt, ok.above, ok.inj, ok.has, ok.cab, ok.hd, ok.frames, ok.stk, ok.exf, ok.bs, ok.bsz, ok.noex, ok.exfs, ok.funs, ok.frf⟩
section
variable {X : Cx} {pins : List (Addr × Obj)} {σ : St} {H : Hp} {s : Shared} {E : Value -> Shared -> Prop}
theorem Inv.wish (I : Inv X pins σ H s) (E : Value -> Shared -> Prop) : Inv (X.wish E) pins σ H s := ⟨I.ok.wish E, I.os, I.bare, I.base, I.loc, I.cell, I.free, I.freeC, I.pin, I.hok, I.len⟩
theorem Inv.unwish (I : Inv (X.wish E) pins σ H s) : Inv X pins σ H s := ⟨I.ok.unwish, I.os, I.bare, I.base, I.loc, I.cell, I.free, I.freeC, I.pin, I.hok, I.len⟩
theorem SP.unwish {D : zj7} {f : Flow} {s' : Shared} (h : SP (X.wish E) pins D f s') : SP X pins D f s' := by
 cases f with
 | next => obtain ⟨σ', H', I, q⟩ := h; exact ⟨σ', H', I.unwish, q⟩
 | brk => obtain ⟨σ', H', I, q⟩ := h; exact ⟨σ', H', I.unwish, q⟩
 | cont => obtain ⟨σ', H', I, q⟩ := h; exact ⟨σ', H', I.unwish, q⟩
 | ret u => obtain ⟨v, σ', H', I, r, q⟩ := h; exact ⟨v, σ', H', I.unwish, r, q⟩
theorem PSs.nox {st : List Stmt} {t : TS} (h : PSs X.nox st t) : PSs X st t := λ pins s σ H D I hw =>
 wpAny_mono (h pins s σ H D (I.wish _) hw) (λ _ _ q => q.unwish) λ _ _ z => False.elim z
end
section
variable {X : Cx} {st : Stmt} {rest : List Stmt} {t u : TS} {e : Expr} {te : TE} {pos : Pos}
def z2v : TS := λ D σ H => D.nx σ H
def tSeq (t u : TS) : TS := λ D σ H => t { D with nx := u D } σ H
theorem zas : PSs X [] z2v := λ _ _ σ H _ I h => wpAny_execs_nil ⟨σ, H, I, h⟩
theorem zad (h1 : PS X st t) (h2 : PSs X rest u) : PSs X (st :: rest) (tSeq t u) := by
 intro pins s σ H D I h
 refine wpAny_execs_cons (thn (h1 pins s σ H { D with nx := u D } I h) λ f s1 q => ?_)
 cases f with
 | next =>
   obtain ⟨σ', H', I', q⟩ := q
   exact h2 pins s1 σ' H' D I' q
 | ret v => exact q
 | brk => exact q
 | cont => exact q
theorem zak (h1 : PS X st t) : PSs X [st] t := by
 intro pins s σ H D I h
 refine wpAny_execs_cons (thn (h1 pins s σ H D I h) λ f s1 q => ?_)
 cases f with
 | next => exact wpAny_execs_nil q
 | ret v => exact q
 | brk => exact q
 | cont => exact q
def z2x : TS := λ D σ H => D.ct σ H
theorem zp8 : PS X (.Continue pos) z2x := λ _ _ σ H _ I h => wpAny_Continue ⟨σ, H, I, h⟩
theorem Inv.quiet {pins : List (Addr × Obj)} {σ : St} {H : Hp} {s : Shared} (I : Inv X pins σ H s) : interactive X.env = false := by simp [interactive, I.ok.kind]
def z3a (te : TE) : TS := λ D σ H => te σ H λ _ H1 => D.nx σ H1
theorem zct (he : PE X e te) (hs : swapsWith e none pos.line X.env = pure false := by rfl) : PS X (.Expr e pos) (z3a te) := by
 intro pins s σ H D I h
 exact wpAny_Expr_any (thn (he pins s σ H _ I h) λ v s1 ⟨x, H1, I1, r1, q1⟩ => ⟨σ, H1, I1, q1⟩) I.quiet hs
def tRet (te : TE) : TS := λ D σ H => te σ H D.rt
theorem zav (he : PE X e te) : PS X (.Return (some e) pos) (tRet te) := by
 intro pins s σ H D I h
 exact wpAny_Return_some (thn (he pins s σ H _ I h) λ v s1 ⟨x, H1, I1, r1, q1⟩ => ⟨x, σ, H1, I1, r1, q1⟩)
def tIfS (c : TT) (t u : TS) : TS := λ D σ H => c σ H λ b H1 => if b = true then t D σ H1 else u D σ H1
theorem zcd {c : Expr} {a b : List Stmt} {tc : TT} (hc : PT X c tc) (ha : PSs X a t) (hb : PSs X b u) : PS X (.If c a b pos) (tIfS tc t u) := by
 intro pins s σ H D I h
 refine wpAny_If (thn (hc pins s σ H _ I h) λ d s1 ⟨H1, I1, q1⟩ => ?_)
 cases d with
 | true => exact ha pins s1 σ H1 D I1 q1
 | false => exact hb pins s1 σ H1 D I1 q1
def z0s : TS := λ _ _ _ => False
theorem zn7 : PS X st z0s := λ _ _ _ _ _ _ h => h.elim
end
abbrev TG := V -> St -> Hp -> (St -> Hp -> Prop) -> Prop
abbrev TGs := List V -> St -> Hp -> (St -> Hp -> Prop) -> Prop
def PG (X : Cx) (target : Expr) (t : TG) : Prop :=
 ∀ (pins : List (Addr × Obj)) (s : Shared) (σ : St) (H : Hp) (v : V) (u : Value) (Q : St -> Hp -> Prop), Inv X pins σ H s -> zdk v u -> t v σ H Q ->
   wpAny (model X.prog X.w) X.A (assign target X.env u) (λ _ s' => ∃ σ' H', Inv X pins σ' H' s' /\ Q σ' H') X.xe s
def PGs (X : Cx) (ts : List Expr) (t : TGs) : Prop :=
 ∀ (pins : List (Addr × Obj)) (s : Shared) (σ : St) (H : Hp) (vs : List V) (us : List Value) (Q : St -> Hp -> Prop), Inv X pins σ H s -> zc6 vs us -> t vs σ H Q ->
   wpAny (model X.prog X.w) X.A (assignInOrder ((assignEach ts X.env).map (·.2)) us) (λ _ s' => ∃ σ' H', Inv X pins σ' H' s' /\ Q σ' H') X.xe s
abbrev z22 := V -> V -> V -> Hp -> (Hp -> Prop) -> Prop
def PSet (X : Cx) (t : z22) : Prop :=
 ∀ (pins : List (Addr × Obj)) (s : Shared) (σ : St) (H : Hp) (o i v : V) (ov iv u : Value) (Q : Hp -> Prop), Inv X pins σ H s -> zdk o ov -> zdk i iv -> zdk v u -> t o i v H Q ->
   wpAny (model X.prog X.w) X.A (setItem ov iv u) (λ _ s' => ∃ H', Inv X pins σ H' s' /\ Q H') X.xe s
abbrev TIp := V -> V -> Hp -> VK -> Prop
def PIp (X : Cx) (op : Operator) (t : TIp) : Prop :=
 ∀ (pins : List (Addr × Obj)) (s : Shared) (σ : St) (H : Hp) (x y : V) (v u : Value) (Q : VK), Inv X pins σ H s -> zdk x v -> zdk y u -> t x y H Q ->
   wpAny (model X.prog X.w) X.A (inplaceOp op v u) (EP X pins σ Q) X.xe s
section
variable {X : Cx} {pos : Pos}
def ztw (i : Nat) : TG := λ v σ H Q => Q (σ.set i (some v)) H
theorem za7 {i : Nat} {x : Str} (hN : X.N.Nodup) (hi : X.N[i]? = some x) (hx : Loc X.env.scope x) (hf : X.fn x = true \/ X.env.scope.names.lookup x = some .local := by first | exact .inl rfl | exact .inr rfl | assumption) : PG X (.Name x pos) (ztw i) := by
 intro pins s σ H v u Q I r h
 exact wpAny_assign_Name (zr9 I hN hi hx r (λ s' I' => ⟨_, H, I', h⟩) hf)
def gNil : TGs := λ vs σ H Q => vs = [] /\ Q σ H
def z3b (t : TG) (u : TGs) : TGs := λ vs σ H Q => ∃ v r, vs = v :: r /\ t v σ H λ σ' H' => u r σ' H' Q
theorem zh7 : PGs X [] gNil := by
 intro pins s σ H vs us Q I r h
 obtain ⟨e, h⟩ := h
 subst e
 cases r
 exact assignInOrder_nil ⟨σ, H, I, h⟩
theorem zc9 {e : Expr} {es : List Expr} {t : TG} {u : TGs} (h1 : PG X e t) (h2 : PGs X es u)
   (hs : (assignEach (e :: es) X.env).map (·.2) = assign e X.env :: (assignEach es X.env).map (·.2) := by rfl) : PGs X (e :: es) (z3b t u) := by
 intro pins s σ H vs us Q I r h
 obtain ⟨v, vr, e1, h⟩ := h
 subst e1
 cases r with
 | cons r rr =>
   rw [hs]
   refine assignInOrder_cons (thn (h1 pins s σ H _ _ _ I r h) λ _ s1 ⟨σ1, H1, I1, q1⟩ => ?_)
   exact h2 pins s1 σ1 H1 _ _ Q I1 rr q1
def gTup (K : W.Frag) (n : Nat) (t : TGs) : TG := λ v σ H Q => ∃ a xs, v = .ref a /\ SqT K H a xs /\ xs.length = n /\ t xs σ H Q
theorem zkq {es : List Expr} {k : Nat} {t : TGs} {n : Nat} (hc : X.calm = true) (h : PGs X es t)
   (hn : (assignEach es X.env).length = n := by rfl) (hst : (assignEach es X.env).findIdx? (·.1) = none := by rfl) : PG X (.Tuple es k pos) (gTup X.K n t) := by
 intro pins s σ H v u Q I r hw
 obtain ⟨a, xs, e1, hq, hl, hw⟩ := hw
 subst e1
 cases r
 obtain ⟨its, rv, ht, hz⟩ := I.tuple hq
 refine assign_Tuple_tuple (I.ok.hd hc) ht (by simp [hn, <- hl, rv.length]) hst λ h' hx => ?_
 have I1 : Inv X pins σ H { s with heap := h' } := I.kept (t' := s.toks) λ b o e => hx b o (Nat.ne_of_lt (Heap.lt_size e)) e
 exact h pins _ σ H xs _ Q I1 (by simpa using rv) hw
def gSub (to ti : TE) (t : z22) : TG := λ v σ H Q => to σ H λ o H1 => ti σ H1 λ i H2 => t o i v H2 λ H3 => Q σ H3
theorem zro {o i : Expr} {to ti : TE} {t : z22} (ho : PE X o to) (hi : PE X i ti) (hs : PSet X t)
   (ha : ∀ v, assign (.Subscript o i pos) X.env v = (do
     let ov <- holding [v] (eval o X.env)
     let iv <- holding [v, ov] (eval i X.env)
     standAt pos
     holding [v, ov, iv] (setItem ov iv v)
     release [v, ov, iv] []) := by intro _; rfl) : PG X (.Subscript o i pos) (gSub to ti t) := by
 intro pins s σ H v u Q I r h
 rw [ha]
 refine wpAny_bind (wpAny_holding (thn (ho pins s σ H _ I h) λ ov s1 ⟨x, H1, I1, r1, q1⟩ => ?_))
 refine wpAny_bind (wpAny_holding (thn (hi pins s1 σ H1 _ I1 q1) λ iv s2 ⟨y, H2, I2, r2, q2⟩ => ?_))
 refine wpAny_bind (wpAny_standAt (wpAny_bind (wpAny_holding (thn (hs pins s2 σ H2 x y v ov iv u _ I2 r1 r2 r q2) λ _ s3 ⟨H3, I3, q3⟩ => ?_))))
 exact wpAny_release ⟨σ, H3, I3, q3⟩
def z2m (te : TE) (g : TG) : TS := λ D σ H => te σ H λ x H1 => g x σ H1 D.nx
theorem zr8 {tg e : Expr} {te : TE} {g : TG} (he : PE X e te) (hg : PG X tg g) (hs : swapsWithSole [tg] e pos.line X.env = pure false := by rfl) (hw : swappedStores [tg] e X.env = pure none := by rfl)
   (h1 : (assignEach [tg] X.env).map (·.2) = [assign tg X.env] := by rfl) : PS X (.Assign [tg] e pos) (z2m te g) := by
 intro pins s σ H D I h
 refine wpAny_Assign_stores (thn (he pins s σ H _ I h) λ v s1 ⟨x, H1, I1, r1, q1⟩ => ?_) hs hw
 rw [h1]
 exact thn (hg pins s1 σ H1 x v _ I1 r1 q1) λ _ s2 q => q
theorem zbs {i : Nat} {x : Str} {e : Expr} {te : TE} {pos' : Pos} (hN : X.N.Nodup) (hi : X.N[i]? = some x) (hx : Loc X.env.scope x) (he : PE X e te) (hs : swapsWith e (some (.Name x pos')) pos.line X.env = pure false := by rfl) (hf : X.fn x = true \/ X.env.scope.names.lookup x = some .local := by first | exact .inl rfl | exact .inr rfl | assumption) :
   PS X (.Assign [.Name x pos'] e pos) (z2m te (ztw i)) := by
 intro pins s σ H D I h
 refine wpAny_Assign_Name (thn (he pins s σ H _ I h) λ v s1 ⟨y, H1, I1, r1, q1⟩ => ?_) hs
 exact zr9 I1 hN hi hx r1 (λ s2 I2 => ⟨_, H1, I2, q1⟩) hf
def ipI (f : Int -> Int -> Int) : TIp := λ x y H Q => ∃ i j, x = .int i /\ y = .int j /\ Q (.int (f i j)) H
theorem z14 : PIp X .Add (ipI λ i j => i + j) := by
 intro pins s σ H x y v u Q I r1 r2 h
 obtain ⟨i, j, e1, e2, q⟩ := h
 subst e1; subst e2
 obtain ⟨t, rfl⟩ := r1
 obtain ⟨t', rfl⟩ := r2
 exact iadd_int ⟨.int _, H, I.tok _, ⟨_, rfl⟩, q⟩
end
structure It where
 go : Nat -> Hp -> Prop
 yld : Nat -> Hp -> V -> Hp -> Prop
 stop : Nat -> Hp -> Prop
def ztv (X : Cx) (pins : List (Addr × Obj)) (H : Hp) (b : Addr) : Prop :=
 H b = none /\ b ≠ X.env.locals /\ b ∉ X.fs /\ (b ∈ X.ex \/ X.s₀.heap.objs.size <= b) /\ (∀ x c, X.env.cells.lookup x = some c -> c ≠ b) /\ ∀ p ∈ X.pn ++ pins, p.1 ≠ b
theorem Inv.fpOk {X : Cx} {pins : List (Addr × Obj)} {σ : St} {H H' : Hp} {s : Shared} {b : Addr} (I : Inv X pins σ H s) (hb : s.heap.objs.size <= b) (hn : H' b = none) : ztv X pins H' b := by
 refine ⟨hn, Nat.ne_of_gt (Nat.lt_of_lt_of_le I.lt hb), I.nofs hb, .inr (Nat.le_trans I.sz hb), λ x c e z => ?_, λ p hp z => ?_⟩
 . obtain ⟨v, q⟩ := I.cell x c e
   exact absurd (Nat.lt_of_lt_of_le q.lt (by rw [z]; exact hb)) (Nat.lt_irrefl _)
 . exact absurd (Nat.lt_of_lt_of_le (Heap.lt_size (I.pin p hp).1) (by rw [z]; exact hb)) (Nat.lt_irrefl _)
structure Turn (P : Program) (w : World) (K : W.Frag) (tg : Expr) (J : It) (fp : List Addr) (it : Addr) (tn : Nat -> Heap -> Prop) : Prop where
 mem : it ∈ fp
 obj : ∀ i h, tn i h -> ∀ b ∈ fp, ∃ o, h.get? b = some o /\ ∀ v, o.data ≠ .cell v
 keep : ∀ i h h', tn i h -> (∀ b ∈ fp, ∀ o, h.get? b = some o -> h'.get? b = some o) -> tn i h'
 item : ∀ (X : Cx), X.prog = P -> X.w = w -> X.K = K -> X.calm = true -> ∀ (i : Nat) (pins : List (Addr × Obj)) (s : Shared) (σ : St) (H : Hp) (E : Value -> Shared -> Prop), Inv X pins σ H s -> (∀ b ∈ fp, ztv X pins H b) -> tn i s.heap -> J.go i H ->
   wpAny (model P w) X.A (pyNext (.ref it)) (λ r s1 => ∃ u, r = some u /\
     wpAny (model P w) X.A (letOwnedTupleGo tg (.ref it) u) (λ _ s2 => ∃ x H', Inv X pins σ H' s2 /\ zdk x u /\ J.yld i H x H' /\ tn (i + 1) s2.heap /\ ∀ b ∈ fp, H' b = none) E s1) E s
 done : ∀ (X : Cx), X.prog = P -> X.w = w -> X.K = K -> X.calm = true -> ∀ (i : Nat) (pins : List (Addr × Obj)) (s : Shared) (σ : St) (H : Hp) (E : Value -> Shared -> Prop), Inv X pins σ H s -> (∀ b ∈ fp, ztv X pins H b) -> tn i s.heap -> J.stop i H ->
   wpAny (model P w) X.A (pyNext (.ref it)) (λ r s1 => r = none /\ Inv X pins σ H s1) E s
 self : ∀ (A : Around) (i : Nat) (s : Shared) (Q : Value -> Shared -> Prop) (E : Value -> Shared -> Prop), tn i s.heap -> Q (.ref it) s -> wpAny (model P w) A (pyIter (.ref it)) Q E s
abbrev TI := St -> Hp -> (It -> Hp -> Prop) -> Prop
def PIE (X : Cx) (pins : List (Addr × Obj)) (σ : St) (tg : Expr) (R : It -> Hp -> Prop) (itv : Value) (s2 : Shared) : Prop :=
 ∃ (it : Addr) (fp : List Addr) (tn : Nat -> Heap -> Prop) (J : It) (H' : Hp), itv = .ref it /\ Inv X pins σ H' s2 /\ Turn X.prog X.w X.K tg J fp it tn /\ tn 0 s2.heap /\ (∀ b ∈ fp, ztv X pins H' b) /\ R J H'
def PI (X : Cx) (tg iter : Expr) (wi : TI) : Prop :=
 ∀ (pins : List (Addr × Obj)) (s : Shared) (σ : St) (H : Hp) (R : It -> Hp -> Prop), Inv X pins σ H s -> wi σ H R ->
   wpAny (model X.prog X.w) X.A (eval iter X.env) (λ v s1 => wpAny (model X.prog X.w) X.A (pyIter v) (PIE X pins σ tg R) X.xe s1) X.xe s
theorem zw2 {M : Model} {A : Around} {E : Value -> Shared -> Prop} {s : Shared} {tg : Expr} {it : Addr} {u : Value} {o : Obj} {n : String} {vs : Array Value} {Q : Unit -> Shared -> Prop} (ho : s.heap.get? it = some o) (hc : o.cls = .type n) (hd : o.data = .fields vs)
   (hn : ["enumerate", "zip", "dict_itemiterator", "dict_reverseitemiterator", "odict_iterator", "itertools.zip_longest", "itertools.pairwise"].contains n = false) (hQ : Q () s) : wpAny M A (letOwnedTupleGo tg (.ref it) u) Q E s := by
 unfold letOwnedTupleGo
 cases tg <;> first
   | exact wpAny_pure hQ
   | (cases u <;> first
       | exact wpAny_pure hQ
       | (refine wpAny_bind (wpAny_load ho ?_)
          rw [hc, hd]
          show wpAny M A (if (["enumerate", "zip", "dict_itemiterator", "dict_reverseitemiterator", "odict_iterator", "itertools.zip_longest", "itertools.pairwise"].contains n && vs[0]? == some (rawInt _)) = true then _ else _) Q E s
          rw [if_neg (by intro h; rw [hn, Bool.false_and] at h; cases h)]
          exact wpAny_pure hQ))
def Itl (K : W.Frag) (a : Addr) : It :=
 ⟨λ i H => ∃ xs x, SqL K H a xs /\ xs[i]? = some x, λ i H x H' => H' = H /\ ∀ xs, SqL K H a xs -> xs[i]? = some x, λ i H => ∃ xs, SqL K H a xs /\ xs.length <= i⟩
def Itt (K : W.Frag) (a : Addr) : It :=
 ⟨λ i H => ∃ xs x, SqT K H a xs /\ xs[i]? = some x, λ i H x H' => H' = H /\ ∀ xs, SqT K H a xs -> xs[i]? = some x, λ i H => ∃ xs, SqT K H a xs /\ xs.length <= i⟩
def Itr (lo : Int) (n : Nat) : It := ⟨λ i _ => i < n, λ i H x H' => H' = H /\ x = .int (lo + i), λ i _ => n <= i⟩
theorem zty {P : Program} {w : World} {K : W.Frag} {tg : Expr} (a it : Addr) : Turn P w K tg (Itl K a) [it] it (λ i h => h.IsListIter it a i) where
 mem := by simp
 obj := λ i h st b hb => by
   have e : b = it := by simpa using hb
   subst e
   obtain ⟨o, e, c, d⟩ := st
   exact ⟨o, e, λ v z => by rw [d] at z; cases z⟩
 keep := λ i h h' st k => st.at λ o e => k it (by simp) o e
 item := by
   intro X hP hw hK hc i pins s σ H E I hf st hg
   subst hP hw hK
   obtain ⟨xs, x, hq, hx⟩ := hg
   obtain ⟨its, rv, p, hz⟩ := I.list hq
   obtain ⟨u, hu, ru⟩ := rv.get hx
   obtain ⟨f0, f1, f2, f3, f4, f5⟩ := hf it (by simp)
   refine wpAny_pyNext_list_item st p.isList (x := u) (by simpa using hu) λ h' st' sb => ?_
   have I1 : Inv X pins σ H { s with heap := h' } := I.turned (t' := s.toks) (λ b o hb e => (sb.2 b hb).trans e) f0 f1 f3 f4 f5
   obtain ⟨o, e, c, d⟩ := id st'
   exact ⟨u, rfl, zw2 (s := { s with heap := h' }) e c d (by decide) ⟨x, H, I1, ru, ⟨rfl, λ ys hy => by rw [I.list_inj hy hq]; exact hx⟩, st', λ b hb => (hf b hb).1⟩⟩
 done := by
   intro X hP hw hK hc i pins s σ H E I hf st hg
   subst hP hw hK
   obtain ⟨xs, hq, hx⟩ := hg
   obtain ⟨its, rv, p, hz⟩ := I.list hq
   obtain ⟨f0, f1, f2, f3, f4, f5⟩ := hf it (by simp)
   have hl := rv.length
   exact wpAny_pyNext_list_end (I.ok.hd hc) st p.isList (by simp; omega) λ h' eb => ⟨rfl, I.turned (t' := s.toks) (λ b o hb e => eb b o hb e) f0 f1 f3 f4 f5⟩
 self := λ _ _ _ _ _ st h => wpAny_pyIter_listiter st h
theorem ztb {P : Program} {w : World} {K : W.Frag} {tg : Expr} (a it : Addr) : Turn P w K tg (Itt K a) [it] it (λ i h => h.IsTupleIter it a i) where
 mem := by simp
 obj := λ i h st b hb => by
   have e : b = it := by simpa using hb
   subst e
   obtain ⟨o, e, c, d⟩ := st
   exact ⟨o, e, λ v z => by rw [d] at z; cases z⟩
 keep := λ i h h' st k => st.at λ o e => k it (by simp) o e
 item := by
   intro X hP hw hK hc i pins s σ H E I hf st hg
   subst hP hw hK
   obtain ⟨xs, x, hq, hx⟩ := hg
   obtain ⟨its, rv, p, hz⟩ := I.tuple hq
   obtain ⟨u, hu, ru⟩ := rv.get hx
   obtain ⟨f0, f1, f2, f3, f4, f5⟩ := hf it (by simp)
   refine wpAny_pyNext_tuple_item st (show s.heap.IsTuple a its.toArray from p) (x := u) (by simpa using hu) λ h' st' sb => ?_
   have I1 : Inv X pins σ H { s with heap := h' } := I.turned (t' := s.toks) (λ b o hb e => (sb.2 b hb).trans e) f0 f1 f3 f4 f5
   obtain ⟨o, e, c, d⟩ := id st'
   exact ⟨u, rfl, zw2 (s := { s with heap := h' }) e c d (by decide) ⟨x, H, I1, ru, ⟨rfl, λ ys hy => by rw [I.tuple_inj hy hq]; exact hx⟩, st', λ b hb => (hf b hb).1⟩⟩
 done := by
   intro X hP hw hK hc i pins s σ H E I hf st hg
   subst hP hw hK
   obtain ⟨xs, hq, hx⟩ := hg
   obtain ⟨its, rv, p, hz⟩ := I.tuple hq
   obtain ⟨f0, f1, f2, f3, f4, f5⟩ := hf it (by simp)
   have hl := rv.length
   exact wpAny_pyNext_tuple_end (I.ok.hd hc) st (show s.heap.IsTuple a its.toArray from p) (by simp; omega) λ h' eb => ⟨rfl, I.turned (t' := s.toks) (λ b o hb e => eb b o hb e) f0 f1 f3 f4 f5⟩
 self := λ _ _ _ _ _ st h => wpAny_pyIter_tupleiter st h
theorem zsp {P : Program} {w : World} {K : W.Frag} {tg : Expr} (it : Addr) (lo : Int) (n : Nat) : Turn P w K tg (Itr lo n) [it] it (λ i h => IsRangeIter h it (lo + (i : Nat) * 1) ((n : Int) - (i : Nat)) 1) where
 mem := by simp
 obj := λ i h st b hb => by
   have e : b = it := by simpa using hb
   subst e
   exact ⟨_, st, λ v z => by
     have z' : Data.fields _ = Data.cell v := z
     cases z'⟩
 keep := λ i h h' st k => k it (by simp) _ st
 item := by
   intro X hP hw hK hc i pins s σ H E I hf st hg
   subst hP hw hK
   obtain ⟨f0, f1, f2, f3, f4, f5⟩ := hf it (by simp)
   have W := Walks.range (prog := X.prog) (w := X.w) (I.ok.hd hc) it lo 1 n
   refine W.item i s _ _ hg st λ v h' tk hv st' kk => ?_
   obtain ⟨t, rfl⟩ := hv
   have I1 : Inv X pins σ H { s with heap := h', toks := tk } := I.turned (λ b o hb e => kk b o (by simpa using hb) e) f0 f1 f3 f4 f5
   refine ⟨_, rfl, zw2 (s := { s with heap := h', toks := tk }) (n := "range_iterator") st' rfl rfl (by decide) ⟨.int (lo + i), H, I1, ⟨t, ?_⟩, ⟨rfl, rfl⟩, st', λ b hb => (hf b hb).1⟩⟩
   rw [Int.mul_one]
 done := by
   intro X hP hw hK hc i pins s σ H E I hf st hg
   subst hP hw hK
   obtain ⟨f0, f1, f2, f3, f4, f5⟩ := hf it (by simp)
   exact wpAny_pyNext_range_end (I.ok.hd hc) st (by have : n <= i := hg; omega) λ h' eb => ⟨rfl, I.turned (t' := s.toks) (λ b o hb e => eb b o hb e) f0 f1 f3 f4 f5⟩
 self := λ _ _ _ _ _ st h => wpAny_pyIter_rangeiter st h
end L2
namespace L2
open PySem PySem.Spec PyProof.Rows
section
variable {X : Cx} {tg : Expr}
def z2o (K : W.Frag) (tl : TE) : TI := λ σ H R => tl σ H λ x H1 => ∃ a, x = .ref a /\ (∃ xs, SqL K H1 a xs) /\ R (Itl K a) H1
def iTup (K : W.Frag) (tl : TE) : TI := λ σ H R => tl σ H λ x H1 => ∃ a, x = .ref a /\ (∃ xs, SqT K H1 a xs) /\ R (Itt K a) H1
theorem zgi {l : Expr} {tl : TE} (hl : PE X l tl) : PI X tg l (z2o X.K tl) := by
 intro pins s σ H R I h
 refine thn (hl pins s σ H _ I h) λ v s1 ⟨x, H1, I1, r1, q1⟩ => ?_
 obtain ⟨a, e, ⟨xs, hq⟩, q⟩ := q1
 subst e
 cases r1
 obtain ⟨its, rv, p, hz⟩ := I1.list hq
 refine wpAny_pyIter_list p.isList ?_
 refine ⟨s1.heap.objs.size, [s1.heap.objs.size], _, _, H1, rfl, I1.kept (t' := s1.toks) λ b o e => Heap.get?_push_of_some _ e, zty a _, ⟨_, Heap.get?_push_size _ rfl, rfl, rfl⟩, λ b hb => ?_, q⟩
 have e : b = s1.heap.objs.size := by simpa using hb
 subst e
 exact I1.fpOk (Nat.le_refl _) (I1.hok.fresh (Nat.le_refl _))
theorem zu6 {l : Expr} {tl : TE} (hl : PE X l tl) : PI X tg l (iTup X.K tl) := by
 intro pins s σ H R I h
 refine thn (hl pins s σ H _ I h) λ v s1 ⟨x, H1, I1, r1, q1⟩ => ?_
 obtain ⟨a, e, ⟨xs, hq⟩, q⟩ := q1
 subst e
 cases r1
 obtain ⟨its, rv, p, hz⟩ := I1.tuple hq
 refine wpAny_pyIter_tuple (show s1.heap.IsTuple a its.toArray from p) ?_
 refine ⟨s1.heap.objs.size, [s1.heap.objs.size], _, _, H1, rfl, I1.kept (t' := s1.toks) λ b o e => Heap.get?_push_of_some _ e, ztb a _, ⟨_, Heap.get?_push_size _ rfl, rfl, rfl⟩, λ b hb => ?_, q⟩
 have e : b = s1.heap.objs.size := by simpa using hb
 subst e
 exact I1.fpOk (Nat.le_refl _) (I1.hok.fresh (Nat.le_refl _))
theorem zsd {pins : List (Addr × Obj)} {σ : St} {H : Hp} {s : Shared} {R : It -> Hp -> Prop} {E : Value -> Shared -> Prop} {lo hi : Int} {t u v : Tok} {tk : Nat} (I : Inv X pins σ H s) (h1 : -(2 ^ 62) <= lo) (h2 : lo < 2 ^ 62) (h3 : -(2 ^ 62) <= hi) (h4 : hi < 2 ^ 62)
   (q : R (Itr lo (hi - lo).toNat) H) : wpAny (model X.prog X.w) X.A (pyIter (.ref s.heap.objs.size)) (PIE X pins σ tg R) E { s with heap := s.heap.push { cls := .type "range", data := .fields #[.int lo t, .int hi u, .int 1 v] }, toks := tk } := by
 refine wpAny_pyIter_range (IsRange.new ..) (small_one h1 h2 h3 h4) ?_
 have I1 : Inv X pins σ H { s with heap := s.heap.push { cls := .type "range", data := .fields #[.int lo t, .int hi u, .int 1 v] }, toks := tk } := I.kept λ b o e => Heap.get?_push_of_some _ e
 refine ⟨(s.heap.push { cls := .type "range", data := .fields #[.int lo t, .int hi u, .int 1 v] }).objs.size, [(s.heap.push { cls := .type "range", data := .fields #[.int lo t, .int hi u, .int 1 v] }).objs.size], _, _, H, rfl,
   I1.kept (t' := tk) λ b o e => Heap.get?_push_of_some _ e, zsp _ lo (hi - lo).toNat, ?_, λ b hb => ?_, q⟩
 . have e1 : lo + ((0 : Nat) : Int) * 1 = lo := by simp
   have e2 : (((hi - lo).toNat : Nat) : Int) - ((0 : Nat) : Int) = Builtin.Range.rangeSize lo hi 1 := by rw [rangeSize_one]; split <;> omega
   show IsRangeIter _ _ (lo + ((0 : Nat) : Int) * 1) ((((hi - lo).toNat : Nat) : Int) - ((0 : Nat) : Int)) 1
   rw [e1, e2]
   exact Heap.get?_push_size _ rfl
 . have e : b = (s.heap.push { cls := .type "range", data := .fields #[.int lo t, .int hi u, .int 1 v] }).objs.size := by simpa using hb
   subst e
   exact I1.fpOk (Nat.le_refl _) (I1.hok.fresh (Nat.le_refl _))
def z2w (ta : TA) : TI := λ σ H R => ta σ H λ vs H1 => ∃ j : Int, vs = [.int j] /\ -(2 ^ 62) <= j /\ j < 2 ^ 62 /\ R (Itr 0 j.toNat) H1
def z25 (ta : TA) : TI := λ σ H R => ta σ H λ vs H1 => ∃ i j : Int, vs = [.int i, .int j] /\ (-(2 ^ 62) <= i /\ i < 2 ^ 62 /\ -(2 ^ 62) <= j /\ j < 2 ^ 62) /\ R (Itr i (j - i).toNat) H1
theorem zho {a : Expr} {ta : TA} {p pos : Pos} (hg : Gl X "range") (hm : X.mg "range" = none) (ha : PA X [a] ta) (hs : starEach [a] X.env = [(false, eval a X.env)] := by rfl) : PI X tg (.Call (.Name "range" p) [a] [] pos) (z2w ta) := by
 intro pins s σ H R I h
 refine Call_ (zjc I hg hm boot_range (PyProof.Rows.callWith_type1 (thn (ha pos pins s σ H _ I h) λ us s1 ⟨vs, H1, I1, r1, q1⟩ => ?_) hs rfl))
 obtain ⟨j, e, q1, q2, q⟩ := q1
 subst e
 cases r1 with
 | cons r rr =>
   cases rr
   obtain ⟨t, rfl⟩ := r
   exact call_range_1 (zsd I1 (by omega) (by omega) q1 q2 (by simpa using q))
theorem zt8 {a b : Expr} {ta : TA} {p pos : Pos} (hg : Gl X "range") (hm : X.mg "range" = none) (ha : PA X [a, b] ta) (hs : starEach [a, b] X.env = [(false, eval a X.env), (false, eval b X.env)] := by rfl) (hs2 : starEach [b] X.env = [(false, eval b X.env)] := by rfl) :
   PI X tg (.Call (.Name "range" p) [a, b] [] pos) (z25 ta) := by
 intro pins s σ H R I h
 refine Call_ (zjc I hg hm boot_range (PyProof.Rows.callWith_type1 (thn (ha pos pins s σ H _ I h) λ us s1 ⟨vs, H1, I1, r1, q1⟩ => ?_) (by rw [hs, hs2]) (by rw [hs2]; rfl)))
 obtain ⟨i, j, e, ⟨q1, q2, q3, q4⟩, q⟩ := q1
 subst e
 cases r1 with
 | cons r rr =>
   cases rr with
   | cons r' rr =>
     cases rr
     obtain ⟨t, rfl⟩ := r
     obtain ⟨t', rfl⟩ := r'
     exact call_range_2 (zsd I1 q1 q2 q3 q4 q)
def tFor (wi : TI) (g : TG) (tb : TS) : TS := λ D σ H => wi σ H λ J H1 => ∃ W : Nat -> Nat -> St -> Hp -> Prop, (∃ m, W 0 m σ H1) /\ ∀ i m σ H, W i m σ H ->
 (J.stop i H /\ D.nx σ H) \/ (J.go i H /\ ∃ N : St -> Hp -> Prop, (∀ σ' H', N σ' H' -> ∃ m', m' < m /\ W (i + 1) m' σ' H') /\ ∀ x H', J.yld i H x H' -> g x σ H' λ σ2 H2 => tb { D with nx := N, ct := N, bk := D.nx } σ2 H2)
def zop (fp : List Addr) (h : Heap) : List (Addr × Obj) := fp.filterMap λ b => (h.get? b).map λ o => (b, o)
theorem zii {fp : List Addr} {h : Heap} {b : Addr} {o : Obj} (hb : b ∈ fp) (e : h.get? b = some o) : (b, o) ∈ zop fp h := List.mem_filterMap.mpr ⟨b, hb, by rw [e]; rfl⟩
theorem ztp {fp : List Addr} {h : Heap} {p : Addr × Obj} (hp : p ∈ zop fp h) : p.1 ∈ fp /\ h.get? p.1 = some p.2 := by
 obtain ⟨b, hb, e⟩ := List.mem_filterMap.mp hp
 cases q : h.get? b with
 | none => rw [q] at e; cases e
 | some o =>
   rw [q] at e
   have e' : (b, o) = p := Option.some.inj e
   subst e'
   exact ⟨hb, q⟩
theorem Inv.pinned {pins : List (Addr × Obj)} {σ : St} {H : Hp} {s : Shared} {fp : List Addr} (I : Inv X pins σ H s) (hf : ∀ b ∈ fp, ztv X pins H b) (ho : ∀ b ∈ fp, ∃ o, s.heap.get? b = some o /\ ∀ v, o.data ≠ .cell v) : Inv X (pins ++ zop fp s.heap) σ H s :=
 I.pins_of λ p hp => (List.mem_append.mp hp).elim (λ z => I.pin p (List.mem_append_right _ z)) λ z => by
   obtain ⟨hb, e⟩ := ztp z
   obtain ⟨f0, f1, f2, _⟩ := hf p.1 hb
   obtain ⟨o, e', d⟩ := ho p.1 hb
   rw [e] at e'; cases e'
   exact ⟨e, f0, f1, f2, d⟩
theorem Inv.unpinned {pins pl : List (Addr × Obj)} {σ : St} {H : Hp} {s : Shared} (I : Inv X (pins ++ pl) σ H s) : Inv X pins σ H s := I.pins_of λ p hp => I.pin p (List.mem_append_right _ (List.mem_append_left _ hp))
theorem zd2 {iter : Expr} {body : List Stmt} {wi : TI} {g : TG} {tb : TS} {pos : Pos} (hp : PassesOwn (model X.prog X.w) X.A X.env X.xe) (hc : X.calm = true) (hi : PI X tg iter wi) (hg : PG X tg g) (hb : PSs X body tb)
   (hs : ∀ x, foldedSetIterable iter X.env x = pure x := by intro _; rfl) : PS X (.For tg iter body [] pos) (tFor wi g tb) := by
 intro pins s σ H D I h
 refine wpAny_For (thn (hi pins s σ H _ I h) λ v s1 h1 => thn h1 λ itv s2 h2 => ?_) hs
 obtain ⟨it, fp, tn, J, H2, e, I2, T, st2, f2, W, ⟨m0, w0⟩, turn⟩ := h2
 subst e
 -- what stays true of the iterator's objects through the loop
 have stat : ∀ {H' : Hp}, (∀ b ∈ fp, H' b = none) -> ∀ b ∈ fp, ztv X pins H' b := λ hn b hb => ⟨hn b hb, (f2 b hb).2⟩
 refine codeAny_forLoop_any (λ n s' => ∃ i σ' H', Inv X pins σ' H' s' /\ tn i s'.heap /\ (∀ b ∈ fp, H' b = none) /\ W i n σ' H') ?_ m0 ⟨0, σ, H2, I2, st2, λ b hb => (f2 b hb).1, w0⟩
 rintro n s3 ⟨i, σ3, H3, I3, st3, fr3, w3⟩
 rcases turn i n σ3 H3 w3 with ⟨stop, qn⟩ | ⟨go, N, hN, step⟩
 . refine wpAny_passesOwn hp (thn (T.done X rfl rfl rfl hc i pins s3 σ3 H3 X.xe I3 (stat fr3) st3 stop) λ r s4 ⟨hr, I4⟩ => ?_)
   subst hr
   exact wpAny_execs_nil ⟨σ3, H3, I4, qn⟩
 . refine wpAny_passesOwn hp (thn (T.item X rfl rfl rfl hc i pins s3 σ3 H3 X.xe I3 (stat fr3) st3 go) λ r s4 ⟨u, hr, h4⟩ => ?_)
   subst hr
   refine wpAny_passesOwn hp (thn h4 λ _ s5 ⟨x, H5, I5, r5, y5, st5, fr5⟩ => ?_)
   have I5' := I5.pinned (stat fr5) (T.obj _ _ st5)
   refine wpAny_passesOwn hp (thn (hg _ s5 σ3 H5 x u _ I5' r5 (step x H5 y5)) λ _ s6 ⟨σ6, H6, I6, q6⟩ => ?_)
   refine wpAny_passesOwn hp (thn (hb _ s6 σ6 H6 _ I6 q6) λ f s7 q7 => ?_)
   have again : ∀ {σ7 : St} {H7 : Hp}, Inv X (pins ++ zop fp s5.heap) σ7 H7 s7 -> N σ7 H7 -> ∃ m, m < n /\ ∃ i σ' H', Inv X pins σ' H' s7 /\ tn i s7.heap /\ (∀ b ∈ fp, H' b = none) /\ W i m σ' H' := λ {σ7 H7} I7 n7 => by
     obtain ⟨m', hm, w7⟩ := hN σ7 H7 n7
     refine ⟨m', hm, i + 1, σ7, H7, I7.unpinned, T.keep _ _ _ st5 λ b hb o e => (I7.pin (b, o) (List.mem_append_right _ (List.mem_append_right _ (zii hb e)))).1, λ b hb => ?_, w7⟩
     obtain ⟨o, e, d⟩ := T.obj _ _ st5 b hb
     exact (I7.pin (b, o) (List.mem_append_right _ (List.mem_append_right _ (zii hb e)))).2.1
   cases f with
   | next => obtain ⟨σ7, H7, I7, n7⟩ := q7; exact again I7 n7
   | cont => obtain ⟨σ7, H7, I7, n7⟩ := q7; exact again I7 n7
   | brk => obtain ⟨σ7, H7, I7, q7⟩ := q7; exact ⟨σ7, H7, I7.unpinned, q7⟩
   | ret v => obtain ⟨x7, σ7, H7, I7, r7, q7⟩ := q7; exact ⟨x7, σ7, H7, I7.unpinned, r7, q7⟩
end
theorem zjz {K : W.Frag} {a : Addr} {xs : List V} {g : TG} {tb : TS} {D : zj7} {σ : St} {H : Hp} (Pv : Nat -> St -> Hp -> Prop) (h0 : Pv 0 σ H) (hl : ∀ i σ H, i <= xs.length -> Pv i σ H -> SqL K H a xs)
   (hs : ∀ i x σ H, xs[i]? = some x -> Pv i σ H -> g x σ H λ σ2 H2 => tb { D with nx := Pv (i + 1), ct := Pv (i + 1), bk := D.nx } σ2 H2) (hd : ∀ σ H, Pv xs.length σ H -> D.nx σ H) :
   ∃ W : Nat -> Nat -> St -> Hp -> Prop, (∃ m, W 0 m σ H) /\ ∀ i m σ H, W i m σ H ->
     ((Itl K a).stop i H /\ D.nx σ H) \/ ((Itl K a).go i H /\ ∃ N : St -> Hp -> Prop, (∀ σ' H', N σ' H' -> ∃ m', m' < m /\ W (i + 1) m' σ' H') /\ ∀ x H', (Itl K a).yld i H x H' -> g x σ H' λ σ2 H2 => tb { D with nx := N, ct := N, bk := D.nx } σ2 H2) := by
 refine ⟨λ i m σ H => m = xs.length - i /\ i <= xs.length /\ Pv i σ H, ⟨xs.length, by simp, Nat.zero_le _, h0⟩, ?_⟩
 rintro i m σ H ⟨rfl, hi, p⟩
 have q := hl i σ H hi p
 by_cases hlt : i < xs.length
 . refine .inr ⟨⟨xs, xs[i], q, by simp [hlt]⟩, Pv (i + 1), λ σ' H' p' => ⟨xs.length - (i + 1), by omega, rfl, hlt, p'⟩, λ x H' y => ?_⟩
   obtain ⟨e, y⟩ := y
   subst e
   exact hs i x σ _ (y xs q) p
 . have e : i = xs.length := by omega
   subst e
   exact .inl ⟨⟨xs, q, Nat.le_refl _⟩, hd σ H p⟩
theorem zzk {K : W.Frag} {a : Addr} {xs : List V} {g : TG} {tb : TS} {D : zj7} {σ : St} {H : Hp} (Pv : Nat -> St -> Hp -> Prop) (h0 : Pv 0 σ H) (hl : ∀ i σ H, i <= xs.length -> Pv i σ H -> SqT K H a xs)
   (hs : ∀ i x σ H, xs[i]? = some x -> Pv i σ H -> g x σ H λ σ2 H2 => tb { D with nx := Pv (i + 1), ct := Pv (i + 1), bk := D.nx } σ2 H2) (hd : ∀ σ H, Pv xs.length σ H -> D.nx σ H) :
   ∃ W : Nat -> Nat -> St -> Hp -> Prop, (∃ m, W 0 m σ H) /\ ∀ i m σ H, W i m σ H ->
     ((Itt K a).stop i H /\ D.nx σ H) \/ ((Itt K a).go i H /\ ∃ N : St -> Hp -> Prop, (∀ σ' H', N σ' H' -> ∃ m', m' < m /\ W (i + 1) m' σ' H') /\ ∀ x H', (Itt K a).yld i H x H' -> g x σ H' λ σ2 H2 => tb { D with nx := N, ct := N, bk := D.nx } σ2 H2) := by
 refine ⟨λ i m σ H => m = xs.length - i /\ i <= xs.length /\ Pv i σ H, ⟨xs.length, by simp, Nat.zero_le _, h0⟩, ?_⟩
 rintro i m σ H ⟨rfl, hi, p⟩
 have q := hl i σ H hi p
 by_cases hlt : i < xs.length
 . refine .inr ⟨⟨xs, xs[i], q, by simp [hlt]⟩, Pv (i + 1), λ σ' H' p' => ⟨xs.length - (i + 1), by omega, rfl, hlt, p'⟩, λ x H' y => ?_⟩
   obtain ⟨e, y⟩ := y
   subst e
   exact hs i x σ _ (y xs q) p
 . have e : i = xs.length := by omega
   subst e
   exact .inl ⟨⟨xs, q, Nat.le_refl _⟩, hd σ H p⟩
theorem zjf {lo : Int} {n : Nat} {g : TG} {tb : TS} {D : zj7} {σ : St} {H : Hp} (Pv : Nat -> St -> Hp -> Prop) (h0 : Pv 0 σ H)
   (hs : ∀ i σ H, i < n -> Pv i σ H -> g (.int (lo + i)) σ H λ σ2 H2 => tb { D with nx := Pv (i + 1), ct := Pv (i + 1), bk := D.nx } σ2 H2) (hd : ∀ σ H, Pv n σ H -> D.nx σ H) :
   ∃ W : Nat -> Nat -> St -> Hp -> Prop, (∃ m, W 0 m σ H) /\ ∀ i m σ H, W i m σ H ->
     ((Itr lo n).stop i H /\ D.nx σ H) \/ ((Itr lo n).go i H /\ ∃ N : St -> Hp -> Prop, (∀ σ' H', N σ' H' -> ∃ m', m' < m /\ W (i + 1) m' σ' H') /\ ∀ x H', (Itr lo n).yld i H x H' -> g x σ H' λ σ2 H2 => tb { D with nx := N, ct := N, bk := D.nx } σ2 H2) := by
 refine ⟨λ i m σ H => m = n - i /\ i <= n /\ Pv i σ H, ⟨n, by simp, Nat.zero_le _, h0⟩, ?_⟩
 rintro i m σ H ⟨rfl, hi, p⟩
 by_cases hlt : i < n
 . refine .inr ⟨hlt, Pv (i + 1), λ σ' H' p' => ⟨n - (i + 1), by omega, rfl, hlt, p'⟩, λ x H' y => ?_⟩
   obtain ⟨e, y⟩ := y
   subst e y
   exact hs i σ _ hlt p
 . have e : i = n := by omega
   subst e
   exact .inl ⟨Nat.le_refl _, hd σ H p⟩
end L2
namespace L2
open PySem PySem.Spec PyProof.Rows
abbrev R2 := V -> V -> Hp -> VK -> Prop
def OpR (X : Cx) (f : Value -> Value -> Sem Value) (r : R2) : Prop :=
 ∀ (pins : List (Addr × Obj)) (s : Shared) (σ : St) (H : Hp) (x y : V) (v u : Value) (Q : VK), Inv X pins σ H s -> zdk x v -> zdk y u -> r x y H Q ->
   wpAny (model X.prog X.w) X.A (f v u) (EP X pins σ Q) X.xe s
def UnR (X : Cx) (f : Value -> Sem Value) (r : V -> Hp -> VK -> Prop) : Prop :=
 ∀ (pins : List (Addr × Obj)) (s : Shared) (σ : St) (H : Hp) (x : V) (v : Value) (Q : VK), Inv X pins σ H s -> zdk x v -> r x H Q ->
   wpAny (model X.prog X.w) X.A (f v) (EP X pins σ Q) X.xe s
def zl7 (X : Cx) (f : Value) (r : List V -> Hp -> VK -> Prop) : Prop :=
 ∀ (pins : List (Addr × Obj)) (s : Shared) (σ : St) (H : Hp) (xs : List V) (us : List Value) (Q : VK), Inv X pins σ H s -> zc6 xs us -> r xs H Q ->
   wpAny (model X.prog X.w) X.A (call f us) (EP X pins σ Q) X.xe s
def TruR (X : Cx) (r : V -> Hp -> (Bool -> Hp -> Prop) -> Prop) : Prop :=
 ∀ (pins : List (Addr × Obj)) (s : Shared) (σ : St) (H : Hp) (x : V) (v : Value) (Q : Bool -> Hp -> Prop), Inv X pins σ H s -> zdk x v -> r x H Q ->
   wpAny (model X.prog X.w) X.A (truthy v) (TP X pins σ Q) X.xe s
def tOp (r : R2) (ta tb : TE) : TE := λ σ H Q => ta σ H λ x H1 => tb σ H1 λ y H2 => r x y H2 Q
def tUn (r : V -> Hp -> VK -> Prop) (ta : TE) : TE := λ σ H Q => ta σ H λ x H1 => r x H1 Q
def rI (C : Int -> Int -> Prop) (g : Int -> Int -> V) : R2 := λ x y H Q => ∃ i j, x = .int i /\ y = .int j /\ C i j /\ Q (g i j) H
def rI0 (g : Int -> Int -> V) : R2 := λ x y H Q => ∃ i j, x = .int i /\ y = .int j /\ Q (g i j) H
def rU (g : Int -> V) : V -> Hp -> VK -> Prop := λ x H Q => ∃ i, x = .int i /\ Q (g i) H
section
variable {X : Cx} {a b c : Expr} {ta tb tc : TE} {pos : Pos}
theorem z2t (ha : PE X a ta) (hb : PE X b tb) {pins : List (Addr × Obj)} {s : Shared} {σ : St} {H : Hp} {R : V -> V -> Hp -> Prop} (I : Inv X pins σ H s)
   (h : ta σ H λ x H1 => tb σ H1 λ y H2 => R x y H2) {Q : Value -> Shared -> Prop} {f : Value -> Value -> Sem Value}
   (hf : ∀ v u s2 x y H2, Inv X pins σ H2 s2 -> zdk x v -> zdk y u -> R x y H2 -> wpAny (model X.prog X.w) X.A (f v u) Q X.xe s2) :
   wpAny (model X.prog X.w) X.A (eval a X.env) (λ v s₁ => wpAny (model X.prog X.w) X.A (eval b X.env) (λ u s₂ => wpAny (model X.prog X.w) X.A (f v u) Q X.xe s₂) X.xe s₁) X.xe s := by
 refine thn (ha pins s σ H _ I h) λ v s1 ⟨x, H1, I1, r1, q1⟩ => ?_
 refine thn (hb pins s1 σ H1 _ I1 q1) λ u s2 ⟨y, H2, I2, r2, q2⟩ => ?_
 exact hf v u s2 x y H2 I2 r1 r2 q2
theorem zbg {op : Operator} {r : R2} (ho : OpR X (binaryOp op) r) (ha : PE X a ta) (hb : PE X b tb) : PE X (.BinOp a op b pos) (tOp r ta tb) := by
 intro pins s σ H Q I h
 exact wpAny_BinOp (z2t ha hb I h λ v u s2 x y H2 I2 rx ry q => ho pins s2 σ H2 x y v u Q I2 rx ry q)
theorem zsu {op : UnaryOp} {r : V -> Hp -> VK -> Prop} (ho : UnR X (unaryOp op) r) (ha : PE X a ta) : PE X (.UnaryOp op a pos) (tUn r ta) := by
 intro pins s σ H Q I h
 exact UnaryOp_ (thn (ha pins s σ H _ I h) λ v s1 ⟨x, H1, I1, r1, q1⟩ => ho pins s1 σ H1 x v Q I1 r1 q1)
theorem opI {f : Value -> Value -> Sem Value} {C : Int -> Int -> Prop} {g : Int -> Int -> Int}
   (rule : ∀ (i j : Int) (t u : Tok) (s : Shared) (Q : Value -> Shared -> Prop) (E : Value -> Shared -> Prop), C i j -> Q (.int (g i j) s.toks) { s with toks := s.toks + 1 } -> wpAny (model X.prog X.w) X.A (f (.int i t) (.int j u)) Q E s) :
   OpR X f (rI C λ i j => .int (g i j)) := by
 intro pins s σ H x y v u Q I rx ry h
 obtain ⟨i, j, rfl, rfl, hc, q⟩ := h
 obtain ⟨t, rfl⟩ := rx
 obtain ⟨t', rfl⟩ := ry
 exact rule i j t t' s _ _ hc ⟨.int (g i j), H, I.tok _, ⟨_, rfl⟩, q⟩
theorem opI0 {f : Value -> Value -> Sem Value} {g : Int -> Int -> Int}
   (rule : ∀ (i j : Int) (t u : Tok) (s : Shared) (Q : Value -> Shared -> Prop) (E : Value -> Shared -> Prop), Q (.int (g i j) s.toks) { s with toks := s.toks + 1 } -> wpAny (model X.prog X.w) X.A (f (.int i t) (.int j u)) Q E s) :
   OpR X f (rI0 λ i j => .int (g i j)) := by
 intro pins s σ H x y v u Q I rx ry h
 obtain ⟨i, j, rfl, rfl, q⟩ := h
 obtain ⟨t, rfl⟩ := rx
 obtain ⟨t', rfl⟩ := ry
 exact rule i j t t' s _ _ ⟨.int (g i j), H, I.tok _, ⟨_, rfl⟩, q⟩
theorem opB0 {f : Value -> Value -> Sem Value} {g : Int -> Int -> Bool}
   (rule : ∀ (i j : Int) (t u : Tok) (s : Shared) (Q : Value -> Shared -> Prop) (E : Value -> Shared -> Prop), Q (.bool (g i j)) s -> wpAny (model X.prog X.w) X.A (f (.int i t) (.int j u)) Q E s) :
   OpR X f (rI0 λ i j => .bl (g i j)) := by
 intro pins s σ H x y v u Q I rx ry h
 obtain ⟨i, j, rfl, rfl, q⟩ := h
 obtain ⟨t, rfl⟩ := rx
 obtain ⟨t', rfl⟩ := ry
 exact rule i j t t' s _ _ ⟨.bl (g i j), H, I, rfl, q⟩
def z2j (i j : Int) : Prop := 0 < j /\ j < 1073741824
def CPow (i j : Int) : Prop := 0 <= j /\ j <= 1000000 /\ i.natAbs < 2 ^ 64
def z27 (i j : Int) : Prop := (-(2 ^ 64) < i /\ i < 2 ^ 64) \/ (-(2 ^ 64) < j /\ j < 2 ^ 64)
theorem z27.ok {i j : Int} (h : z27 i j) : IntMulOk i j := by
 rcases h with ⟨h1, h2⟩ | ⟨h1, h2⟩
 . exact .of_left (intBits_le_64 h1 h2)
 . exact .of_right (intBits_le_64 h1 h2)
theorem zgn : OpR X (binaryOp .Add) (rI0 λ i j => .int (i + j)) := opI0 λ _ _ _ _ _ _ _ q => add_int q
theorem zow : OpR X (binaryOp .Sub) (rI0 λ i j => .int (i - j)) := opI0 λ _ _ _ _ _ _ _ q => sub_int q
theorem zoj : OpR X (binaryOp .Mult) (rI z27 λ i j => .int (i * j)) := opI λ _ _ _ _ _ _ _ hc q => mul_int q hc.ok
theorem zfs : OpR X (binaryOp .FloorDiv) (rI z2j λ i j => .int (i / j)) := opI λ i j _ _ _ _ _ hc q => by
 have h1 : (0 : Int) < j := hc.1
 have h2 : j < 1073741824 := hc.2
 exact floordiv_int (by omega) (by rw [Int.fdiv_eq_ediv_of_nonneg i (by omega)]; exact q) (.inl (PyProof.noPylong_small (by omega)))
theorem zc7 : OpR X (binaryOp .Mod) (rI (λ _ j => 0 < j) λ i j => .int (i % j)) := opI λ i j _ _ _ _ _ hc q => by
 have h1 : (0 : Int) < j := hc
 exact mod_int' (by omega) (by rw [Int.fmod_eq_emod_of_nonneg i (by omega)]; exact q)
theorem zt4 : OpR X (binaryOp .Pow) (rI CPow λ i j => .int (i ^ j.toNat)) := opI λ _ _ _ _ _ _ _ hc q => pow_int_small hc.1 hc.2.1 hc.2.2 q
theorem unI {f : Value -> Sem Value} {g : Int -> Int}
   (rule : ∀ (i : Int) (t : Tok) (s : Shared) (Q : Value -> Shared -> Prop) (E : Value -> Shared -> Prop), Q (.int (g i) s.toks) { s with toks := s.toks + 1 } -> wpAny (model X.prog X.w) X.A (f (.int i t)) Q E s) :
   UnR X f (rU λ i => .int (g i)) := by
 intro pins s σ H x v Q I rx h
 obtain ⟨i, rfl, q⟩ := h
 obtain ⟨t, rfl⟩ := rx
 exact rule i t s _ _ ⟨.int (g i), H, I.tok _, ⟨_, rfl⟩, q⟩
theorem zmx : UnR X (unaryOp .USub) (rU λ i => .int (-i)) := unI λ _ _ _ _ _ q => neg_int q
end
def scal : V -> V -> Bool
 | .non, .non => true | .non, .int _ => true | .int _, .non => true | .non, .bl _ => true | .bl _, .non => true | .non, .str _ => true | .str _, .non => true
 | .int _, .int _ => true | .bl _, .bl _ => true | .str _, .str _ => true | .byt _, .byt _ => true
 | .int _, .str _ => true | .str _, .int _ => true | .bl _, .str _ => true | .str _, .bl _ => true
 | _, _ => false
def rEq : R2 := λ x y H Q => scal x y = true /\ Q (.bl (decide (x = y))) H
def rNe : R2 := λ x y H Q => scal x y = true /\ Q (.bl (!decide (x = y))) H
theorem zt1 {i j : Int} : decide (V.int i = V.int j) = (i == j) := by
 rw [Bool.eq_iff_iff]
 simp
theorem zyn {i j : Bool} : decide (V.bl i = V.bl j) = (i == j) := by
 rw [Bool.eq_iff_iff]
 simp
theorem zuh {i j : Str} : decide (V.str i = V.str j) = (i == j) := by
 rw [Bool.eq_iff_iff]
 simp
theorem zux {i j : Array UInt8} : decide (V.byt i = V.byt j) = (i.toList == j.toList) := by
 rw [Bool.eq_iff_iff]
 cases i
 cases j
 simp
section
variable {X : Cx} {a b c : Expr} {ta tb tc : TE} {pos : Pos}
theorem zcs {pins : List (Addr × Obj)} {σ : St} {H : Hp} {s : Shared} {Q : VK} {k k' : Bool} (I : Inv X pins σ H s) (q : Q (.bl k) H) (e : k = k') : EP X pins σ Q (.bool k') s := by
 subst e
 exact ⟨.bl k, H, I, rfl, q⟩
theorem zdw : OpR X (compareOp .Eq) rEq := by
 intro pins s σ H x y v u Q I rx ry h
 obtain ⟨hs, q⟩ := h
 cases x with
 | non =>
   cases rx
   cases y with
   | non => cases ry; exact PySem.EqNone.eq_none_none (zcs I q (by simp))
   | bl j => cases ry; exact PySem.EqNone.eq_none_bool (zcs I q (by simp))
   | int j => obtain ⟨t', rfl⟩ := ry; exact PySem.EqNone.eq_none_int (zcs I q (by simp))
   | str j => obtain ⟨t', rfl⟩ := ry; exact PySem.EqNone.eq_none_str (zcs I q (by simp))
   | _ => exact absurd (show false = true from hs) Bool.false_ne_true
 | bl i =>
   cases rx
   cases y with
   | non => cases ry; exact PySem.EqNone.eq_bool_none (zcs I q (by simp))
   | bl j => cases ry; exact eq_bool (zcs I q zyn)
   | str j => obtain ⟨t', rfl⟩ := ry; exact PySem.EqMixed.eq_bool_str (zcs I q (by simp))
   | _ => exact absurd (show false = true from hs) Bool.false_ne_true
 | int i =>
   obtain ⟨t, rfl⟩ := rx
   cases y with
   | non => cases ry; exact PySem.EqNone.eq_int_none (zcs I q (by simp))
   | int j => obtain ⟨t', rfl⟩ := ry; exact eq_int (zcs I q zt1)
   | str j => obtain ⟨t', rfl⟩ := ry; exact PySem.EqMixed.eq_int_str (zcs I q (by simp))
   | _ => exact absurd (show false = true from hs) Bool.false_ne_true
 | str i =>
   obtain ⟨t, rfl⟩ := rx
   cases y with
   | non => cases ry; exact PySem.EqNone.eq_str_none (zcs I q (by simp))
   | bl j => cases ry; exact PySem.EqMixed.eq_str_bool (zcs I q (by simp))
   | int j => obtain ⟨t', rfl⟩ := ry; exact PySem.EqMixed.eq_str_int (zcs I q (by simp))
   | str j => obtain ⟨t', rfl⟩ := ry; exact eq_str (zcs I q zuh)
   | _ => exact absurd (show false = true from hs) Bool.false_ne_true
 | byt i =>
   obtain ⟨t, rfl⟩ := rx
   cases y with
   | byt j => obtain ⟨t', rfl⟩ := ry; exact PySem.W.eq_bytes (zcs I q zux)
   | _ => exact absurd (show false = true from hs) Bool.false_ne_true
 | _ => cases y <;> exact absurd (show false = true from hs) Bool.false_ne_true
theorem zot : OpR X (compareOp .NotEq) rNe := by
 intro pins s σ H x y v u Q I rx ry h
 obtain ⟨hs, q⟩ := h
 cases x with
 | non =>
   cases rx
   cases y with
   | non => cases ry; exact PySem.EqNone.ne_none_none (zcs I q (by simp))
   | bl j => cases ry; exact PySem.EqNone.ne_none_bool (zcs I q (by simp))
   | int j => obtain ⟨t', rfl⟩ := ry; exact PySem.EqNone.ne_none_int (zcs I q (by simp))
   | str j => obtain ⟨t', rfl⟩ := ry; exact PySem.EqNone.ne_none_str (zcs I q (by simp))
   | _ => exact absurd (show false = true from hs) Bool.false_ne_true
 | bl i =>
   cases rx
   cases y with
   | non => cases ry; exact PySem.EqNone.ne_bool_none (zcs I q (by simp))
   | bl j => cases ry; exact ne_bool (zcs I q (congrArg not zyn))
   | str j => obtain ⟨t', rfl⟩ := ry; exact PySem.EqMixed.ne_bool_str (zcs I q (by simp))
   | _ => exact absurd (show false = true from hs) Bool.false_ne_true
 | int i =>
   obtain ⟨t, rfl⟩ := rx
   cases y with
   | non => cases ry; exact PySem.EqNone.ne_int_none (zcs I q (by simp))
   | int j => obtain ⟨t', rfl⟩ := ry; exact ne_int (zcs I q (congrArg not zt1))
   | str j => obtain ⟨t', rfl⟩ := ry; exact PySem.EqMixed.ne_int_str (zcs I q (by simp))
   | _ => exact absurd (show false = true from hs) Bool.false_ne_true
 | str i =>
   obtain ⟨t, rfl⟩ := rx
   cases y with
   | non => cases ry; exact PySem.EqNone.ne_str_none (zcs I q (by simp))
   | bl j => cases ry; exact PySem.EqMixed.ne_str_bool (zcs I q (by simp))
   | int j => obtain ⟨t', rfl⟩ := ry; exact PySem.EqMixed.ne_str_int (zcs I q (by simp))
   | str j => obtain ⟨t', rfl⟩ := ry; exact ne_str (zcs I q (congrArg not zuh))
   | _ => exact absurd (show false = true from hs) Bool.false_ne_true
 | byt i =>
   obtain ⟨t, rfl⟩ := rx
   cases y with
   | byt j => obtain ⟨t', rfl⟩ := ry; exact PySem.W.ne_bytes (zcs I q (congrArg not zux))
   | _ => exact absurd (show false = true from hs) Bool.false_ne_true
 | _ => cases y <;> exact absurd (show false = true from hs) Bool.false_ne_true
theorem zsz : OpR X (compareOp .Lt) (rI0 λ i j => .bl (decide (i < j))) := opB0 λ _ _ _ _ _ _ _ q => lt_int q
theorem z2c : OpR X (compareOp .GtE) (rI0 λ i j => .bl (decide (j <= i))) := opB0 λ _ _ _ _ _ _ _ q => ge_int q
theorem zbb (b : Expr) {op : CmpOp} (h : op ≠ .In := by decide) (h2 : op ≠ .NotIn := by decide) : behindInMarks op b = false := by
 have e1 : (op == CmpOp.In) = false := by cases op <;> first | rfl | exact absurd rfl h
 have e2 : (op == CmpOp.NotIn) = false := by cases op <;> first | rfl | exact absurd rfl h2
 cases b <;> simp [behindInMarks, e1, e2]
theorem zns {op : CmpOp} {r : R2} (ho : OpR X (compareOp op) r) (ha : PE X a ta) (hb : PE X b tb) (hm : behindInMarks op b = false) : PE X (.Compare a [op] [b] pos) (tOp r ta tb) := by
 intro pins s σ H Q I h
 exact wpAny_Compare1 (z2t ha hb I h λ v u s2 x y H2 I2 rx ry q => ho pins s2 σ H2 x y v u Q I2 rx ry q) hm
def z2z (t : TE) : TT := λ σ H Q => t σ H λ x H' => ∃ k, x = .bl k /\ Q k H'
theorem zaw {op : CmpOp} {r : R2} (ho : OpR X (compareOp op) r) (ha : PE X a ta) (hb : PE X b tb) (hm : behindInMarks op b = false) : PT X (.Compare a [op] [b] pos) (z2z (tOp r ta tb)) := by
 intro pins s σ H Q I h
 refine wpAny_isTrue_Compare1 (thn (ha pins s σ H _ I h) λ v s1 ⟨x, H1, I1, r1, q1⟩ => thn (hb pins s1 σ H1 _ I1 q1) λ u s2 ⟨y, H2, I2, r2, q2⟩ =>
   thn (ho pins s2 σ H2 x y v u _ I2 r1 r2 q2) λ c s3 ⟨z, H3, I3, r3, k, e, q3⟩ => ?_) hm
 subst e
 cases r3
 exact wpAny_truthy_bool ⟨H3, I3, q3⟩
def z3i (K : W.Frag) (x : V) (H : Hp) (k : Bool) : Prop :=
 match x with
 | .non => k = false
 | .bl b => k = b
 | .int i => k = (i != 0)
 | .str y => y.length <= sizeLine /\ k = ((y.length : Int) != 0)
 | .byt y => y.size <= sizeLine /\ k = ((y.size : Int) != 0)
 | .ref p => (∃ xs, SqL K H p xs /\ k = !xs.isEmpty) \/ (∃ xs, SqT K H p xs /\ k = !xs.isEmpty) \/ ∃ kvs, H p = some (.dK kvs) /\ k = !kvs.isEmpty
 | _ => False
theorem zs2 {κ : Type} {kvs : List (κ × V)} {vs : List (κ × Value)} (r : KV kvs vs) : (!vs.isEmpty) = !kvs.isEmpty := by
 cases r <;> rfl
theorem zm0 {xs : List V} {its : List Value} (r : zc6 xs its) : (!its.toArray.isEmpty) = !xs.isEmpty := by
 cases r <;> simp
theorem zmv : (sizeLine : Nat) < 2 ^ 63 := by rw [sizeLine_eq]; decide
theorem z0y : TruR X (λ x H Q => ∃ k, z3i X.K x H k /\ Q k H) := by
 intro pins s σ H x v Q I rx h
 obtain ⟨k, e, q⟩ := h
 have hl := zmv
 have hs : sizeLine = 16777216 := sizeLine_eq
 cases x with
 | non =>
   cases rx
   have e' : k = false := e
   subst e'
   exact truthy_none ⟨H, I, q⟩
 | bl b =>
   cases rx
   have e' : k = b := e
   subst e'
   exact wpAny_truthy_bool ⟨H, I, q⟩
 | int i =>
   obtain ⟨t, rfl⟩ := rx
   have e' : k = (i != 0) := e
   subst e'
   exact PySem.P.truthy_int ⟨H, I, q⟩
 | str y =>
   obtain ⟨t, rfl⟩ := rx
   obtain ⟨hy, e'⟩ : y.length <= sizeLine /\ k = ((y.length : Int) != 0) := e
   subst e'
   exact PySem.P.truthy_str (by omega) ⟨H, I.tok _, q⟩
 | byt y =>
   obtain ⟨t, rfl⟩ := rx
   obtain ⟨hy, e'⟩ : y.size <= sizeLine /\ k = ((y.size : Int) != 0) := e
   subst e'
   exact PySem.W.truthy_bytes (by omega) ⟨H, I.tok _, q⟩
 | ref p =>
   cases rx
   have e' : (∃ xs, SqL X.K H p xs /\ k = !xs.isEmpty) \/ (∃ xs, SqT X.K H p xs /\ k = !xs.isEmpty) \/ ∃ kvs, H p = some (.dK kvs) /\ k = !kvs.isEmpty := e
   rcases e' with ⟨xs, hx, e'⟩ | ⟨xs, hx, e'⟩ | ⟨kvs, hx, e'⟩
   . subst e'
     obtain ⟨its, r, pl, hz⟩ := I.list hx
     have hlen := r.length
     exact wpAny_truthy_list pl.isList (by simp only [List.size_toArray]; omega) ⟨H, I.tok _, by rw [zm0 r]; exact q⟩
   . subst e'
     obtain ⟨its, r, pl, hz⟩ := I.tuple hx
     have hlen := r.length
     exact truthy_tuple pl (by simp only [List.size_toArray]; omega) ⟨H, I.tok _, by rw [zm0 r]; exact q⟩
   . subst e'
     obtain ⟨hz, hS, vs, r, m⟩ : kvs.length <= sizeLine /\ (p == sysModules) = false /\ ∃ vs, KV kvs vs /\ s.heap.DictOf (zcc X.prog X.w) p vs := I.hok p _ hx
     have hlen : kvs.length = vs.length := Paired.length r
     exact wpAny_truthy_dict hS m (by omega) ⟨H, I.tok _, by rw [zs2 r]; exact q⟩
 | _ => exact (show False from e).elim
theorem zwx (ha : PE X a ta) (he : ∀ whole, isTrue a X.env whole = (do let v <- whole; standAt a.pos; holding [v] (truthy v))) :
   PT X a (λ σ H Q => ta σ H λ x H' => ∃ k, z3i X.K x H' k /\ Q k H') := by
 intro pins s σ H Q I h
 exact isTrue_plain (thn (ha pins s σ H _ I h) λ v s1 ⟨x, H1, I1, r1, q1⟩ => z0y pins s1 σ H1 x v Q I1 r1 q1) (he _)
theorem zkc : OpR X (binaryOp .Add) (λ x y H Q => ∃ i j, x = .str i /\ y = .str j /\ i.length + j.length <= sizeLine /\ Q (.str (i ++ j)) H) := by
 intro pins s σ H x y v u Q I rx ry h
 obtain ⟨i, j, rfl, rfl, hz, q⟩ := h
 obtain ⟨t, rfl⟩ := rx
 obtain ⟨t', rfl⟩ := ry
 exact add_str (λ t' tk => ⟨.str (i ++ j), H, I.tok _, ⟨_, rfl⟩, q⟩) hz
theorem zny {x : V} {us : List Value} (r : zc6 [x] us) : ∃ u, us = [u] /\ zdk x u := by
 cases r with
 | cons r1 r2 => cases r2; exact ⟨_, rfl, r1⟩
theorem z2y {x y : V} {us : List Value} (r : zc6 [x, y] us) : ∃ u w', us = [u, w'] /\ zdk x u /\ zdk y w' := by
 cases r with
 | cons r1 r2 =>
   cases r2 with
   | cons r3 r4 => cases r4; exact ⟨_, _, rfl, r1, r3⟩
theorem zox : zl7 X (.type "int") (λ xs H Q => (∃ i, xs = [.int i] /\ Q (.int i) H) \/ ∃ k, xs = [.bl k] /\ Q (.int (if k then 1 else 0)) H) := by
 intro pins s σ H xs us Q I r h
 rcases h with ⟨i, rfl, q⟩ | ⟨k, rfl, q⟩
 . obtain ⟨u, rfl, t, rfl⟩ := zny r
   exact call_int_int ⟨.int i, H, I, ⟨_, rfl⟩, q⟩
 . obtain ⟨u, rfl, r1⟩ := zny r
   cases r1
   exact call_int_bool ⟨.int (if k then 1 else 0), H, I.tok _, ⟨_, rfl⟩, q⟩
end
end L2
namespace L2
open PySem PySem.Spec PyProof.Rows
structure ObjM (h : Heap) (x dx C : Addr) (mA : Str -> Option Value) : Prop where
 obj : h.get? x = some (PySem.W.instObj C dx)
 ns : h.Ns1 dx mA
 ne : dx ≠ x
theorem zu7 {h : Heap} {dx : Addr} {mA : Str -> Option Value} (n : h.Ns1 dx mA) : ∃ od, h.get? dx = some od /\ ∀ name, PySem.W.lookIn name od = some (mA name) := by
 obtain ⟨o, es, ep, ho, hd, hk, _, hm⟩ := n
 refine ⟨o, ho, λ name => ?_⟩
 have e := hm name
 unfold nsFind findBy at e
 rw [<- Array.find?_toList] at e
 unfold PySem.W.lookIn
 rw [hd]
 dsimp only
 split
 . rename_i y q
   rw [q] at e
   exact congrArg some e
 . rename_i q
   rw [q] at e
   have a : es.toList.any (·.refKey) = false := by
     rw [List.any_eq_false]
     intro y hy
     obtain ⟨z, t, hkey⟩ := hk y (Array.mem_toList_iff.mp hy)
     simp [DictEntry.refKey, hkey]
   have a' : ¬ es.toList.any (·.refKey) = true := by rw [a]; exact Bool.false_ne_true
   rw [if_neg a']
   exact congrArg some e
theorem ObjM.look {h : Heap} {x dx C : Addr} {mA : Str -> Option Value} (I : ObjM h x dx C mA) : ∃ od, PySem.W.InstAt h x (PySem.W.instObj C dx) C (some od) /\ ∀ name, PySem.W.lookIn name od = some (mA name) :=
 let ⟨od, ho, hl⟩ := zu7 I.ns
 ⟨od, ⟨I.obj, rfl, rfl, ho⟩, hl⟩
section
variable {prog : Program} {w : World} {A : Around} {E : Value -> Shared -> Prop} {s : Shared} {K : W.Frag} {x dx C f : Addr} {mA : Str -> Option Value} {name : Str} {v : Value}
theorem zy9 {expr : Bool} {Q : Value -> Shared -> Prop} (X : K.In s.heap) (I : ObjM s.heap x dx C mA) (hg : PySem.W.plainGet K C name = true) (hh : PySem.W.hasDictIn K C = true)
   (ha : PySem.W.findIn K (.ref C) name = some none) (hv : mA name = some v) (hv' : PySem.W.handedIn v = true) (h : Q v { s with toks := s.toks + 1 }) :
   wpAny (model prog w) A (getAttr (.ref x) name expr) Q E s := by
 obtain ⟨od, J, hl⟩ := I.look
 exact PySem.W.get_value X J (PySem.W.plainGet_of hg).1 (PySem.W.findObj_own hh ha rfl (by rw [hl, hv])) hv' h
theorem zwh {pl : Sem Bool} {Q : Value × List Value -> Shared -> Prop} (X : K.In s.heap) (I : ObjM s.heap x dx C mA) (hg : PySem.W.plainGet K C name = true)
   (hf : PySem.W.findIn K (.ref C) name = some (some (.ref f))) (ht : PySem.W.isFn K (.ref f) = true) (hv : mA name = none) (h : Q (.ref f, [.ref x]) s) :
   wpAny (model prog w) A (getMethod (.ref x) name pl) Q E s := by
 obtain ⟨od, J, hl⟩ := I.look
 exact PySem.W.method_fn X J (PySem.W.plainGet_of hg).1 (PySem.W.plainGet_of hg).2 hf (beq_iff_eq.mp ht) (by show (PySem.W.lookIn name od).map (·.isSome) = some false; rw [hl, hv]; rfl) h
theorem zyx {ns : List Str} {Q : Unit -> Shared -> Prop} (X : K.In s.heap) (I : ObjM s.heap x dx C mA)
   (hs : PySem.W.findIn K (.ref C) "__setattr__" = some (some (.builtin "object.__setattr__"))) (hp : PySem.W.plainOver K C = true) (ht : PySem.W.takerIn K C name = some none) (hh : PySem.W.hasDictIn K C = true)
   (hw : PySem.Within mA ns) (hsz : ns.length <= sizeLine)
   (h : ∀ h', ObjM h' x dx C (λ y => if y = name then some v else mA y) -> Heap.SameBut dx s.heap h' -> Q () { s with heap := h', toks := s.toks + 2 }) :
   wpAny (model prog w) A (setAttr (.ref x) name v) Q E s := by
 obtain ⟨od, J, hl⟩ := I.look
 refine PySem.W.set_plain X J hs (PySem.W.osa_open (s := { s with toks := s.toks + 1 }) (r := none) X J hp ht λ b => ?_)
 obtain ⟨cd, hc, hd'⟩ := PySem.W.any_some hh
 have hx : s.heap.get? x = some ⟨.ref C, some dx, .plain, #[]⟩ := I.obj
 refine wpAny_bind (wpAny_pure (wpAny_bind (wpAny_bind (wpAny_loadPart hx (wpAny_bind (PySem.W.Looks.here (s := { s with toks := s.toks + 1 }) (PySem.W.looks_clsIn X hc) ?_))))))
 rw [hd']
 refine wpAny_pure (a := some dx) (wpAny_bind (wpAny_pure (wpAny_bind ?_)))
 refine wpAny_nsSet1 (s := { s with toks := s.toks + 1 }) I.ns λ h' hn2 hs2 => ?_
 obtain ⟨oD, esD, epD, hoD, hdD, hcD⟩ := hn2.count (PySem.Within.cons name v hw)
 refine wpAny_bind (wpAny_lookBehind hoD (by rw [hdD]; exact pastItsLine_dict (Nat.le_trans hcD (by rw [List.length_cons]; omega))) ?_)
 exact wpAny_pure (h _ ⟨(hs2.2 _ (Ne.symm I.ne)).trans I.obj, hn2, I.ne⟩ hs2)
theorem zxq {R : Result -> Shared -> Prop} {vs : List Value} {kw : List (Str × Value)} (X : K.In s.heap) (hm : PySem.W.makesIn K C = true)
   (hi : PySem.W.findIn K (.ref C) "__init__" = some (some (.ref f))) (hf : PySem.W.typeIn K (.ref f) = some (.type "function"))
   (h : codeAny (model prog w) (A.under (.builtin "type.__call__" ⟨.ref C :: vs, kw⟩)) (.call (.ref f) ⟨.ref (s.heap.objs.size + 1) :: vs, kw⟩) (PySem.W.InitBack (s.heap.objs.size + 1) R)
     { s with heap := (s.heap.push PySem.W.emptyDict).push (PySem.W.instObj C s.heap.objs.size) }) :
   codeAny (model prog w) A (.call (.ref C) ⟨vs, kw⟩) R s := by
 obtain ⟨hh, g, d, t, os⟩ := s
 exact PySem.W.make_core (PySem.W.makes_of X hm) (PySem.W.looks_findIn X hi) (λ self => PySem.W.bind_fn X self hf) (.inl rfl) h
end
def zja (f : Str) (v : V) : List (Str × V) -> List (Str × V)
 | [] => [(f, v)]
 | (g, x) :: r => if g = f then (g, v) :: r else (g, x) :: zja f v r
theorem zaq (f g : Str) (v : V) : ∀ fs : List (Str × V), (zja f v fs).lookup g = if g = f then some v else fs.lookup g
 | [] => by
   show List.lookup g [(f, v)] = _
   by_cases h : g = f
   . have hb : (g == f) = true := beq_iff_eq.mpr h
     simp only [List.lookup, hb, if_pos h]
   . have hb : (g == f) = false := beq_eq_false_iff_ne.mpr h
     simp only [List.lookup, hb, if_neg h]
 | (k, x) :: r => by
   have ih := zaq f g v r
   rw [show zja f v ((k, x) :: r) = (if k = f then (k, v) :: r else (k, x) :: zja f v r) from rfl]
   by_cases hk : k = f
   . rw [if_pos hk]
     by_cases h : g = k
     . have hb : (g == k) = true := beq_iff_eq.mpr h
       simp only [List.lookup, hb, if_pos (h.trans hk)]
     . have hb : (g == k) = false := beq_eq_false_iff_ne.mpr h
       simp only [List.lookup, hb, if_neg (λ e : g = f => h (e.trans hk.symm))]
   . rw [if_neg hk]
     by_cases h : g = k
     . have hb : (g == k) = true := beq_iff_eq.mpr h
       simp only [List.lookup, hb, if_neg (λ e : g = f => hk (h.symm.trans e))]
     . have hb : (g == k) = false := beq_eq_false_iff_ne.mpr h
       simp only [List.lookup, hb]
       exact ih
theorem zlm (f : Str) (v : V) : ∀ fs : List (Str × V), f ∈ (zja f v fs).map (·.1) /\ ∀ g, g ∈ fs.map (·.1) -> g ∈ (zja f v fs).map (·.1)
 | [] => ⟨by simp [zja], λ g h => by simp at h⟩
 | (k, x) :: r => by
   obtain ⟨i1, i2⟩ := zlm f v r
   rw [show zja f v ((k, x) :: r) = (if k = f then (k, v) :: r else (k, x) :: zja f v r) from rfl]
   by_cases hk : k = f
   . rw [if_pos hk]
     subst hk
     exact ⟨by simp, λ g h => by simpa using h⟩
   . rw [if_neg hk]
     refine ⟨?_, λ g h => ?_⟩
     . rw [List.map_cons]
       exact List.mem_cons_of_mem _ i1
     . rw [List.map_cons] at h ⊢
       rcases List.mem_cons.mp h with e | e
       . exact List.mem_cons.mpr (.inl e)
       . exact List.mem_cons_of_mem _ (i2 g e)
theorem zeo (f : Str) (v : V) : ∀ fs : List (Str × V), (zja f v fs).length <= fs.length + 1
 | [] => by simp [zja]
 | (k, x) :: r => by
   have ih := zeo f v r
   rw [show zja f v ((k, x) :: r) = (if k = f then (k, v) :: r else (k, x) :: zja f v r) from rfl]
   by_cases hk : k = f
   . rw [if_pos hk, List.length_cons, List.length_cons]; omega
   . rw [if_neg hk, List.length_cons, List.length_cons]; omega
theorem zof.some_of {v : V} {o : Option Value} (r : zof (some v) o) : ∃ u, o = some u /\ zdk v u := by
 cases o with
 | none => exact (show False from r).elim
 | some u => exact ⟨u, rfl, r⟩
theorem zof.none_of {o : Option Value} (r : zof none o) : o = none := by
 cases o with
 | none => rfl
 | some u => exact (show False from r).elim
theorem zuu {v : V} {u : Value} (r : zdk v u) : PySem.W.handedIn u = true := by
 cases v with
 | non => cases (show u = Value.none from r); rfl
 | bl b => cases (show u = Value.bool b from r); rfl
 | int i => obtain ⟨t, e⟩ := (show ∃ t, u = Value.int i t from r); cases e; rfl
 | str x => obtain ⟨t, e⟩ := (show ∃ t, u = Value.str x t from r); cases e; rfl
 | byt b => obtain ⟨t, e⟩ := (show ∃ t, u = Value.bytes b t from r); cases e; rfl
 | flt b => obtain ⟨t, e⟩ := (show ∃ t, u = Value.float b t from r); cases e; rfl
 | ref a => cases (show u = Value.ref a from r); rfl
 | ty n => cases (show u = Value.type n from r); rfl
section
variable {P : Program} {w : World} {H H' : Hp} {h h' : Heap} {a C dx : Addr} {fs fs' : List (Str × V)}
theorem znw (hok : HOk P w H h) (e : H a = some (.ins C dx fs)) : ∃ mA, ObjM h a dx C mA /\ (∀ f, zof (fs.lookup f) (mA f)) /\ PySem.Within mA (fs.map (·.1)) /\ fs.length <= 1000 /\ H dx = some (.own a) := by
 obtain ⟨d, z, ne, ob, mA, n, r, q⟩ := (show zed P w H h a (.ins C dx fs) from hok a _ e)
 exact ⟨mA, ⟨ob, n, ne⟩, r, q, z, d⟩
end
structure Cls (K : W.Frag) (C : Addr) : Prop where
 pg : PySem.W.plainGet K C Str.empty = true
 hd : PySem.W.hasDictIn K C = true
 po : PySem.W.plainOver K C = true
 sa : PySem.W.findIn K (.ref C) "__setattr__" = some (some (.builtin "object.__setattr__"))
theorem Cls.get {K : W.Frag} {C : Addr} (c : Cls K C) (f : Str) : PySem.W.plainGet K C f = true := c.pg
def zdp (K : W.Frag) (C : Addr) (f : Str) : Prop := PySem.W.findIn K (.ref C) f = some none
theorem zdp.taker {K : W.Frag} {C : Addr} {f : Str} (n : zdp K C f) : PySem.W.takerIn K C f = some none := by
 unfold PySem.W.takerIn
 rw [show PySem.W.findIn K (.ref C) f = some none from n]
 rfl
structure Meth (K : W.Frag) (C : Addr) (m : Str) (f : Addr) : Prop where
 at_ : PySem.W.findIn K (.ref C) m = some (some (.ref f))
 fn : PySem.W.isFn K (.ref f) = true
 kp : PySem.W.keepIn K (.ref f) = true
section
variable {X : Cx} {pins : List (Addr × Obj)} {σ : St} {H : Hp} {s : Shared} {a C dx : Addr} {fs : List (Str × V)} {f : Str} {v : V} {A : Around} {E : Value -> Shared -> Prop}
theorem zmz {b : Bool} {Q : Value -> Shared -> Prop} (I : Inv X pins σ H s) (e : H a = some (.ins C dx fs)) (c : Cls X.K C) (n : zdp X.K C f) (l : fs.lookup f = some v)
   (h : ∀ u s', Inv X pins σ H s' -> zdk v u -> Q u s') : wpAny (model X.prog X.w) A (getAttr (.ref a) f b) Q E s := by
 obtain ⟨mA, O, r, _, _, _⟩ := znw I.hok e
 obtain ⟨u, hu, ru⟩ := zof.some_of (v := v) (o := mA f) (by rw [<- l]; exact r f)
 exact zy9 I.kIn O (c.get f) c.hd n hu (zuu ru) (h u _ (I.tok _) ru)
theorem zm7 {m : Str} {g : Addr} {pl : Sem Bool} {Q : Value × List Value -> Shared -> Prop} (I : Inv X pins σ H s) (e : H a = some (.ins C dx fs)) (c : Cls X.K C) (k : Meth X.K C m g) (l : fs.lookup m = none)
   (h : Q (.ref g, [.ref a]) s) : wpAny (model X.prog X.w) A (getMethod (.ref a) m pl) Q E s := by
 obtain ⟨mA, O, r, _, _, _⟩ := znw I.hok e
 have hn : mA m = none := zof.none_of (by rw [<- l]; exact r m)
 exact zwh I.kIn O (c.get m) k.at_ k.fn hn h
theorem zm3 {y : V} {u : Value} {Q : Unit -> Shared -> Prop} (I : Inv X pins σ H s) (e : H a = some (.ins C dx fs)) (c : Cls X.K C) (n : zdp X.K C f) (hl : fs.length < 1000) (ry : zdk y u)
   (h : ∀ s', Inv X pins σ (upd H a (.ins C dx (zja f y fs))) s' -> Q () s') : wpAny (model X.prog X.w) A (setAttr (.ref a) f u) Q E s := by
 obtain ⟨mA, O, r, wi, _, ho⟩ := znw I.hok e
 have hz : (fs.map (·.1)).length <= sizeLine := by rw [List.length_map, sizeLine_eq]; omega
 refine zyx I.kIn O c.sa c.po n.taker c.hd wi hz λ h' O' sb => h _ ?_
 have hd : ∃ o, h'.get? dx = some o := let ⟨o, _, _, e', _⟩ := O'.ns; ⟨o, e'⟩
 refine I.write (x := a) (e := dx) (by rw [e]; exact True.intro) (.inr ho) (λ b q hb z => (sb.2 b hb).trans z) hd ?_
 refine ⟨by rw [zah O.ne]; exact ho, ?_, O.ne, O'.obj, _, O'.ns, λ g => ?_, λ g hg => ?_⟩
 . have := zeo f y fs; omega
 . show zof ((zja f y fs).lookup g) (if g = f then some u else mA g)
   rw [zaq]
   by_cases q : g = f
   . rw [if_pos q, if_pos q]; exact ry
   . rw [if_neg q, if_neg q]; exact r g
 . by_cases q : g = f
   . rw [q]; exact (zlm f y fs).1
   . refine (zlm f y fs).2 g (wi g λ z => hg ?_)
     show (if g = f then some u else mA g) = none
     rw [if_neg q]; exact z
theorem Inv.made (I : Inv X pins σ H s) : Inv X pins σ (upd (upd H s.heap.objs.size (.own (s.heap.objs.size + 1))) (s.heap.objs.size + 1) (.ins C s.heap.objs.size []))
   { s with heap := (s.heap.push PySem.W.emptyDict).push (PySem.W.instObj C s.heap.objs.size) } := by
 have e1 : (s.heap.push PySem.W.emptyDict).get? s.heap.objs.size = some PySem.W.emptyDict := Heap.get?_push_size s.heap rfl
 have e2 : ((s.heap.push PySem.W.emptyDict).push (PySem.W.instObj C s.heap.objs.size)).get? (s.heap.objs.size + 1) = some (PySem.W.instObj C s.heap.objs.size) := by
   have := Heap.get?_push_size (s.heap.push PySem.W.emptyDict) (o := PySem.W.instObj C s.heap.objs.size) rfl
   rwa [Heap.size_push] at this
 have e3 : (s.heap.push PySem.W.emptyDict).Ns s.heap.objs.size (λ _ => none) := ⟨PySem.W.emptyDict, #[], _, e1, rfl, (λ e he => absurd he (by simp)), λ _ => rfl⟩
 have I1 := I.laid (a := s.heap.objs.size) (o := .own (s.heap.objs.size + 1)) (h' := s.heap.push PySem.W.emptyDict) (t' := s.toks) (λ b u q => Heap.get?_push_of_some _ q) (Nat.le_refl _) ⟨_, e1⟩
 refine I1.laid (a := s.heap.objs.size + 1) (o := .ins C s.heap.objs.size []) (t' := s.toks) (λ b u q => Heap.get?_push_of_some _ q) (Nat.le_of_eq (Heap.size_push _ _)) ?_
 have ne : s.heap.objs.size ≠ s.heap.objs.size + 1 := Nat.ne_of_lt (Nat.lt_succ_self _)
 refine ⟨by rw [zah ne, zab], Nat.zero_le _, ne, e2, λ _ => none, (Heap.Ns1.of_empty e3).at λ o q => Heap.get?_push_of_some _ q, λ _ => True.intro, λ y hy => absurd rfl hy⟩
theorem zy8 {prog : Program} {w : World} {env : Env} {e : Expr} {f : Str} {pos : Pos} {s : Shared} {Q : Value -> Shared -> Prop} (hb : attributeBase e f env (eval e env) = eval e env)
   (h : wpAny (model prog w) A (eval e env) (λ o s₁ => wpAny (model prog w) A (getAttr o f true) Q E s₁) E s) : wpAny (model prog w) A (eval (.Attribute e f pos) env) Q E s :=
 Attribute_any_ h (by rw [arm_eval_Attribute, hb])
end
def tFld (K : W.Frag) (ta : TE) (f : Str) : TE := λ σ H Q => ta σ H λ x H1 => ∃ a C dx fs v, x = .ref a /\ H1 a = some (.ins C dx fs) /\ Cls K C /\ zdp K C f /\ fs.lookup f = some v /\ Q v H1
def sFld (K : W.Frag) (ta tv : TE) (f : Str) : TS := λ D σ H => tv σ H λ y H1 => ta σ H1 λ x H2 => ∃ a C dx fs, x = .ref a /\ H2 a = some (.ins C dx fs) /\ Cls K C /\ zdp K C f /\ fs.length < 1000 /\
 D.nx σ (upd H2 a (.ins C dx (zja f y fs)))
def InOp (X : Cx) (op : Operator) (rd : V -> V -> Hp -> VK -> Prop) : Prop :=
 ∀ (pins : List (Addr × Obj)) (s : Shared) (σ : St) (H : Hp) (x y : V) (u v : Value) (Q : VK), Inv X pins σ H s -> zdk x u -> zdk y v -> rd x y H Q -> wpAny (model X.prog X.w) X.A (inplaceOp op u v) (EP X pins σ Q) X.xe s
def zzl (K : W.Frag) (ta tv : TE) (rd : V -> V -> Hp -> VK -> Prop) (f : Str) : TS := λ D σ H => ta σ H λ x H1 => ∃ a C dx fs v, x = .ref a /\ H1 a = some (.ins C dx fs) /\ Cls K C /\ zdp K C f /\ fs.lookup f = some v /\
 tv σ H1 λ y H2 => rd v y H2 λ z H3 => ∃ dx' fs', H3 a = some (.ins C dx' fs') /\ fs'.length < 1000 /\ D.nx σ (upd H3 a (.ins C dx' (zja f z fs')))
section
variable {X : Cx} {o e value : Expr} {f : Str} {pos pos' tpos : Pos} {ta tv : TE}
theorem zbx (he : PE X e ta) (hb : attributeBase e f X.env (eval e X.env) = eval e X.env) : PE X (.Attribute e f pos) (tFld X.K ta f) := by
 intro pins s σ H Q I h
 refine zy8 hb (thn (he pins s σ H _ I h) λ u s1 ⟨x, H1, I1, rx, a, C, dx, fs, v, ex, ea, c, n, l, q⟩ => ?_)
 subst ex
 obtain rfl : u = Value.ref a := rx
 exact zmz I1 ea c n l λ u' s2 I2 ru => ⟨v, H1, I2, ru, q⟩
theorem zel (ha : PE X o ta) (hv : PE X value tv) (hs : swapsWith value (some (.Attribute o f pos')) pos.line X.env = pure false) : PS X (.Assign [.Attribute o f pos'] value pos) (sFld X.K ta tv f) := by
 intro pins s σ H D I h
 refine plainObj_wpAny_Assign_Attribute (thn (hv pins s σ H _ I h) λ u s1 ⟨y, H1, I1, ry, q⟩ => thn (ha pins s1 σ H1 _ I1 q) λ ov s2 ⟨x, H2, I2, rx, a, C, dx, fs, ex, ea, c, n, l, q2⟩ => ?_) hs
 subst ex
 obtain rfl : ov = Value.ref a := rx
 exact zm3 I2 ea c n l ry λ s3 I3 => ⟨σ, _, I3, q2⟩
theorem zt7 {op : Operator} {rd : V -> V -> Hp -> VK -> Prop} (ha : PE X o ta) (hv : PE X value tv) (hop : InOp X op rd) : PS X (.AugAssign (.Attribute o f tpos) op value pos) (zzl X.K ta tv rd f) := by
 intro pins s σ H D I h
 refine wpAny_AugAssign_AttributeAny (thn (ha pins s σ H _ I h) λ ov s1 ⟨x, H1, I1, rx, a, C, dx, fs, v, ex, ea, c, n, l, q⟩ => ?_)
 subst ex
 obtain rfl : ov = Value.ref a := rx
 refine zmz I1 ea c n l λ u s2 I2 ru => thn (hv pins s2 σ H1 _ I2 q) λ w3 s3 ⟨y, H2, I3, ry, q3⟩ => thn (hop pins s3 σ H2 v y u w3 _ I3 ru ry q3) λ w4 s4 ⟨z, H3, I4, rz, dx', fs', ea', l', q4⟩ => ?_
 exact zm3 I4 ea' c n l' rz λ s5 I5 => ⟨σ, _, I5, q4⟩
end
section
variable {X : Cx} {pins : List (Addr × Obj)} {σ : St} {H : Hp} {s : Shared} {A : Around} {E : Value -> Shared -> Prop} {Q : Value -> Shared -> Prop} {c : Value} {b : Bool}
inductive TyOf (K : W.Frag) (H : Hp) : V -> Value -> Prop where
 | non : TyOf K H .non (.type "NoneType")
 | bl (x : Bool) : TyOf K H (.bl x) (.type "bool")
 | int (i : Int) : TyOf K H (.int i) (.type "int")
 | str (x : Str) : TyOf K H (.str x) (.type "str")
 | flt (x : UInt64) : TyOf K H (.flt x) (.type "float")
 | lst {a : Addr} {xs : List V} (e : H a = some (.lst xs)) : TyOf K H (.ref a) (.type "list")
 | frz {a : Addr} {o : Obj} {xs : List V} (e : H a = some (.frz o (.lst xs))) : TyOf K H (.ref a) (.type "list")
 | tup {a : Addr} {xs : List V} (e : H a = some (.tup xs)) : TyOf K H (.ref a) (.type "tuple")
 | dK {a : Addr} {kvs : List (Key × V)} (e : H a = some (.dK kvs)) : TyOf K H (.ref a) (.type "dict")
 | dT {a : Addr} {kvs : List (List Key × V)} (e : H a = some (.dT kvs)) : TyOf K H (.ref a) (.type "dict")
 | ins {a C dx : Addr} {fs : List (Str × V)} (e : H a = some (.ins C dx fs)) (cl : Cls K C) (ha : PySem.W.findIn K (.ref C) "__class__" = some (some (.builtin "object.__class__")))
     (hn : PySem.W.specialIn K (.builtin "object.__class__") "__get__" = some (some (.builtin "getset_descriptor.__get__"))) (htk : PySem.W.takesIn K (.builtin "object.__class__") = some true)
     (hm : PySem.W.mroIn K C (.type "object") = some true) : TyOf K H (.ref a) (.ref C)
theorem zvv {x : V} {u t : Value} (I : Inv X pins σ H s) (rx : zdk x u) (ty : TyOf X.K H x t) (e : PySem.W.kitOne X.K t c = some b) (h : ∀ tk, Q (.bool b) { s with toks := tk }) :
   wpAny (model X.prog X.w) A (call (.builtin "isinstance") [u, c]) Q E s := by
 cases ty with
 | non => cases (show u = Value.none from rx); exact PySem.W.kia_one PySem.W.kitx_none I.kIn True.intro e (λ z => nomatch z) h
 | bl y => cases (show u = Value.bool y from rx); exact PySem.W.kia_one PySem.W.kitx_bool I.kIn True.intro e (λ z => nomatch z) h
 | int i => obtain ⟨t, q⟩ := (show ∃ t, u = Value.int i t from rx); cases q; exact PySem.W.kia_one PySem.W.kitx_int I.kIn True.intro e (λ z => nomatch z) h
 | str y => obtain ⟨t, q⟩ := (show ∃ t, u = Value.str y t from rx); cases q; exact PySem.W.kia_one PySem.W.kitx_str I.kIn True.intro e (λ z => nomatch z) h
 | flt y => obtain ⟨t, q⟩ := (show ∃ t, u = Value.float y t from rx); cases q; exact PySem.W.kia_one PySem.W.kitx_float I.kIn True.intro e (λ z => nomatch z) h
 | @lst a xs ea =>
   cases (show u = Value.ref a from rx)
   obtain ⟨_, _, n, _, h1⟩ := (show zed X.prog X.w H s.heap a (.lst xs) from I.hok a _ ea)
   exact PySem.W.kia_one PySem.W.kitx_list I.kIn ⟨_, h1, rfl⟩ e (λ z => nomatch z) h
 | @frz a ob xs ea =>
   cases (show u = Value.ref a from rx)
   obtain ⟨_, _, _, n, _, h1⟩ := (show zed X.prog X.w H s.heap a (.frz ob (.lst xs)) from I.hok a _ ea)
   exact PySem.W.kia_one PySem.W.kitx_list I.kIn ⟨_, h1, rfl⟩ e (λ z => nomatch z) h
 | @tup a xs ea =>
   cases (show u = Value.ref a from rx)
   obtain ⟨_, _, _, p⟩ := (show zed X.prog X.w H s.heap a (.tup xs) from I.hok a _ ea)
   obtain ⟨o, h1, h2, _⟩ := p
   exact PySem.W.kia_one PySem.W.kitx_tuple I.kIn ⟨o, h1, h2⟩ e (λ z => nomatch z) h
 | @dK a kvs ea =>
   cases (show u = Value.ref a from rx)
   obtain ⟨_, _, vs, _, p⟩ := (show zed X.prog X.w H s.heap a (.dK kvs) from I.hok a _ ea)
   obtain ⟨o, es, ep, h1, h2, _⟩ := p
   exact PySem.W.kia_one PySem.W.kitx_dict I.kIn ⟨o, h1, h2.1⟩ e (λ z => nomatch z) h
 | @dT a kvs ea =>
   cases (show u = Value.ref a from rx)
   obtain ⟨_, _, xs, _, o, es, ep, h1, h2, _⟩ := (show zed X.prog X.w H s.heap a (.dT kvs) from I.hok a _ ea)
   exact PySem.W.kia_one PySem.W.kitx_dict I.kIn ⟨o, h1, h2.1⟩ e (λ z => nomatch z) h
 | @ins a C dx fs ea cl ha hn htk hm =>
   cases (show u = Value.ref a from rx)
   obtain ⟨mA, O, _⟩ := znw I.hok ea
   obtain ⟨od, J, _⟩ := O.look
   exact PySem.W.kia_one (PySem.W.kitx_own (cl.get _) cl.hd ha hn htk hm) I.kIn J e (λ z => nomatch z) h
end
end L2
namespace L2
open PySem PySem.Spec PyProof.Rows
structure Room (k : Nat) (A : Around) : Prop where
 hd : A.handled = none
 dp : A.depth + 3 * k + 5 < recursionLimit
 un : A.units + 16 * k + 200 < cLine
theorem Room.mono {j k : Nat} {A : Around} (r : Room k A) (h : j <= k) : Room j A := ⟨r.hd, by have := r.dp; omega, by have := r.un; omega⟩
theorem Room.deeper {k : Nat} {A : Around} (r : Room (k + 1) A) (env : Env) : Room k (A.deeper env) :=
 ⟨r.hd, by have := r.dp; show A.depth + 1 + 3 * k + 5 < _; omega, by have := r.un; show A.units + 3 + 16 * k + 200 < _; omega⟩
theorem zs1 {A : Around} {C : Addr} {us : List Value} {kw : List (Str × Value)} : (A.under (.builtin "type.__call__" ⟨.ref C :: us, kw⟩)).depth = A.depth + 1 := by
 first | rfl | simp [Around.under, Code.weight, Code.isCreation, Code.isGuard, Code.isCaller, Code.frames, Code.isFrame, guardIds]
theorem ztg {A : Around} {C : Addr} {us : List Value} {kw : List (Str × Value)} : (A.under (.builtin "type.__call__" ⟨.ref C :: us, kw⟩)).units = A.units + 1 := by
 first | rfl | simp [Around.under, Code.cUnits, Code.frames, Code.isFrame]
theorem Room.make {k : Nat} {A : Around} (r : Room (k + 1) A) (C : Addr) (us : List Value) (kw : List (Str × Value)) : Room k (A.under (.builtin "type.__call__" ⟨.ref C :: us, kw⟩)) :=
 ⟨r.hd, by have := r.dp; rw [zs1]; omega, by have := r.un; rw [ztg]; omega⟩
theorem Room.depth {k : Nat} {A : Around} (r : Room k A) : A.depth < recursionLimit := by have := r.dp; omega
theorem Room.units {k : Nat} {A : Around} (r : Room k A) : A.units + 64 < cLine := by have := r.un; omega
def tNil : TA := λ _ H Q => Q [] H
def z23 (ta : TE) (tr : TA) : TA := λ σ H Q => ta σ H λ x H1 => tr σ H1 λ xs H2 => Q (x :: xs) H2
section
variable {X : Cx} {e : Expr} {es : List Expr} {te : TE} {t : TA} {pos : Pos}
theorem zag : PA X [] tNil := λ _ _ _ _ H Q I h => Calls.spliced_nil ⟨[], H, I, .nil, h⟩
theorem zaa (ha : PE X e te) (hr : PA X es t) (hs : starEach (e :: es) X.env = (false, eval e X.env) :: starEach es X.env := by rfl) : PA X (e :: es) (z23 te t) := by
 intro pos pins s σ H Q I h
 rw [hs]
 show wpAny _ _ (spliced ((false, eval e X.env) :: backTo pos (starEach es X.env))) _ _ s
 refine Calls.spliced_cons (thn (ha pins s σ H _ I h) λ u s1 ⟨x, H1, I1, r1, q1⟩ => ?_)
 exact thn (hr pos pins s1 σ H1 _ I1 q1) λ us s2 ⟨xs, H2, I2, r2, q2⟩ => ⟨x :: xs, H2, I2, .cons r1 r2, q2⟩
def tTup (t : TA) : TE := λ σ H Q => t σ H λ xs H1 => xs.length <= sizeLine /\ ∀ p, H1 p = none -> Q (.ref p) (upd H1 p (.tup xs))
def tLst (t : TA) : TE := λ σ H Q => t σ H λ xs H1 => xs.length <= sizeLine /\ ∀ p, H1 p = none -> Q (.ref p) (upd H1 p (.lst xs))
theorem zcn {x1} (h : PA X es t) : PE X (.Tuple es x1 pos) (tTup t) := by
 intro pins s σ H Q I hq
 refine wpAny_Tuple_spliced (thn (h pos pins s σ H _ I hq) λ us s1 ⟨xs, H1, I1, r, z, q⟩ => ⟨by rw [<- r.length]; exact z, ?_⟩)
 have hf : H1 s1.heap.objs.size = none := I1.hok.fresh (Nat.le_refl _)
 refine ⟨.ref s1.heap.objs.size, upd H1 s1.heap.objs.size (.tup xs), I1.laid (t' := s1.toks) (λ b u e => Heap.get?_push_of_some _ e) (Nat.le_refl _) ?_, rfl, q _ hf⟩
 exact ⟨z, us, r, ⟨_, Heap.get?_push_size _ rfl, rfl, _, rfl⟩⟩
theorem zd9 (h : PA X es t) : PE X (.List es pos) (tLst t) := by
 intro pins s σ H Q I hq
 refine wpAny_List_spliced (thn (h pos pins s σ H _ I hq) λ us s1 ⟨xs, H1, I1, r, z, q⟩ => ⟨by rw [<- r.length]; exact z, ?_⟩)
 have hf : H1 s1.heap.objs.size = none := I1.hok.fresh (Nat.le_refl _)
 refine ⟨.ref s1.heap.objs.size, upd H1 s1.heap.objs.size (.lst xs), I1.laid (t' := s1.toks) (λ b u e => Heap.get?_push_of_some _ e) (Nat.le_refl _) ?_, rfl, q _ hf⟩
 exact ⟨z, us, 0, r, Heap.get?_push_size _ rfl⟩
end
abbrev Sp := List V -> Hp -> VK -> XK -> Prop
abbrev CXT := List Env -> Hp -> Shared -> XK -> Value -> Shared -> Prop
structure Env0 (P : Program) (w : World) (K : W.Frag) (mg : Str -> Option Value) (base : Heap) (A : Around) (outer : List Env) (s : Shared) (H : Hp) : Prop where
 frames : A.frames = some outer
 mod : Mod K mg base
 bs : ∀ b o, base.get? b = some o -> s.heap.get? b = some o /\ H b = none
 bsz : base.objs.size <= s.heap.objs.size
 funs : s.heap.FunFrames base outer
 frf : ∀ b ∈ frs outer, H b = none
 hok : HOk P w H s.heap
 bare : AllBare s.gens
def CE (outer : List Env) (P : Program) (w : World) (H : Hp) (s : Shared) (Q : VK) (u : Value) (s' : Shared) : Prop :=
 ∃ v H', s'.os = s.os /\ AllBare s'.gens /\ Un (frs outer) [] H H' s.heap s'.heap /\ HOk P w H' s'.heap /\ zdk v u /\ Q v H'
def CR (CX : CXT) (outer : List Env) (P : Program) (w : World) (H : Hp) (s : Shared) (Q : VK) (E : XK) (r : Result) (s' : Shared) : Prop :=
 match r with
 | .ok (.ret u) => CE outer P w H s Q u s'
 | .ok _ => False
 | .error e => CX outer H s E e s'
structure FnOk (P : Program) (w : World) (K : W.Frag) (mg : Str -> Option Value) (base : Heap) (CX : CXT) (k : Nat) (f : Addr) (fd : FuncData) (ps : List Str) (sp : Sp) : Prop where
 len : ∀ vs H Q E, sp vs H Q E -> vs.length = ps.length
 run : ∀ (A : Around) (outer : List Env) (s : Shared) (H : Hp) (args : Args) (us : List Value) (vs : List V) (Q : VK) (E : XK), Room k A -> Env0 P w K mg base A outer s H -> BindsTo s fd args (ps.zip us) -> zc6 vs us -> sp vs H Q E ->
   codeAny (model P w) A (.call (.ref f) args) (CR CX outer P w H s Q E) s
theorem Env0.make {P : Program} {w : World} {K : W.Frag} {mg : Str -> Option Value} {base : Heap} {A : Around} {outer : List Env} {s : Shared} {H : Hp} (e : Env0 P w K mg base A outer s H) (C : Addr) (us : List Value) (kw : List (Str × Value)) :
   Env0 P w K mg base (A.under (.builtin "type.__call__" ⟨.ref C :: us, kw⟩)) outer s H := ⟨by first | exact e.frames | (simpa [Around.under, Code.envs, Code.isFrame, pushEnvs] using e.frames), e.mod, e.bs, e.bsz, e.funs, e.frf, e.hok, e.bare⟩
section
variable {X : Cx} {pins : List (Addr × Obj)} {σ : St} {H : Hp} {s s' : Shared}
theorem Inv.env0 (I : Inv X pins σ H s) : Env0 X.prog X.w X.K X.mg X.base X.A X.stack s H :=
 ⟨I.ok.frames, I.ok.mod, I.bs, Nat.le_trans I.ok.bsz I.sz, I.stack, I.stkFree, I.hok, I.bare⟩
theorem Inv.after {Q : VK} {u : Value} (I : Inv X pins σ H s) (h : CE X.stack X.prog X.w H s Q u s') : EP X pins σ Q u s' := by
 obtain ⟨v, H', os, bare, un, hok, r, q⟩ := h
 obtain ⟨hh, g, d, t, os'⟩ := s'
 obtain rfl : os' = s.os := os
 exact ⟨v, H', I.call (h' := hh) (g' := g) (d' := d) (t' := t) (ch := []) un hok bare (λ b z => absurd z (by simp)), r, q⟩
end
def zzd (sp : Sp) (dvs : List V) (E : XK) (t : TA) : TE := λ σ H Q => t σ H λ vs H1 => sp (vs ++ dvs) H1 Q E
def z0l (C : Addr) (m : Str) (sp : Sp) (dvs : List V) (E : XK) (ta : TE) (t : TA) : TE := λ σ H Q => ta σ H λ x H1 => ∃ a dx fs, x = .ref a /\ H1 a = some (.ins C dx fs) /\ fs.lookup m = none /\
 t σ H1 λ vs H2 => sp (x :: (vs ++ dvs)) H2 Q E
def z13 (C : Addr) (sp : Sp) (dvs : List V) (E : XK) (t : TA) : TE := λ σ H Q => t σ H λ vs H1 => ∀ x dx, H1 x = none -> H1 dx = none -> dx ≠ x ->
 sp (.ref x :: (vs ++ dvs)) (upd (upd H1 dx (.own x)) x (.ins C dx [])) (λ v H2 => v = .non /\ Q (.ref x) H2) E
def zjt (K : W.Frag) (fd : FuncData) (ps : List Str) (ds : List Value) : Prop :=
 ∀ (s : Shared) (us : List Value), K.In s.heap -> (us ++ ds).length = ps.length -> BindsTo s fd ⟨us, []⟩ (ps.zip (us ++ ds))
theorem zjt.all {K : W.Frag} {fd : FuncData} {ps : List Str} (h : ∀ us : List Value, us.length = ps.length -> bindArgs fd ⟨us, []⟩ = pure (ps.zip us)) : zjt K fd ps [] := λ s us _ hl => by
 rw [List.append_nil] at hl ⊢
 exact .of_eq (h us hl)
def zkt (CX : CXT) (X : Cx) (E : XK) : Prop := ∀ (pins : List (Addr × Obj)) (σ : St) (H : Hp) (s : Shared) (e : Value) (s' : Shared), Inv X pins σ H s -> CX X.stack H s E e s' -> X.xe e s'
section
variable {X : Cx} {CX : CXT} {k : Nat} {f C : Addr} {fd : FuncData} {ps : List Str} {sp : Sp} {dvs : List V} {ds : List Value} {E : XK} {x m : Str} {p pos apos : Pos} {e o : Expr} {es : List Expr} {ta : TE} {t : TA}
theorem zr0 {pins : List (Addr × Obj)} {σ : St} {H : Hp} {s : Shared} {Q : VK} {us : List Value} {vs : List V} (F : FnOk X.prog X.w X.K X.mg X.base CX k f fd ps sp) (hr : Room k X.A) (hb : zjt X.K fd ps ds) (hd : zc6 dvs ds) (hx : zkt CX X E)
   (I : Inv X pins σ H s) (r : zc6 vs us) (h : sp (vs ++ dvs) H Q E) : wpAny (model X.prog X.w) X.A (call (.ref f) us) (EP X pins σ Q) X.xe s := by
 have r2 : zc6 (vs ++ dvs) (us ++ ds) := r.append hd
 have hl : (us ++ ds).length = ps.length := by rw [<- r2.length]; exact F.len _ _ _ _ h
 refine wpAny_call (codeAny_mono (F.run X.A X.stack s H ⟨us, []⟩ (us ++ ds) (vs ++ dvs) Q E hr I.env0 (hb s us I.kIn hl) r2 h) λ r s' hq => ?_)
 cases r with
 | error e => exact hx pins σ H s e s' I hq
 | ok fl =>
   cases fl with
   | ret u => exact I.after hq
   | next => exact False.elim hq
   | brk => exact False.elim hq
   | cont => exact False.elim hq
theorem zzu (F : FnOk X.prog X.w X.K X.mg X.base CX k f fd ps sp) (hr : Room k X.A) (hg : Gl X x) (hm : X.mg x = some (.ref f)) (hk : PySem.W.keepIn X.K (.ref f) = true) (hb : zjt X.K fd ps ds) (hd : zc6 dvs ds) (hx : zkt CX X E)
   (ha : PA X (e :: es) t) (hdb : (x == ("__debug__" : Str)) = false := by decide) (he : starEach (e :: es) X.env = (false, eval e X.env) :: starEach es X.env := by rfl) (hpl : (backTo pos (starEach es X.env)).any (·.1) = false := by rfl) :
   PE X (.Call (.Name x p) (e :: es) [] pos) (zzd sp dvs E t) := by
 intro pins s σ H Q I h
 refine wpAny_Call_Name_kw (zq4 I hg hm ?_ hdb)
 refine PySem.W.callWith_K (h₀ := X.base) I.ok.mod.kin hk (thn (ha pos pins s σ H _ I h) λ us s1 ⟨vs, H1, I1, r, q⟩ => ⟨I1.kIn, ?_⟩) he hpl
 exact zr0 F hr hb hd hx I1 r q
theorem zbn {pl : Sem Bool} (he : PE X o ta) (c : Cls X.K C) (hm : Meth X.K C m f) (F : FnOk X.prog X.w X.K X.mg X.base CX k f fd ps sp) (hr : Room k X.A) (hb : zjt X.K fd ps ds) (hd : zc6 dvs ds) (hx : zkt CX X E) (ha : PA X (e :: es) t)
   (hst : starEach (e :: es) X.env = (false, eval e X.env) :: starEach es X.env := by rfl) (hpl : (backTo pos (starEach es X.env)).any (·.1) = false := by rfl)
   (ht : eval (.Call (.Attribute o m apos) (e :: es) [] pos) X.env = (do
     let ov <- eval o X.env
     standAt apos.atName
     let (f, first) <- holding [ov] (getMethod ov m pl)
     callWith pos f first (backTo pos (starEach (e :: es) X.env)) (backToKw pos (keywordEach [] X.env))) := by rfl) :
   PE X (.Call (.Attribute o m apos) (e :: es) [] pos) (z0l C m sp dvs E ta t) := by
 intro pins s σ H Q I h
 refine PySem.W.methodCall_KW (pl := pl) (thn (he pins s σ H _ I h) λ u s1 ⟨x, H1, I1, rx, a, dx, fs, ex, ea, l, q⟩ => ?_) ht
 subst ex
 obtain rfl : u = Value.ref a := rx
 refine zm7 I1 ea c hm l ?_
 refine PySem.W.callWith_K (first := [.ref a]) (h₀ := X.base) I.ok.mod.kin hm.kp (thn (ha pos pins s1 σ H1 _ I1 q) λ us s2 ⟨vs, H2, I2, r, q2⟩ => ⟨I2.kIn, ?_⟩) hst hpl
 exact zr0 (us := .ref a :: us) (vs := .ref a :: vs) F hr hb hd hx I2 (.cons rfl r) q2
theorem zg2 {pl : Sem Bool} (he : PE X o ta) (c : Cls X.K C) (hm : Meth X.K C m f) (F : FnOk X.prog X.w X.K X.mg X.base CX k f fd ps sp) (hr : Room k X.A) (hb : zjt X.K fd ps ds) (hd : zc6 dvs ds) (hx : zkt CX X E)
   (ht : eval (.Call (.Attribute o m apos) [] [] pos) X.env = (do
     let ov <- eval o X.env
     standAt apos.atName
     let (f, first) <- holding [ov] (getMethod ov m pl)
     callWith pos f first (backTo pos (starEach [] X.env)) (backToKw pos (keywordEach [] X.env))) := by rfl) :
   PE X (.Call (.Attribute o m apos) [] [] pos) (z0l C m sp dvs E ta tNil) := by
 intro pins s σ H Q I h
 refine PySem.W.methodCall_KW (pl := pl) (thn (he pins s σ H _ I h) λ u s1 ⟨x, H1, I1, rx, a, dx, fs, ex, ea, l, q⟩ => ?_) ht
 subst ex
 obtain rfl : u = Value.ref a := rx
 refine zm7 I1 ea c hm l ?_
 exact PySem.W.callWith_K0 (first := [.ref a]) I1.kIn hm.kp (zr0 (us := [.ref a]) (vs := [.ref a]) F hr hb hd hx I1 (.cons rfl .nil) q)
structure Mk (K : W.Frag) (C f : Addr) : Prop where
 makes : PySem.W.makesIn K C = true
 init : PySem.W.findIn K (.ref C) "__init__" = some (some (.ref f))
 fn : PySem.W.isFn K (.ref f) = true
 kp : PySem.W.keepIn K (.ref C) = true
theorem zwg {pins : List (Addr × Obj)} {σ : St} {H : Hp} {s : Shared} {Q : VK} {us : List Value} {vs : List V} (M : Mk X.K C f) (F : FnOk X.prog X.w X.K X.mg X.base CX k f fd ps sp) (hr : Room (k + 1) X.A) (hb : zjt X.K fd ps ds) (hd : zc6 dvs ds)
   (hx : zkt CX X E) (I : Inv X pins σ H s) (r : zc6 vs us)
   (h : ∀ x dx, H x = none -> H dx = none -> dx ≠ x -> sp (.ref x :: (vs ++ dvs)) (upd (upd H dx (.own x)) x (.ins C dx [])) (λ v H2 => v = .non /\ Q (.ref x) H2) E) :
   wpAny (model X.prog X.w) X.A (call (.ref C) us) (EP X pins σ Q) X.xe s := by
 have hq := h (s.heap.objs.size + 1) s.heap.objs.size (I.hok.fresh (Nat.le_succ _)) (I.hok.fresh (Nat.le_refl _)) (Nat.ne_of_lt (Nat.lt_succ_self _))
 have I2 := Inv.made (C := C) I
 have r2 : zc6 (V.ref (s.heap.objs.size + 1) :: (vs ++ dvs)) (Value.ref (s.heap.objs.size + 1) :: (us ++ ds)) := .cons rfl (r.append hd)
 have hl : (Value.ref (s.heap.objs.size + 1) :: us ++ ds).length = ps.length := by
   have e := r2.length
   rw [F.len _ _ _ _ hq] at e
   exact e.symm
 refine wpAny_call (zxq (f := f) I.kIn M.makes M.init (beq_iff_eq.mp M.fn) (codeAny_mono (F.run _ X.stack _ _ ⟨Value.ref (s.heap.objs.size + 1) :: us, []⟩ (Value.ref (s.heap.objs.size + 1) :: (us ++ ds)) _ _ E (hr.make C us [])
   (I2.env0.make C us []) (hb _ (Value.ref (s.heap.objs.size + 1) :: us) I2.kIn hl) r2 hq) λ r s' hq' => ?_))
 cases r with
 | error e => exact hx pins σ _ _ e s' I2 hq'
 | ok fl =>
   cases fl with
   | ret u =>
     obtain ⟨v, H', I3, rv, ev, q3⟩ := I2.after hq'
     subst ev
     exact ⟨rv, ⟨V.ref (s.heap.objs.size + 1), H', I3, rfl, q3⟩⟩
   | next => exact False.elim hq'
   | brk => exact False.elim hq'
   | cont => exact False.elim hq'
theorem zzh (M : Mk X.K C f) (F : FnOk X.prog X.w X.K X.mg X.base CX k f fd ps sp) (hr : Room (k + 1) X.A) (hg : Gl X x) (hm : X.mg x = some (.ref C)) (hb : zjt X.K fd ps ds) (hd : zc6 dvs ds) (hx : zkt CX X E)
   (ha : PA X (e :: es) t) (hdb : (x == ("__debug__" : Str)) = false := by decide) (he : starEach (e :: es) X.env = (false, eval e X.env) :: starEach es X.env := by rfl) (hpl : (backTo pos (starEach es X.env)).any (·.1) = false := by rfl) :
   PE X (.Call (.Name x p) (e :: es) [] pos) (z13 C sp dvs E t) := by
 intro pins s σ H Q I h
 refine wpAny_Call_Name_kw (zq4 I hg hm ?_ hdb)
 refine PySem.W.callWith_K (h₀ := X.base) I.ok.mod.kin M.kp (thn (ha pos pins s σ H _ I h) λ us s1 ⟨vs, H1, I1, r, q⟩ => ⟨I1.kIn, ?_⟩) he hpl
 exact zwg M F hr hb hd hx I1 r q
end
structure FnScope (N P : List Str) (sc : Scope) : Prop where
 kind : sc.kind = .function
 co : sc.isCoroutine = false
 gen : sc.isGenerator = false
 nd : N.Nodup
 pre : N.take P.length = P
 par : ∀ x ∈ P, sc.names.lookup x = some .local \/ sc.names.lookup x = some .cell
 nofree : ∀ y ∈ sc.names, y.2 ≠ .free
theorem zoz {kindOf : Str -> Option NameKind} {x : Str} : ∀ {binds : List (Str × Value)} {m : Str -> Option Value}, (∀ v, (x, v) ∉ binds) -> bindL kindOf binds m x = m x
 | [], _, _ => rfl
 | (n, v) :: r, m, h => by
   unfold bindL
   rw [zoz λ w hw => h w (List.mem_cons_of_mem _ hw)]
   split
   . have : x ≠ n := by rintro rfl; exact h v List.mem_cons_self
     simp [this]
   . rfl
theorem zpg {kindOf : Str -> Option NameKind} {x : Str} : ∀ {binds : List (Str × Value)} {m : Str -> Option Value}, (∀ v, (x, v) ∉ binds) -> bindC kindOf binds m x = m x
 | [], _, _ => rfl
 | (n, v) :: r, m, h => by
   unfold bindC
   rw [zpg λ w hw => h w (List.mem_cons_of_mem _ hw)]
   split
   . rfl
   . have : x ≠ n := by rintro rfl; exact h v List.mem_cons_self
     simp [this]
theorem zoo {kindOf : Str -> Option NameKind} {x : Str} {v : Value} : ∀ {P : List Str} {vs : List Value} {i : Nat} {m : Str -> Option Value}, P.Nodup -> P[i]? = some x -> vs[i]? = some v -> kindOf x = some .local ->
   bindL kindOf (P.zip vs) m x = some v
 | [], _, _, _, _, h, _, _ => by simp at h
 | _ :: _, [], _, _, _, _, h, _ => by simp at h
 | p :: P, w :: vs, 0, m, nd, h1, h2, hk => by
   simp at h1 h2; subst h1; subst h2
   show bindL kindOf ((p, w) :: P.zip vs) m p = _
   unfold bindL
   rw [zoz λ v hv => (List.nodup_cons.mp nd).1 (List.of_mem_zip hv).1, if_pos hk]
   simp
 | p :: P, w :: vs, i + 1, m, nd, h1, h2, hk => by
   show bindL kindOf ((p, w) :: P.zip vs) m x = _
   unfold bindL
   exact zoo (i := i) (List.nodup_cons.mp nd).2 (by simpa using h1) (by simpa using h2) hk
theorem zo2 {kindOf : Str -> Option NameKind} {x : Str} {v : Value} : ∀ {P : List Str} {vs : List Value} {i : Nat} {m : Str -> Option Value}, P.Nodup -> P[i]? = some x -> vs[i]? = some v -> kindOf x ≠ some .local ->
   bindC kindOf (P.zip vs) m x = some v
 | [], _, _, _, _, h, _, _ => by simp at h
 | _ :: _, [], _, _, _, _, h, _ => by simp at h
 | p :: P, w :: vs, 0, m, nd, h1, h2, hk => by
   simp at h1 h2; subst h1; subst h2
   show bindC kindOf ((p, w) :: P.zip vs) m p = _
   unfold bindC
   rw [zpg λ v hv => (List.nodup_cons.mp nd).1 (List.of_mem_zip hv).1, if_neg hk]
   simp
 | p :: P, w :: vs, i + 1, m, nd, h1, h2, hk => by
   show bindC kindOf ((p, w) :: P.zip vs) m x = _
   unfold bindC
   exact zo2 (i := i) (List.nodup_cons.mp nd).2 (by simpa using h1) (by simpa using h2) hk
def zph (N : List Str) (vs : List V) : St := vs.map some ++ List.replicate (N.length - vs.length) none
def z0i (CX : CXT) (P : Program) (w : World) (K : W.Frag) (mg : Str -> Option Value) (base : Heap) (N : List Str) (qual : Str) (scope : Scope) (f : Addr) (cd : Value) (A : Around) (outer : List Env) (s : Shared) (H : Hp) (E : XK) : Cx where
 prog := P
 w := w
 K := K
 mg := mg
 base := base
 A := A.deeper (envOfC qual scope s.heap.objs.size f cd)
 N := N
 s₀ := s
 H₀ := H
 env := envOfC qual scope s.heap.objs.size f cd
 outer := outer
 stack := envOfC qual scope s.heap.objs.size f cd :: outer
 ex := []
 calm := true
 fn := λ _ => true
 pn := []
 xe := λ e s' => wpAny (model P w) (A.deeper (envOfC qual scope s.heap.objs.size f cd)) (leaving (envOfC qual scope s.heap.objs.size f cd) e) (λ _ s'' => CX outer H s E e s'') (λ e' s'' => CX outer H s E e' s'') s'
theorem zrx {sc : Scope} {n : Nat} {x : Str} (h : sc.names.lookup x = some .cell) : ∃ c, (cellsFrom n sc.names []).lookup x = some c := by
 have q := PySem.W.cellsFrom_some sc.names n [] (.inl h)
 exact Option.isSome_iff_exists.mp q
theorem zt6 {CX : CXT} {P : Program} {w : World} {K : W.Frag} {mg : Str -> Option Value} {base : Heap} {N ps : List Str} {qual : Str} {scope : Scope} {f : Addr} {cd : Value} {A : Around} {outer : List Env} {s s1 : Shared} {H : Hp} {E : XK} {us : List Value} {vs : List V}
   (S : FnScope N ps scope) (hd : A.handled = none) (e0 : Env0 P w K mg base A outer s H) (hl : vs.length = ps.length) (r : zc6 vs us)
   (x : InCallC s s.heap.objs.size (bindL (envOfC qual scope s.heap.objs.size f cd).kindOf (ps.zip us) λ _ => none) (cellsFrom (s.heap.objs.size + 1) scope.names []) (bindC (envOfC qual scope s.heap.objs.size f cd).kindOf (ps.zip us) λ _ => none) s1) :
   Inv (z0i CX P w K mg base N qual scope f cd A outer s H E) [] (zph N vs) H s1 := by
 have hpl : ps.length <= N.length := by have := congrArg List.length S.pre; rw [List.length_take] at this; omega
 obtain ⟨h1, tk, rfl, hk⟩ := x.done
 have noA : ∀ b : Addr, b ∉ (z0i CX P w K mg base N qual scope f cd A outer s H E).ex := λ b z => absurd (show b ∈ ([] : List Addr) from z) (by simp)
 refine ⟨⟨e0.mod, S.kind, rfl, rfl, Nat.le_refl _, λ y z c h1 h2 => ?_, λ y hy => ?_, λ y c _ h => ?_, λ _ => hd, Around.frames_deeper e0.frames, .inr ⟨rfl, rfl⟩, λ b z => absurd z (noA b), e0.bs, e0.bsz, λ b _ _ => noA b, λ b z => absurd z (noA b), e0.funs, e0.frf⟩,
   rfl, e0.bare, Un.kept hk, ⟨_, x.toInCall.ns, λ i y v h1 h2 h3 => ?_⟩, λ y c h => ⟨_, x.cell y c h⟩, e0.hok.fresh (Nat.le_refl _), λ y c h => ?_, λ p hp => absurd (show p ∈ ([] : List (Addr × Obj)) from hp) (by simp), e0.hok.kept hk, ?_⟩
 . exact name_of_addr x.apart (PySem.mem_of_lookup h1) (PySem.mem_of_lookup h2)
 . have hy : scope.names.lookup y = some .cell \/ scope.names.lookup y = some .free := hy
   rcases hy with hy | hy
   . exact zrx hy
   . exact absurd rfl (S.nofree _ (PySem.mem_of_lookup hy))
 . exact Nat.le_of_lt (x.above y c (PySem.mem_of_lookup h))
 . have hi : i < vs.length := by
     unfold zph at h2
     by_cases hi : i < vs.length
     . exact hi
     . rw [List.getElem?_append_right (by simpa using hi)] at h2
       rw [List.getElem?_replicate] at h2
       split at h2 <;> cases h2
   have ha : vs[i]? = some v := by
     unfold zph at h2
     rw [List.getElem?_append_left (by simpa using hi), List.getElem?_map] at h2
     cases e : vs[i]? with
     | none => rw [e] at h2; cases h2
     | some a => rw [e] at h2; cases h2; rfl
   obtain ⟨u, hu, rv⟩ := r.get ha
   have hp : ps[i]? = some y := by
     rw [<- S.pre, List.getElem?_take_of_lt (by omega)]; exact h1
   have ndP : ps.Nodup := by rw [<- S.pre]; exact S.nd.sublist (List.take_sublist _ _)
   refine ⟨u, rv, ?_⟩
   rcases S.par y (List.mem_of_getElem? hp) with k | k
   . exact .inl ⟨k, zoo ndP hp hu k⟩
   . obtain ⟨c, e⟩ := zrx (n := s.heap.objs.size + 1) k
     refine .inr ⟨.inl k, c, e, ?_⟩
     have q := x.cell y c e
     rw [zo2 ndP hp hu (by show scope.names.lookup y ≠ _; rw [k]; decide)] at q
     exact q
 . exact e0.hok.fresh (Nat.le_of_lt (x.above y c (PySem.mem_of_lookup h)))
 . unfold zph
   show _ = N.length
   rw [List.length_append, List.length_map, List.length_replicate]
   omega
theorem z2k {CX : CXT} {P : Program} {w : World} {K : W.Frag} {mg : Str -> Option Value} {base : Heap} {k : Nat} {f : Addr} {name qual : Str} {params : Arguments} {body : List Stmt} {scope : Scope} {dV kV doc pm cdv ct oc : Value} {an od : Option Addr}
   {osl : Array (Option Value)} {N ps : List Str} {sp : Sp} (lk : K.lookup f = some ⟨oc, od, .func (PySem.W.fnOf name qual params body scope dV kV doc pm an cdv ct), osl⟩) (hcd : PySem.W.codeIn K cdv qual = true) (S : FnScope N ps scope)
   (len : ∀ vs H Q E, sp vs H Q E -> vs.length = ps.length)
   (hbody : ∀ (A : Around) (outer : List Env) (s : Shared) (H : Hp) (vs : List V) (Q : VK) (E : XK), Room k (A.deeper (envOfC qual scope s.heap.objs.size f cdv)) -> sp vs H Q E ->
     ∃ t, PSs (z0i CX P w K mg base N qual scope f cdv A outer s H E) body t /\ t { nx := λ _ H' => Q .non H', rt := Q } (zph N vs) H) :
   FnOk P w K mg base CX (k + 1) f (PySem.W.fnOf name qual params body scope dV kV doc pm an cdv ct) ps sp := by
 refine ⟨len, λ A outer s H args us vs Q E hr e0 hb r hsp => ?_⟩
 have hl := len _ _ _ _ hsp
 have KX : K.In s.heap := e0.mod.kin.keeps λ b o e => (e0.bs b o e).1
 have lim : s.heap.NoLimit := e0.mod.nolimit.keeps λ b o e => (e0.bs b o e).1
 have hkind : ∀ y ∈ ps.zip us, scope.names.lookup y.1 = some .local \/ (scope.names.lookup y.1 = some .cell /\ ((cellsFrom (s.heap.objs.size + 1) scope.names []).lookup y.1).isSome = true) := λ ⟨n, v⟩ hy => by
   rcases S.par n (List.of_mem_zip hy).1 with q | q
   . exact .inl q
   . exact .inr ⟨q, PySem.W.cellsFrom_some _ _ _ (.inl q)⟩
 refine codeAny_call_function hr.depth (KX _ _ lk) rfl S.co S.gen rfl (PySem.W.codeRec_of KX hcd) (hb _ _ _ _ ?_)
 refine wpAny_newFunctionEnv_cells S.kind hkind λ env he s1 x => ?_
 subst he
 refine ⟨lim.keeps x.toInCall.keep, codeAny_func ?_⟩
 obtain ⟨t, ht, hq⟩ := hbody A outer s H vs Q E (hr.deeper _) hsp
 have I : Inv (z0i CX P w K mg base N qual scope f cdv A outer s H E) [] (zph N vs) H s1 := zt6 S hr.hd e0 hl r x
 refine wpAny_mono (ht [] s1 (zph N vs) H _ I hq) (λ fl s' hs => ?_) λ e s' hs => hs
 have fin : ∀ {σ' : St} {H' : Hp} {v : V} {u : Value}, Inv (z0i CX P w K mg base N qual scope f cdv A outer s H E) [] σ' H' s' -> zdk v u -> Q v H' -> CE outer P w H s Q u s' :=
   λ {σ' H' v u} J rv q => ⟨v, H', J.os, J.bare, J.base, J.hok, rv, q⟩
 cases fl with
 | ret u =>
   obtain ⟨v, σ', H', J, rv, q⟩ := hs
   exact fin J rv q
 | next =>
   obtain ⟨σ', H', J, q⟩ := hs
   exact fin (v := V.non) (u := Value.none) J rfl q
 | brk =>
   obtain ⟨_, _, _, q⟩ := hs
   exact False.elim q
 | cont =>
   obtain ⟨_, _, _, q⟩ := hs
   exact False.elim q
end L2
namespace L2
open PySem PySem.Spec PyProof.Rows
section
variable {X : Cx} {x : Str} {p pos : Pos} {e : Expr} {es : List Expr} {t : TA} {id T : String} {r : List V -> Hp -> VK -> Prop}
def tCB (r : List V -> Hp -> VK -> Prop) (t : TA) : TE := λ σ H Q => t σ H λ vs H1 => r vs H1 Q
theorem zb6 (hc : zl7 X (.builtin id) r) (hg : Gl X x) (hm : X.mg x = none) (hv : bootBuiltins x = some (.builtin id)) (ha : PA X (e :: es) t) (hn : x ≠ "__name__" := by decide) (hdb : (x == ("__debug__" : Str)) = false := by decide)
   (he : starEach (e :: es) X.env = (false, eval e X.env) :: starEach es X.env := by rfl) (hpl : (backTo pos (starEach es X.env)).any (·.1) = false := by rfl) : PE X (.Call (.Name x p) (e :: es) [] pos) (tCB r t) := by
 intro pins s σ H Q I h
 refine wpAny_Call_Name_kw (zjc I hg hm hv ?_ hn hdb)
 exact PyProof.Rows.callWith_builtin1 (thn (ha pos pins s σ H _ I h) λ us s1 ⟨vs, H1, I1, r1, q1⟩ => hc pins s1 σ H1 vs us Q I1 r1 q1) he hpl
theorem zdy (hc : zl7 X (.type T) r) (hg : Gl X x) (hm : X.mg x = none) (hv : bootBuiltins x = some (.type T)) (ha : PA X (e :: es) t) (hn : x ≠ "__name__" := by decide) (hdb : (x == ("__debug__" : Str)) = false := by decide)
   (he : starEach (e :: es) X.env = (false, eval e X.env) :: starEach es X.env := by rfl) (hpl : (backTo pos (starEach es X.env)).any (·.1) = false := by rfl) : PE X (.Call (.Name x p) (e :: es) [] pos) (tCB r t) := by
 intro pins s σ H Q I h
 refine wpAny_Call_Name_kw (zjc I hg hm hv ?_ hn hdb)
 exact PyProof.Rows.callWith_type1 (thn (ha pos pins s σ H _ I h) λ us s1 ⟨vs, H1, I1, r1, q1⟩ => hc pins s1 σ H1 vs us Q I1 r1 q1) he hpl
end
end L2
namespace HT
open PySem PyProof.Rows
section
variable {prog : Program} {w : World} {A : Around} {E : Value -> Shared -> Prop} {s : Shared}
theorem cat_tup {t b : Addr} {vs ws : List Value} {Q : Value -> Shared -> Prop} (ht : IsTup s.heap t vs.toArray) (hb : IsTup s.heap b ws.toArray) (hv : vs ≠ [])
   (h1 : ws = [] -> Q (.ref t) s) (h2 : ws ≠ [] -> Q (.ref s.heap.objs.size) { s with heap := s.heap.push { cls := .type "tuple", data := .seq (vs ++ ws).toArray } })
   (hsz : vs.length + ws.length <= sizeLine) : wpAny (model prog w) A (binaryOp .Add (.ref t) (.ref b)) Q E s := by
 obtain ⟨⟨cls, dd, data, sl⟩, ho, hc, n, hd⟩ := id ht
 obtain ⟨⟨cls2, dd2, data2, sl2⟩, ho2, hc2, n2, hd2⟩ := id hb
 simp only at hc hd hc2 hd2
 subst hc hd hc2 hd2
 have e : vs.toArray ++ ws.toArray = (vs ++ ws).toArray := by simp
 by_cases hw : ws = []
 . exact concat_meets ⟨_, ho, rfl⟩ ⟨_, ho2, rfl⟩ noFill_tuple_add seq_tuple_add PySem.F.slot_tuple_add PySem.F.entry_tuple_add (PySem.F.args_tuple_add_2 _ _)
     (tuple_addW1 t b vs.toArray ws.toArray n n2 dd dd2 sl sl2 (by simpa using hv) (by simp [hw])) ⟨ho, ho2, h1 hw⟩
 . refine concat_meets ⟨_, ho, rfl⟩ ⟨_, ho2, rfl⟩ noFill_tuple_add seq_tuple_add PySem.F.slot_tuple_add PySem.F.entry_tuple_add (PySem.F.args_tuple_add_2 _ _)
     (tuple_addW2 t b vs.toArray ws.toArray n n2 dd dd2 sl sl2 (by simpa using hv) (by simpa using hw) (by rw [List.size_toArray, List.size_toArray]; exact hsz)) ⟨ho, ho2, ?_⟩
   rw [e]
   exact h2 hw
def sIx (n d : Nat) : Option Int -> Nat
 | none => d
 | some v => if v < 0 then (v + (n : Int)).toNat else min v.toNat n
theorem sIx_none (n d : Nat) : sIx n d none = d := rfl
theorem sIx_nat (n d k : Nat) : sIx n d (some (k : Int)) = min k n := by
 show (if (k : Int) < 0 then ((k : Int) + (n : Int)).toNat else min (k : Int).toNat n) = min k n
 rw [if_neg (by omega), Int.toNat_natCast]
end
end HT
namespace L2
open PySem PySem.Spec PyProof.Rows
abbrev TO := St -> Hp -> (Option Int -> Hp -> Prop) -> Prop
def PO (X : Cx) (e : Option Expr) (t : TO) : Prop :=
 ∀ (pins : List (Addr × Obj)) (s : Shared) (σ : St) (H : Hp) (Q : Option Int -> Hp -> Prop), Inv X pins σ H s -> t σ H Q ->
   wpAny (model X.prog X.w) X.A (evalPart e X.env) (λ u s' => ∃ o H', Inv X pins σ H' s' /\ IsPart u o /\ Q o H') X.xe s
def zzn : TO := λ _ H Q => Q none H
def z3h (t : TE) : TO := λ σ H Q => t σ H λ x H1 => ∃ i, x = .int i /\ Q (some i) H1
section
variable {X : Cx} {e : Expr} {te : TE} {lo hi : Option Expr} {tl th : TO} {pos p2 : Pos}
theorem zi3 : PO X none zzn := by
 intro pins s σ H Q I h
 rw [evalPart_none]
 exact wpAny_pure ⟨none, H, I, .none, h⟩
theorem zg1 (h : PE X e te) : PO X (some e) (z3h te) := by
 intro pins s σ H Q I hw
 rw [evalPart_some]
 refine thn (h pins s σ H _ I hw) λ u s1 ⟨x, H1, I1, r1, q1⟩ => ?_
 obtain ⟨i, rfl, q⟩ := q1
 obtain ⟨t, rfl⟩ := r1
 exact ⟨some i, H1, I1, .int i t, q⟩
def SlR (X : Cx) (r : V -> Option Int -> Option Int -> Hp -> VK -> Prop) : Prop :=
 ∀ (pins : List (Addr × Obj)) (s : Shared) (σ : St) (H : Hp) (x : V) (v vl vu : Value) (lo hi : Option Int) (sl : Addr) (Q : VK), Inv X pins σ H s -> zdk x v -> s.heap.IsSliceOf sl vl vu .none -> IsPart vl lo -> IsPart vu hi -> r x lo hi H Q ->
   ∃ T id, typeLookup (.type T) "__getitem__" = pure (some (.builtin id)) /\ s.TypeIs v T /\ wpAny (model X.prog X.w) X.A (getItem v (.ref sl)) (EP X pins σ Q) X.xe s
def tSl (r : V -> Option Int -> Option Int -> Hp -> VK -> Prop) (te : TE) (tl th : TO) : TE := λ σ H Q => te σ H λ x H1 => tl σ H1 λ l H2 => th σ H2 λ u H3 => r x l u H3 Q
theorem zga {r : V -> Option Int -> Option Int -> Hp -> VK -> Prop} (hr : SlR X r) (he : PE X e te) (hl : PO X lo tl) (hu : PO X hi th) : PE X (.Subscript e (.Slice lo hi none p2) pos) (tSl r te tl th) := by
 intro pins s σ H Q I h
 refine Subscript_ (thn (he pins s σ H _ I h) λ v s1 ⟨x, H1, I1, r1, q1⟩ => ?_)
 refine wpAny_Slice (thn (hl pins s1 σ H1 _ I1 q1) λ vl s2 ⟨l, H2, I2, pl, q2⟩ => thn (hu pins s2 σ H2 _ I2 q2) λ vu s3 ⟨u, H3, I3, pu, q3⟩ => ?_)
 rw [evalPart_none]
 refine wpAny_pure ?_
 have I4 : Inv X pins σ H3 { s3 with heap := s3.heap.push { cls := .type "slice", data := .fields #[vl, vu, .none] } } := I3.kept (t' := s3.toks) λ b ob q => Heap.get?_push_of_some _ q
 obtain ⟨T, id, hT, ht, hg⟩ := hr pins { s3 with heap := s3.heap.push { cls := .type "slice", data := .fields #[vl, vu, .none] } } σ H3 x v vl vu l u s3.heap.objs.size Q I4 r1 (Heap.IsSliceOf.new ..) pl pu q3
 show wpAny (model X.prog X.w) X.A (subscriptTail e (.Slice lo hi none p2) v (.ref s3.heap.objs.size)) (EP X pins σ Q) X.xe { s3 with heap := s3.heap.push { cls := .type "slice", data := .fields #[vl, vu, .none] } }
 exact tail_any (ops := [.ref s3.heap.objs.size, v]) ht hT hg (by with_unfolding_all rfl)
def zog (xs : List V) (lo hi : Option Int) : List V := (xs.drop (HT.sIx xs.length 0 lo)).take (HT.sIx xs.length xs.length hi - HT.sIx xs.length 0 lo)
theorem zrb (xs : List V) (lo hi : Option Int) : (zog xs lo hi).length <= xs.length := by
 unfold zog
 rw [List.length_take, List.length_drop]
 omega
def z1a (K : W.Frag) : R2 := λ x y H Q => ∃ a b xs ys, x = .ref a /\ y = .ref b /\ SqT K H a xs /\ SqT K H b ys /\ xs ≠ [] /\ xs.length + ys.length <= sizeLine /\
 (ys = [] -> Q (.ref a) H) /\ (ys ≠ [] -> ∀ p, H p = none -> Q (.ref p) (upd H p (.tup (xs ++ ys))))
theorem zc6.nil_iff {xs : List V} {us : List Value} (r : zc6 xs us) : us = [] <-> xs = [] := by
 cases r with
 | nil => simp
 | cons _ _ => simp
theorem zzz : OpR X (binaryOp .Add) (z1a X.K) := by
 intro pins s σ H x y v u Q I rx ry h
 obtain ⟨a, b, xs, ys, rfl, rfl, ha, hb, hx, hz, q1, q2⟩ := h
 cases rx
 cases ry
 obtain ⟨its, r1, p1, _⟩ := I.tuple ha
 obtain ⟨its2, r2, p2, _⟩ := I.tuple hb
 refine HT.cat_tup p1 p2 (λ z => hx (r1.nil_iff.mp z)) (λ z => ⟨.ref a, H, I, rfl, q1 (r2.nil_iff.mp z)⟩) (λ z => ?_) (by rw [<- r1.length, <- r2.length]; exact hz)
 refine ⟨.ref s.heap.objs.size, _, I.laid (t' := s.toks) (o := .tup (xs ++ ys)) (λ b ob q => Heap.get?_push_of_some _ q) (Nat.le_refl _) ?_, rfl, q2 (λ w => z (r2.nil_iff.mpr w)) _ (I.hok.fresh (Nat.le_refl _))⟩
 exact ⟨by rw [List.length_append]; exact hz, _, r1.append r2, IsTup.new _ _⟩
end
end L2
namespace L2
open PySem PySem.Spec PyProof.Rows
def ixN (n : Nat) (i : Int) : Option Nat := if 0 <= i then (if i < n then some i.toNat else none) else if -(n : Int) <= i then some (i + n).toNat else none
def atI {α : Type} (xs : List α) (i : Int) : Option α := (ixN xs.length i).bind λ j => xs[j]?
theorem zvs {n : Nat} {i : Int} {j : Nat} (h : ixN n i = some j) : seqIndex? i n = some j /\ j < n /\ -(n : Int) <= i /\ i < n := by
 unfold ixN at h
 by_cases h0 : 0 <= i
 . rw [if_pos h0] at h
   by_cases h1 : i < n
   . rw [if_pos h1] at h
     have e : i.toNat = j := Option.some.inj h
     exact ⟨by rw [seqIndex_of h0 h1, e], by omega, by omega, h1⟩
   . rw [if_neg h1] at h; cases h
 . rw [if_neg h0] at h
   by_cases h1 : -(n : Int) <= i
   . rw [if_pos h1] at h
     have e : (i + n).toNat = j := Option.some.inj h
     exact ⟨by rw [seqIndex_neg (by omega) h1, e], by omega, h1, by omega⟩
   . rw [if_neg h1] at h; cases h
theorem zqr {α : Type} {xs : List α} {i : Int} {v : α} (h : atI xs i = some v) : ∃ j, seqIndex? i xs.length = some j /\ xs[j]? = some v /\ j < xs.length /\ -(xs.length : Int) <= i /\ i < xs.length := by
 unfold atI at h
 cases e : ixN xs.length i with
 | none => rw [e] at h; cases h
 | some j =>
   rw [e] at h
   obtain ⟨h1, h2, h3, h4⟩ := zvs e
   exact ⟨j, h1, h, h2, h3, h4⟩
theorem zft {α : Type} {xs : List α} {j : Nat} {v : α} (h : xs[j]? = some v) : atI xs (j : Int) = some v := by
 have hj : j < xs.length := (List.getElem?_eq_some_iff.mp h).1
 have e : ixN xs.length (j : Int) = some j := by
   unfold ixN
   rw [if_pos (by omega), if_pos (by omega)]; simp
 unfold atI; rw [e]; exact h
theorem zxy {α : Type} (xs : List α) (v : α) : atI (xs ++ [v]) (-1) = some v := by
 have hl : (xs ++ [v]).length = xs.length + 1 := by simp
 have e : ixN (xs ++ [v]).length (-1) = some xs.length := by
   unfold ixN
   rw [hl, if_neg (by decide), if_pos (by omega)]
   congr 1
   omega
 unfold atI
 rw [e]
 show (xs ++ [v])[xs.length]? = some v
 simp
def zzj (b : Expr) : Prop := ∀ o i, subscripted b false o i = operate [o, i] (getItem o i)
def IxR (X : Cx) (r : R2) : Prop :=
 ∀ (value slice : Expr) (pins : List (Addr × Obj)) (s : Shared) (σ : St) (H : Hp) (x y : V) (v u : Value) (Q : VK), Inv X pins σ H s -> zdk x v -> zdk y u -> r x y H Q ->
   subscripted slice false v u = operate [v, u] (getItem v u) -> wpAny (model X.prog X.w) X.A (subscriptTail value slice v u) (EP X pins σ Q) X.xe s
def MtR (X : Cx) (id : String) (r : V -> List V -> Hp -> VK -> Prop) : Prop :=
 ∀ (pins : List (Addr × Obj)) (s : Shared) (σ : St) (H : Hp) (x : V) (xs : List V) (v : Value) (us : List Value) (Q : VK), Inv X pins σ H s -> zdk x v -> zc6 xs us -> r x xs H Q ->
   wpAny (model X.prog X.w) X.A (call (.builtin id) (v :: us)) (EP X pins σ Q) X.xe s
section
variable {X : Cx} {a b : Expr} {ta tb : TE} {pos : Pos}
theorem zao {r : R2} (hr : IxR X r) (ha : PE X a ta) (hb : PE X b tb) (hs : zzj b) : PE X (.Subscript a b pos) (tOp r ta tb) := by
 intro pins s σ H Q I h
 exact Subscript_ (z2t ha hb I h λ v u s2 x y H2 I2 rx ry q => hr a b pins s2 σ H2 x y v u Q I2 rx ry q (hs _ _))
def z20 (K : W.Frag) : R2 := λ x y H Q => ∃ p xs i v, x = .ref p /\ y = .int i /\ SqL K H p xs /\ atI xs i = some v /\ Q v H
def z2b (K : W.Frag) : R2 := λ x y H Q => ∃ p xs i v, x = .ref p /\ y = .int i /\ SqT K H p xs /\ atI xs i = some v /\ Q v H
def rIxS : R2 := λ x y H Q => ∃ z i c, x = .str z /\ y = .int i /\ z.length <= sizeLine /\ atI z.cps.toList i = some c /\ Q (.str ⟨#[c]⟩) H
theorem zat : IxR X (z20 X.K) := by
 intro value slice pins s σ H x y v u Q I rx ry h hs
 obtain ⟨p, xs, i, z, rfl, rfl, hq, he, q⟩ := h
 cases rx
 obtain ⟨t, rfl⟩ := ry
 obtain ⟨its, r, pl, hz⟩ := I.list hq
 obtain ⟨j, h1, h2, h3, h4, h5⟩ := zqr he
 obtain ⟨w, ew, rw'⟩ := r.get h2
 have hl := r.length
 have hn := zmv
 have fin : EP X pins σ Q w s := ⟨z, H, I, rw', q⟩
 by_cases h0 : 0 <= i
 . have hj : i.toNat = j := by
     rw [seqIndex_of h0 h5] at h1
     exact Option.some.inj h1
   exact item_listR pl.isList h0 (by omega) (by rw [hj]; simpa using ew) fin hs
 . have hj : (i + (its.toArray.size : Int)).toNat = j := by
     rw [seqIndex_neg (by omega) h4] at h1
     rw [List.size_toArray, <- hl]
     exact Option.some.inj h1
   exact subscriptTail_builtinR (x := w) pl.isList.typeIs slot_list_getitem.lookup
     (wpAny_getItem_list_neg (Q := λ r s' => r = w /\ EP X pins σ Q r s') pl.isList (by omega) (by rw [List.size_toArray] <;> omega) (by omega) (by rw [hj]; simpa using ew) ⟨rfl, fin⟩) hs
theorem zap : IxR X (z2b X.K) := by
 intro value slice pins s σ H x y v u Q I rx ry h hs
 obtain ⟨p, xs, i, z, rfl, rfl, hq, he, q⟩ := h
 cases rx
 obtain ⟨t, rfl⟩ := ry
 obtain ⟨its, r, pl, hz⟩ := I.tuple hq
 obtain ⟨j, h1, h2, h3, h4, h5⟩ := zqr he
 obtain ⟨w, ew, rw'⟩ := r.get h2
 have hl := r.length
 have hn := zmv
 have fin : EP X pins σ Q w s := ⟨z, H, I, rw', q⟩
 exact subscriptTail_builtinR (x := w) pl.typeIs slot_tuple_getitem.lookup
   (getItem_tuple (j := j) (Q := λ r s' => r = w /\ EP X pins σ Q r s') pl (by omega) (by omega) (by rw [List.size_toArray, <- hl]; exact h1) (by simpa using ew) ⟨rfl, fin⟩) hs
theorem zvy : IxR X rIxS := by
 intro value slice pins s σ H x y v u Q I rx ry h hs
 obtain ⟨z, i, c, rfl, rfl, hz, he, q⟩ := h
 obtain ⟨t, rfl⟩ := rx
 obtain ⟨t', rfl⟩ := ry
 obtain ⟨j, h1, h2, h3, h4, h5⟩ := zqr he
 have hl : z.cps.toList.length = z.length := by simp [Str.length]
 rw [hl] at h1 h4 h5
 have hn := zmv
 exact tail_any (typeIs_str s z t) slot_str_getitem.lookup (getItem_str (c := c) (by
   have e1 : decide (i < -(2 ^ 63 : Int)) = false := decide_eq_false (by omega)
   have e2 : decide (i >= 2 ^ 63) = false := decide_eq_false (by omega)
   rw [e1, e2, Bool.or_false]) (by rw [h1]; simpa using h2) ⟨.str ⟨#[c]⟩, H, I.tok _, ⟨_, rfl⟩, q⟩) hs
theorem zs7 (its : List Value) (n j : Nat) (u : Value) : Obj.mapSeq (·.setIfInBounds j u) { cls := .type "list", data := .seq its.toArray n } = { cls := .type "list", data := .seq (its.set j u).toArray n } := by
 simp [Obj.mapSeq]
theorem Inv.lst {pins : List (Addr × Obj)} {σ : St} {H : Hp} {s : Shared} {p : Addr} {xs : List V} (I : Inv X pins σ H s) (h : H p = some (.lst xs)) :
   ∃ (its : List Value) (n : Nat), zc6 xs its /\ s.heap.get? p = some { cls := .type "list", data := .seq its.toArray n } /\ xs.length <= sizeLine := by
 obtain ⟨z, its, n, r, e⟩ := I.hok p _ h
 exact ⟨its, n, r, e, z⟩
theorem Inv.lstUpd {pins : List (Addr × Obj)} {σ : St} {H : Hp} {s : Shared} {p : Addr} {xs ys : List V} {its its' : List Value} {n n' : Nat} {f : Obj -> Obj} (I : Inv X pins σ H s) (h : H p = some (.lst xs))
   (ho : s.heap.get? p = some { cls := .type "list", data := .seq its.toArray n }) (hf : f { cls := .type "list", data := .seq its.toArray n } = { cls := .type "list", data := .seq its'.toArray n' }) (r : zc6 ys its') (hz : ys.length <= sizeLine) (t : Nat) :
   Inv X pins σ (upd H p (.lst ys)) { s with heap := s.heap.update p f, toks := t } := by
 have e : (s.heap.update p f).get? p = some { cls := .type "list", data := .seq its'.toArray n' } := by
   rw [Heap.get?_update_self f ho (by rw [hf] <;> rfl), hf]
 refine I.write (x := p) (e := p) (by rw [h]; trivial) (.inl rfl) (λ b u hb q => (Heap.get?_update_other _ _ (Ne.symm hb)).trans q) ⟨_, e⟩ ?_
 exact ⟨hz, its', n', r, e⟩
def z3f : V -> V -> V -> Hp -> (Hp -> Prop) -> Prop := λ o i v H Q => ∃ p xs k j, o = .ref p /\ i = .int k /\ H p = some (.lst xs) /\ ixN xs.length k = some j /\ Q (upd H p (.lst (xs.set j v)))
theorem zld : PSet X z3f := by
 intro pins s σ H o i v ov iv u Q I ro ri rv h
 obtain ⟨p, xs, k, j, rfl, rfl, hp, hj, q⟩ := h
 cases ro
 obtain ⟨t, rfl⟩ := ri
 obtain ⟨its, n, r, ho, hz⟩ := I.lst hp
 obtain ⟨h1, h2, h3, h4⟩ := zvs hj
 have hl := r.length
 have hn := zmv
 have I' : Inv X pins σ (upd H p (.lst (xs.set j v))) { s with heap := s.heap.update p (Obj.mapSeq (·.setIfInBounds j u)) } :=
   I.lstUpd hp ho (zs7 its n j u) (r.set rv j) (by rw [List.length_set]; exact hz) s.toks
 by_cases h0 : 0 <= k
 . have hk : k.toNat = j := by
     rw [seqIndex_of h0 h4] at h1
     exact Option.some.inj h1
   exact PySem.W.ki_setAt ho h0 (by omega) (by rw [List.size_toArray, <- hl]; exact h4) (by rw [hk]; exact ⟨_, I', q⟩)
 . have hk : (k + (its.toArray.size : Int)).toNat = j := by
     rw [seqIndex_neg (by omega) h3] at h1
     rw [List.size_toArray, <- hl]
     exact Option.some.inj h1
   exact PySem.W.ki_setBack ho (by omega) (by rw [List.size_toArray, <- hl]; exact h3) (by omega) (by rw [hk]; exact ⟨_, I', q⟩)
theorem zpl (lo hi : Option Int) (n : Nat) : (sliceBounds lo hi none n).1 = ((HT.sIx n 0 lo : Nat) : Int) /\ (sliceBounds lo hi none n).2.1 = ((HT.sIx n n hi : Nat) : Int) /\ (sliceBounds lo hi none n).2.2 = 1 := by
 refine ⟨?_, ?_, rfl⟩
 . cases lo with
   | none => simp [sliceBounds, HT.sIx]
   | some i =>
     simp only [sliceBounds, HT.sIx, Option.getD_none, show (1 : Int) > 0 by decide, if_true]
     by_cases h : i < 0
     . simp only [h, if_true] <;> omega
     . simp only [h, if_false] <;> omega
 . cases hi with
   | none => simp [sliceBounds, HT.sIx]
   | some i =>
     simp only [sliceBounds, HT.sIx, Option.getD_none, show (1 : Int) > 0 by decide, if_true]
     by_cases h : i < 0
     . simp only [h, if_true] <;> omega
     . simp only [h, if_false] <;> omega
theorem zn1 (its : List Value) (lo hi : Option Int) : slicePick its.toArray lo hi none = ((its.drop (HT.sIx its.length 0 lo)).take (HT.sIx its.length its.length hi - HT.sIx its.length 0 lo)).toArray := by
 obtain ⟨h1, h2, h3⟩ := zpl lo hi its.toArray.size
 unfold slicePick
 rw [h1, h2, h3]
 simp only [sliceRange_one, pick_run, List.size_toArray] <;> rfl
def rSlL (K : W.Frag) : V -> Option Int -> Option Int -> Hp -> VK -> Prop := λ x lo hi H Q => ∃ a xs, x = .ref a /\ SqL K H a xs /\ ∀ p, H p = none -> Q (.ref p) (upd H p (.lst (zog xs lo hi)))
theorem zki : SlR X (rSlL X.K) := by
 intro pins s σ H x v vl vu lo hi sl Q I rx hs pl pu h
 obtain ⟨a, xs, rfl, hx, q⟩ := h
 cases rx
 obtain ⟨its, r, ht, hz⟩ := I.list hx
 have hlen := r.length
 refine ⟨"list", _, slot_list_getitem.lookup, ht.isList.typeIs, ?_⟩
 refine wpAny_getItem_list_slice ht.isList hs pl pu .none (by simp) ?_ (by rw [List.size_toArray] <;> omega)
 rw [zn1, <- hlen]
 refine ⟨.ref s.heap.objs.size, _, I.laid (t' := s.toks) (o := .lst (zog xs lo hi)) (λ b ob q => Heap.get?_push_of_some _ q) (Nat.le_refl _) ?_, rfl, q _ (I.hok.fresh (Nat.le_refl _))⟩
 exact ⟨Nat.le_trans (zrb xs lo hi) hz, _, 0, (r.drop (HT.sIx xs.length 0 lo)).take (HT.sIx xs.length xs.length hi - HT.sIx xs.length 0 lo), Heap.get?_push_size _ rfl⟩
def zmp : V -> Bool
 | .non => true
 | .bl _ => true
 | .int _ => true
 | .str _ => true
 | _ => false
def eqV : V -> V -> Bool
 | .non, .non => true
 | .bl a, .bl b => a == b
 | .bl a, .int b => (if a then 1 else 0) == b
 | .int a, .bl b => a == (if b then 1 else 0)
 | .int a, .int b => a == b
 | .str a, .str b => a == b
 | _, _ => false
theorem z0q {A : Around} {s : Shared} {y x : V} {u v : Value} (ry : zdk y u) (rx : zdk x v) (fy : zmp y = true) (fx : zmp x = true) : SeqAt.EqAt A s u v (eqV y x) := by
 cases y with
 | non =>
   cases ry
   cases x with
   | non => cases rx; exact SeqAt.EqAt.same _
   | bl b => cases rx; exact SeqAt.EqAt.none_bool b
   | int b => obtain ⟨t, rfl⟩ := rx; exact SeqAt.EqAt.none_int b t
   | str b => obtain ⟨t, rfl⟩ := rx; exact SeqAt.EqAt.none_str b t
   | _ => exact absurd (show false = true from fx) Bool.false_ne_true
 | bl a =>
   cases ry
   cases x with
   | non => cases rx; exact SeqAt.EqAt.bool_none a
   | bl b => cases rx; exact SeqAt.EqAt.bool_bool a b
   | int b => obtain ⟨t, rfl⟩ := rx; exact SeqAt.EqAt.bool_int a b t
   | str b => obtain ⟨t, rfl⟩ := rx; exact SeqAt.EqAt.bool_str a b t
   | _ => exact absurd (show false = true from fx) Bool.false_ne_true
 | int a =>
   obtain ⟨t', rfl⟩ := ry
   cases x with
   | non => cases rx; exact SeqAt.EqAt.int_none a t'
   | bl b => cases rx; exact SeqAt.EqAt.int_bool a t' b
   | int b => obtain ⟨t, rfl⟩ := rx; exact SeqAt.EqAt.int_int a t' b t
   | str b => obtain ⟨t, rfl⟩ := rx; exact SeqAt.EqAt.int_str a t' b t
   | _ => exact absurd (show false = true from fx) Bool.false_ne_true
 | str a =>
   obtain ⟨t', rfl⟩ := ry
   cases x with
   | non => cases rx; exact SeqAt.EqAt.str_none a t'
   | bl b => cases rx; exact SeqAt.EqAt.str_bool a t' b
   | int b => obtain ⟨t, rfl⟩ := rx; exact SeqAt.EqAt.str_int a t' b t
   | str b => obtain ⟨t, rfl⟩ := rx; exact SeqAt.EqAt.str_str a t' b t
   | _ => exact absurd (show false = true from fx) Bool.false_ne_true
 | _ => exact absurd (show false = true from fy) Bool.false_ne_true
def eqU (x : V) (u : Value) : Bool := match u with
 | .none => eqV .non x
 | .bool b => eqV (.bl b) x
 | .int i _ => eqV (.int i) x
 | .str z _ => eqV (.str z) x
 | _ => false
theorem zyd {x y : V} {u : Value} (r : zdk y u) (f : zmp y = true) : eqU x u = eqV y x := by
 cases y with
 | non => cases r; rfl
 | bl b => cases r; rfl
 | int i => obtain ⟨t, rfl⟩ := r; rfl
 | str z => obtain ⟨t, rfl⟩ := r; rfl
 | _ => exact absurd (show false = true from f) Bool.false_ne_true
theorem zlr {x : V} : ∀ {xs : List V} {us : List Value}, zc6 xs us -> xs.all zmp = true -> us.any (eqU x) = xs.any λ y => eqV y x
 | _, _, .nil, _ => rfl
 | y :: xs, u :: us, .cons r t, f => by
   rw [List.all_cons, Bool.and_eq_true] at f
   rw [List.any_cons, List.any_cons, zyd r f.1, zlr t f.2]
theorem zjb {A : Around} {s : Shared} {x : V} {v : Value} (rx : zdk x v) (fx : zmp x = true) : ∀ {xs : List V} {us : List Value}, zc6 xs us -> xs.all zmp = true -> ∀ u ∈ us, SeqAt.EqAt A s u v (eqU x u)
 | _, _, .nil, _ => λ u hu => by cases hu
 | y :: xs, u :: us, .cons r t, f => λ u' hu => by
   rw [List.all_cons, Bool.and_eq_true] at f
   rcases List.mem_cons.mp hu with rfl | hu
   . rw [zyd r f.1]; exact z0q r rx f.1 fx
   . exact zjb rx fx t f.2 u' hu
def inV (x : V) (xs : List V) : Bool := xs.any λ y => eqV y x
def rIn (K : W.Frag) (neg : Bool) : R2 := λ x y H Q => ∃ p xs, y = .ref p /\ (SqL K H p xs \/ SqT K H p xs) /\ zmp x = true /\ xs.all zmp = true /\ Q (.bl (if neg then !inV x xs else inV x xs)) H
theorem zhl : OpR X (compareOp .In) (rIn X.K false) := by
 intro pins s σ H x y v u Q I rx ry h
 obtain ⟨p, xs, rfl, hq, fx, fs, q⟩ := h
 cases ry
 rcases hq with hq | hq
 . obtain ⟨its, r, pl, hz⟩ := I.list hq
   refine SeqAt.in_listAt (eqU x) pl.isList (λ w hw => zjb rx fx r fs w (by simpa using hw)) ⟨.bl _, H, I, rfl, ?_⟩
   rw [show its.toArray.any (eqU x) = its.any (eqU x) by simp, zlr r fs]
   exact q
 . obtain ⟨its, r, pl, hz⟩ := I.tuple hq
   refine SeqAt.in_tupleAt (eqU x) pl (λ w hw => zjb rx fx r fs w (by simpa using hw)) ⟨.bl _, H, I, rfl, ?_⟩
   rw [show its.toArray.any (eqU x) = its.any (eqU x) by simp, zlr r fs]
   exact q
theorem zh3 : OpR X (compareOp .NotIn) (rIn X.K true) := by
 intro pins s σ H x y v u Q I rx ry h
 obtain ⟨p, xs, rfl, hq, fx, fs, q⟩ := h
 cases ry
 rcases hq with hq | hq
 . obtain ⟨its, r, pl, hz⟩ := I.list hq
   refine SeqAt.notIn_listAt (eqU x) pl.isList (λ w hw => zjb rx fx r fs w (by simpa using hw)) ⟨.bl _, H, I, rfl, ?_⟩
   rw [show its.toArray.any (eqU x) = its.any (eqU x) by simp, zlr r fs]
   exact q
 . obtain ⟨its, r, pl, hz⟩ := I.tuple hq
   refine SeqAt.notIn_tupleAt (eqU x) pl (λ w hw => zjb rx fx r fs w (by simpa using hw)) ⟨.bl _, H, I, rfl, ?_⟩
   rw [show its.toArray.any (eqU x) = its.any (eqU x) by simp, zlr r fs]
   exact q
theorem zbj : zl7 X (.builtin "len") (λ xs H Q => ∃ p ys, xs = [.ref p] /\ (SqL X.K H p ys \/ SqT X.K H p ys) /\ Q (.int ys.length) H) := by
 intro pins s σ H xs us Q I r h
 obtain ⟨p, ys, rfl, hq, q⟩ := h
 obtain ⟨u, rfl, rx⟩ := zny r
 cases rx
 have hn := zmv
 rcases hq with hq | hq
 . obtain ⟨its, r', pl, hz⟩ := I.list hq
   have hlen := r'.length
   exact Calls.call_len_list pl.isList (by simp only [List.size_toArray] <;> omega) ⟨.int ys.length, H, I.tok _, ⟨s.toks + 1, by rw [List.size_toArray, hlen]⟩, q⟩
 . obtain ⟨its, r', pl, hz⟩ := I.tuple hq
   have hlen := r'.length
   exact len_tuple pl (by simp only [List.size_toArray] <;> omega) ⟨.int ys.length, H, I.tok _, ⟨s.toks + 1, by rw [List.size_toArray, hlen]⟩, q⟩
theorem zh0 : zl7 X (.type "list") (λ xs H Q => ∃ p ys, xs = [.ref p] /\ (SqL X.K H p ys \/ SqT X.K H p ys) /\ ∀ l, H l = none -> Q (.ref l) (upd H l (.lst ys))) := by
 intro pins s σ H xs us Q I r h
 obtain ⟨p, ys, rfl, hq, q⟩ := h
 obtain ⟨u, rfl, rx⟩ := zny r
 cases rx
 have fin : ∀ (its : List Value), zc6 ys its -> ys.length <= sizeLine -> ∀ (h' : Heap) (c' : Nat), (∀ b o', s.heap.get? b = some o' -> h'.get? b = some o') ->
     h'.get? s.heap.objs.size = some { cls := .type "list", dict := none, data := .seq its.toArray c', slots := #[] } -> EP X pins σ Q (.ref s.heap.objs.size) { s with heap := h' } := λ its r' hz h' c' kp e =>
   ⟨.ref s.heap.objs.size, _, I.laid (t' := s.toks) kp (Nat.le_refl _) (show zed X.prog X.w _ h' _ (.lst ys) from ⟨hz, its, c', r', e⟩), rfl, q _ (I.hok.fresh (Nat.le_refl _))⟩
 rcases hq with hq | hq
 . obtain ⟨its, r', pl, hz⟩ := I.list hq
   have hlen := r'.length
   obtain ⟨o, ho, hc, n, hd⟩ := pl.isList
   exact call_list_seq p (.inl rfl) ho hc hd (λ h' c' kp e => fin its r' hz h' c' kp e) (by simp only [List.size_toArray] <;> omega)
 . obtain ⟨its, r', pl, hz⟩ := I.tuple hq
   have hlen := r'.length
   obtain ⟨o, ho, hc, n, hd⟩ := pl
   exact call_list_seq p (.inr rfl) ho hc hd (λ h' c' kp e => fin its r' hz h' c' kp e) (by simp only [List.size_toArray] <;> omega)
theorem znk : zl7 X (.type "tuple") (λ xs H Q => ∃ p ys, xs = [.ref p] /\ ((SqL X.K H p ys /\ ∀ l, H l = none -> Q (.ref l) (upd H l (.tup ys))) \/ (SqT X.K H p ys /\ Q (.ref p) H))) := by
 intro pins s σ H xs us Q I r h
 obtain ⟨p, ys, rfl, h⟩ := h
 obtain ⟨u, rfl, rx⟩ := zny r
 cases rx
 rcases h with ⟨hq, q⟩ | ⟨hq, q⟩
 . obtain ⟨its, r', pl, hz⟩ := I.list hq
   have hlen := r'.length
   refine call_tuple_list pl.isList (λ h' kp => ?_) (by simp only [List.size_toArray] <;> omega)
   have I1 : Inv X pins σ H { s with heap := h' } := I.kept (t' := s.toks) kp
   have I2 : Inv X pins σ (upd H h'.objs.size (.tup ys)) { s with heap := h'.push { cls := .type "tuple", data := .seq its.toArray } } :=
     I1.laid (t' := s.toks) (λ b o e => Heap.get?_push_of_some _ e) (Nat.le_refl _) (show zed X.prog X.w _ _ _ (.tup ys) from ⟨hz, its, r', IsTup.new _ _⟩)
   exact ⟨.ref h'.objs.size, _, I2, rfl, q _ (I1.hok.fresh (Nat.le_refl _))⟩
 . obtain ⟨its, r', pl, hz⟩ := I.tuple hq
   exact call_tuple_same pl ⟨.ref p, H, I, rfl, q⟩
def tyV (K : W.Frag) (T : String) (x : V) (H : Hp) : Prop := match x with
 | .str _ => T = "str"
 | .int _ => T = "int"
 | .ref p => (T = "list" /\ ∃ xs, SqL K H p xs) \/ (T = "tuple" /\ ∃ o, K.lookup p = some o /\ o.cls = .type "tuple" /\ o.dict = none) \/
     (T = "dict" /\ ((∃ kvs, H p = some (.dK kvs)) \/ ∃ kvs, H p = some (.dT kvs))) \/ (T = "set" /\ ∃ S n, H p = some (.set S n))
 | _ => False
theorem zyh {pins : List (Addr × Obj)} {σ : St} {H : Hp} {s : Shared} {T : String} {x : V} {v : Value} (I : Inv X pins σ H s) (r : zdk x v) (ty : tyV X.K T x H) :
   s.TypeIs v T /\ ∀ a, v = .ref a -> ∃ ob, s.heap.get? a = some ob /\ ob.dict = none := by
 cases x with
 | str z =>
   obtain ⟨t, rfl⟩ := r
   cases (show T = "str" from ty)
   exact ⟨typeIs_str s z t, λ _ e => nomatch e⟩
 | int i =>
   obtain ⟨t, rfl⟩ := r
   cases (show T = "int" from ty)
   exact ⟨typeIs_int s i t, λ _ e => nomatch e⟩
 | ref p =>
   cases r
   rcases ty with ⟨rfl, xs, hq⟩ | ⟨rfl, o, hk, hc, hd⟩ | ⟨rfl, hk⟩ | ⟨rfl, S, n, hk⟩
   . obtain ⟨its, _, pl, _⟩ := I.list hq
     refine ⟨pl.isList.typeIs, λ a e => ?_⟩
     cases e
     obtain ⟨o, n, e, c, hd, _⟩ := pl
     exact ⟨o, e, hd⟩
   . refine ⟨⟨o, I.kIn p o hk, hc⟩, λ a e => ?_⟩
     cases e
     exact ⟨o, I.kIn _ o hk, hd⟩
   . have z : ∃ o, s.heap.get? p = some o /\ o.ExactDict := by
       rcases hk with ⟨kvs, hk⟩ | ⟨kvs, hk⟩
       . obtain ⟨_, _, _, _, o, _, _, e, ex, _⟩ := I.hok p _ hk
         exact ⟨o, e, ex⟩
       . obtain ⟨_, _, _, _, o, _, _, e, ex, _⟩ := I.hok p _ hk
         exact ⟨o, e, ex⟩
     obtain ⟨o, e, ex⟩ := z
     refine ⟨⟨o, e, ex.1⟩, λ a e2 => ?_⟩
     cases e2
     exact ⟨o, e, ex.2.1⟩
   . obtain ⟨o, _, _, _, e, ex, _⟩ := I.hok p _ hk
     refine ⟨⟨o, e, ex.1⟩, λ a e2 => ?_⟩
     cases e2
     exact ⟨o, e, ex.2.1⟩
 | _ => exact False.elim ty
def tBM0 (K : W.Frag) (T : String) (r : V -> List V -> Hp -> VK -> Prop) (to : TE) : TE := λ σ H Q => to σ H λ x H1 => tyV K T x H1 /\ r x [] H1 Q
def tBM (K : W.Frag) (T : String) (r : V -> List V -> Hp -> VK -> Prop) (to : TE) (t : TA) : TE := λ σ H Q => to σ H λ x H1 => tyV K T x H1 /\ t σ H1 λ xs H2 => r x xs H2 Q
variable {o e : Expr} {es : List Expr} {to : TE} {t : TA} {name : Str} {apos cpos : Pos} {T id : String} {r : V -> List V -> Hp -> VK -> Prop}
theorem zyc (pa : PlainAttrs T) (slot : Slot T name id) (hty : typeOf (.builtin id) = pure (.type "method_descriptor")) (hm : MtR X id r) (ho : PE X o to)
   (hbase : attributeBase o name X.env (eval o X.env) = eval o X.env := by rfl) (hline : (apos.endLine == cpos.line) = true := by rfl) : PE X (.Call (.Attribute o name apos) [] [] cpos) (tBM0 X.K T r to) := by
 intro pins s σ H Q I h
 refine wpAny_Call_method0_late hbase hline (thn (ho pins s σ H _ I h) λ v s1 ⟨x, H1, I1, r1, ty, q1⟩ => ?_)
 obtain ⟨h1, h2⟩ := zyh I1 r1 ty
 exact ⟨T, id, pa, slot, hty, h1, h2, Calls.callWith_builtin rfl (PySem.evalArgs_none (hm pins s1 σ H1 x [] v [] Q I1 r1 .nil q1))⟩
theorem zkg (pa : PlainAttrs T) (slot : Slot T name id) (hty : typeOf (.builtin id) = pure (.type "method_descriptor")) (hm : MtR X id r) (ho : PE X o to) (ha : PA X (e :: es) t)
   (hbase : attributeBase o name X.env (eval o X.env) = eval o X.env := by rfl)
   (hfew : ((backTo cpos (starEach (e :: es) X.env)).all (λ x => !x.1) && (backToKw cpos (keywordEach [] X.env)).all (λ x => x.1.isSome)
     && decide ((e :: es).length + ([] : List Keyword).length + (if ([] : List Keyword).isEmpty then 0 else 1) < 30)) = true := by rfl)
   (hline : (apos.endLine == cpos.line) = true := by rfl) (hs : starEach (e :: es) X.env = (false, eval e X.env) :: starEach es X.env := by rfl) (hplain : (backTo cpos (starEach es X.env)).any (·.1) = false := by rfl) :
   PE X (.Call (.Attribute o name apos) (e :: es) [] cpos) (tBM X.K T r to t) := by
 intro pins s σ H Q I h
 refine wpAny_Call_method_late hbase hfew hline rfl (thn (ho pins s σ H _ I h) λ v s1 ⟨x, H1, I1, r1, ty, q1⟩ => ?_)
 obtain ⟨h1, h2⟩ := zyh I1 r1 ty
 refine ⟨T, id, pa, slot, hty, h1, h2, ?_⟩
 have hA := ha cpos pins s1 σ H1 _ I1 q1
 rw [hs] at hA ⊢
 refine Calls.callWith_builtin (by show (false || (backTo cpos (starEach es X.env)).any (·.1)) = false; rw [hplain] <;> rfl) (Calls.evalArgs_plain ?_)
 exact thn hA λ us s2 ⟨vs, H2, I2, r2, q2⟩ => hm pins s2 σ H2 x vs v us Q I2 r1 r2 q2
end
end L2
namespace L2
open PySem PySem.Spec PyProof.Rows
def MtM (X : Cx) (id : String) (r : V -> List V -> Hp -> VK -> Prop) : Prop :=
 ∀ (pins : List (Addr × Obj)) (s : Shared) (σ : St) (H : Hp) (x : V) (xs : List V) (v : Value) (us : List Value) (Q : VK), Inv X pins σ H s -> zdk x v -> zc6 xs us -> r x xs H Q ->
   wpAny (model X.prog X.w) X.A (call (.builtin id) (v :: us)) (EP X pins σ Q) X.xe s
theorem zc6.one : ∀ {x : V} {us : List Value}, zc6 [x] us -> ∃ u, us = [u] /\ zdk x u
 | _, _, .cons r .nil => ⟨_, rfl, r⟩
theorem zc6.zero : ∀ {us : List Value}, zc6 [] us -> us = []
 | _, .nil => rfl
theorem zc6.dropLast {xs : List V} {us : List Value} (h : zc6 xs us) : zc6 xs.dropLast us.dropLast := by
 induction h with
 | nil => exact .nil
 | cons r t ih =>
   cases t with
   | nil => exact .nil
   | cons q t' => exact .cons r ih
theorem zc6.rep {xs : List V} {us : List Value} (h : zc6 xs us) : ∀ k : Nat, zc6 (List.replicate k xs).flatten (List.replicate k us).flatten
 | 0 => .nil
 | k + 1 => by
   rw [List.replicate_succ, List.replicate_succ, List.flatten_cons, List.flatten_cons]
   exact zc6.append h (zc6.rep h k)
theorem zsy {α : Type} (l : List α) : l.eraseIdx (l.length - 1) = l.dropLast := by
 induction l with
 | nil => rfl
 | cons a r ih =>
   cases r with
   | nil => rfl
   | cons b r =>
     have e : (a :: b :: r).length - 1 = ((b :: r).length - 1) + 1 := by
       have h1 : (a :: b :: r).length = r.length + 2 := rfl
       have h2 : (b :: r).length = r.length + 1 := rfl
       omega
     rw [e, List.eraseIdx_cons_succ, ih]
     all_goals rfl
theorem zpc (its : List Value) : ∀ (k : Nat) (acc : List Value),
   List.foldl (λ x1 x2 => x1 ++ x2) acc.toArray (List.replicate k its.toArray) = (acc ++ (List.replicate k its).flatten).toArray
 | 0, acc => by simp
 | k + 1, acc => by
   have e : acc.toArray ++ its.toArray = (acc ++ its).toArray := by simp
   have e2 : (acc ++ its) ++ (List.replicate k its).flatten = acc ++ (List.replicate (k + 1) its).flatten := by
     rw [List.replicate_succ, List.flatten_cons, List.append_assoc]
   rw [<- e2, <- zpc its k (acc ++ its), <- e, List.replicate_succ, List.foldl_cons]
section
variable {X : Cx} {pins : List (Addr × Obj)} {σ : St} {H : Hp} {s : Shared} {l b : Addr} {xs ys zs : List V}
theorem Inv.lset {its its' : List Value} {n : Nat} {f : Array Value -> Array Value} {t' : Nat} (I : Inv X pins σ H s) (hH : H l = some (.lst xs))
   (e : s.heap.get? l = some { cls := .type "list", data := .seq its.toArray n }) (hf : f its.toArray = its'.toArray) (hv : zc6 ys its') (hz : ys.length <= sizeLine) :
   Inv X pins σ (upd H l (.lst ys)) { s with heap := s.heap.update l (Obj.mapSeq f), toks := t' } := by
 have q := PySem.IsL.update e f
 rw [hf] at q
 refine I.write (x := l) (e := l) (by rw [hH]; exact trivial) (.inl rfl) (λ b' u hb hu => (Heap.get?_update_other s.heap (Obj.mapSeq f) (Ne.symm hb)).trans hu) ⟨_, q⟩ ?_
 exact ⟨hz, its', _, hv, q⟩
theorem Inv.lnew {its : List Value} {t' : Nat} (I : Inv X pins σ H s) (hv : zc6 ys its) (hz : ys.length <= sizeLine) :
   Inv X pins σ (upd H s.heap.objs.size (.lst ys)) { s with heap := s.heap.push { cls := .type "list", data := .seq its.toArray }, toks := t' } :=
 I.laid (λ _ _ q => Heap.get?_push_of_some _ q) (Nat.le_refl _) ⟨hz, its, 0, hv, Heap.get?_push_size _ rfl⟩
theorem Inv.fresh (I : Inv X pins σ H s) : H s.heap.objs.size = none := I.hok.fresh (Nat.le_refl _)
theorem Inv.lstM (I : Inv X pins σ H s) (hH : H l = some (.lst xs)) : xs.length <= sizeLine /\ ∃ (its : List Value) (n : Nat), zc6 xs its /\ xs.length = its.length /\ s.heap.get? l = some { cls := .type "list", data := .seq its.toArray n } := by
 obtain ⟨z, its, n, r, e⟩ := I.hok l _ hH
 exact ⟨z, its, n, r, r.length, e⟩
theorem zrw {n : Nat} (h : n <= sizeLine) : Builtin.List.listTooLong n = false := by
 unfold Builtin.List.listTooLong
 exact decide_eq_false (by omega)
end
section
variable {X : Cx}
def zyy : V -> List V -> Hp -> VK -> Prop := λ x vs H Q => ∃ l xs y, x = .ref l /\ vs = [y] /\ H l = some (.lst xs) /\ xs.length < sizeLine /\ Q .non (upd H l (.lst (xs ++ [y])))
theorem zdi : MtM X "list.append" zyy := by
 intro pins s σ H x vs v us Q I rx rv h
 obtain ⟨l, xs, y, rfl, rfl, hH, hz, q⟩ := h
 cases rx
 obtain ⟨u, rfl, ru⟩ := rv.one
 obtain ⟨z, its, n, r, hl, e⟩ := I.lstM hH
 refine call_meets F.slot_list_append ⟨_, e, rfl⟩ F.entry_list_append (F.args_list_append_2 _ _) (PySem.list_append l its.toArray n u (by rw [List.size_toArray]; omega)) ⟨e, ?_⟩
 refine ⟨.non, _, I.lset (its' := its ++ [u]) hH e (by simp) (r.append (.cons ru .nil)) ?_, rfl, q⟩
 rw [List.length_append, List.length_singleton]
 omega
def zyv : V -> List V -> Hp -> VK -> Prop := λ x vs H Q => ∃ l b xs zs, x = .ref l /\ vs = [.ref b] /\ H l = some (.lst xs) /\ H b = some (.lst zs) /\ xs.length + zs.length <= sizeLine /\ Q .non (upd H l (.lst (xs ++ zs)))
theorem zvx : MtM X "list.extend" zyv := by
 intro pins s σ H x vs v us Q I rx rv h
 obtain ⟨l, b, xs, zs, rfl, rfl, hH, hB, hz, q⟩ := h
 cases rx
 obtain ⟨u, rfl, ru⟩ := rv.one
 cases ru
 obtain ⟨z, its, n, r, hl, e⟩ := I.lstM hH
 obtain ⟨z2, its2, n2, r2, hl2, e2⟩ := I.lstM hB
 have hsz : its.toArray.size + its2.toArray.size <= sizeLine := by rw [List.size_toArray, List.size_toArray]; omega
 have hlong : ¬ (!its.toArray.isEmpty && Builtin.List.listTooLong (its.toArray.size + its2.toArray.size)) = true := by
   rw [zrw hsz, Bool.and_false]
   exact Bool.false_ne_true
 refine call_meets F.slot_list_extend ⟨_, e, rfl⟩ F.entry_list_extend (F.args_list_extend_2 _ _)
   (AutoSeq1.list_extend_list_list_0 l its.toArray n b its2.toArray n2 hlong (by rw [List.size_toArray]; omega) (by omega)) ⟨e, e2, ?_⟩
 refine ⟨.non, _, I.lset (its' := its ++ its2) hH e (by simp) (r.append r2) ?_, rfl, q⟩
 rw [List.length_append]
 omega
def rPop : V -> List V -> Hp -> VK -> Prop := λ x vs H Q => ∃ l xs y, x = .ref l /\ vs = [] /\ H l = some (.lst xs) /\ xs[xs.length - 1]? = some y /\ Q y (upd H l (.lst xs.dropLast))
theorem zx6 : MtM X "list.pop" rPop := by
 intro pins s σ H x vs v us Q I rx rv h
 obtain ⟨l, xs, y, rfl, rfl, hH, hy, q⟩ := h
 cases rx
 have hus := rv.zero
 subst hus
 obtain ⟨z, its, n, r, hl, e⟩ := I.lstM hH
 obtain ⟨u, hu, ru⟩ := r.get hy
 have hy' : its.toArray[its.toArray.size - 1]? = some u := by
   show its.toArray[its.length - 1]? = some u
   rw [<- Array.getElem?_toList, <- hl]
   exact hu
 refine call_meets F.slot_list_pop ⟨_, e, rfl⟩ F.entry_list_pop (F.args_list_pop_1 _) (MeetsSeq.list_pop_last l its.toArray n u hy' (by rw [List.size_toArray]; omega)) ⟨e, ?_⟩
 refine ⟨y, _, I.lset (its' := its.dropLast) hH e ?_ r.dropLast ?_, ru, q⟩
 . show its.toArray.eraseIdxIfInBounds (its.toArray.size - 1) = its.dropLast.toArray
   rw [List.size_toArray, List.eraseIdxIfInBounds_toArray, zsy]
 . rw [List.length_dropLast]
   omega
def rCat : R2 := λ x y H Q => ∃ l b xs zs, x = .ref l /\ y = .ref b /\ H l = some (.lst xs) /\ H b = some (.lst zs) /\ xs.length + zs.length <= sizeLine /\ ∀ p, H p = none -> Q (.ref p) (upd H p (.lst (xs ++ zs)))
theorem zye : OpR X (binaryOp .Add) rCat := by
 intro pins s σ H x y v u Q I rx ry h
 obtain ⟨l, b, xs, zs, rfl, rfl, hH, hB, hz, q⟩ := h
 cases rx
 cases ry
 obtain ⟨z, its, n, r, hl, e⟩ := I.lstM hH
 obtain ⟨z2, its2, n2, r2, hl2, e2⟩ := I.lstM hB
 refine PySem.P.add_list e e2 ?_ (by rw [List.size_toArray, List.size_toArray]; omega)
 have ea : its.toArray ++ its2.toArray = (its ++ its2).toArray := by simp
 rw [ea]
 exact ⟨.ref _, _, I.lnew (t' := s.toks) (r.append r2) (by rw [List.length_append]; omega), rfl, q _ I.fresh⟩
def rRep : R2 := λ x y H Q => ∃ l k xs, x = .ref l /\ y = .int k /\ H l = some (.lst xs) /\ -(2 ^ 63) <= k /\ k < 2 ^ 63 /\ xs.length * k.toNat <= sizeLine /\
 ∀ p, H p = none -> Q (.ref p) (upd H p (.lst (List.replicate k.toNat xs).flatten))
theorem zub {α : Type} (xs : List α) (k : Nat) : (List.replicate k xs).flatten.length = k * xs.length := by
 induction k with
 | zero => simp
 | succ k ih => rw [List.replicate_succ, List.flatten_cons, List.length_append, ih, Nat.succ_mul, Nat.add_comm]
theorem z0u : OpR X (binaryOp .Mult) rRep := by
 intro pins s σ H x y v u Q I rx ry h
 obtain ⟨l, k, xs, rfl, rfl, hH, h1, h2, hz, q⟩ := h
 cases rx
 obtain ⟨t, rfl⟩ := ry
 obtain ⟨z, its, n, r, hl, e⟩ := I.lstM hH
 have hlen : its.toArray.size * k.toNat <= sizeLine := by rw [List.size_toArray, <- hl]; exact hz
 have hcap : ¬ its.toArray.size * k.toNat > (2 ^ 63 - 1) / 8 := by
   have : (sizeLine : Nat) <= (2 ^ 63 - 1) / 8 := by decide
   omega
 have hfit : ¬ (!Builtin.List.listFitsIndex k) = true := by
   rw [fitsIndex_both h1 h2]
   exact Bool.false_ne_true
 have hlong : ¬ Builtin.List.listTooLong (its.toArray.size * k.toNat) = true := by
   rw [zrw hlen]
   exact Bool.false_ne_true
 have hnew : List.foldl (λ x1 x2 => x1 ++ x2) #[] (List.replicate (if its.toArray.isEmpty = true then 0 else k.toNat) its.toArray) = (List.replicate k.toNat its).flatten.toArray := by
   have f0 : ∀ m : Nat, List.foldl (λ x1 x2 => x1 ++ x2) #[] (List.replicate m its.toArray) = (List.replicate m its).flatten.toArray := λ m => by
     have := zpc its m []
     rw [List.nil_append] at this
     exact this
   rw [f0]
   cases its with
   | nil => simp
   | cons a r' => rw [if_neg (by simp)]
 refine wpAny_binaryOp_repeat_ref (T := "list") (U := "int") (by decide) ⟨_, e, rfl⟩ (λ s' => typeIs_int s' k t) noFill_list_mul F.fills_int_mul F.slot_int_rmul repeat_list F.slot_int_index.lookup
   (call_meets F.slot_int_rmul (typeIs_int s k t) F.entry_int_rmul (F.args_int_rmul_2 _ _) (int___rmul___int_list k t l its.toArray n)
     ⟨e, rfl, ⟨_, e, rfl⟩, call_meets F.slot_list_mul ⟨_, e, rfl⟩ F.entry_list_mul (F.args_list_mul_2 _ _) (AutoListH.list___mul___list_int_3 l its.toArray n k t hfit hcap hlong) ⟨e, ?_⟩⟩)
 rw [hnew]
 exact ⟨.ref _, _, I.lnew (t' := s.toks) (r.rep k.toNat) (by rw [zub, Nat.mul_comm]; exact hz), rfl, q _ I.fresh⟩
end
end L2
namespace Att
open PySem PySem.W PySem.Calls PyProof.Rows
theorem zlh {P : Params} {h : Heap} : ∀ (ns : List Int) (vs : List Value), WellAll P h vs (ns.map WData.int) -> IntsAre vs ns := by
 intro ns
 induction ns with
 | nil =>
   intro vs w
   rw [List.map_nil] at w
   cases w
   exact .nil
 | cons n ns ih =>
   intro vs w
   rw [List.map_cons] at w
   cases w with
   | cons a b =>
     cases a
     exact .cons _ _ (ih _ b)
theorem zvf {l : OpenLaw} {n : Nat} (hn : l.most = some n) {P : Params} {h : Heap} {args : List WData} {vals : List Value}
   (hpre : l.row.toRowW.claim.pre args = true) (hwl : WellAll P h vals args) :
   ∃ a vs ns, vals = [Value.ref a] /\ args = [WData.list (ns.map WData.int)] /\ h.get? a = some { cls := .type "list", data := .seq vs.toArray } /\ IntsAre vs ns /\ ns.length <= n := by
 have hsh : WShape.hasAll [] args [.list .int] = true := (pre_splitW hpre).1
 have hc : l.pre.holds [] { args := args } = true := (pre_splitW hpre).2
 obtain ⟨d, r, rfl, h1, h2⟩ := hasAllW_cons hsh
 obtain rfl := hasAllW_nil h2
 obtain ⟨xs, rfl, h3⟩ := hasW_list h1
 obtain ⟨ns, rfl⟩ := items_int h3
 have hlen : ns.length <= n := by
   unfold OpenLaw.pre at hc
   have h4 : (WTm.not (.lt (.lit (.int (n : Int))) (.len (.arg 0)))).holds [] { args := [.list (ns.map .int)] } = true := by
     have h4 := (holds_andW hc).1
     rw [hn] at h4
     exact h4
   have h5 := condW_of h4 (w_not (w_lt w_lit (w_len_list (w_arg rfl))))
   rw [List.length_map] at h5
   refine Nat.le_of_not_lt λ q => ?_
   have q' : (n : Int) < ((ns.length : Nat) : Int) := by omega
   first
     | (rw [decide_eq_true q'] at h5; exact absurd h5 (by decide))
     | (simp at h5; omega)
 cases hwl with
 | cons w1 w2 =>
   cases w2
   cases w1 with
   | list ho hall => exact ⟨_, _, ns, rfl, rfl, ho, zlh ns _ hall, hlen⟩
theorem zvg (l : OpenLaw) (args : List WData) : l.row.toRowW.claim.post args (.bool true) args = true :=
 postW_of (r := l.row.toRowW) (X := (true == true))
   (show WShape.has [] (.bool true) .bool = true by first | rfl | decide | simp [WShape.has, WShape.arms, WShape.armsAll])
   (show (WTm.eq .res (.lit (.bool true))).value [] { args := args, res := some (.bool true), after := args } = some (.bool (true == true)) from w_eq_bool (w_res rfl) w_lit) rfl
theorem attach_call {l : OpenLaw} {n : Nat} {q : Program} {loose : List Str} {XP : (Str -> Option Value) -> Heap -> Prop} {YP : World -> Heap -> Prop} {d : DefRec}
   (hn : l.most = some n) (hdf : d.params.defaults = [])
   (call : ∀ (w : World) (s₀ s₁ : Shared) (mg mb : Str -> Option Value) (fa : Addr) (o : Obj) (pm cd doc : Value) (a : Addr) (vs : List Value) (ns : List Int),
     Ground q loose [] XP w s₀ mg mb s₁.heap -> YP w s₁.heap ->
     s₁.heap.get? fa = some o -> o.data = .func (docDef d.name d.params d.body d.scope pm cd doc) -> s₁.heap.CodeRec cd d.name -> mg d.name = some (.ref fa) ->
     s₁.heap.get? a = some { cls := .type "list", data := .seq vs.toArray } -> IntsAre vs ns -> ns.length <= n -> s₁.gens = #[] ->
     codeAny (model l.prog w) callerA (.call (.ref fa) ⟨[.ref a], []⟩) (λ r s' => r = .ok (.ret (.bool true)) /\ OldK s₁.heap s'.heap /\ s'.os = s₁.os /\ AllBare s'.gens) s₁) :
   WalkO q loose XP YP l.row.toRowW d [] (λ f vs => PySem.call f vs) := by
 intro w s₀ s₁ mg mb G Y fa o pm cd doc dV kV ho hd hcd hD hmg hg args vals as hpre hlay hrd hwl hlo
 obtain rfl : dV = .none := Dflts.none hD hdf
 obtain rfl : kV = .none := Dflts.noKw hD
 obtain ⟨a, vs, ns, rfl, rfl, hobj, hints, hlen⟩ := zvf hn hpre hwl
 refine enter_call (codeAny_mono (call w s₀ s₁ mg mb fa o pm cd doc a vs ns G Y ho (fd_plain hd) hcd hmg hobj hints hlen hg) λ r s' hq => ?_)
 obtain ⟨rfl, h2, h3, h4⟩ := hq
 exact ⟨.inl ⟨.bool true, .bool true, [], rfl, λ _ => rfl, .bool true, zvg l _, λ _ => ⟨List.Pairwise.nil, λ _ hm => (nomatch hm)⟩⟩, h2, h3, h4⟩
end Att
namespace L2
open PySem PySem.Spec PyProof.Rows
theorem zoy : ∀ {vs : List Value} {ns : List Int}, IntsAre vs ns -> zc6 (ns.map V.int) vs
 | _, _, .nil => .nil
 | _, _, .cons n t h => .cons ⟨t, rfl⟩ (zoy h)
def z2i (H : Hp) : Prop := ∀ b, H b = none \/ ∃ o xs, H b = some (.frz o (.lst xs))
theorem zxn {P : Program} {w : World} {K : W.Frag} {mg mb : Str -> Option Value} {CX : CXT} {k : Nat} {fa a : Addr} {fd : FuncData} {x : Str} {sp : Sp} {s₁ : Shared} {vs : List Value} {ns : List Int}
   (KX : K.In s₁.heap) (hns : s₁.heap.Ns mainGlobals mg) (hb : s₁.heap.Ns builtinsNs mb) (hbb : ∀ x : Str, x ≠ "__name__" -> mb x = bootBuiltins x) (hlim : s₁.heap.NoLimit) (hg : s₁.gens = #[])
   (ha : s₁.heap.get? a = some { cls := .type "list", data := .seq vs.toArray }) (hi : IntsAre vs ns) (hl : ns.length <= sizeLine) (hr : Room k callerA)
   (F : ∀ base : Heap, K.In base -> base.Ns mainGlobals mg -> FnOk P w K mg base CX k fa fd [x] sp) (hbind : ∀ (s : Shared) (u : Value), BindsTo s fd ⟨[u], []⟩ [(x, u)])
   (hsp : ∀ H : Hp, z2i H -> SqL K H a (ns.map V.int) -> sp [.ref a] H (λ v _ => v = .bl true) λ _ _ _ => False)
   (hCX : ∀ H e s', CX [] H s₁ (λ _ _ _ => False) e s' -> False) :
   codeAny (model P w) callerA (.call (.ref fa) ⟨[.ref a], []⟩) (λ r s' => r = .ok (.ret (.bool true)) /\ OldK s₁.heap s'.heap /\ s'.os = s₁.os /\ AllBare s'.gens) s₁ := by
 have rv := zoy hi
 have lenV := hi.length
 -- from an abstract heap in which nothing but the script may be tracked
 have core : ∀ H : Hp, z2i H -> SqL K H a (ns.map V.int) -> HOk P w H s₁.heap -> (∀ b, H b ≠ none -> b = a) -> (H a ≠ none -> K.lookup a = none) ->
     codeAny (model P w) callerA (.call (.ref fa) ⟨[.ref a], []⟩) (λ r s' => r = .ok (.ret (.bool true)) /\ OldK s₁.heap s'.heap /\ s'.os = s₁.os /\ AllBare s'.gens) s₁ := by
   intro H hO hS hok hA hK
   have base_of : ∀ {b : Addr} {o : Obj}, s₁.heap.get? b = some o -> H b = none -> (zwr s₁.heap H).get? b = some o := λ e n => zwo e n
   have noA : ∀ {b : Addr} {o : Obj} {es : Array DictEntry} {ep : Nat}, s₁.heap.get? b = some o -> o.data = .dict es ep -> H b = none := λ {b o es ep} e d => by
     cases q : H b with
     | none => rfl
     | some u =>
       have e' : b = a := hA b (by rw [q]; simp)
       subst e'
       rw [ha] at e; cases e
       have d' : Data.seq vs.toArray _ = Data.dict es ep := d
       cases d'
   have nsK : ∀ {b : Addr} {m : Str -> Option Value}, s₁.heap.Ns b m -> (zwr s₁.heap H).Ns b m := λ {b m} ⟨o, es, ep, e, d, r⟩ => ⟨o, es, ep, base_of e (noA e d), d, r⟩
   have hKb : K.In (zwr s₁.heap H) := λ b o e => base_of (KX b o e) (by
     cases q : H b with
     | none => rfl
     | some u =>
       have e' : b = a := hA b (by rw [q]; simp)
       subst e'
       rw [hK (by rw [q]; simp)] at e; cases e)
   have hM : Mod K mg (zwr s₁.heap H) := ⟨hKb, nsK hns, ⟨mb, nsK hb, hbb⟩, let ⟨mc, h1, h2⟩ := hlim; ⟨mc, nsK h1, h2⟩⟩
   have e0 : Env0 P w K mg (zwr s₁.heap H) callerA [] s₁ H := ⟨rfl, hM, λ b o e => zz0 e, Nat.le_of_eq (zuw _ _), trivial, λ b hb => absurd (show b ∈ ([] : List Addr) from hb) (by simp), hok, .of_eq hg⟩
   refine codeAny_mono ((F _ hKb (nsK hns)).run callerA [] s₁ H ⟨[.ref a], []⟩ [.ref a] [.ref a] _ _ hr e0 (hbind s₁ (.ref a)) (.cons rfl .nil) (hsp H hO hS)) λ r s' h => ?_
   cases r with
   | error e => exact (hCX H e s' h).elim
   | ok fl =>
     cases fl with
     | next => exact False.elim h
     | brk => exact False.elim h
     | cont => exact False.elim h
     | ret u =>
       obtain ⟨v, H', os, bare, un, hok', r', q⟩ := h
       have q' : v = .bl true := q
       subst q'
       obtain rfl : u = Value.bool true := r'
       refine ⟨rfl, OldK.of_keep λ b o e => ?_, os, bare⟩
       cases q : H b with
       | none => exact un.keep b o e q (by intro z; exact absurd (show b ∈ ([] : List Addr) from z) (by simp)) (by simp)
       | some u =>
         rcases hO b with z | ⟨ob, xs, z⟩
         . rw [q] at z; cases z
         . have z2 := un.frzs b ob _ z
           obtain ⟨e1, _⟩ := hok b _ z
           obtain ⟨e2, _⟩ := hok' b _ z2
           rw [e] at e1; cases e1
           exact e2
 cases hk : K.lookup a with
 | some o =>
   -- the script is one of the module's own objects
   have e := KX a o hk
   rw [ha] at e
   cases e
   refine core (λ _ => none) (λ _ => .inl rfl) (.inr ⟨_, vs.toArray, _, hk, rfl, rfl, rfl, by rw [List.size_toArray, lenV]; exact hl, by simpa using rv⟩) (λ b u z => by have z' : (none : Option HO) = some u := z; cases z') (λ b z => absurd rfl z) λ z => absurd rfl z
 | none =>
   refine core (λ b => if b = a then some (.frz { cls := .type "list", data := .seq vs.toArray } (.lst (ns.map V.int))) else none) (λ b => ?_) (.inl (.inr ⟨{ cls := .type "list", data := .seq vs.toArray }, if_pos rfl⟩)) (λ b u z => ?_) (λ b z => ?_) λ _ => hk
   . by_cases hb : b = a
     . exact .inr ⟨_, _, if_pos hb⟩
     . exact .inl (if_neg hb)
   . by_cases hb : b = a
     . have z' := (if_pos hb).symm.trans z
       cases z'
       subst hb
       exact ⟨ha, by rw [List.length_map]; exact hl, vs, _, rv, ha⟩
     . have z' := (if_neg hb).symm.trans z
       cases z'
   . by_cases hb : b = a
     . exact hb
     . exact absurd (if_neg hb) z
end L2
namespace L2
open PySem PySem.Spec PyProof.Rows
abbrev KOf {K : W.Frag} {h : Heap} (_ : K.In h) : W.Frag := K
theorem zz8 {l : PySem.W.OpenLaw} {n k : Nat} {q : Program} {loose : List Str} {XP : (Str -> Option Value) -> Heap -> Prop} {YP : World -> Heap -> Prop} {d : DefRec} {K : Params -> W.Frag} {CX : World -> CXT} {sp : World -> Sp} {x : Str}
   (hn : l.most = some n) (hn2 : n <= sizeLine) (hdf : d.params.defaults = []) (hr : Room k callerA)
   (hY : ∀ (w : World) (h : Heap), YP w h -> (K w.params).In h)
   (F : ∀ (w : World) (mg : Str -> Option Value) (fa : Addr) (h : Heap), (K w.params).In h -> h.Ns mainGlobals mg -> mg d.name = some (.ref fa) ->
     ∃ fd : FuncData, (∀ (s : Shared) (u : Value), BindsTo s fd ⟨[u], []⟩ [(x, u)]) /\
       ∀ base : Heap, (K w.params).In base -> base.Ns mainGlobals mg -> FnOk l.prog w (K w.params) mg base (CX w) k fa fd [x] (sp w))
   (hsp : ∀ (w : World) (H : Hp) (a : Addr) (ns : List Int), ns.length <= n -> z2i H -> SqL (K w.params) H a (ns.map V.int) -> sp w [.ref a] H (λ v _ => v = .bl true) λ _ _ _ => False)
   (hCX : ∀ (w : World) (H : Hp) (s : Shared) (e : Value) (s' : Shared), CX w [] H s (λ _ _ _ => False) e s' -> False) :
   PySem.W.WalkO q loose XP YP l.row.toRowW d [] (λ f vs => PySem.call f vs) := by
 refine Att.attach_call hn hdf λ w s₀ s₁ mg mb fa o pm cd doc a vs ns G Y ho hd hcd hmg hobj hints hlen hg => ?_
 have KX := hY w _ Y
 obtain ⟨fd, hb, hF⟩ := F w mg fa _ KX G.T.g hmg
 exact zxn KX G.T.g G.T.b G.T.builtins G.T.nolimit hg hobj hints (Nat.le_trans hlen hn2) hr hF hb (λ H hO hS => hsp w H a ns hlen hO hS) λ H e s' => hCX w H s₁ e s'
theorem walk_ofK {l : PySem.W.OpenLaw} {n k : Nat} {q : Program} {loose : List Str} {XP : (Str -> Option Value) -> Heap -> Prop} {YP : World -> Heap -> Prop} {d : DefRec} {K : Params -> W.Frag} {CX : CXT} {sp : W.Frag -> Sp} {x : Str}
   (hn : l.most = some n) (hn2 : n <= sizeLine) (hdf : d.params.defaults = []) (hr : Room k callerA)
   (hY : ∀ (w : World) (h : Heap), YP w h -> (K w.params).In h)
   (F : ∀ (w : World) (mg : Str -> Option Value) (fa : Addr) (h : Heap), (K w.params).In h -> h.Ns mainGlobals mg -> mg d.name = some (.ref fa) ->
     ∃ fd : FuncData, (∀ (s : Shared) (u : Value), BindsTo s fd ⟨[u], []⟩ [(x, u)]) /\
       ∀ base : Heap, (K w.params).In base -> base.Ns mainGlobals mg -> FnOk l.prog w (K w.params) mg base CX k fa fd [x] (sp (K w.params)))
   (hsp : ∀ (K : W.Frag) (H : Hp) (a : Addr) (ns : List Int), ns.length <= n -> z2i H -> SqL K H a (ns.map V.int) -> sp K [.ref a] H (λ v _ => v = .bl true) λ _ _ _ => False)
   (hCX : ∀ (H : Hp) (s : Shared) (e : Value) (s' : Shared), CX [] H s (λ _ _ _ => False) e s' -> False) :
   PySem.W.WalkO q loose XP YP l.row.toRowW d [] (λ f vs => PySem.call f vs) :=
 zz8 (K := K) (CX := λ _ => CX) (sp := λ w => sp (K w.params)) hn hn2 hdf hr hY F (λ w H a ns h1 h2 h3 => hsp (K w.params) H a ns h1 h2 h3) λ _ H s e s' => hCX H s e s'
end L2
namespace L2
open PySem PySem.Spec PyProof.Rows
def zcb (s : Stmt) (j : Nat) : Stmt := match s with
 | .ClassDef _ _ _ body _ _ _ _ _ _ _ => body.getD j (.Pass ⟨0, 0, 0, 0⟩)
 | _ => .Pass ⟨0, 0, 0, 0⟩
def zaj (s : Stmt) : Arguments := match s with
 | .FunctionDef _ a _ _ _ _ _ _ _ _ => a
 | _ => { posonlyargs := [], args := [], vararg := none, kwonlyargs := [], kw_defaults := [], kwarg := none, defaults := [] }
def zai (s : Stmt) : List Stmt := match s with
 | .FunctionDef _ _ b _ _ _ _ _ _ _ => b
 | _ => []
def zac (s : Stmt) : Scope := match s with
 | .FunctionDef _ _ _ _ _ _ sc _ _ _ => sc
 | _ => { kind := .function, names := [], isGenerator := false, isCoroutine := false }
abbrev CX0 : CXT := λ _ _ _ _ _ _ => False
abbrev E0 : XK := λ _ _ _ => False
theorem zcz {X : Cx} : zkt CX0 X E0 := λ _ _ _ _ _ _ _ h => h.elim
structure Fun (K : W.Frag) (x qual : Str) (st : Stmt) (f : Addr) (fd : FuncData) : Prop where
 ex : ∃ (oc : Value) (od : Option Addr) (kV doc pm : Value) (an : Option Addr) (cdv ct : Value) (osl : Array (Option Value)),
   fd = PySem.W.fnOf x qual (zaj st) (zai st) (zac st) .none kV doc pm an cdv ct /\ K.lookup f = some ⟨oc, od, .func fd, osl⟩ /\ PySem.W.codeIn K cdv qual = true
 kp : PySem.W.keepIn K (.ref f) = true
section
variable {P : Program} {w : World} {K : W.Frag} {mg : Str -> Option Value} {base : Heap}
theorem Fun.ok {x qual : Str} {st : Stmt} {f : Addr} {fd : FuncData} {N ps : List Str} {k : Nat} {sp : Sp} (F : Fun K x qual st f fd) (S : FnScope N ps (zac st)) (len : ∀ vs H Q E, sp vs H Q E -> vs.length = ps.length)
   (hbody : ∀ (cdv : Value) (A : Around) (outer : List Env) (s : Shared) (H : Hp) (vs : List V) (Q : VK) (E : XK), Room k (A.deeper (envOfC qual (zac st) s.heap.objs.size f cdv)) -> sp vs H Q E ->
     ∃ t, PSs (z0i CX0 P w K mg base N qual (zac st) f cdv A outer s H E).nox (zai st) t /\ t { nx := λ _ H' => Q .non H', rt := Q } (zph N vs) H) : FnOk P w K mg base CX0 (k + 1) f fd ps sp := by
 obtain ⟨oc, od, kV, doc, pm, an, cdv, ct, osl, rfl, lk, hcd⟩ := F.ex
 refine z2k lk hcd S len λ A outer s H vs Q E hr hsp => ?_
 obtain ⟨t, h, q⟩ := hbody cdv A outer s H vs Q E hr hsp
 exact ⟨t, h.nox, q⟩
theorem Fun.binds {x qual : Str} {st : Stmt} {f : Addr} {fd : FuncData} {ps : List Str} (F : Fun K x qual st f fd)
   (h : ∀ (kV doc pm : Value) (an : Option Addr) (cdv ct : Value) (us : List Value), us.length = ps.length -> bindArgs (PySem.W.fnOf x qual (zaj st) (zai st) (zac st) .none kV doc pm an cdv ct) ⟨us, []⟩ = pure (ps.zip us)) : zjt K fd ps [] := by
 obtain ⟨oc, od, kV, doc, pm, an, cdv, ct, osl, rfl, lk, hcd⟩ := F.ex
 exact .all (h kV doc pm an cdv ct)
theorem zko {x qual : Str} {st : Stmt} {f : Addr} {oc : Value} {od an : Option Addr} {osl : Array (Option Value)} {kV doc pm cdv ct : Value} (l : K.lookup f = some ⟨oc, od, .func (PySem.W.fnOf x qual (zaj st) (zai st) (zac st) .none kV doc pm an cdv ct), osl⟩)
   (c : PySem.W.codeIn K cdv qual = true) (k : PySem.W.keepIn K (.ref f) = true) : Fun K x qual st f (PySem.W.fnOf x qual (zaj st) (zai st) (zac st) .none kV doc pm an cdv ct) := ⟨⟨oc, od, kV, doc, pm, an, cdv, ct, osl, rfl, l, c⟩, k⟩
end
theorem zug {n : Nat} (h : n <= 1000) : n < sizeLine := Nat.lt_of_le_of_lt h (by decide)
section
variable {X : Cx}
theorem pv (i : Nat) {x : Str} {pos : Pos} (hN : X.N[i]? = some x := by rfl) (hv : Vis X.env.scope x := by first | exact Or.inl rfl | exact Or.inr (Or.inl rfl) | exact Or.inr (Or.inr rfl)) (hd : (x == ("__debug__" : Str)) = false := by decide)
   (hcd : (x == ("__classdict__" : Str)) = false := by decide) : PE X (.Name x pos) (tVar i) := z02 hN hv hd hcd
end
theorem z2g {A B : Prop} (h : B) : if false = true then A else B := by
 rw [if_neg Bool.false_ne_true]
 exact h
theorem z01 {A B : Prop} (h : A) : if true = true then A else B := by
 rw [if_pos rfl]
 exact h
theorem zno {c A B : Prop} [Decidable c] (h1 : c -> A) (h2 : ¬ c -> B) : if c then A else B := by
 by_cases h : c
 . rw [if_pos h]
   exact h1 h
 . rw [if_neg h]
   exact h2 h
def zal (H H' : Hp) : Prop := ∀ b o, H b = some o -> H' b = some o
theorem zal.refl (H : Hp) : zal H H := λ _ _ h => h
theorem zal.trans {H H1 H2 : Hp} (a : zal H H1) (b : zal H1 H2) : zal H H2 := λ c o h => b c o (a c o h)
theorem zal.free {H H' : Hp} (e : zal H H') {l : Addr} (h : H' l = Option.none) : H l = Option.none := by
 cases q : H l with
 | none => rfl
 | some o =>
   rw [e l o q] at h
   cases h
theorem zal.seq {K : W.Frag} {H H' : Hp} {a : Addr} {xs : List V} (e : zal H H') (h : SqL K H a xs) : SqL K H' a xs := by
 rcases h with (h | ⟨o, h⟩) | h
 . exact .inl (.inl (e _ _ h))
 . exact .inl (.inr ⟨o, e _ _ h⟩)
 . exact .inr h
end L2
set_option maxHeartbeats 4000000
namespace L2
open PySem PySem.Spec PyProof.Rows
def zi0 : List (Str × NameKind) -> List (Str × Addr) -> List (Str × Addr) -> List (Str × Addr)
 | [], _, acc => acc
 | (n, k) :: r, cells, acc => if k == .free then zi0 r cells ((n, (cells.lookup n).getD 0) :: acc) else zi0 r cells acc
theorem zpv {env : Env} : ∀ (names : List (Str × NameKind)) (acc : List (Str × Addr)), (∀ y ∈ names, y.2 = .free -> ∃ c, env.cells.lookup y.1 = some c) ->
   (forIn names acc λ x r => (match x with | (name, kind) => if (kind == NameKind.free) = true then do let a <- cellOf env name; pure (ForInStep.yield ((name, a) :: r)) else pure (ForInStep.yield r) : Sem (ForInStep (List (Str × Addr))))) = (pure (zi0 names env.cells acc) : Sem (List (Str × Addr)))
 | [], acc, _ => rfl
 | (n, k) :: r, acc, h => by
   have ih := λ acc => zpv (env := env) r acc λ y hy => h y (List.mem_cons_of_mem _ hy)
   rw [List.forIn_cons]
   unfold zi0
   cases hk : (k == NameKind.free) with
   | true =>
     obtain ⟨c, hc⟩ := h (n, k) List.mem_cons_self (by simpa using hk)
     have hc : env.cells.lookup n = some c := hc
     have e : cellOf env n = pure c := by unfold cellOf; rw [hc]
     simp only [hk, if_true, e, pure_bind, hc, Option.getD_some]
     exact ih _
   | false =>
     simp only [hk, Bool.false_eq_true, if_false, pure_bind]
     exact ih _
theorem zxt {scope : Scope} {env : Env} (h : ∀ y ∈ scope.names, y.2 = .free -> ∃ c, env.cells.lookup y.1 = some c) : closureFor scope env = pure (zi0 scope.names env.cells []) := by
 have e := zpv (env := env) scope.names [] h
 unfold closureFor
 first
   | (rw [e]; rfl)
   | (simp only [e]; rfl)
   | exact (congrArg (λ t => t >>= λ r => pure r) e)
theorem zlw {cells : List (Str × Addr)} : ∀ (names : List (Str × NameKind)) (acc : List (Str × Addr)), (∀ y ∈ names, y.2 = .free -> ∃ c, cells.lookup y.1 = some c) -> (∀ x c, acc.lookup x = some c -> cells.lookup x = some c) ->
   ∀ x c, (zi0 names cells acc).lookup x = some c -> cells.lookup x = some c
 | [], acc, _, h2 => h2
 | (n, k) :: r, acc, h, h2 => by
   unfold zi0
   cases hk : (k == NameKind.free) with
   | true =>
     rw [if_pos rfl]
     refine zlw r _ (λ y hy => h y (List.mem_cons_of_mem _ hy)) λ x c e => ?_
     obtain ⟨c', hc⟩ := h (n, k) List.mem_cons_self (by simpa using hk)
     have hc : cells.lookup n = some c' := hc
     rw [List.lookup_cons] at e
     cases hx : x == n with
     | true =>
       have hx' : x = n := by simpa using hx
       rw [hx] at e
       rw [hx', hc]
       simpa [hc] using e
     | false =>
       rw [hx] at e
       exact h2 x c e
   | false =>
     rw [if_neg (by simp)]
     exact zlw r _ (λ y hy => h y (List.mem_cons_of_mem _ hy)) h2
theorem zl5 {cells : List (Str × Addr)} {x : Str} : ∀ (names : List (Str × NameKind)) (acc : List (Str × Addr)), (acc.lookup x).isSome = true -> ((zi0 names cells acc).lookup x).isSome = true
 | [], _, h => h
 | (n, k) :: r, acc, h => by
   unfold zi0
   split
   . refine zl5 r _ ?_
     rw [List.lookup_cons]
     cases x == n <;> simp [h]
   . exact zl5 r _ h
theorem zli {cells : List (Str × Addr)} {x : Str} : ∀ (names : List (Str × NameKind)) (acc : List (Str × Addr)), (x, NameKind.free) ∈ names -> ((zi0 names cells acc).lookup x).isSome = true
 | (n, k) :: r, acc, h => by
   unfold zi0
   rcases List.mem_cons.mp h with e | e
   . cases e
     rw [if_pos (by rfl)]
     exact zl5 r _ (by rw [List.lookup_cons]; simp)
   . split
     . exact zli r _ e
     . exact zli r _ e
def zej (X : Cx) (N' : List Str) (scope : Scope) (C : Addr) (s : Shared) (H : Hp) (fp : List Addr) : Cx :=
 { X with N := N', s₀ := s, H₀ := H, env := compEnvC scope (zi0 scope.names X.env.cells []) C X.env, outer := X.stack, stack := X.stack, ex := fp, fn := λ _ => false, pn := [], xe := λ _ _ => False }
def cap (js : List (Option Nat)) (σ : St) : St := js.map λ o => o.bind λ j => (σ[j]?).join
def zol (scope osc : Scope) (N' N : List Str) (js : List (Option Nat)) : Bool :=
 (scope.kind == .function) && (scope.names.all λ y => y.2 != .cell && (if y.2 == .local then scope.names.lookup y.1 == some .local else true) &&
   (if y.2 == .free then osc.names.lookup y.1 == some .cell || osc.names.lookup y.1 == some .free else true)) &&
 js.length == N'.length && ((js.zip N').all λ q => match q.1 with
   | none => true
   | some j => N[j]? == some q.2 && (osc.names.lookup q.2 == some .cell || osc.names.lookup q.2 == some .free) && scope.names.lookup q.2 == some .free)
structure CompOk (scope osc : Scope) (N' N : List Str) (js : List (Option Nat)) : Prop where
 kind : scope.kind = .function
 nocell : ∀ y ∈ scope.names, y.2 ≠ .cell
 names : ∀ y ∈ scope.names, y.2 = .local -> scope.names.lookup y.1 = some .local
 free : ∀ y ∈ scope.names, y.2 = .free -> osc.names.lookup y.1 = some .cell \/ osc.names.lookup y.1 = some .free
 len : js.length = N'.length
 slots : ∀ (i j : Nat) (x : Str), js[i]? = some (some j) -> N'[i]? = some x -> N[j]? = some x /\ (osc.names.lookup x = some .cell \/ osc.names.lookup x = some .free) /\ scope.names.lookup x = some .free
theorem zue {scope osc : Scope} {N' N : List Str} {js : List (Option Nat)} (h : zol scope osc N' N js = true) : CompOk scope osc N' N js := by
 unfold zol at h
 rw [Bool.and_eq_true, Bool.and_eq_true, Bool.and_eq_true, List.all_eq_true, List.all_eq_true] at h
 obtain ⟨⟨⟨h1, h2⟩, h3⟩, h4⟩ := h
 refine ⟨by cases hk : scope.kind <;> first | rfl | (rw [hk] at h1; cases h1), λ y hy e => ?_, λ y hy e => ?_, λ y hy e => ?_, by simpa using h3, λ i j x e1 e2 => ?_⟩
 . have q := h2 y hy
   rw [e] at q
   simp at q
 . have q := h2 y hy
   rw [Bool.and_eq_true, Bool.and_eq_true] at q
   have q2 := q.1.2
   rw [e] at q2
   simpa using q2
 . have q := h2 y hy
   rw [Bool.and_eq_true, Bool.and_eq_true] at q
   have q2 := q.2
   rw [e] at q2
   simpa using q2
 . have hm : (some j, x) ∈ js.zip N' := by
     refine List.mem_of_getElem? (i := i) ?_
     rw [List.getElem?_zip_eq_some]
     exact ⟨e1, e2⟩
   have q := h4 _ hm
   simp only [Bool.and_eq_true, Bool.or_eq_true, beq_iff_eq] at q
   exact ⟨q.1.1, q.1.2, q.2⟩
theorem zir {env : Env} : ∀ (names : List (Str × NameKind)) (x : Str), names.lookup x = some .free ->
   ((names.map λ (n, k) => if (k == NameKind.free && env.scope.kind == .function && env.kindOf n == some .cell) then (n, NameKind.cell) else (n, k)).lookup x = some .cell \/
     (names.map λ (n, k) => if (k == NameKind.free && env.scope.kind == .function && env.kindOf n == some .cell) then (n, NameKind.cell) else (n, k)).lookup x = some .free)
 | [], x, h => by simp at h
 | (n, k) :: r, x, h => by
   have ih := zir (env := env) r x
   rw [List.map_cons]
   rw [List.lookup_cons] at h
   by_cases hb : (k == NameKind.free && env.scope.kind == .function && env.kindOf n == some .cell) = true
   . have e1 : (if (k == NameKind.free && env.scope.kind == .function && env.kindOf n == some .cell) = true then (n, NameKind.cell) else (n, k)) = (n, NameKind.cell) := if_pos hb
     simp only [e1, List.lookup_cons]
     cases hx : x == n with
     | true => exact .inl rfl
     | false =>
       rw [hx] at h
       exact ih h
   . have e1 : (if (k == NameKind.free && env.scope.kind == .function && env.kindOf n == some .cell) = true then (n, NameKind.cell) else (n, k)) = (n, k) := if_neg hb
     simp only [e1, List.lookup_cons]
     cases hx : x == n with
     | true =>
       rw [hx] at h
       exact .inr h
     | false =>
       rw [hx] at h
       exact ih h
theorem zkn {scope : Scope} {env : Env} : ∀ (names : List (Str × NameKind)) (x : Str), (∀ y ∈ names, y.2 ≠ .cell) ->
   ((names.map λ (n, k) => if (k == NameKind.free && env.scope.kind == .function && env.kindOf n == some .cell) then (n, NameKind.cell) else (n, k)).lookup x = some .cell \/
     (names.map λ (n, k) => if (k == NameKind.free && env.scope.kind == .function && env.kindOf n == some .cell) then (n, NameKind.cell) else (n, k)).lookup x = some .free) -> (x, NameKind.free) ∈ names
 | [], x, _, h => by simp at h
 | (n, k) :: r, x, hc, h => by
   have ih := zkn (scope := scope) (env := env) r x λ y hy => hc y (List.mem_cons_of_mem _ hy)
   rw [List.map_cons] at h
   by_cases hb : (k == NameKind.free && env.scope.kind == .function && env.kindOf n == some .cell) = true
   . have hkf : k = .free := by
       rw [Bool.and_eq_true, Bool.and_eq_true] at hb
       simpa using hb.1.1
     have e1 : (if (k == NameKind.free && env.scope.kind == .function && env.kindOf n == some .cell) = true then (n, NameKind.cell) else (n, k)) = (n, NameKind.cell) := if_pos hb
     simp only [e1, List.lookup_cons] at h
     cases hx : x == n with
     | true =>
       have hx' : x = n := by simpa using hx
       rw [hx', hkf]
       exact List.mem_cons_self
     | false =>
       rw [hx] at h
       exact List.mem_cons_of_mem _ (ih h)
   . have e1 : (if (k == NameKind.free && env.scope.kind == .function && env.kindOf n == some .cell) = true then (n, NameKind.cell) else (n, k)) = (n, k) := if_neg hb
     simp only [e1, List.lookup_cons] at h
     cases hx : x == n with
     | true =>
       have hx' : x = n := by simpa using hx
       rw [hx] at h
       rcases h with h | h
       . exact absurd (Option.some.inj h) (hc (n, k) List.mem_cons_self)
       . have hkf : k = .free := Option.some.inj h
         rw [hx', hkf]
         exact List.mem_cons_self
     | false =>
       rw [hx] at h
       exact List.mem_cons_of_mem _ (ih h)
theorem Un.sameBut {fs ex : List Addr} {H H' : Hp} {h h1 h2 : Heap} {C : Addr} (u : Un fs ex H H' h h1) (hs : Heap.SameBut C h1 h2) (hC : h.objs.size <= C) : Un fs ex H H' h h2 := by
 have ne : ∀ b o, h.get? b = some o -> b ≠ C := λ b o e => Nat.ne_of_lt (Nat.lt_of_lt_of_le (Heap.lt_size e) hC)
 refine ⟨λ b o e n hb hx => (hs.2 b (ne b o e)).trans (u.keep b o e n hb hx), λ b o e n hb hx => ?_, u.free, λ b o e hx => ?_, u.tups, u.frzs, u.tbls⟩
 . obtain ⟨sl, q⟩ := u.slot b o e n hb hx
   exact ⟨sl, (hs.2 b (ne b o e)).trans q⟩
 . obtain ⟨o', q⟩ := u.there b o e hx
   exact ⟨o', (hs.2 b (ne b o e)).trans q⟩
theorem z0h {α : Type} {t : Sem α} {Q Q' : α -> Shared -> Prop} {M : Model} {A : Around} {E : Value -> Shared -> Prop} {s : Shared} (h : wpAny M A t Q (λ _ _ => False) s) (hQ : ∀ a s, Q a s -> Q' a s) : wpAny M A t Q' E s := wpAny_mono h hQ λ _ _ f => f.elim
theorem zuq {prog : Program} {w : World} {A : Around} {R : Result -> Shared -> Prop} {s : Shared} {elt target iter : Expr} {ifs : List Expr} {scope : Scope} {pos : Pos} {it acc : Value} {env : Env} (I : Nat -> Shared -> Prop)
   (turn : ∀ n s, I n s -> wpAny (model prog w) A (pyNext it) (λ r s₁ => match r with
     | none => R (.ok .next) s₁
     | some v => wpAny (model prog w) A (letOwnedTupleGo target it v) (λ _ s₂ => wpAny (model prog w) A (assign target env v) (λ _ s₃ =>
         wpAny (model prog w) A (forIn ifs true λ c r => if r = true then do let ok <- isTrue c env (eval c env); pure (ForInStep.yield ok) else pure (ForInStep.yield r)) (λ ok s₄ =>
           if ok = true then wpAny (model prog w) A (eval elt env) (λ x s₅ =>
             wpAny (model prog w) A (call (.builtin "list.append") [acc, x]) (λ _ s₆ => ∃ m, m < n /\ I m s₆) (λ _ _ => False) s₅) (λ _ _ => False) s₄
           else ∃ m, m < n /\ I m s₄) (λ _ _ => False) s₃) (λ _ _ => False) s₂) (λ _ _ => False) s₁) (λ _ _ => False) s)
   (n : Nat) (h : I n s) : codeAny (model prog w) A (.compLoop (.ListComp elt [⟨target, iter, ifs, 0⟩] scope pos) 0 it acc env) R s := by
 refine codeAny_loop rfl I (λ n s hI => ?_) n h
 show wpAny _ A ((compTurn (.ListComp elt [⟨target, iter, ifs, 0⟩] scope pos) 0 it acc env).onRaise (λ x => do noteFrame x env; theTreesLotGoes x)) _ _ s
 refine wpAny_noted ?_
 rw [compTurn_list]
 refine wpAny_bind (wpAny_standAt (wpAny_bind (z0h (turn n s hI) λ r s₁ h₁ => ?_)))
 cases r with
 | none => exact wpAny_pure h₁
 | some v =>
   refine wpAny_bind (z0h h₁ λ _ s₂ h₂ => wpAny_bind (z0h h₂ λ _ s₃ h₃ => wpAny_bind (z0h h₃ λ ok s₄ h₄ => ?_)))
   cases ok with
   | false => exact wpAny_pure ⟨rfl, h₄⟩
   | true =>
     exact wpAny_bind (wpAny_bind (z0h h₄ λ x s₅ h₅ => wpAny_bind (z0h h₅ λ _ s₆ h₆ => wpAny_pure (wpAny_pure ⟨rfl, h₆⟩))))
def PIf (X : Cx) (ifs : List Expr) (t : TT) : Prop :=
 ∀ (pins : List (Addr × Obj)) (s : Shared) (σ : St) (H : Hp) (Q : Bool -> Hp -> Prop), Inv X pins σ H s -> t σ H Q ->
   wpAny (model X.prog X.w) X.A (forIn ifs true λ c r => if r = true then do let ok <- isTrue c X.env (eval c X.env); pure (ForInStep.yield ok) else pure (ForInStep.yield r)) (TP X pins σ Q) X.xe s
def tYes : TT := λ _ H Q => Q true H
theorem zhm {X : Cx} : PIf X [] tYes := λ _ _ _ H _ I h => wpAny_tests_nil ⟨H, I, h⟩
theorem zu1 {X : Cx} {c : Expr} {t : TT} (h : PT X c t) : PIf X [c] t := λ pins s σ H Q I hq => wpAny_tests_one (h pins s σ H Q I hq)
def z2f (js : List (Option Nat)) (g : TG) : Prop := ∀ (x : V) (σ : St) (H : Hp) (Q : St -> Hp -> Prop), σ.length = js.length -> g x σ H Q -> g x σ H λ σ' H' => Q σ' H' /\ σ'.length = js.length /\ ∀ (i j : Nat), js[i]? = some (some j) -> σ'[i]? = σ[i]?
theorem zer {js : List (Option Nat)} {i : Nat} (h : js[i]? = some none := by rfl) : z2f js (ztw i) := λ x σ H Q hl q => ⟨q, by rw [List.length_set]; exact hl, λ k j e => by
 rw [List.getElem?_set_ne]
 intro z
 subst z
 rw [h] at e
 cases e⟩
def zqf (J : It) (g : TG) (tif : TT) (te : TE) (js : List (Option Nat)) (σ : St) (Q : VK) (p : Addr) (H1 : Hp) : Prop :=
 ∃ W : Nat -> Nat -> List V -> Hp -> Prop, (∃ m, W 0 m [] (upd H1 p (.lst []))) /\ ∀ i m acc H2, W i m acc H2 -> H2 p = some (.lst acc) /\
   ((J.stop i H2 /\ Q (.ref p) H2) \/ (J.go i H2 /\ acc.length < sizeLine /\ ∃ N : List V -> Hp -> Prop, (∀ acc' H', N acc' H' -> ∃ m', m' < m /\ W (i + 1) m' acc' H') /\
     ∀ x H', J.yld i H2 x H' -> g x (cap js σ) H' λ σ2 H3 => tif σ2 H3 λ c H4 =>
       if c = true then te σ2 H4 λ y H5 => H5 p = some (.lst acc) /\ N (acc ++ [y]) (upd H5 p (.lst (acc ++ [y]))) else N acc H4))
def zzg (wi : TI) (g : TG) (tif : TT) (te : TE) (js : List (Option Nat)) : TE := λ σ H Q => wi σ H λ J H1 => ∀ p, H1 p = none -> zqf J g tif te js σ Q p H1
theorem zpw {X : Cx} {use : Option (Value -> Sem Unit)} {Q' : Value -> Shared -> Prop} {Q : VK} {pins : List (Addr × Obj)} {s : Shared} {σ : St} {H : Hp} {elt target iter : Expr} {ifs : List Expr} {scope : Scope} {pos : Pos} {wi : TI} {g : TG} {tif : TT} {te : TE} {N' : List Str} {js : List (Option Nat)} (hok : zol scope X.env.scope N' X.N js = true) (hc : X.calm = true)
   (hi : PI X target iter wi) (ho : z2f js g) (hg : ∀ C s H fp, PG (zej X N' scope C s H fp) target g) (hif : ∀ C s H fp, PIf (zej X N' scope C s H fp) ifs tif) (he : ∀ C s H fp, PE (zej X N' scope C s H fp) elt te)
   (hs : ∀ x, foldedSetIterable iter X.env x = pure x) (I : Inv X pins σ H s) (h : zzg wi g tif te js σ H Q)
   (hfin : ∀ (s2 : Shared) (H2 : Hp) (fp : List Addr) (C : Addr), Inv X pins σ H2 s2 -> (∀ b ∈ fp, ztv X pins H2 b) -> s2.heap.objs.size <= C -> ∀ (σ' : St) (H' : Hp) (s' : Shared), Inv (zej X N' scope C s2 H2 fp) [] σ' H' s' -> Q (.ref s2.heap.objs.size) H' ->
     compPost (model X.prog X.w) X.A X.xe use Q' (.ref s2.heap.objs.size) C (.ok .next) s') :
   wpAny (model X.prog X.w) X.A (comprehension (.ListComp elt [⟨target, iter, ifs, 0⟩] scope pos) scope X.env (firstIterPos [⟨target, iter, ifs, 0⟩] pos) (newList []) false (eval iter X.env) use) Q' X.xe s := by
 have O := zue hok
 have hfr : ∀ y ∈ scope.names, y.2 = .free -> ∃ c, X.env.cells.lookup y.1 = some c := λ y hy e => I.ok.has y.1 (O.free y hy e)
 refine wpAny_comprehension_free (use := use) rfl hs (zxt hfr) O.kind O.names (thn (hi pins s σ H _ I h) λ v s1 h1 => thn h1 λ itv s2 h2 => ?_)
 obtain ⟨it, fp, tn, J, H2, e, I2, T, st2, f2, hq⟩ := h2
 subst e
 have hf0 : H2 s2.heap.objs.size = none := I2.hok.fresh (Nat.le_refl _)
 obtain ⟨W, ⟨m0, w0⟩, turn⟩ := hq _ hf0
 refine wpAny_newObj_type (wpAny_newFunctionEnv O.nocell (by intro y hy; simp at hy) (λ h₁ hns₁ hsb₁ => ?_) O.kind)
 dsimp only at hns₁ hsb₁ ⊢
 generalize hH2 : s2.heap.push { cls := .type "list", dict := none, data := .seq ([] : List Value).toArray } = B at hns₁ hsb₁ ⊢
 have hC : B.objs.size = s2.heap.objs.size + 1 := by rw [<- hH2, Heap.size_push]
 have hCle : s2.heap.objs.size <= B.objs.size := by rw [hC]; exact Nat.le_succ _
 have old : ∀ b o, s2.heap.get? b = some o -> h₁.get? b = some o := λ b o e => hsb₁.extBut b o (by rw [hC]; exact Nat.ne_of_lt (Nat.lt_succ_of_lt (Heap.lt_size e))) (Heap.get?_push_of_some _ (hH2 ▸ Heap.get?_push_of_some _ e))
 have hDC : s2.heap.objs.size ≠ B.objs.size := by rw [hC]; exact Nat.ne_of_lt (Nat.lt_succ_self _)
 have hacc : h₁.get? s2.heap.objs.size = some { cls := .type "list", dict := none, data := .seq ([] : List Value).toArray } := hsb₁.extBut _ _ hDC (Heap.get?_push_of_some _ (hH2 ▸ Heap.get?_push_size _ rfl))
 have fpO : ∀ b ∈ fp, b < s2.heap.objs.size := λ b hb => by
   obtain ⟨o, e, _⟩ := T.obj 0 _ st2 b hb
   exact Heap.lt_size e
 have sub : ∀ x c, (zi0 scope.names X.env.cells []).lookup x = some c -> X.env.cells.lookup x = some c := zlw scope.names [] hfr (λ x c e => by cases e)
 have hasC : ∀ x, ((relabel scope X.env).names.lookup x = some .cell \/ (relabel scope X.env).names.lookup x = some .free) -> ∃ c, (zi0 scope.names X.env.cells []).lookup x = some c := λ x hx =>
   Option.isSome_iff_exists.mp (zli scope.names [] (zkn (scope := scope) (env := X.env) scope.names x O.nocell hx))
 -- the block's context at its begin
 have IY : ∀ t, Inv (zej X N' scope B.objs.size s2 H2 fp) [] (cap js σ) (upd H2 s2.heap.objs.size (.lst [])) { s2 with heap := h₁, toks := t } := by
   intro t
   refine ⟨⟨I2.ok.mod, O.kind, I2.ok.glob, I2.ok.blt, hCle, λ x y c h1 h2 => I2.ok.inj x y c (sub x c h1) (sub y c h2), λ x hx => hasC x hx, λ x c h => (by cases h), I2.ok.hd, I2.ok.frames, .inl rfl, λ b hb => ⟨Nat.ne_of_lt (Nat.lt_of_lt_of_le (fpO b hb) hCle), λ x c e => (f2 b hb).2.2.2.2.1 x c (sub x c e)⟩,
     I2.bs, Nat.le_trans I2.ok.bsz I2.sz, λ b o e hb => ?_, λ b hb z => ?_, I2.stack, I2.stkFree⟩, rfl, I2.bare, Un.laid old (Nat.le_refl _) hf0, ⟨_, hns₁, λ i x v e1 e2 e3 => ?_⟩, λ x c e => ?_, ?_, λ x c e => ?_, λ p hp => absurd (show p ∈ ([] : List (Addr × Obj)) from hp) (by simp), ?_, ?_⟩
   . rcases (f2 b hb).2.2.2.1 with z | z
     . exact I2.ok.noex b o e z
     . exact absurd (Nat.lt_of_lt_of_le (Nat.lt_of_lt_of_le (Heap.lt_size e) I2.ok.bsz) z) (Nat.lt_irrefl _)
   . rcases List.mem_cons.mp (I2.stkSub b z) with q | q
     . exact (f2 b hb).2.1 q
     . exact (f2 b hb).2.2.1 q
   . have e1 : N'[i]? = some x := e1
     unfold cap at e2
     rw [List.getElem?_map] at e2
     cases q : js[i]? with
     | none => rw [q] at e2; cases e2
     | some o =>
       rw [q] at e2
       cases o with
       | none => cases e2
       | some j =>
         have e2 : (σ[j]?).join = some v := by simpa using e2
         have e2' : σ[j]? = some (some v) := by
           cases z : σ[j]? with
           | none => rw [z] at e2; cases e2
           | some a => rw [z] at e2; cases a with
             | none => cases e2
             | some a => cases e2; rfl
         obtain ⟨hN, hk, hsf⟩ := O.slots i j x q e1
         obtain ⟨m, hn, hl⟩ := I2.loc
         obtain ⟨u, r, l⟩ := hl j x v hN e2' (.inr hk)
         refine ⟨u, r, ?_⟩
         have hkX : X.env.kindOf x = some .cell \/ X.env.kindOf x = some .free := hk
         rcases l with ⟨k, _⟩ | ⟨k, c, hc', hcell⟩
         . rcases hkX with z | z
           . rw [k] at z; cases z
           . rw [k] at z; cases z
         . have hky : (relabel scope X.env).names.lookup x = some .cell \/ (relabel scope X.env).names.lookup x = some .free := zir (env := X.env) scope.names x hsf
           obtain ⟨c2, hc2⟩ := hasC x hky
           have : c2 = c := by
             have := sub x c2 hc2
             rw [hc'] at this
             exact (Option.some.inj this).symm
           subst this
           obtain ⟨ob, ho, hd⟩ := hcell
           exact .inr ⟨hky, c2, hc2, ob, old _ _ ho, hd⟩
   . obtain ⟨v, ob, ho, hd⟩ := I2.cell x c (sub x c e)
     exact ⟨v, ob, old _ _ ho, hd⟩
   . show upd H2 s2.heap.objs.size (.lst []) B.objs.size = none
     rw [zah (Ne.symm hDC)]
     exact I2.hok.fresh hCle
   . obtain ⟨v, ob, ho, hd⟩ := I2.cell x c (sub x c e)
     rw [zah (Nat.ne_of_lt (Heap.lt_size ho))]
     exact I2.freeC x c (sub x c e)
   . exact I2.hok.laid old (Nat.le_refl _) ⟨Nat.zero_le _, [], 0, .nil, hacc⟩
   . unfold cap
     rw [List.length_map]
     exact O.len
 have hcl : (cap js σ).length = js.length := by unfold cap; rw [List.length_map]
 have fin : ∀ {σ' : St} {H' : Hp} {s' : Shared}, Inv (zej X N' scope B.objs.size s2 H2 fp) [] σ' H' s' -> Q (.ref s2.heap.objs.size) H' -> compPost (model X.prog X.w) X.A X.xe use Q' (.ref s2.heap.objs.size) B.objs.size (.ok .next) s' :=
   λ {σ' H' s'} J q => hfin s2 H2 fp B.objs.size I2 f2 hCle σ' H' s' J q
 have loop : ∀ t, codeAny (model X.prog X.w) X.A (.compLoop (.ListComp elt [⟨target, iter, ifs, 0⟩] scope pos) 0 (.ref it) (.ref s2.heap.objs.size) (compEnvC scope (zi0 scope.names X.env.cells []) B.objs.size X.env))
     (compPost (model X.prog X.w) X.A X.xe use Q' (.ref s2.heap.objs.size) B.objs.size) { s2 with heap := h₁, toks := t } := by
   intro t
   have stat : ∀ {H' : Hp}, (∀ b ∈ fp, H' b = none) -> ∀ b ∈ fp, ztv (zej X N' scope B.objs.size s2 H2 fp) [] H' b := λ hn b hb =>
     ⟨hn b hb, Nat.ne_of_lt (Nat.lt_of_lt_of_le (fpO b hb) hCle), (IY t).ok.exfs b hb, .inl hb, λ x c e => ((IY t).ok.exf b hb).2 x c e, λ p hp => absurd (show p ∈ ([] : List (Addr × Obj)) from hp) (by simp)⟩
   refine zuq (λ n s' => ∃ i acc H', Inv (zej X N' scope B.objs.size s2 H2 fp) [] (cap js σ) H' s' /\ tn i s'.heap /\ (∀ b ∈ fp, H' b = none) /\ W i n acc H') ?_ m0
     ⟨0, [], _, IY t, T.keep 0 _ _ st2 (λ b _ o e => old b o e), λ b hb => by rw [zah (Nat.ne_of_lt (fpO b hb))]; exact (f2 b hb).1, w0⟩
   rintro n s3 ⟨i, acc, H3, I3, st3, fr3, w3⟩
   obtain ⟨hD, turn⟩ := turn i n acc H3 w3
   rcases turn with ⟨stop, qn⟩ | ⟨go, hlen, N, hN, step⟩
   . refine thn (T.done (zej X N' scope B.objs.size s2 H2 fp) rfl rfl rfl hc i [] s3 (cap js σ) H3 (λ _ _ => False) I3 (stat fr3) st3 stop) λ r s4 ⟨hr, I4⟩ => ?_
     subst hr
     exact fin I4 qn
   . refine thn (T.item (zej X N' scope B.objs.size s2 H2 fp) rfl rfl rfl hc i [] s3 (cap js σ) H3 (λ _ _ => False) I3 (stat fr3) st3 go) λ r s4 ⟨u, hr, h4⟩ => ?_
     subst hr
     refine thn h4 λ _ s5 ⟨x, H5, I5, r5, y5, st5, fr5⟩ => ?_
     have I5' := I5.pinned (stat fr5) (T.obj _ _ st5)
     refine thn (hg _ _ _ _ _ s5 (cap js σ) H5 x u _ I5' r5 (ho x (cap js σ) H5 _ hcl (step x H5 y5))) λ _ s6 ⟨σ6, H6, I6, q6, hl6, hk6⟩ => ?_
     refine thn (hif _ _ _ _ _ s6 σ6 H6 _ I6 q6) λ ok s7 ⟨H7, I7, q7⟩ => ?_
     have again : ∀ {H8 : Hp} {acc8 : List V} {s8 : Shared}, Inv (zej X N' scope B.objs.size s2 H2 fp) ([] ++ zop fp s5.heap) σ6 H8 s8 -> N acc8 H8 ->
         ∃ m, m < n /\ ∃ i acc H', Inv (zej X N' scope B.objs.size s2 H2 fp) [] (cap js σ) H' s8 /\ tn i s8.heap /\ (∀ b ∈ fp, H' b = none) /\ W i m acc H' := by
       intro H8 acc8 s8 I8 n8
       obtain ⟨m', hm, w8⟩ := hN acc8 H8 n8
       refine ⟨m', hm, i + 1, acc8, H8, ?_, T.keep _ _ _ st5 λ b hb o e => (I8.pin (b, o) (List.mem_append_right _ (List.mem_append_right _ (zii hb e)))).1, λ b hb => ?_, w8⟩
       . refine Inv.weak I8.unpinned (by rw [hl6, hcl]) λ k v e => ?_
         have e' := e
         unfold cap at e
         rw [List.getElem?_map] at e
         cases q : js[k]? with
         | none => rw [q] at e; cases e
         | some o =>
           cases o with
           | none => rw [q] at e; cases e
           | some j => rw [hk6 k j q]; exact e'
       . obtain ⟨o, e, d⟩ := T.obj _ _ st5 b hb
         exact (I8.pin (b, o) (List.mem_append_right _ (List.mem_append_right _ (zii hb e)))).2.1
     cases ok with
     | false => exact again I7 q7
     | true =>
       refine thn (he _ _ _ _ _ s7 σ6 H7 _ I7 q7) λ y s8 ⟨yv, H8, I8, r8, hD8, q8⟩ => ?_
       refine thn (zdi _ s8 σ6 H8 (.ref s2.heap.objs.size) [yv] (.ref s2.heap.objs.size) [y] (λ _ H9 => N (acc ++ [yv]) H9) I8 rfl (.cons r8 .nil) ⟨_, acc, yv, rfl, rfl, hD8, hlen, q8⟩) λ _ s9 ⟨_, H9, I9, _, q9⟩ => ?_
       exact again I9 q9
 exact codeAny_compStart_list (loop _) (T.self X.A 0 _ _ _ (T.keep 0 _ _ st2 (λ b _ o e => old b o e)) (loop _))
theorem zh5 {X : Cx} {elt target iter : Expr} {ifs : List Expr} {scope : Scope} {pos : Pos} {wi : TI} {g : TG} {tif : TT} {te : TE} {N' : List Str} {js : List (Option Nat)} (hok : zol scope X.env.scope N' X.N js = true) (hc : X.calm = true)
   (hi : PI X target iter wi) (ho : z2f js g) (hg : ∀ C s H fp, PG (zej X N' scope C s H fp) target g) (hif : ∀ C s H fp, PIf (zej X N' scope C s H fp) ifs tif) (he : ∀ C s H fp, PE (zej X N' scope C s H fp) elt te)
   (hs : ∀ x, foldedSetIterable iter X.env x = pure x := by intro _; rfl) : PE X (.ListComp elt [⟨target, iter, ifs, 0⟩] scope pos) (zzg wi g tif te js) := by
 intro pins s σ H Q I h
 rw [eval_ListComp]
 refine zpw (use := none) hok hc hi ho hg hif he hs I h λ s2 H2 fp C I2 f2 hCle σ' H' s' J q => ?_
 obtain ⟨m, hn, _⟩ := J.loc
 refine ⟨m, hn, λ h' hs' => ⟨.ref s2.heap.objs.size, H', ?_, rfl, q⟩⟩
 refine I2.call' (s' := { s' with heap := h' }) (ch := fp) J.os (J.base.sameBut hs' hCle) (λ b ob e => ?_) J.bare λ b hb => ⟨(f2 b hb).2.2.2.1, (f2 b hb).2.1, (f2 b hb).2.2.2.2.1, (f2 b hb).2.2.2.2.2⟩
 refine (J.hok b ob e).stay (λ c w' hc q => (hs'.2 c ?_).trans q) (λ _ q => q) λ _ _ q => q
 have hfree : H' C = none := J.free
 intro hcC
 rw [hcC] at hc
 rcases hc with z | z
 . rw [<- z, hfree] at e; cases e
 . rw [hfree] at z; cases z
theorem zvw {X : Cx} {i : Nat} {y : Str} {elt target iter : Expr} {ifs : List Expr} {scope : Scope} {pos py spos : Pos} {wi : TI} {g : TG} {tif : TT} {te : TE} {N' : List Str} {js : List (Option Nat)} (hN : X.N.Nodup) (hi' : X.N[i]? = some y) (hx : Loc X.env.scope y)
   (hok : zol scope X.env.scope N' X.N js = true) (hc : X.calm = true)
   (hi : PI X target iter wi) (ho : z2f js g) (hg : ∀ C s H fp, PG (zej X N' scope C s H fp) target g) (hif : ∀ C s H fp, PIf (zej X N' scope C s H fp) ifs tif) (he : ∀ C s H fp, PE (zej X N' scope C s H fp) elt te)
   (hsw : swapsWith (.ListComp elt [⟨target, iter, ifs, 0⟩] scope pos) (some (.Name y py)) spos.line X.env = pure true)
   (hs : ∀ x, foldedSetIterable iter X.env x = pure x := by intro _; rfl) (hf : X.fn y = true \/ X.env.scope.names.lookup y = some .local := by first | exact .inl rfl | exact .inr rfl | assumption) :
   PS X (.Assign [.Name y py] (.ListComp elt [⟨target, iter, ifs, 0⟩] scope pos) spos) (z2m (zzg wi g tif te js) (ztw i)) := by
 intro pins s σ H D I h
 rw [exec_Assign_Name_used _ _ _ _ hsw]
 refine wpAny_bind (wpAny_standAt (wpAny_bind ?_))
 show wpAny _ X.A (do let _ <- comprehension (.ListComp elt [⟨target, iter, ifs, 0⟩] scope pos) scope X.env _ (newList []) false (eval iter X.env) (some (assign (.Name y py) X.env))) _ _ s
 refine wpAny_bind (thn (zpw (use := some (assign (.Name y py) X.env)) (Q' := λ _ s' => SP X pins D .next s') hok hc hi ho hg hif he hs I h λ s2 H2 fp C I2 f2 hCle σ' H' s' J q => ?_) λ _ s' q => ?_)
 . obtain ⟨m, hn, _⟩ := J.loc
   have I3 : Inv X pins σ H' s' := I2.call' (ch := fp) J.os J.base J.hok J.bare λ b hb => ⟨(f2 b hb).2.2.2.1, (f2 b hb).2.1, (f2 b hb).2.2.2.2.1, (f2 b hb).2.2.2.2.2⟩
   have hCL : C ≠ X.env.locals := λ z => absurd (Nat.lt_of_lt_of_le I2.lt hCle) (by rw [z]; exact Nat.lt_irrefl _)
   have hCc : ∀ x c, X.env.cells.lookup x = some c -> c ≠ C := λ x c e z => by
     obtain ⟨v, ob, ho, _⟩ := I2.cell x c e
     exact absurd (Nat.lt_of_lt_of_le (Heap.lt_size ho) hCle) (by rw [z]; exact Nat.lt_irrefl _)
   have hCp : ∀ p ∈ X.pn ++ pins, p.1 ≠ C := λ p hp z => by
     have e := (I2.pin p hp).1
     exact absurd (Nat.lt_of_lt_of_le (Heap.lt_size e) hCle) (by rw [z]; exact Nat.lt_irrefl _)
   show wpAny _ X.A (assign (.Name y py) X.env (.ref s2.heap.objs.size)) _ _ s'
   refine wpAny_assign_Name (zpa I3 hN hi' hx (v := .ref s2.heap.objs.size) rfl (λ s'' I4 ⟨a, hsb, ha⟩ => ?_) hf)
   have hna : C ≠ a := by
     rcases ha with z | z
     . rw [z]; exact hCL
     . exact (hCc _ _ z).symm
   refine ⟨m, hn.sameBut hsb hna, λ h' hs' => ⟨_, H', ?_, q⟩⟩
   exact I4.turned (t' := s''.toks) (h' := h') (it := C) (λ b o hb e => (hs'.2 b hb).trans e) J.free hCL (.inr (Nat.le_trans I2.sz hCle)) hCc hCp
 . exact wpAny_pure (wpAny_pure q)
end L2
namespace L2
open PySem PySem.Spec PyProof.Rows
section
variable {g : TG} {tif : TT} {te : TE} {js : List (Option Nat)} {σ : St} {H : Hp} {Q : VK}
def zxs (g : TG) (tif : TT) (te : TE) (σ : St) (p : Addr) (acc : List V) (N : List V -> Hp -> Prop) (x : V) (H : Hp) : Prop :=
 g x σ H λ σ2 H3 => tif σ2 H3 λ c H4 => if c = true then te σ2 H4 λ y H5 => H5 p = some (.lst acc) /\ N (acc ++ [y]) (upd H5 p (.lst (acc ++ [y]))) else N acc H4
theorem zti {lo : Int} {n : Nat} {p : Addr} (hn : n <= 1000000) (Pv : Nat -> List V -> Hp -> Prop) (h0 : Pv 0 [] (upd H p (.lst [])))
   (hl : ∀ i acc H2, i <= n -> Pv i acc H2 -> H2 p = some (.lst acc) /\ acc.length <= i)
   (hs : ∀ i acc H2, i < n -> Pv i acc H2 -> zxs g tif te (cap js σ) p acc (Pv (i + 1)) (.int (lo + i)) H2) (hd : ∀ acc H2, Pv n acc H2 -> Q (.ref p) H2) :
   zqf (Itr lo n) g tif te js σ Q p H := by
 refine ⟨λ i m acc H => m = n - i /\ i <= n /\ Pv i acc H, ⟨n, by simp, Nat.zero_le _, h0⟩, ?_⟩
 rintro i m acc H2 ⟨rfl, hi, q⟩
 obtain ⟨q1, q2⟩ := hl i acc H2 hi q
 refine ⟨q1, ?_⟩
 by_cases hlt : i < n
 . refine .inr ⟨hlt, ?_, Pv (i + 1), λ acc' H' p' => ⟨n - (i + 1), by omega, rfl, hlt, p'⟩, λ x H' y => ?_⟩
   . have : (1000000 : Nat) < sizeLine := by decide
     omega
   . obtain ⟨e, y⟩ := y
     subst e y
     exact hs i acc _ hlt q
 . have e : i = n := by omega
   subst e
   exact .inl ⟨Nat.le_refl _, hd acc H2 q⟩
theorem zjs {K : W.Frag} {a : Addr} {xs : List V} {p : Addr} (hn : xs.length <= 1000000) (Pv : Nat -> List V -> Hp -> Prop) (h0 : Pv 0 [] (upd H p (.lst [])))
   (hl : ∀ i acc H2, i <= xs.length -> Pv i acc H2 -> H2 p = some (.lst acc) /\ acc.length <= i /\ SqL K H2 a xs)
   (hs : ∀ i x acc H2, xs[i]? = some x -> Pv i acc H2 -> zxs g tif te (cap js σ) p acc (Pv (i + 1)) x H2) (hd : ∀ acc H2, Pv xs.length acc H2 -> Q (.ref p) H2) :
   zqf (Itl K a) g tif te js σ Q p H := by
 refine ⟨λ i m acc H => m = xs.length - i /\ i <= xs.length /\ Pv i acc H, ⟨xs.length, by simp, Nat.zero_le _, h0⟩, ?_⟩
 rintro i m acc H2 ⟨rfl, hi, q⟩
 obtain ⟨q1, q2, q3⟩ := hl i acc H2 hi q
 refine ⟨q1, ?_⟩
 by_cases hlt : i < xs.length
 . refine .inr ⟨⟨xs, xs[i], q3, by simp [hlt]⟩, ?_, Pv (i + 1), λ acc' H' p' => ⟨xs.length - (i + 1), by omega, rfl, hlt, p'⟩, λ x H' y => ?_⟩
   . have : (1000000 : Nat) < sizeLine := by decide
     omega
   . obtain ⟨e, y⟩ := y
     subst e
     exact hs i x acc _ (y xs q3) q
 . have e : i = xs.length := by omega
   subst e
   exact .inl ⟨⟨xs, q3, Nat.le_refl _⟩, hd acc H2 q⟩
theorem zxw {K : W.Frag} {a : Addr} {xs : List V} {p : Addr} (hn : xs.length <= 1000000) (Pv : Nat -> List V -> Hp -> Prop) (h0 : Pv 0 [] (upd H p (.lst [])))
   (hl : ∀ i acc H2, i <= xs.length -> Pv i acc H2 -> H2 p = some (.lst acc) /\ acc.length <= i /\ SqT K H2 a xs)
   (hs : ∀ i x acc H2, xs[i]? = some x -> Pv i acc H2 -> zxs g tif te (cap js σ) p acc (Pv (i + 1)) x H2) (hd : ∀ acc H2, Pv xs.length acc H2 -> Q (.ref p) H2) :
   zqf (Itt K a) g tif te js σ Q p H := by
 refine ⟨λ i m acc H => m = xs.length - i /\ i <= xs.length /\ Pv i acc H, ⟨xs.length, by simp, Nat.zero_le _, h0⟩, ?_⟩
 rintro i m acc H2 ⟨rfl, hi, q⟩
 obtain ⟨q1, q2, q3⟩ := hl i acc H2 hi q
 refine ⟨q1, ?_⟩
 by_cases hlt : i < xs.length
 . refine .inr ⟨⟨xs, xs[i], q3, by simp [hlt]⟩, ?_, Pv (i + 1), λ acc' H' p' => ⟨xs.length - (i + 1), by omega, rfl, hlt, p'⟩, λ x H' y => ?_⟩
   . have : (1000000 : Nat) < sizeLine := by decide
     omega
   . obtain ⟨e, y⟩ := y
     subst e
     exact hs i x acc _ (y xs q3) q
 . have e : i = xs.length := by omega
   subst e
   exact .inl ⟨⟨xs, q3, Nat.le_refl _⟩, hd acc H2 q⟩
end
section
variable {X : Cx}
theorem ztd {h : Heap} {sl : Addr} {vl vu : Value} {lo hi : Option Int} (hs : h.IsSliceOf sl vl vu .none) (pl : IsPart vl lo) (pu : IsPart vu hi) : ∃ l u : Option (Int × Tok), l.map (·.1) = lo /\ u.map (·.1) = hi /\ h.IsSlice sl l u none := by
 obtain ⟨o, ho, hc, hd⟩ := hs
 cases pl with
 | none =>
   cases pu with
   | none => exact ⟨none, none, rfl, rfl, o, ho, hc, hd⟩
   | int j t => exact ⟨none, some (j, t), rfl, rfl, o, ho, hc, hd⟩
 | int i t =>
   cases pu with
   | none => exact ⟨some (i, t), none, rfl, rfl, o, ho, hc, hd⟩
   | int j t' => exact ⟨some (i, t), some (j, t'), rfl, rfl, o, ho, hc, hd⟩
def rSlS : V -> Option Int -> Option Int -> Hp -> VK -> Prop := λ x lo hi H Q => ∃ z, x = .str z /\ z.length <= sizeLine /\ Q (.str (Txt.slice z lo hi)) H
theorem zx9 : SlR X rSlS := by
 intro pins s σ H x v vl vu lo hi sl Q I rx hs pl pu h
 obtain ⟨z, rfl, hz, q⟩ := h
 obtain ⟨t, rfl⟩ := rx
 obtain ⟨l, u, rfl, rfl, hsl⟩ := ztd hs pl pu
 refine ⟨"str", _, F.slot_str_getitem.lookup, typeIs_str _ _ _, wpAny_getItem_str_slice (l := l) (u := u) (st := none) hsl rfl
   (post_val_or_str ⟨Nat.le_trans (Txt.slice_le z _ _) hz, λ t' k => ⟨.str (Txt.slice z (l.map (·.1)) (u.map (·.1))), H, I.tok _, ⟨_, rfl⟩, q⟩⟩)⟩
theorem zy5 {ys : List Str} : ∀ {us : List Value}, zc6 (ys.map V.str) us -> StrsAre us ys := by
 induction ys with
 | nil => intro us h; cases h; exact .nil
 | cons y r ih =>
   intro us h
   cases h with
   | cons r1 h =>
     obtain ⟨t, rfl⟩ := r1
     exact .cons y t (ih h)
def z29 (K : W.Frag) : V -> List V -> Hp -> VK -> Prop := λ x xs H Q => ∃ sep p ys, x = .str sep /\ xs = [.ref p] /\ SqL K H p (ys.map V.str) /\ (ys.map (·.length)).sum + ys.length * sep.length <= 16777216 /\ Q (.str (Txt.join sep ys)) H
theorem zzp : MtR X "str.join" (z29 X.K) := by
 intro pins s σ H x xs v us Q I rx r h
 obtain ⟨sep, p, ys, rfl, rfl, hp, hl, q⟩ := h
 obtain ⟨t, rfl⟩ := rx
 obtain ⟨u, rfl, ru⟩ := zny r
 cases (show u = Value.ref p from ru)
 obtain ⟨its, rv, pl, hz⟩ := I.list hp
 exact join_list pl.isList (by simpa using zy5 rv) hl λ t' k => ⟨.str (Txt.join sep ys), H, I.tok _, ⟨_, rfl⟩, q⟩
theorem zdu : zl7 X (.builtin "isinstance") (λ xs H Q => ∃ x c t b, xs = [x, .ty c] /\ TyOf X.K H x t /\ PySem.W.kitOne X.K t (.type c) = some b /\ Q (.bl b) H) := by
 intro pins s σ H xs us Q I r h
 obtain ⟨x, c, t, b, rfl, ty, hk, q⟩ := h
 obtain ⟨u, w', rfl, rx, rc⟩ := z2y r
 cases (show w' = Value.type c from rc)
 exact zvv I rx ty hk λ tk => ⟨.bl b, H, I.tok _, rfl, q⟩
end
def z0m : Expr -> Option V
 | .Constant (.str x) _ _ => some (.str x)
 | .Constant (.int i) _ _ => some (.int i)
 | .Constant (.bool b) _ _ => some (.bl b)
 | .Constant .none _ _ => some .non
 | _ => none
def zr3 : List Expr -> Option (List V)
 | [] => some []
 | e :: r => match z0m e, zr3 r with
   | some v, some vs => some (v :: vs)
   | _, _ => none
theorem z03 {X : Cx} {e : Expr} {v : V} (h : z0m e = some v) : PE X e (tC v) := by
 unfold z0m at h
 split at h
 . cases h; exact zbh
 . cases h; exact zae
 . cases h; exact zhi
 . cases h; exact zh1
 . cases h
theorem zwy {X : Cx} {e : Expr} {es : List Expr} {v : V} (h : z0m e = some v) : starEach (e :: es) X.env = (false, eval e X.env) :: starEach es X.env := by
 unfold z0m at h
 split at h <;> first | rfl | cases h
theorem zv2 {X : Cx} : ∀ {es : List Expr} {vs : List V}, zr3 es = some vs -> PA X es (λ _ H Q => Q vs H)
 | [], vs, h => by
   cases h
   exact zag
 | e :: r, vs, h => by
   unfold zr3 at h
   split at h
   . rename_i v vs' h1 h2
     cases h
     exact zaa (z03 h1) (zv2 h2) (zwy h1)
   . cases h
theorem zal.tup {K : W.Frag} {H H' : Hp} {a : Addr} {xs : List V} (e : zal H H') (h : SqT K H a xs) : SqT K H' a xs := by
 rcases h with (h | ⟨o, h⟩) | h
 . exact .inl (.inl (e _ _ h))
 . exact .inl (.inr ⟨o, e _ _ h⟩)
 . exact .inr h
theorem zal.new {H : Hp} {p : Addr} {o : HO} (h : H p = none) : zal H (upd H p o) := λ b u e => by
 rw [zah (zbv e h)]
 exact e
theorem zal.upd {H H' : Hp} {p : Addr} {o : HO} (e : zal H H') (h : H p = none) : zal H (upd H' p o) := λ b u q => by
 rw [zah (zbv q h)]
 exact e b u q
end L2
namespace L2
open PySem PySem.Spec PyProof.Rows
structure DefOk (K : W.Frag) (mg : Str -> Option Value) (name : Str) (st : Stmt) (ps : List Str) (f : Addr) (fd : FuncData) : Prop where
 F : Fun K name name st f fd
 g : mg name = some (.ref f)
 b : zjt K fd ps []
section
variable {X : Cx} {k : Nat} {f : Addr} {fd : FuncData} {ps : List Str} {sp : Sp} {x : Str} {st : Stmt} {p pos : Pos} {e : Expr} {es : List Expr} {t : TA}
theorem zc4 (D : DefOk X.K X.mg x st ps f fd) (G : FnOk X.prog X.w X.K X.mg X.base CX0 k f fd ps sp) (hr : Room k X.A) (ha : PA X (e :: es) t) (hg : Gl X x := by rfl)
   (hdb : (x == ("__debug__" : Str)) = false := by decide) (he : starEach (e :: es) X.env = (false, eval e X.env) :: starEach es X.env := by rfl) (hpl : (backTo pos (starEach es X.env)).any (·.1) = false := by rfl) :
   PE X (.Call (.Name x p) (e :: es) [] pos) (zzd sp [] E0 t) := zzu G hr hg D.g D.F.kp D.b .nil zcz ha hdb he hpl
theorem zpf {a : Addr} (h : X.mg x = some (.ref a)) (hg : Gl X x := by rfl) (hd : (x == ("__debug__" : Str)) = false := by decide) : PE X (.Name x pos) (tC (.ref a)) := zum hg h rfl hd
end
theorem zb4 {K : W.Frag} {mg : Str -> Option Value} {h : Heap} {name : Str} {st : Stmt} {ps : List Str} {f : Addr} {oc : Value} {od an : Option Addr} {osl : Array (Option Value)} {kV doc pm cdv ct : Value} (X : K.In h) (G : h.Ns mainGlobals mg)
   (a : PySem.W.nsIn K mainGlobals name = some (some (.ref f))) (l : K.lookup f = some ⟨oc, od, .func (PySem.W.fnOf name name (zaj st) (zai st) (zac st) .none kV doc pm an cdv ct), osl⟩) (c : PySem.W.codeIn K cdv name = true) (k : PySem.W.keepIn K (.ref f) = true)
   (b : ∀ (kV doc pm : Value) (an : Option Addr) (cdv ct : Value) (us : List Value), us.length = ps.length -> bindArgs (PySem.W.fnOf name name (zaj st) (zai st) (zac st) .none kV doc pm an cdv ct) ⟨us, []⟩ = pure (ps.zip us)) :
   DefOk K mg name st ps f (PySem.W.fnOf name name (zaj st) (zai st) (zac st) .none kV doc pm an cdv ct) :=
 ⟨zko l c k, PySem.W.mg_of X G a, (zko l c k).binds b⟩
theorem zlf {α : Type} {xs : List α} {i : Int} (h0 : 0 <= i) (h1 : i < xs.length) : ∃ v, atI xs i = some v /\ v ∈ xs := by
 have hi : i.toNat < xs.length := by omega
 refine ⟨xs[i.toNat], ?_, List.getElem_mem hi⟩
 have := zft (xs := xs) (j := i.toNat) (v := xs[i.toNat]) (by simp [hi])
 have e : ((i.toNat : Nat) : Int) = i := by omega
 rwa [e] at this
theorem z0b {ns : List Int} {i : Int} (h0 : 0 <= i) (h1 : i < ns.length) : ∃ z, atI (ns.map V.int) i = some (.int z) := by
 obtain ⟨v, e, hv⟩ := zlf (xs := ns.map V.int) h0 (by rw [List.length_map]; exact h1)
 obtain ⟨z, _, rfl⟩ := List.mem_map.mp hv
 exact ⟨z, e⟩
theorem zeb {p : Prop} [Decidable p] (h : decide p = true) : p := of_decide_eq_true h
end L2
namespace L2
open PySem PySem.Spec PyProof.Rows
theorem zfq {c A B : Prop} [Decidable c] (hc : c) (h : A) : if c then A else B := by
 rw [if_pos hc]
 exact h
theorem zbw {c A B : Prop} [Decidable c] (hc : ¬ c) (h : B) : if c then A else B := by
 rw [if_neg hc]
 exact h
end L2
namespace L2
open PySem
theorem zfp : bootBuiltins "len" = some (.builtin "len") := by decide +kernel
theorem zcy : bootBuiltins "isinstance" = some (.builtin "isinstance") := by decide +kernel
theorem zrj : bootBuiltins "str" = some (.type "str") := by decide +kernel
theorem zu2 : bootBuiltins "int" = some (.type "int") := by decide +kernel
theorem zto : bootBuiltins "bool" = some (.type "bool") := by decide +kernel
theorem zn3 : bootBuiltins "list" = some (.type "list") := by decide +kernel
theorem zsb : bootBuiltins "tuple" = some (.type "tuple") := by decide +kernel
theorem zq6 : bootBuiltins "dict" = some (.type "dict") := by decide +kernel
theorem zpx : bootBuiltins "enumerate" = some (.type "enumerate") := by decide +kernel
theorem z2a : bootBuiltins "zip" = some (.type "zip") := by decide +kernel
theorem z1e {b : Bool} (h : b = false) : ¬ b = true := by rw [h]; decide
end L2
namespace L2
open PySem PySem.Spec PyProof.Rows
mutual
def ztl (K : W.Frag) (H : Hp) : PyData -> V -> Prop
 | .none, v => v = .non
 | .bool b, v => v = .bl b
 | .int i, v => v = .int i
 | .str x, v => v = .str x
 | .list ds, v => ∃ a xs, v = .ref a /\ SqL K H a xs /\ zh6 K H ds xs
 | .tuple ds, v => ∃ a xs, v = .ref a /\ SqT K H a xs /\ zh6 K H ds xs
 | .dict _, _ => False
def zh6 (K : W.Frag) (H : Hp) : List PyData -> List V -> Prop
 | [], xs => xs = []
 | d :: ds, xs => ∃ x r, xs = x :: r /\ ztl K H d x /\ zh6 K H ds r
end
end L2
namespace L2
open PySem PySem.Spec PyProof.Rows
section
variable {κ : Type} [DecidableEq κ]
def zdc (kvs : List (κ × V)) (k : κ) : Option V := (kvs.find? λ kv => decide (kv.1 = k)).map (·.2)
def za3 (kvs : List (κ × V)) (k : κ) (v : V) : List (κ × V) :=
 if (kvs.any λ kv => decide (kv.1 = k)) = true then kvs.map (λ kv => if kv.1 = k then (kv.1, v) else kv) else kvs ++ [(k, v)]
theorem zef {p : κ × V} {r : List (κ × V)} {k : κ} (e : p.1 = k) : zdc (p :: r) k = some p.2 := by simp [zdc, List.find?_cons, e]
theorem zec {p : κ × V} {r : List (κ × V)} {k : κ} (e : ¬ p.1 = k) : zdc (p :: r) k = zdc r k := by simp [zdc, List.find?_cons, e]
theorem zij (k : κ) : ∀ kvs : List (κ × V), (kvs.any λ kv => decide (kv.1 = k)) = (zdc kvs k).isSome
 | [] => rfl
 | p :: r => by
   rw [List.any_cons]
   by_cases e : p.1 = k
   . simp only [zef e, decide_eq_true e, Bool.true_or, Option.isSome_some]
   . rw [zec e, decide_eq_false e, Bool.false_or]; exact zij k r
theorem zrq (k j : κ) (y : V) : ∀ kvs : List (κ × V), zdc (kvs.map λ kv => if kv.1 = k then (kv.1, y) else kv) j = (zdc kvs j).map λ x => if j = k then y else x
 | [] => rfl
 | p :: r => by
   have ih := zrq k j y r
   rw [List.map_cons]
   by_cases h : p.1 = k
   . rw [if_pos h]
     by_cases e : p.1 = j
     . rw [zef (p := (p.1, y)) e, zef e, Option.map_some, if_pos (e.symm.trans h)]
     . rw [zec (p := (p.1, y)) e, zec e, ih]
   . rw [if_neg h]
     by_cases e : p.1 = j
     . rw [zef (p := p) e, zef e, Option.map_some, if_neg (λ z => h (e.trans z))]
     . rw [zec (p := p) e, zec e, ih]
theorem zo0 (k j : κ) (y : V) : ∀ kvs : List (κ × V), zdc kvs k = none -> zdc (kvs ++ [(k, y)]) j = if j = k then some y else zdc kvs j
 | [], _ => by
   by_cases e : k = j
   . rw [if_pos e.symm]; exact zef (p := (k, y)) e
   . rw [if_neg (λ z => e z.symm)]; exact zec (p := (k, y)) e
 | p :: r, hn => by
   rw [List.cons_append]
   have hk : ¬ p.1 = k := λ z => by rw [zef z] at hn; cases hn
   rw [zec hk] at hn
   have ih := zo0 k j y r hn
   by_cases e : p.1 = j
   . rw [zef e, zef e, if_neg (λ z => hk (e.trans z))]
   . rw [zec e, zec e, ih]
theorem zdn (kvs : List (κ × V)) (k j : κ) (y : V) : zdc (za3 kvs k y) j = if j = k then some y else zdc kvs j := by
 unfold za3
 by_cases a : (kvs.any λ kv => decide (kv.1 = k)) = true
 . rw [if_pos a, zrq]
   rw [zij] at a
   by_cases e : j = k
   . obtain ⟨x, hx⟩ := Option.isSome_iff_exists.mp a
     rw [if_pos e, e, hx, Option.map_some, if_pos rfl]
   . rw [if_neg e]
     cases zdc kvs j with
     | none => rfl
     | some x => rw [Option.map_some, if_neg e]
 . rw [if_neg a]
   refine zo0 k j y kvs ?_
   rw [zij] at a
   cases q : zdc kvs k with
   | none => rfl
   | some x => rw [q] at a; exact (a rfl).elim
theorem zau (kvs : List (κ × V)) (k : κ) (v : V) : (za3 kvs k v).length <= kvs.length + 1 := by
 unfold za3
 split
 . rw [List.length_map]; omega
 . rw [List.length_append, List.length_cons, List.length_nil]; omega
theorem zsc {kvs : List (κ × V)} {k : κ} (v : V) (h : zdc kvs k = none) : za3 kvs k v = kvs ++ [(k, v)] := by
 unfold za3
 rw [zij, h]
 exact if_neg (by decide)
theorem zof.isSome_eq {o : Option V} {u : Option Value} (r : zof o u) : o.isSome = u.isSome := by
 cases o with
 | none => cases u with
   | none => rfl
   | some _ => exact (show False from r).elim
 | some _ => cases u with
   | none => exact (show False from r).elim
   | some _ => rfl
theorem zof.getD {o : Option V} {u : Option Value} {d : V} {d' : Value} (r : zof o u) (rd : zdk d d') : zdk (o.getD d) (u.getD d') := by
 cases o with
 | none => cases u with
   | none => exact rd
   | some _ => exact (show False from r).elim
 | some _ => cases u with
   | none => exact (show False from r).elim
   | some _ => exact r
theorem KV.val {kvs : List (κ × V)} {vs : List (κ × Value)} (r : KV kvs vs) (k : κ) : zof (zdc kvs k) (valueAt vs k) := by
 unfold KV at r
 induction r with
 | nil => exact True.intro
 | @cons p q ps qs h t ih =>
   obtain ⟨h1, h2⟩ := h
   by_cases e : p.1 = k
   . have e' : q.1 = k := h1.symm.trans e
     have b : valueAt (q :: qs) k = some q.2 := by simp [valueAt, List.find?_cons, e']
     rw [zef e, b]; exact h2
   . have e' : ¬ q.1 = k := λ z => e (h1.trans z)
     have b : valueAt (q :: qs) k = valueAt qs k := by simp [valueAt, List.find?_cons, e']
     rw [zec e, b]; exact ih
theorem KV.any {kvs : List (κ × V)} {vs : List (κ × Value)} (r : KV kvs vs) (k : κ) : (kvs.any λ kv => decide (kv.1 = k)) = vs.any λ kv => decide (kv.1 = k) := by
 unfold KV at r
 induction r with
 | nil => rfl
 | cons h t ih => rw [List.any_cons, List.any_cons, ih, h.1]
theorem KV.repl {kvs : List (κ × V)} {vs : List (κ × Value)} (r : KV kvs vs) (k : κ) {y : V} {u : Value} (ry : zdk y u) :
   KV (kvs.map λ kv => if kv.1 = k then (kv.1, y) else kv) (vs.map λ kv => if kv.1 = k then (kv.1, u) else kv) := by
 unfold KV at r ⊢
 induction r with
 | nil => exact .nil
 | @cons p q ps qs h t ih =>
   rw [List.map_cons, List.map_cons]
   refine .cons ?_ ih
   obtain ⟨h1, h2⟩ := h
   by_cases e : p.1 = k
   . rw [if_pos e, if_pos (h1.symm.trans e)]; exact ⟨h1, ry⟩
   . rw [if_neg e, if_neg (λ z => e (h1.trans z))]; exact ⟨h1, h2⟩
theorem KV.put {kvs : List (κ × V)} {vs : List (κ × Value)} (r : KV kvs vs) (k : κ) {y : V} {u : Value} (ry : zdk y u) : KV (za3 kvs k y) (stored vs k u) := by
 unfold za3 stored
 rw [r.any k]
 by_cases e : (vs.any λ kv => decide (kv.1 = k)) = true
 . rw [if_pos e, if_pos e]; exact r.repl k ry
 . rw [if_neg e, if_neg e]; exact Paired.snoc r ⟨rfl, ry⟩
theorem KV.length {kvs : List (κ × V)} {vs : List (κ × Value)} (r : KV kvs vs) : kvs.length = vs.length := Paired.length r
end
theorem zqz {P : Program} {w : World} {k : Key} {u : Value} (r : zdk (kV k) u) : (zcc P w).is k u = true := by
 cases k with
 | inl i => obtain ⟨t, e⟩ := (show ∃ t, u = Value.int i t from r); subst e; exact zqb P w i t
 | inr x => obtain ⟨t, e⟩ := (show ∃ t, u = Value.str x t from r); subst e; exact zq9 P w x t
theorem zo1 {P : Program} {w : World} : ∀ {ks : List Key} {us : List Value}, zc6 (ks.map kV) us -> ItemsAre (zcc P w) ks us
 | [], _, r => by rw [List.map_nil] at r; cases r; exact .nil
 | k :: ks, _, r => by
   rw [List.map_cons] at r
   cases r with
   | cons h t => exact .cons (zqz h) (zo1 t)
abbrev KT (H : Hp) : List (List Key × V) -> List (List Key × Addr × Value) -> Prop := Paired λ p q => p.1 = q.1 /\ H q.2.1 = some (.tup (p.1.map kV)) /\ zdk p.2 q.2.2
theorem KT.val {H : Hp} {kvs : List (List Key × V)} {xs : List (List Key × Addr × Value)} (r : KT H kvs xs) (k : List Key) : zof (zdc kvs k) ((atKey xs k).map (·.2)) := by
 induction r with
 | nil => exact True.intro
 | @cons p q ps qs h t ih =>
   obtain ⟨h1, _, h2⟩ := h
   by_cases e : p.1 = k
   . have e' : q.1 = k := h1.symm.trans e
     have b : atKey (q :: qs) k = some q.2 := by simp [atKey, List.find?_cons, e']
     rw [zef e, b]; exact h2
   . have e' : ¬ q.1 = k := λ z => e (h1.trans z)
     have b : atKey (q :: qs) k = atKey qs k := by simp [atKey, List.find?_cons, e']
     rw [zec e, b]; exact ih
theorem KT.repl {H : Hp} {kvs : List (List Key × V)} {xs : List (List Key × Addr × Value)} (r : KT H kvs xs) (k : List Key) {y : V} {u : Value} (ry : zdk y u) :
   KT H (kvs.map λ kv => if kv.1 = k then (kv.1, y) else kv) (xs.map (putAt k u)) := by
 induction r with
 | nil => exact .nil
 | @cons p q ps qs h t ih =>
   rw [List.map_cons, List.map_cons]
   refine .cons ?_ ih
   obtain ⟨h1, h2, h3⟩ := h
   unfold putAt
   by_cases e : p.1 = k
   . rw [if_pos e, if_pos (h1.symm.trans e)]; exact ⟨h1, h2, ry⟩
   . rw [if_neg e, if_neg (λ z => e (h1.trans z))]; exact ⟨h1, h2, h3⟩
theorem KT.put {H : Hp} {kvs : List (List Key × V)} {xs : List (List Key × Addr × Value)} (r : KT H kvs xs) (k : List Key) {b : Addr} {y : V} {u : Value} (hb : H b = some (.tup (k.map kV))) (ry : zdk y u) :
   KT H (za3 kvs k y) (storedH xs k b u) := by
 have e : (kvs.any λ kv => decide (kv.1 = k)) = (atKey xs k).isSome := by
   rw [zij, (r.val k).isSome_eq, Option.isSome_map]
 unfold za3 storedH
 rw [e]
 by_cases q : (atKey xs k).isSome = true
 . rw [if_pos q, if_pos q]; exact r.repl k ry
 . rw [if_neg q, if_neg q]; exact Paired.snoc r ⟨rfl, hb, ry⟩
theorem KT.keeps {H H' : Hp} {kvs : List (List Key × V)} {xs : List (List Key × Addr × Value)} (r : KT H kvs xs) (ht : ∀ b ys, H b = some (.tup ys) -> H' b = some (.tup ys)) : KT H' kvs xs :=
 Paired.mapP r λ _ _ z => ⟨z.1, ht _ _ z.2.1, z.2.2⟩
section
variable {P : Program} {w : World} {H : Hp} {h : Heap} {a : Addr}
theorem z1y {u : HO} (ok : HOk P w H h) (e : Rd H a u) : zed P w H h a u := e.ok ok
theorem ztc {kvs : List (Key × V)} (ok : HOk P w H h) (e : Rd H a (.dK kvs)) : kvs.length <= sizeLine /\ (a == sysModules) = false /\ ∃ vs, KV kvs vs /\ h.DictOf (zcc P w) a vs :=
 show zed P w H h a (.dK kvs) from z1y ok e
theorem zwm {kvs : List (Key × V)} (ok : HOk P w H h) (e : H a = some (.dK kvs)) : kvs.length <= sizeLine /\ (a == sysModules) = false /\ ∃ vs, KV kvs vs /\ h.DictOf (zcc P w) a vs := ztc ok (.inl e)
theorem zon {ks : List Key} (ok : HOk P w H h) (e : H a = some (.tup (ks.map kV))) : (tupleKind (zcc P w)).is h ks a := by
 obtain ⟨_, its, r, o, h1, h2, n, h3⟩ := (show zed P w H h a (.tup (ks.map kV)) from ok a _ e)
 exact ⟨o, its.toArray, n, h1, h2, h3, by simpa using zo1 r⟩
theorem zs8 {kvs : List (List Key × V)} (ok : HOk P w H h) (e : Rd H a (.dT kvs)) : kvs.length <= sizeLine /\ (a == sysModules) = false /\
   ∃ xs, KT H kvs xs /\ h.DictOfH (tupleKind (zcc P w)) a xs := by
 obtain ⟨z, y, xs, r, o, es, ep, h1, h2, h3, h4, h5⟩ := (show zed P w H h a (.dT kvs) from z1y ok e)
 refine ⟨z, y, xs, r, o, es, ep, h1, h2, h3, h4, λ x hx => ?_, h5⟩
 have all : ∀ {l : List (List Key × V)} {m : List (List Key × Addr × Value)}, KT H l m -> ∀ x ∈ m, (tupleKind (zcc P w)).is h x.1 x.2.1 := by
   intro l m q
   induction q with
   | nil => intro x hx; exact nomatch hx
   | @cons p q ps qs hq t ih =>
     intro x hx
     rcases List.mem_cons.mp hx with e | hx
     . subst e
       exact zon ok (by rw [<- hq.1]; exact hq.2.1)
     . exact ih x hx
 exact all r x hx
theorem z3c {kvs : List (List Key × V)} (ok : HOk P w H h) (e : H a = some (.dT kvs)) : kvs.length <= sizeLine /\ (a == sysModules) = false /\
   ∃ xs, KT H kvs xs /\ h.DictOfH (tupleKind (zcc P w)) a xs := zs8 ok (.inl e)
end
def zlb (H : Hp) (a : Addr) (y : V) (r : Option V) : Prop :=
 (∃ kvs k, Rd H a (.dK kvs) /\ y = kV k /\ r = zdc kvs k) \/ ∃ kvs k b, Rd H a (.dT kvs) /\ y = .ref b /\ H b = some (.tup (k.map kV)) /\ r = zdc kvs k
def zkr (H : Hp) (a : Addr) (y v : V) (H' : Hp) : Prop :=
 (∃ kvs k, H a = some (.dK kvs) /\ y = kV k /\ kvs.length < sizeLine /\ H' = upd H a (.dK (za3 kvs k v))) \/
 ∃ kvs k b, H a = some (.dT kvs) /\ y = .ref b /\ H b = some (.tup (k.map kV)) /\ kvs.length < sizeLine /\ H' = upd H a (.dT (za3 kvs k v))
theorem zlb.k {H : Hp} {a : Addr} {kvs : List (Key × V)} {k : Key} (e : H a = some (.dK kvs)) : zlb H a (kV k) (zdc kvs k) := .inl ⟨kvs, k, .inl e, rfl, rfl⟩
theorem zlb.t {H : Hp} {a b : Addr} {kvs : List (List Key × V)} {k : List Key} (e : H a = some (.dT kvs)) (eb : H b = some (.tup (k.map kV))) : zlb H a (.ref b) (zdc kvs k) := .inr ⟨kvs, k, b, .inl e, rfl, eb, rfl⟩
theorem zkr.k {H : Hp} {a : Addr} {kvs : List (Key × V)} {k : Key} {v : V} (e : H a = some (.dK kvs)) (hl : kvs.length < sizeLine) : zkr H a (kV k) v (upd H a (.dK (za3 kvs k v))) := .inl ⟨kvs, k, e, rfl, hl, rfl⟩
theorem zkr.t {H : Hp} {a b : Addr} {kvs : List (List Key × V)} {k : List Key} {v : V} (e : H a = some (.dT kvs)) (eb : H b = some (.tup (k.map kV))) (hl : kvs.length < sizeLine) :
   zkr H a (.ref b) v (upd H a (.dT (za3 kvs k v))) := .inr ⟨kvs, k, b, e, rfl, eb, hl, rfl⟩
section
variable {X : Cx} {pins : List (Addr × Obj)} {σ : St} {H : Hp} {s : Shared} {a : Addr} {y v : V} {u r : Value} {o : Option V} {A : Around} {E : Value -> Shared -> Prop}
theorem Inv.big (I : Inv X pins σ H s) : sysModules < s.heap.objs.size := by
 have h : mainGlobals < s.heap.objs.size := (I.mod.glob.keeps I.bk).lt
 exact Nat.lt_trans (by decide) h
theorem zu4 {Q : Value -> Shared -> Prop} (hu : A.units + 1 < cLine) (I : Inv X pins σ H s) (g : zlb H a y (some v)) (ry : zdk y u) (h : ∀ w' s', Inv X pins σ H s' -> zdk v w' -> Q w' s') :
   wpAny (model X.prog X.w) A (getItem (.ref a) u) Q E s := by
 rcases g with ⟨kvs, k, e, ey, l⟩ | ⟨kvs, k, b, e, ey, eb, l⟩
 . subst ey
   obtain ⟨z, hd, vs, rel, dd⟩ := ztc I.hok e
   obtain ⟨w', hw, rw'⟩ := zof.some_of (v := v) (o := valueAt vs k) (by rw [l]; exact rel.val k)
   exact wpAny_getItem_of (zqz ry) dd.mapOf hw (h w' _ (I.tok _) rw')
 . subst ey
   cases (show u = Value.ref b from ry)
   obtain ⟨z, hd, xs, rel, dd⟩ := zs8 I.hok e
   obtain ⟨w', hw, rw'⟩ := zof.some_of (v := v) (o := (atKey xs k).map (·.2)) (by rw [l]; exact rel.val k)
   obtain ⟨p, hp, hp2⟩ := Option.map_eq_some_iff.mp hw
   refine wpAny_getItem_heap (tupleKind_room_in1 hu) (zon I.hok eb) dd hp ?_
   rw [hp2]
   exact h w' _ (I.tok _) rw'
theorem d_in {Q : Value -> Shared -> Prop} (hu : A.units + 1 < cLine) (I : Inv X pins σ H s) (g : zlb H a y o) (ry : zdk y u) (h : ∀ s', Inv X pins σ H s' -> Q (.bool o.isSome) s') :
   wpAny (model X.prog X.w) A (compareOp .In u (.ref a)) Q E s := by
 rcases g with ⟨kvs, k, e, ey, l⟩ | ⟨kvs, k, b, e, ey, eb, l⟩
 . subst ey
   obtain ⟨z, hd, vs, rel, dd⟩ := ztc I.hok e
   refine wpAny_in_of (zqz ry) hd dd.mapOf ?_
   rw [<- (rel.val k).isSome_eq, <- l]
   exact h _ (I.tok _)
 . subst ey
   cases (show u = Value.ref b from ry)
   obtain ⟨z, hd, xs, rel, dd⟩ := zs8 I.hok e
   refine wpAny_in_heap (tupleKind_room_in1 hu) (zon I.hok eb) hd dd ?_
   have q := (rel.val k).isSome_eq
   rw [Option.isSome_map] at q
   rw [<- q, <- l]
   exact h _ (I.tok _)
theorem znv {h' : Heap} {t' : Nat} {ob : HO} (I : Inv X pins σ H s) (mu : Mut (H a)) (hs : Heap.SameBut a s.heap h') (he : ∃ q, h'.get? a = some q) (new : zed X.prog X.w (upd H a ob) h' a ob) :
   Inv X pins σ (upd H a ob) { s with heap := h', toks := t' } :=
 I.write (x := a) (e := a) mu (.inl rfl) (λ b q hb z => (hs.2 b hb).trans z) he new
theorem zt9 {P : Program} {w : World} {H' : Hp} {h' : Heap} {kvs : List (Key × V)} {vs : List (Key × Value)} (z : kvs.length <= sizeLine) (hd : (a == sysModules) = false) (rel : KV kvs vs) (dd : h'.DictOf (zcc P w) a vs) :
   zed P w H' h' a (.dK kvs) := ⟨z, hd, vs, rel, dd⟩
theorem ztu {H' : Hp} {Q : Unit -> Shared -> Prop} (hu : A.units + 1 < cLine) (I : Inv X pins σ H s) (g : zkr H a y v H') (ry : zdk y u) (rv : zdk v r) (h : ∀ s', Inv X pins σ H' s' -> Q () s') :
   wpAny (model X.prog X.w) A (setItem (.ref a) u r) Q E s := by
 rcases g with ⟨kvs, k, e, ey, l, eH⟩ | ⟨kvs, k, b, e, ey, eb, l, eH⟩
 . subst ey eH
   obtain ⟨z, hd, vs, rel, dd⟩ := zwm I.hok e
   have hz : vs.length <= sizeLine := by rw [<- rel.length]; exact z
   have hl : (za3 kvs k v).length <= sizeLine := by have := zau kvs k v; omega
   refine wpAny_setItem_pairs (hsz := hz) (zqz ry) dd λ h' dd' hs => h _ ?_
   have he : ∃ q, h'.get? a = some q := let ⟨q, _, _, hq, _⟩ := dd'; ⟨q, hq⟩
   exact znv I (by rw [e]; exact True.intro) hs he (zt9 hl hd (rel.put k rv) dd')
 . subst ey eH
   cases (show u = Value.ref b from ry)
   obtain ⟨z, hd, xs, rel, dd⟩ := z3c I.hok e
   have hz : xs.length <= sizeLine := by rw [<- Paired.length rel]; exact z
   have hl : (za3 kvs k v).length <= sizeLine := by have := zau kvs k v; omega
   refine wpAny_setItem_heap (hsz := hz) (tupleKind_room_in1 hu) (zon I.hok eb) dd λ h' dd' hs => h _ ?_
   obtain ⟨q, es, ep, hq, h2, h3, h4, _, h5⟩ := dd'
   refine znv I (by rw [e]; exact True.intro) hs ⟨q, hq⟩ ⟨hl, hd, _, (rel.put k eb rv).keeps λ c ys ec => ?_, q, es, ep, hq, h2, h3, h4, h5⟩
   rw [zah (zqx ec e (λ z => nomatch z))]
   exact ec
end
def NoSl (i : Expr) : Prop := ∀ ov iv, subscripted i false ov iv = operate [ov, iv] (getItem ov iv)
theorem zzb {prog : Program} {w : World} {A : Around} {E : Value -> Shared -> Prop} {s : Shared} {env : Env} {value slice : Expr} {pos : Pos} {T id : String} {Q : Value -> Shared -> Prop}
   (hl : typeLookup (.type T) "__getitem__" = pure (some (.builtin id))) (hs : NoSl slice)
   (h : wpAny (model prog w) A (eval value env) (λ o s₁ => wpAny (model prog w) A (eval slice env) (λ i s₂ => s₂.TypeIs o T /\ wpAny (model prog w) A (getItem o i) Q E s₂) E s₁) E s) :
   wpAny (model prog w) A (eval (.Subscript value slice pos) env) Q E s := by
 refine Subscript_ (wpAny_mono h (λ o s₁ h₁ => wpAny_mono h₁ (λ i s₂ h₂ => ?_) λ _ _ x => x) λ _ _ x => x)
 obtain ⟨hT, h₂⟩ := h₂
 unfold subscriptTail
 refine wpAny_bind ?_
 rw [getitemInPython_of_ne hT.not_modules]
 refine wpAny_bind (wpAny_specialOf hT hl ?_)
 have fin : wpAny (model prog w) A (subscripted slice false o i) (λ r s₃ => wpAny (model prog w) A (letTemporaryGo value o r >>= λ _ => pure r) Q E s₃) E s₂ := by
   rw [hs o i]
   exact wpAny_operating (wpAny_mono h₂ (λ r s₃ h₃ => wpAny_bind (wpAny_letTemporaryGo (wpAny_pure h₃))) λ _ _ x => x)
 first
   | exact wpAny_pure (wpAny_bind fin)
   | exact wpAny_bind (wpAny_pure (wpAny_bind fin))
   | exact wpAny_bind fin
theorem zq7 {X : Cx} {pins : List (Addr × Obj)} {σ : St} {H : Hp} {s : Shared} {a : Addr} {y : V} {o : Option V} (I : Inv X pins σ H s) (g : zlb H a y o) : s.TypeIs (.ref a) "dict" := by
 rcases g with ⟨kvs, k, e, _, _⟩ | ⟨kvs, k, b, e, _, _, _⟩
 . obtain ⟨_, _, vs, _, dd⟩ := ztc I.hok e
   exact dd.typeIs
 . obtain ⟨_, _, xs, _, dd⟩ := zs8 I.hok e
   exact dd.typeIs
def z28 (td ty : TE) : TE := λ σ H Q => td σ H λ x H1 => ty σ H1 λ y H2 => ∃ a v, x = .ref a /\ zlb H2 a y (some v) /\ Q v H2
def tDIn (ty td : TE) : TE := λ σ H Q => ty σ H λ y H1 => td σ H1 λ x H2 => ∃ a o, x = .ref a /\ zlb H2 a y o /\ Q (.bl o.isSome) H2
def z2r (td ty tv : TE) : TS := λ D σ H => tv σ H λ v H1 => td σ H1 λ x H2 => ty σ H2 λ y H3 => ∃ a H4, x = .ref a /\ zkr H3 a y v H4 /\ D.nx σ H4
section
variable {X : Cx} {o i e value : Expr} {pos pos' tpos : Pos} {td ty tv : TE}
theorem zdl (hu : X.A.units + 1 < cLine) (ho : PE X o td) (hi : PE X i ty) (hs : NoSl i) : PE X (.Subscript o i pos) (z28 td ty) := by
 intro pins s σ H Q I h
 refine zzb PySem.F.slot_dict_getitem.lookup hs (thn (ho pins s σ H _ I h) λ u s1 ⟨x, H1, I1, rx, q1⟩ => thn (hi pins s1 σ H1 _ I1 q1) λ iv s2 ⟨y, H2, I2, ry, a, v, ex, g, q2⟩ => ?_)
 subst ex
 obtain rfl : u = Value.ref a := rx
 exact ⟨zq7 I2 g, zu4 hu I2 g ry λ w' s3 I3 rw' => ⟨v, H2, I3, rw', q2⟩⟩
theorem z1w (hu : X.A.units + 1 < cLine) (hi : PE X i ty) (ho : PE X o td) : PC X .In i o (tDIn ty td) := by
 intro pins s σ H Q I h
 refine thn (hi pins s σ H _ I h) λ iv s1 ⟨y, H1, I1, ry, q1⟩ => thn (ho pins s1 σ H1 _ I1 q1) λ u s2 ⟨x, H2, I2, rx, a, ov, ex, g, q2⟩ => ?_
 subst ex
 obtain rfl : u = Value.ref a := rx
 exact d_in hu I2 g ry λ s3 I3 => ⟨.bl ov.isSome, H2, I3, rfl, q2⟩
theorem zda (hu : X.A.units + 1 < cLine) (ho : PE X o td) (hi : PE X i ty) (hv : PE X value tv) (hs : swapsWith value (some (.Subscript o i pos')) pos.line X.env = pure false) :
   PS X (.Assign [.Subscript o i pos'] value pos) (z2r td ty tv) := by
 intro pins s σ H D I h
 refine wpAny_Assign_Subscript (thn (hv pins s σ H _ I h) λ r s1 ⟨v, H1, I1, rv, q1⟩ => thn (ho pins s1 σ H1 _ I1 q1) λ u s2 ⟨x, H2, I2, rx, q2⟩ => thn (hi pins s2 σ H2 _ I2 q2) λ iv s3 ⟨y, H3, I3, ry, a, H4, ex, g, q3⟩ => ?_) hs
 subst ex
 obtain rfl : u = Value.ref a := rx
 exact ztu hu I3 g ry rv λ s4 I4 => ⟨σ, H4, I4, q3⟩
end
theorem zrn {P : Program} {w : World} {H : Hp} (h : Heap) (hb : sysModules < h.objs.size) : zed P w H (h.push { cls := .type "dict", data := .dict #[] }) h.objs.size (.dK []) :=
 ⟨Nat.zero_le _, beq_eq_false_iff_ne.mpr (Ne.symm (Nat.ne_of_lt hb)), [], .nil, Heap.DictOf.new h⟩
theorem zxr {P : Program} {w : World} {H : Hp} (h : Heap) (hb : sysModules < h.objs.size) : zed P w H (h.push { cls := .type "dict", data := .dict #[] }) h.objs.size (.dT []) :=
 ⟨Nat.zero_le _, beq_eq_false_iff_ne.mpr (Ne.symm (Nat.ne_of_lt hb)), [], .nil, _, #[], 0, Heap.get?_push_size _ rfl, ⟨rfl, rfl, rfl⟩, rfl, rfl, List.nodup_nil⟩
def z1c : TE := λ _ H Q => ∀ p, H p = none -> Q (.ref p) (upd H p (.dK []))
def z1h : TE := λ _ H Q => ∀ p, H p = none -> Q (.ref p) (upd H p (.dT []))
section
variable {X : Cx} {pos : Pos}
theorem zes : PE X (.Dict [] [] pos) z1c := λ pins s σ H Q I h =>
 wpAny_Dict_empty ⟨.ref s.heap.objs.size, _, I.laid (a := s.heap.objs.size) (o := .dK []) (t' := s.toks) (λ _ _ q => Heap.get?_push_of_some _ q) (Nat.le_refl _) (zrn s.heap I.big), rfl, h _ (I.hok.fresh (Nat.le_refl _))⟩
theorem znt : PE X (.Dict [] [] pos) z1h := λ pins s σ H Q I h =>
 wpAny_Dict_empty ⟨.ref s.heap.objs.size, _, I.laid (a := s.heap.objs.size) (o := .dT []) (t' := s.toks) (λ _ _ q => Heap.get?_push_of_some _ q) (Nat.le_refl _) (zxr s.heap I.big), rfl, h _ (I.hok.fresh (Nat.le_refl _))⟩
end
structure M2 (X : Cx) (o : Expr) (m : Str) (apos : Pos) (e f : Expr) (cpos : Pos) : Prop where
 base : attributeBase o m X.env (eval o X.env) = eval o X.env
 few : ((backTo cpos (starEach [e, f] X.env)).all (λ x => !x.1) && (backToKw cpos (keywordEach [] X.env)).all (λ x => x.1.isSome)
   && decide (([e, f] : List Expr).length + ([] : List Keyword).length + (if ([] : List Keyword).isEmpty then 0 else 1) < 30)) = true
 line : (apos.endLine == cpos.line) = true
 trees : backTo cpos (starEach [e, f] X.env) = [(false, eval e X.env), (false, eval f X.env)]
def IsD (H : Hp) (a : Addr) : Prop := (∃ kvs, Rd H a (.dK kvs)) \/ ∃ kvs, Rd H a (.dT kvs)
theorem zyb {X : Cx} {pins : List (Addr × Obj)} {σ : St} {H : Hp} {s : Shared} {a : Addr} (I : Inv X pins σ H s) (d : IsD H a) :
   s.TypeIs (.ref a) "dict" /\ (∀ b, Value.ref a = .ref b -> ∃ ob, s.heap.get? b = some ob /\ ob.dict = none) /\ (a == sysModules) = false := by
 rcases d with ⟨kvs, e⟩ | ⟨kvs, e⟩
 . obtain ⟨_, hd, vs, _, dd⟩ := ztc I.hok e
   refine ⟨dd.typeIs, λ b q => ?_, hd⟩
   cases q
   obtain ⟨ob, _, _, h1, h2, _⟩ := dd
   exact ⟨ob, h1, h2.2.1⟩
 . obtain ⟨_, hd, xs, _, dd⟩ := zs8 I.hok e
   refine ⟨dd.typeIs, λ b q => ?_, hd⟩
   cases q
   obtain ⟨ob, _, _, h1, h2, _⟩ := dd
   exact ⟨ob, h1, h2.2.1⟩
section
variable {X : Cx} {pins : List (Addr × Obj)} {σ : St} {H : Hp} {s : Shared} {a : Addr} {y d : V} {u r : Value} {o : Option V} {A : Around} {E : Value -> Shared -> Prop}
theorem z18 {Q : Value -> Shared -> Prop} (hu : A.units + 1 < cLine) (I : Inv X pins σ H s) (g : zlb H a y o) (ry : zdk y u) (rd : zdk d r) (h : ∀ w' s', Inv X pins σ H s' -> zdk (o.getD d) w' -> Q w' s') :
   wpAny (model X.prog X.w) A (call (.builtin "dict.get") [.ref a, u, r]) Q E s := by
 rcases g with ⟨kvs, k, e, ey, l⟩ | ⟨kvs, k, b, e, ey, eb, l⟩
 . subst ey
   obtain ⟨z, hd, vs, rel, dd⟩ := ztc I.hok e
   refine call_meetsIn PySem.F.slot_dict_get dd.typeIs PySem.F.entry_dict_get (PySem.F.args_dict_get_3 _ _ _) (meets_dict_get_default (zcc X.prog X.w) a (zqz ry) hd r) ⟨_, dd.mapOf, h _ _ (I.tok _) ?_⟩
   rw [l]
   exact (rel.val k).getD rd
 . subst ey
   cases (show u = Value.ref b from ry)
   obtain ⟨z, hd, xs, rel, dd⟩ := zs8 I.hok e
   refine call_meetsIn PySem.F.slot_dict_get dd.typeIs PySem.F.entry_dict_get (PySem.F.args_dict_get_3 _ _ _) (meetsH_dict_get_default (tupleKind (zcc X.prog X.w)) a b hd r) ⟨tupleKind_room_in1 hu, k, xs, zon I.hok eb, dd, h _ _ (I.tok _) ?_⟩
   rw [l]
   exact (rel.val k).getD rd
end
def z05 (td ty tx : TE) : TE := λ σ H Q => td σ H λ x H1 => ∃ a, x = .ref a /\ IsD H1 a /\ ty σ H1 λ y H2 => tx σ H2 λ z H3 => ∃ o, zlb H3 a y o /\ Q (o.getD z) H3
section
variable {X : Cx} {o e f : Expr} {apos cpos : Pos} {td ty tx : TE}
theorem zjv (hu : X.A.units + 1 < cLine) (ho : PE X o td) (he : PE X e ty) (hf : PE X f tx) (m : M2 X o "get" apos e f cpos) : PE X (.Call (.Attribute o "get" apos) [e, f] [] cpos) (z05 td ty tx) := by
 intro pins s σ H Q I h
 refine wpAny_Call_method m.base m.few m.line PySem.F.plainAttrs_dict PySem.F.slot_dict_get PySem.F.type_dict_get (thn (ho pins s σ H _ I h) λ u s1 ⟨x, H1, I1, rx, a, ex, d, q1⟩ => ?_)
 subst ex
 obtain rfl : u = Value.ref a := rx
 obtain ⟨t1, t2, _⟩ := zyb I1 d
 refine ⟨t1, t2, ?_⟩
 rw [m.trees]
 refine Calls.callWith_builtin rfl (Calls.evalArgs_plain (Calls.spliced_cons (thn (he pins s1 σ H1 _ I1 q1) λ iv s2 ⟨y, H2, I2, ry, q2⟩ =>
   Calls.spliced_cons (thn (hf pins s2 σ H2 _ I2 q2) λ fv s3 ⟨z, H3, I3, rz, ov, g, q3⟩ => Calls.spliced_nil ?_))))
 exact z18 hu I3 g ry rz λ w' s4 I4 rw' => ⟨_, H3, I4, rw', q3⟩
end
end L2
namespace PySem
theorem zo7 : typeLookup (.type "list") "keys" = pure none := by rw [typeLookup_type, builtinLookup_eq_fast]; kernel_rfl
theorem zjx : entryFor table "dict.update.loop" = some Builtin.«dict.update.loop» := entryFor_of_tree (by kernel_rfl)
theorem zfm : plainId "dict.update.loop" = true := by decide +kernel
theorem zuo {prog : Program} {w : World} {A : Around} {E : Value -> Shared -> Prop} {s : Shared} {a : Addr} {o : Obj} {xs : Array Value} {k : Nat} {Q : Option Value -> Shared -> Prop}
   (hx : s.heap.get? a = some o) (hc : o.cls = .type "list") (hdat : o.data = .seq xs k) (hd : o.dict = none) (hA : A.handled = none)
   (h : ∀ h' tk, (∀ b ob, s.heap.get? b = some ob -> h'.get? b = some ob) -> Q none { s with heap := h', toks := tk }) :
   wpAny (model prog w) A (getAttr? (.ref a) "keys") Q E s := by
 obtain ⟨c, dct, dat, sl⟩ := o
 simp only at hc hdat hd
 subst hc hdat hd
 obtain ⟨hp, g, d, tk, os⟩ := s
 have hT : ∀ tk', (⟨hp, g, d, tk', os⟩ : Shared).TypeIs (.ref a) "list" := λ _ => ⟨_, hx, rfl⟩
 have f1 := sub_AttributeError
 have f3 := F.slot_list_getattribute.lookup
 have f4 := F.slot_list_getattribute.bind (.ref a)
 have f5 := am_list_getattr_none
 unfold getAttr? getAttrBy? getAttrBy
 repeat (any_goals (first | assumption | exact hT _ | ((with_reducible show wpAny _ _ (call (Value.builtin "list.__getattribute__") _ _) _ _ _); refine call_meets F.slot_list_getattribute (hT _) am_entry_list_getattribute (F.args_list_getattribute_2 _ _) (meets_getattribute_miss_list a xs k sl "keys" _ zo7 (by decide +kernel) (by decide +kernel)) ⟨hx, hA, λ h' tk' e hx' => ?_⟩) | wp_step))
 obtain ⟨t', u', he⟩ := hx'.there
 try (show wpAny _ _ (getattributeRaised _ _ _ _ _ _ _) _ _ _)
 try unfold getattributeRaised
 repeat (any_goals (first | assumption | wp_step))
 all_goals (first | exact h _ _ hx'.keeps | trace_state)
end PySem
namespace L2
open PySem PySem.Spec PyProof.Rows
section
variable {X : Cx} {pins : List (Addr × Obj)} {σ : St} {H : Hp}
theorem zjw {α β : Type} {F : α -> β -> Prop} : ∀ {l : List α} {m : List β}, Paired F l m -> ∀ {i : Nat} (h1 : i < l.length) (h2 : i < m.length), F l[i] m[i]
 | _, _, .cons h _, 0, _, _ => h
 | _, _, .cons _ t, i + 1, h1, h2 => by
   have := zjw t (i := i) (by simpa using h1) (by simpa using h2)
   simpa using this
theorem zt3 {A : Around} {R : Result -> Shared -> Prop} {p D it : Addr} {ps : List Addr} {kvs : List (Key × V)} (hA : A.handled = none) (hpD : p ≠ D) (hS : SqL X.K H p (ps.map V.ref)) (hps : Paired (λ a (kv : Key × V) => SqT X.K H a [kV kv.1, kv.2]) ps kvs)
   (hD : H D = none) (hz : kvs.length <= 100000) (hit0 : it ≠ D)
   (hR : ∀ s', Inv X pins σ (upd H D (.dK (kvs.foldl (λ acc kv => za3 acc kv.1 kv.2) []))) s' -> R (.ok (.ret .none)) s') :
   ∀ (k i : Nat) (t : Tok) (s : Shared), kvs.length - i = k -> i <= kvs.length -> Inv X pins σ (upd H D (.dK ((kvs.take i).foldl (λ acc kv => za3 acc kv.1 kv.2) []))) s -> s.heap.IsListIter it p i ->
     (∀ H', H' it = none -> ztv X pins H' it) -> H it = none -> codeAny (model X.prog X.w) A (.builtin "dict.update.loop" ⟨[.ref D, .ref it, .int (i : Nat) t, .none], []⟩) R s := by
 have sameD : ∀ o, zal H (upd H D o) := λ o => zal.new hD
 have hlen : ps.length = kvs.length := hps.length
 have flen : ∀ (l : List (Key × V)) (acc : List (Key × V)), (l.foldl (λ acc kv => za3 acc kv.1 kv.2) acc).length <= acc.length + l.length := by
   intro l
   induction l with
   | nil => intro acc; simp
   | cons x r ih =>
     intro acc
     rw [List.foldl_cons]
     have h1 := ih (za3 acc x.1 x.2)
     have h2 := zau acc x.1 x.2
     simp only [List.length_cons]
     omega
 have big : (100000 : Nat) < sizeLine := by decide
 intro k
 induction k with
 | zero =>
   intro i t s hk hi I hit hfp hHit
   have e : i = kvs.length := by omega
   subst e
   rw [List.take_length] at I
   obtain ⟨its, rv, pl, hz'⟩ := I.list ((sameD _).seq hS)
   obtain ⟨f0, f1, f2, f3, f4, f5⟩ := hfp (upd H D (.dK (kvs.foldl (λ acc kv => za3 acc kv.1 kv.2) []))) (by rw [zah hit0]; exact hHit)
   refine codeAny_builtin zjx ?_
   rw [Around.under_plainId zfm _]
   show wpAny _ A.in1 (pyNext (.ref it) >>= _) _ _ s
   have hl := rv.length
   rw [List.length_map] at hl
   refine wpAny_bind (wpAny_pyNext_list_end hA hit pl.isList (by simp; omega) λ h' eb => ?_)
   have I1 : Inv X pins σ (upd H D (.dK (kvs.foldl (λ acc kv => za3 acc kv.1 kv.2) []))) { s with heap := h' } := I.turned (t' := s.toks) (λ b o hb e => eb b o hb e) f0 f1 f3 f4 f5
   show wpAny _ _ (Builtin.Dict.addKeywords D [] >>= _) _ _ _
   exact wpAny_bind (wpAny_pure (wpAny_pure (hR _ I1)))
 | succ k ih =>
   intro i t s hk hi I hit hfp hHit
   have hlt : i < kvs.length := by omega
   obtain ⟨its, rv, pl, hz'⟩ := I.list ((sameD _).seq hS)
   have hpi : (ps.map V.ref)[i]? = some (.ref (ps[i]'(by omega))) := by simp [show i < ps.length by omega]
   obtain ⟨u, hu, ru⟩ := rv.get hpi
   cases (show u = Value.ref _ from ru)
   obtain ⟨f0, f1, f2, f3, f4, f5⟩ := hfp (upd H D (.dK ((kvs.take i).foldl (λ acc kv => za3 acc kv.1 kv.2) []))) (by rw [zah hit0]; exact hHit)
   refine codeAny_builtin zjx ?_
   rw [Around.under_plainId zfm _]
   show wpAny _ A.in1 (pyNext (.ref it) >>= _) _ _ s
   refine wpAny_bind (wpAny_pyNext_list_item hit pl.isList (x := .ref ps[i]) (by simpa using hu) λ h' hit' sb => ?_)
   have I1 : Inv X pins σ (upd H D (.dK ((kvs.take i).foldl (λ acc kv => za3 acc kv.1 kv.2) []))) { s with heap := h' } := I.turned (t' := s.toks) (λ b o hb e => (sb.2 b hb).trans e) f0 f1 f3 f4 f5
   have hpair : SqT X.K H ps[i] [kV (kvs[i]).1, (kvs[i]).2] := zjw hps (by omega) hlt
   obtain ⟨its2, rv2, ⟨o2, ho2, hc2, n2, hd2⟩, _⟩ := I1.tuple ((sameD _).tup hpair)
   cases rv2 with
   | cons r1 rr =>
     cases rr with
     | cons r2 rr =>
       cases rr
       rename_i ku vu
       refine wpAny_bind (wpAny_holding (wpAny_bind (wpAny_tryCatch ?_)))
       show wpAny _ _ (Builtin.Dict.pairItems (.ref ps[i])) _ _ _
       unfold Builtin.Dict.pairItems
       refine wpAny_bind (wpAny_typeOf (T := "tuple") ⟨o2, ho2, hc2⟩ ?_)
       rw [if_pos (by decide)]
       refine wpAny_bind ?_
       show wpAny _ _ (load ps[i] >>= _) _ _ _
       refine wpAny_bind (wpAny_load ho2 ?_)
       rw [hd2]
       refine wpAny_pure (wpAny_pure ?_)
       show wpAny _ _ (holding [ku, vu] (dictSet D ku vu)) _ _ _
       refine wpAny_holding ?_
       obtain ⟨z, hd, vs, rel, dd⟩ := zwm I1.hok zab
       have hl1 := flen (kvs.take i) []
       have hl2 : (kvs.take i).length <= kvs.length := by rw [List.length_take]; omega
       simp only [List.length_nil, Nat.zero_add] at hl1
       have hzv : vs.length <= sizeLine := by rw [<- rel.length]; exact z
       refine wpAny_dictSet_pairs (hsz := hzv) (zqz r1) dd λ h2 dd2 hs2 => ?_
       have he : ∃ q, h2.get? D = some q := let ⟨q, _, _, hq, _⟩ := dd2; ⟨q, hq⟩
       have hl3 : (za3 ((kvs.take i).foldl (λ acc kv => za3 acc kv.1 kv.2) []) (kvs[i]).1 (kvs[i]).2).length <= sizeLine := by
         have := zau ((kvs.take i).foldl (λ acc kv => za3 acc kv.1 kv.2) []) (kvs[i]).1 (kvs[i]).2
         omega
       have I2 := znv (t' := ({ s with heap := h' } : Shared).toks + 1) I1 (by rw [zab]; exact True.intro) hs2 he (zt9 hl3 hd (rel.put (kvs[i]).1 r2) dd2)
       rw [zln] at I2
       have e3 : (kvs.take (i + 1)).foldl (λ acc kv => za3 acc kv.1 kv.2) [] = za3 ((kvs.take i).foldl (λ acc kv => za3 acc kv.1 kv.2) []) (kvs[i]).1 (kvs[i]).2 := by
         rw [List.take_add_one, List.foldl_append]
         simp [hlt]
       rw [<- e3] at I2
       have hit2 : h2.IsListIter it p (i + 1) := by
         obtain ⟨oi, hoi, ri⟩ := hit'
         exact ⟨oi, (hs2.2 it hit0).trans hoi, ri⟩
       refine wpAny_pure ⟨plainId_quiet zfm _, ?_⟩
       have := ih (i + 1) 0 _ (by omega) (by omega) I2 hit2 hfp hHit
       exact this
end
end L2
namespace L2
open PySem PySem.Spec PyProof.Rows
section
variable {X : Cx}
def zzs (K : W.Frag) : List V -> Hp -> VK -> Prop := λ xs H Q => ∃ (p : Addr) (ps : List Addr) (kvs : List (Key × V)), xs = [.ref p] /\ SqL K H p (ps.map V.ref) /\ Paired (λ a (kv : Key × V) => SqT K H a [kV kv.1, kv.2]) ps kvs /\ kvs.length <= 100000 /\
 ∀ d, H d = none -> Q (.ref d) (upd H d (.dK (kvs.foldl (λ acc kv => za3 acc kv.1 kv.2) [])))
theorem zku (hc : X.calm = true) : zl7 X (.type "dict") (zzs X.K) := by
 intro pins s σ H xs us Q I r h
 obtain ⟨p, ps, kvs, rfl, hS, hps, hz, q⟩ := h
 obtain ⟨u, rfl, ru⟩ := zny r
 cases (show u = Value.ref p from ru)
 have hA := I.ok.hd hc
 have hD : H s.heap.objs.size = none := I.hok.fresh (Nat.le_refl _)
 obtain ⟨its, rv, pl, _⟩ := I.list hS
 have hplt : p < s.heap.objs.size := pl.lt
 have I0 : Inv X pins σ (upd H s.heap.objs.size (.dK [])) { s with heap := s.heap.push { cls := .type "dict", data := .dict #[] } } :=
   I.laid (a := s.heap.objs.size) (o := .dK []) (t' := s.toks) (λ _ _ q => Heap.get?_push_of_some _ q) (Nat.le_refl _) (zrn s.heap I.big)
 refine callType_codes (Q₁ := λ obj s₁ => obj = .ref s.heap.objs.size /\ s₁ = { s with heap := s.heap.push { cls := .type "dict", data := .dict #[] } }) PySem.F.kt_called_dict (PySem.F.kt_typeCall_dict_1 _) PySem.F.entry_dict_init (kt_code_dict_new _ ⟨rfl, rfl⟩) ?_
 rintro obj s₁ ⟨rfl, rfl⟩
 have hnew : (s.heap.push { cls := .type "dict", data := .dict #[] }).DictOf (zcc X.prog X.w) s.heap.objs.size [] := Heap.DictOf.new s.heap
 refine ⟨hnew.typeIs, PySem.F.args_dict_init_2 _ _, ?_⟩
 unfold Builtin.«dict.__init__»
 refine wpAny_bind ?_
 unfold Builtin.Dict.selfAndRest
 refine wpAny_bind (wpAny_notOrdered_dict hnew.typeIs ?_)
 show wpAny _ _ (pure (s.heap.objs.size, [Value.ref p])) _ _ _
 refine wpAny_pure ?_
 show wpAny _ _ (Builtin.Dict.updateFrom "dict.__init__" s.heap.objs.size (.ref p) [] .none) _ _ _
 unfold Builtin.Dict.updateFrom
 obtain ⟨o, n, ho, hcl, hdi, hda⟩ := pl
 have ho1 : (s.heap.push { cls := .type "dict", data := .dict #[] }).get? p = some o := Heap.get?_push_of_some _ ho
 refine wpAny_bind (wpAny_typeOf (T := "list") ⟨o, ho1, hcl⟩ ?_)
 rw [if_pos (by decide)]
 refine wpAny_bind (zuo (s := { s with heap := s.heap.push { cls := .type "dict", data := .dict #[] } }) ho1 hcl hda hdi hA λ h' tk hk => ?_)
 have I1 : Inv X pins σ (upd H s.heap.objs.size (.dK [])) { s with heap := h', toks := tk } := I0.kept hk
 rw [if_pos (by rfl)]
 refine wpAny_bind (wpAny_rule ?_)
 have ho2 : h'.get? p = some o := hk _ _ ho1
 refine wpAny_bind (wpAny_pyIter_list (s := { s with heap := h', toks := tk }) (items := its.toArray) ⟨o, ho2, hcl, n, hda⟩ ?_)
 have I2 : Inv X pins σ (upd H s.heap.objs.size (.dK [])) { s with heap := h'.push { cls := .type "list_iterator", data := .fields #[.ref p, .int 0 0] }, toks := tk } := I1.kept (t' := tk) λ b o e => Heap.get?_push_of_some _ e
 have hsz : s.heap.objs.size < h'.objs.size := by
   have e : (s.heap.push { cls := .type "dict", data := .dict #[] }).get? s.heap.objs.size = some { cls := .type "dict", data := .dict #[] } := Heap.get?_push_size _ rfl
   exact Heap.lt_size (hk _ _ e)
 have hit0 : h'.objs.size ≠ s.heap.objs.size := Nat.ne_of_gt hsz
 have hHit : H h'.objs.size = none := I.hok.fresh (Nat.le_of_lt hsz)
 refine wpAny_pure ⟨plainId_quiet zfm _, ?_⟩
 refine zt3 (A := X.A.in1) (it := h'.objs.size) hA (Nat.ne_of_lt hplt) hS hps hD hz hit0 (λ s' J => ⟨rfl, .ref s.heap.objs.size, _, J, rfl, q _ hD⟩) kvs.length 0 0 _ (by omega) (Nat.zero_le _) (by simpa using I2) ⟨_, Heap.get?_push_size _ rfl, rfl, rfl⟩ (λ H' hn => I1.fpOk (Nat.le_refl _) hn) hHit
theorem zur : ∀ (xs : List V) (us : List Value), xs.length = us.length -> (∀ (i : Nat) (x : V) (u : Value), xs[i]? = some x -> us[i]? = some u -> zdk x u) -> zc6 xs us
 | [], [], _, _ => .nil
 | [], _ :: _, h, _ => by simp at h
 | _ :: _, [], h, _ => by simp at h
 | x :: xs, u :: us, h, k => .cons (k 0 x u rfl rfl) (zur xs us (by simpa using h) λ i y v e1 e2 => k (i + 1) y v (by simpa using e1) (by simpa using e2))
theorem zym {P : Program} {w : World} {k : Key} {v : Value} (h : (zcc P w).is k v = true) : zdk (kV k) v := by
 rcases zc5 (show zqh k v = true from h) with ⟨i, t, rfl, rfl⟩ | ⟨x, t, rfl, rfl⟩
 . exact ⟨t, rfl⟩
 . exact ⟨t, rfl⟩
theorem zts {P : Program} {w : World} {kvs : List (Key × V)} {vs : List (Key × Value)} {acc : Array Value} (rel : KV kvs vs) (h : ItemsOf (λ i v => ∃ k x, vs[i]? = some (k, x) /\ (zcc P w).is k v = true) acc vs.length) :
   zc6 (kvs.map λ kv => kV kv.1) acc.toList := by
 have hl := rel.length
 have el : acc.toList.length = acc.size := by simp
 have hlen : (kvs.map λ kv => kV kv.1).length = acc.toList.length := by rw [List.length_map, el, h.1]; exact hl
 refine zur _ _ hlen λ i x u e1 e2 => ?_
 obtain ⟨k, y, e3, e4⟩ := h.2 i u (by simpa using e2)
 rw [List.getElem?_map] at e1
 cases e5 : kvs[i]? with
 | none => rw [e5] at e1; cases e1
 | some kv =>
   rw [e5] at e1
   have e1 : kV kv.1 = x := by simpa using e1
   have e6 : kv.1 = k := by
     have h1 : i < kvs.length := (List.getElem?_eq_some_iff.mp e5).1
     have h2 : i < vs.length := by omega
     have e7 := zjw rel h1 h2
     have e8 : kvs[i] = kv := by have := List.getElem?_eq_some_iff.mp e5; exact this.2
     have e9 : vs[i] = (k, y) := by have := List.getElem?_eq_some_iff.mp e3; exact this.2
     rw [e8, e9] at e7
     exact e7.1
   rw [<- e1, e6]
   exact zym e4
theorem zpu (hc : X.calm = true) : zl7 X (.type "list") (λ xs H Q => ∃ d kvs, xs = [.ref d] /\ H d = some (.dK kvs) /\ ∀ l, H l = none -> Q (.ref l) (upd H l (.lst (kvs.map λ kv => kV kv.1)))) := by
 intro pins s σ H xs us Q I r h
 obtain ⟨d, kvs, rfl, hd, q⟩ := h
 obtain ⟨u, rfl, ru⟩ := zny r
 cases (show u = Value.ref d from ru)
 obtain ⟨z, lo, vs, rel, dd⟩ := zwm I.hok hd
 have hlen := rel.length
 obtain ⟨ep, dat⟩ : ∃ ep, s.heap.DictAt (zcc X.prog X.w) d vs ep := dd.dictAt
 refine PySem.W.kdl_call (PySem.W.kdl_dict (knd := zcc X.prog X.w) (kvs := vs) (ep := ep) lo) (I.ok.hd hc) dat (by rw [<- hlen]; exact z) λ h' tk acc' c' hk hS hit => ?_
 have hv : zc6 (kvs.map λ kv => kV kv.1) acc'.toList := zts rel hit
 refine ⟨.ref s.heap.objs.size, _, I.laid (a := s.heap.objs.size) (o := .lst (kvs.map λ kv => kV kv.1)) hk (Nat.le_refl _) ⟨by rw [List.length_map]; exact z, acc'.toList, c', hv, by simpa using hS⟩, rfl, q _ (I.hok.fresh (Nat.le_refl _))⟩
end
end L2
namespace L2
open PySem PySem.Spec PyProof.Rows PySem.W
section
variable {prog : Program} {w : World} {A : Around} {E : Value -> Shared -> Prop} {s : Shared} {δ : Type} {R : δ -> Value -> Prop} {a : Addr} {D : List (Str × δ)} {k : Str} {tk : Tok} {d : δ}
theorem zm1 (T : KTD.TabOf R s.heap a D) : s.TypeIs (.ref a) "dict" := let ⟨_, o, _, _, ho, hc, _⟩ := T; ⟨o, ho, hc.1⟩
theorem zp7 {Q : Value -> Shared -> Prop} (T : KTD.TabOf R s.heap a D) (hd : KTD.datumAt k D = some d) (h : ∀ v, R d v -> Q v { s with toks := s.toks + 1 }) :
   wpAny (model prog w) A (getItem (.ref a) (.str k tk)) Q E s := by
 have ty := zm1 T
 obtain ⟨_, o, es, ep, ho, hc, hdt, hr⟩ := T
 unfold getItem
 try with_reducible refine wpAny_holding ?_
 refine wpAny_bind (wpAny_sequenceKey ty (by decide) ?_)
 refine wpAny_bind (wpAny_callSpecial?_slot (name := Str.ofString "__getitem__") ty slot_dict_getitem
   (wpAny_call_entry slot_dict_getitem ty entry_dict_getitem ?_ (args_dict_getitem _ _)))
 show wpAny _ _ (dictGet a (.str k tk) >>= _) _ _ s
 refine wpAny_bind ?_
 unfold dictGet
 try with_reducible refine wpAny_holding ?_
 refine wpAny_bind (wpAny_pyHash_str (wpAny_bind (KTD.kt_dictFind_strs (s := { s with toks := s.toks + 1 }) ho hdt (by obtain ⟨l⟩ := es; simpa using hr.exact) ?_)))
 have hq : ∃ v, findBy (λ k v => v.isStr k) es k = some v /\ R d v := by
   have hf : findBy (λ k v => v.isStr k) es k = (es.toList.find? λ e => e.key.isStr k).map (·.val) := by
     obtain ⟨l⟩ := es
     simp [findBy]
   rw [hf]
   exact hr.find_some hd
 obtain ⟨v, hv, hR⟩ := hq
 rw [findBy_of_findIdx?] at hv
 cases hi : es.findIdx? λ e => e.key.isStr k with
 | none => rw [hi] at hv; cases hv
 | some i =>
   rw [hi] at hv
   have hv : es[i]?.map (·.val) = some v := hv
   refine wpAny_bind (wpAny_dictEntries (s := { s with toks := s.toks + 1 }) ho hdt (wpAny_pure ?_))
   show wpAny _ _ _ _ _ _
   rw [hv]
   exact wpAny_pure ⟨v, rfl, wpAny_pure (h v hR)⟩
end
def z2n (K : W.Frag) (d : Addr) (rows : List (Str × List V)) : Prop :=
 ∃ (o : Obj) (es : Array DictEntry) (ep : Nat), K.lookup d = some o /\ (d == sysModules) = false /\ o.ExactDict /\ o.data = .dict es ep /\ KTD.Rows (λ (xs : List V) v => ∃ a, v = .ref a /\ ∀ H : Hp, SqT K H a xs) es.toList rows
def z0z (K : W.Frag) : R2 := λ x y H Q => ∃ d rows k xs, x = .ref d /\ y = .str k /\ z2n K d rows /\ KTD.datumAt k rows = some xs /\ ∀ a, SqT K H a xs -> Q (.ref a) H
theorem z06 {X : Cx} : IxR X (z0z X.K) := by
 intro value slice pins s σ H x y v u Q I rx ry h hs
 obtain ⟨d, rows, k, xs, rfl, rfl, ⟨o, es, ep, ho, lo, hc, hd, hr⟩, hk, q⟩ := h
 cases (show v = Value.ref d from rx)
 obtain ⟨t, rfl⟩ := (show ∃ t, u = Value.str k t from ry)
 have T : KTD.TabOf (λ (xs : List V) v => ∃ a, v = .ref a /\ ∀ H : Hp, SqT X.K H a xs) s.heap d rows := ⟨lo, o, es, ep, I.kIn d o ho, hc, hd, hr⟩
 refine tail_any (zm1 T) slot_dict_getitem.lookup (zp7 T hk λ v hv => ?_) hs
 obtain ⟨a, rfl, hsq⟩ := hv
 exact ⟨.ref a, H, I.tok _, rfl, q a (hsq H)⟩
end L2
namespace L2
open PySem PySem.Spec PyProof.Rows
def zrc : V -> Value -> Bool
 | .non, .none => true
 | .bl b, .bool c => b == c
 | .int i, .int j _ => i == j
 | .str x, .str y _ => x == y
 | _, _ => false
theorem zq5 : ∀ {x : V} {v : Value}, zrc x v = true -> zdk x v := by
 intro x v h
 unfold zrc at h
 split at h
 . rfl
 . obtain rfl := beq_iff_eq.mp h; rfl
 . obtain rfl := beq_iff_eq.mp h; exact ⟨_, rfl⟩
 . obtain rfl := beq_iff_eq.mp h; exact ⟨_, rfl⟩
 . cases h
def zik : List V -> List Value -> Bool
 | [], [] => true
 | x :: xs, v :: vs => zrc x v && zik xs vs
 | _, _ => false
theorem zkx : ∀ {xs : List V} {vs : List Value}, zik xs vs = true -> zc6 xs vs
 | [], [], _ => .nil
 | x :: xs, v :: vs, h => by
   simp only [zik, Bool.and_eq_true] at h
   exact .cons (zq5 h.1) (zkx h.2)
 | [], _ :: _, h => by simp [zik] at h
 | _ :: _, [], h => by simp [zik] at h
def zn2 (K : W.Frag) (xs : List V) (v : Value) : Bool := match v with
 | .ref a => match K.lookup a with
   | some o => o.cls == .type "tuple" && (match o.data with | .seq its _ => decide (its.size <= sizeLine) && zik xs its.toList | _ => false)
   | none => false
 | _ => false
theorem zqt {K : W.Frag} (xs : List V) (v : Value) (h : zn2 K xs v = true) : ∃ a, v = .ref a /\ ∀ H : Hp, SqT K H a xs := by
 unfold zn2 at h
 split at h
 . rename_i a
   split at h
   . rename_i o ho
     rw [Bool.and_eq_true] at h
     obtain ⟨h1, h2⟩ := h
     split at h2
     . rename_i its n hd
       rw [Bool.and_eq_true] at h2
       exact ⟨a, rfl, λ H => .inr ⟨o, its, n, ho, beq_iff_eq.mp h1, hd, of_decide_eq_true h2.1, zkx h2.2⟩⟩
     . cases h2
   . cases h
 . cases h
theorem zpd {K : W.Frag} {d : Addr} {rows : List (Str × List V)} (h : KTD.tabLook (zn2 K) (λ a => K.lookup a) d rows = true) : z2n K d rows := by
 simp only [KTD.tabLook, Bool.and_eq_true] at h
 obtain ⟨h0, hl⟩ := h
 split at hl
 . rename_i o ho
   simp only [Bool.and_eq_true] at hl
   obtain ⟨⟨⟨e1, e2⟩, e3⟩, e4⟩ := hl
   split at e4
   . rename_i es ep hd
     exact ⟨o, es, ep, ho, by simpa using h0, ⟨beq_iff_eq.mp e1, by simpa using e2, by simpa using e3⟩, hd, KTD.rows_of_look zqt e4⟩
   . cases e4
 . cases hl
end L2
namespace L2
open PySem
def zyl : Expr -> Option (List V)
 | .Tuple es _ _ => zr3 es
 | _ => none
theorem zzf {X : Cx} {e : Expr} {vs : List V} (h : zyl e = some vs) : PE X e (tTup λ _ H Q => Q vs H) := by
 unfold zyl at h
 split at h
 . exact zcn (zv2 h)
 . cases h
end L2
namespace L2
open PySem PySem.Spec PyProof.Rows
section
variable {prog : Program} {w : World} {A : Around} {E : Value -> Shared -> Prop} {s : Shared}
theorem gx_nextOf_tup {it t : Addr} {i : Nat} {items : Array Value} {x : Value} {Q : Value -> Shared -> Prop} (hit : s.heap.IsTupleIter it t i) (ht : s.heap.IsTuple t items) (hx : items[i]? = some x)
   (hQ : ∀ h', h'.IsTupleIter it t (i + 1) -> Heap.SameBut it s.heap h' -> Q x { s with heap := h' }) : wpAny (model prog w) A (Builtin.SmallTypes.nextOf (.ref it)) Q E s := by
 obtain ⟨⟨o, ho, hc, hd⟩, ⟨ol, hol, _, nl, hdl⟩⟩ := (⟨id hit, ht⟩ : _ /\ _)
 unfold Builtin.SmallTypes.nextOf; refine wpAny_bind (wpAny_callSpecial?_slot (name := Str.ofString "__next__") hit.typeIs F.slot_tuple_iterator_next (wpAny_call_entry F.slot_tuple_iterator_next hit.typeIs F.entry_tuple_iterator_next ?_ (F.args_tuple_iterator_next_1 _)))
 show wpAny (model prog w) _ (field (.ref it) 0 >>= _) _ _ s; refine wpAny_bind (wpAny_field ho hd (x := .ref t) rfl ?_)
 show wpAny (model prog w) _ (if (Value.ref t == Value.none) = true then _ else _) _ _ s; rw [if_neg (by exact Bool.false_ne_true)]
 show wpAny (model prog w) _ (field (.ref it) 1 >>= _) _ _ s; refine wpAny_bind (wpAny_field ho hd (x := .int i 0) rfl ?_)
 show wpAny (model prog w) _ (seqItems? (.ref t) >>= _) _ _ s; refine wpAny_bind (wpAny_seqItems hol hdl ?_); simp only [Int.toNat_natCast, hx]
 refine wpAny_bind (wpAny_setField ho hd (by simp) (wpAny_pure ⟨x, rfl, wpAny_pure (hQ _ ⟨_, Heap.get?_update_self _ ho (Obj.isFreed_of_fields (Obj.data_mapFields hd _)), (Obj.cls_mapFields ..).trans hc, by rw [Obj.data_mapFields hd]; simp [rawInt]⟩ (Heap.SameBut.update ..))⟩))
theorem gx_nextOf_tup_end {it t : Addr} {i : Nat} {items : Array Value} {Q : Value -> Shared -> Prop} (hh : A.handled = none) (hit : s.heap.IsTupleIter it t i) (ht : s.heap.IsTuple t items) (hx : items[i]? = none)
   (hE : ∀ h' e, Heap.ExtBut it s.heap h' -> (∃ o, h'.get? e = some o /\ o.cls = .type "StopIteration") -> E (.ref e) { s with heap := h' }) : wpAny (model prog w) A (Builtin.SmallTypes.nextOf (.ref it)) Q E s := by
 obtain ⟨⟨o, ho, hc, hd⟩, ⟨ol, hol, _, nl, hdl⟩⟩ := (⟨id hit, ht⟩ : _ /\ _)
 unfold Builtin.SmallTypes.nextOf; refine wpAny_bind (wpAny_callSpecial?_slot (name := Str.ofString "__next__") hit.typeIs F.slot_tuple_iterator_next (wpAny_call_entry F.slot_tuple_iterator_next hit.typeIs F.entry_tuple_iterator_next ?_ (F.args_tuple_iterator_next_1 _)))
 show wpAny (model prog w) _ (field (.ref it) 0 >>= _) _ _ s; refine wpAny_bind (wpAny_field ho hd (x := .ref t) rfl ?_)
 show wpAny (model prog w) _ (if (Value.ref t == Value.none) = true then _ else _) _ _ s; rw [if_neg (by exact Bool.false_ne_true)]
 show wpAny (model prog w) _ (field (.ref it) 1 >>= _) _ _ s; refine wpAny_bind (wpAny_field ho hd (x := .int i 0) rfl ?_)
 show wpAny (model prog w) _ (seqItems? (.ref t) >>= _) _ _ s; refine wpAny_bind (wpAny_seqItems hol hdl ?_); simp only [Int.toNat_natCast, hx]
 refine wpAny_bind (wpAny_rule (wpAny_bind (wpAny_setField ho hd (by simp) ?_))); show wpAny (model prog w) _ (newExc (.type "StopIteration") [] >>= _) _ _ _
 refine wpAny_bind ?_; simp only [newExc, newTuple]; refine wpAny_bind (wpAny_newObj_type ?_ (by size_fits))
 refine wpAny_bind (m := firstArgMember _ _) (wpAny_of_eq (a := Value.none) (by first | rfl | (simp only [firstArgMember]; rfl)) (wpAny_newObj_type ?_ (by size_fits)))
 simp only [raiseNew]; refine wpAny_bind (wpAny_handled ?_); first | rw [show A.in1.handled = none from hh] | rw [hh]
 refine wpAny_bind (wpAny_pure (wpAny_throw (hE _ _ (((Heap.SameBut.update ..).extBut.push _).push _) ⟨_, Heap.get?_push_size _ rfl, rfl⟩)))
end
theorem zky {prog : Program} {w : World} {A : Around} (hh : A.handled = none) (it t : Addr) (hne : t ≠ it) (items : Array Value) :
   Draws prog w A it [it, t] items.size (λ i v => items[i]? = some v) (λ i h => h.IsTupleIter it t i /\ h.IsTuple t items) where
 live := λ _ _ ⟨⟨o, ho, _⟩, _⟩ => ⟨o, ho⟩
 frame := λ _ _ _ ⟨⟨o, ho, r⟩, ⟨o2, ho2, r2⟩⟩ hk => ⟨⟨o, hk it (by simp) o ho, r⟩, ⟨o2, hk t (by simp) o2 ho2, r2⟩⟩
 item := λ i s Q E hi ⟨s1, s2⟩ hQ => gx_nextOf_tup s1 s2 (x := items[i]) (by simp [hi]) λ h' hit' hs' => hQ _ h' s.toks (by simp [hi]) ⟨hit', s2.extBut hs'.extBut hne⟩ hs'
 done := λ s Q E ⟨s1, s2⟩ hE => gx_nextOf_tup_end hh s1 s2 (by simp) hE
end L2
namespace L2
open PySem PySem.Spec PyProof.Rows
section
variable {X : Cx} {pins : List (Addr × Obj)} {σ : St} {H : Hp} {s : Shared} {h' : Heap}
theorem Inv.turnedL {t' : Nat} {ch : List Addr} (I : Inv X pins σ H s) (k : ∀ b o, b ∉ ch -> s.heap.get? b = some o -> h'.get? b = some o) (hf : ∀ b ∈ ch, ztv X pins H b) : Inv X pins σ H { s with heap := h', toks := t' } := by
 have nit : ∀ b u, H b = some u -> b ∉ ch := λ b u e z => by rw [(hf b z).1] at e; cases e
 refine I.step (g' := s.gens) (d' := s.drawn) (ch := ch) (λ b hb => ⟨(hf b hb).2.2.2.1, (hf b hb).2.1, (hf b hb).2.2.2.2.1, (hf b hb).2.2.2.2.2⟩) (λ b o _ _ hc e _ => k b o hc e) (λ b o _ _ hc e _ => ⟨o.slots, k b o hc e⟩) (λ _ _ _ _ n => n) (λ b o hc e => ⟨o, k b o hc e⟩) (λ _ _ e => e) (λ _ _ _ e => e) (λ b ps e => ⟨#[], by rw [e]; simp⟩) (λ m hm => ?_) (λ b u e => ?_) I.bare
 . obtain ⟨o, es, ep, ho, r⟩ := hm
   exact ⟨o, es, ep, k _ _ (λ z => (hf _ z).2.1 rfl) ho, r⟩
 . have key : ∀ c, c = b \/ H c = some (.own b) -> c ∉ ch := λ c hc => by
     rcases hc with z | z
     . subst z; exact nit _ u e
     . exact nit c _ z
   exact (I.hok b u e).stay (λ c v hc q => k c v (key c hc) q) (λ _ q => q) λ _ _ q => q
theorem Inv.turnLaid {t' : Nat} {ch : List Addr} {a : Addr} {o : HO} (I : Inv X pins σ H s) (k : ∀ b o, b ∉ ch -> s.heap.get? b = some o -> h'.get? b = some o) (hf : ∀ b ∈ ch, ztv X pins H b) (hp : s.heap.objs.size <= a) (new : zed X.prog X.w (upd H a o) h' a o) :
   Inv X pins σ (upd H a o) { s with heap := h', toks := t' } := by
 have nit : ∀ b u, H b = some u -> b ∉ ch := λ b u e z => by rw [(hf b z).1] at e; cases e
 have hn : H a = none := I.hok.fresh hp
 refine I.step (g' := s.gens) (d' := s.drawn) (ch := ch) (λ b hb => ⟨(hf b hb).2.2.2.1, (hf b hb).2.1, (hf b hb).2.2.2.2.1, (hf b hb).2.2.2.2.2⟩) (λ b o _ _ hc e _ => k b o hc e) (λ b o _ _ hc e _ => ⟨o.slots, k b o hc e⟩) (λ b u _ q n => by rw [zah (λ z => by subst z; exact absurd (Nat.lt_of_lt_of_le (Heap.lt_size q) hp) (Nat.lt_irrefl _))]; exact n) (λ b o hc e => ⟨o, k b o hc e⟩) (λ b xs q => by rw [zah (zbv q hn)]; exact q) (λ b u xs q => by rw [zah (zbv q hn)]; exact q) (λ b ps q => ⟨#[], by rw [zah (zbv q hn), q]; simp⟩) (λ m hm => ?_) (λ b u e => ?_) I.bare
 . obtain ⟨o, es, ep, ho, r⟩ := hm
   exact ⟨o, es, ep, k _ _ (λ z => (hf _ z).2.1 rfl) ho, r⟩
 . by_cases hb : b = a
   . subst hb
     rw [zab] at e
     cases e
     exact new
   . rw [zah hb] at e
     have key : ∀ c, c = b \/ H c = some (.own b) -> c ∉ ch := λ c hc => by
       rcases hc with z | z
       . subst z; exact nit _ u e
       . exact nit c _ z
     exact (I.hok b u e).stay (λ c v hc q => k c v (key c hc) q) (λ c q => (zah (zbv q hn)).trans q) λ c xs q => (zah (zbv q hn)).trans q
end
theorem zkd (l : Addr) (items : Array Value) (n : Nat) (dct : Option Addr) (sl : Array (Option Value)) :
   Meets (Builtin.«enumerate.__new__» ⟨[.type "enumerate", .ref l], []⟩) (λ _ R s => s.heap.get? l = some { cls := .type "tuple", dict := dct, data := .seq items n, slots := sl } /\
     R (.ok (.ret (.ref (s.heap.push { cls := .type "tuple_iterator", data := .fields #[.ref l, .int 0 0] }).objs.size)))
       { s with heap := (s.heap.push { cls := .type "tuple_iterator", data := .fields #[.ref l, .int 0 0] }).push { cls := .type "enumerate", data := .fields #[.none, .bool false, .ref s.heap.objs.size, rawInt 0, .none, .none] } }) :=
 .of_wp λ prog w A R s h => by
   obtain ⟨h0, g0, d0, t0, o0⟩ := s
   obtain ⟨hl, h⟩ := h
   have hsub := sub_enumerate
   have hL : Heap.IsTuple (Shared.heap ⟨h0, g0, d0, t0, o0⟩) l items := ⟨_, hl, rfl, n, rfl⟩
   wp_walk using AutoSeq1.wpAny_loadPart' hl
   refine wpAny_stack_any λ st => wpAny_pure ?_
   split
   . rename_i c _ _ _ _ _
     cases (c == Value.type "enumerate") <;> (wp_walk using AutoSeq1.wpAny_loadPart' hl, wpAny_pyIter_tuple hL; exact ⟨_, rfl, h⟩)
   . wp_walk using AutoSeq1.wpAny_loadPart' hl, wpAny_pyIter_tuple hL; exact ⟨_, rfl, h⟩
theorem zk7 {prog : Program} {w : World} {A : Around} {E : Value -> Shared -> Prop} {s : Shared} {l : Addr} {items : Array Value} {Q : Value -> Shared -> Prop} (hL : s.heap.IsTuple l items)
   (h : ∀ h', IsEnum h' (s.heap.objs.size + 1) s.heap.objs.size 0 .none -> h'.IsTupleIter s.heap.objs.size l 0 -> (∀ b o, s.heap.get? b = some o -> h'.get? b = some o) -> Q (.ref (s.heap.objs.size + 1)) { s with heap := h' }) :
   wpAny (model prog w) A (call (.type "enumerate") [.ref l]) Q E s := by
 obtain ⟨⟨c, dct, dt, sl⟩, hl, hc, n, hd⟩ := hL
 cases (show c = .type "tuple" from hc); cases (show dt = .seq items n from hd)
 refine callType_new F.called_enumerate (by decide) (F.typeCall_enumerate_1 _) (F.newCall_enumerate_1 _) (λ obj => F.args_object_init_2 obj _) F.entry_enumerate_new (zkd l items n dct sl) ⟨hl, ?_⟩
 have hz : (s.heap.push { cls := .type "tuple_iterator", data := .fields #[.ref l, .int 0 0] }).objs.size = s.heap.objs.size + 1 := Heap.size_push ..
 have he : IsEnum ((s.heap.push { cls := .type "tuple_iterator", data := .fields #[.ref l, .int 0 0] }).push { cls := .type "enumerate", data := .fields #[.none, .bool false, .ref s.heap.objs.size, rawInt 0, .none, .none] }) (s.heap.objs.size + 1) s.heap.objs.size 0 .none := by
   have e := Heap.get?_push_size (s.heap.push { cls := .type "tuple_iterator", data := .fields #[.ref l, .int 0 0] }) (o := { cls := .type "enumerate", data := .fields #[.none, .bool false, .ref s.heap.objs.size, rawInt 0, .none, .none] }) rfl
   rw [hz] at e
   exact e
 show _ /\ _
 rw [hz]
 exact ⟨⟨_, he, rfl⟩, h _ he ⟨_, Heap.get?_push_of_some _ (Heap.get?_push_size _ rfl), rfl, rfl⟩ λ b o x => Heap.get?_push_of_some _ (Heap.get?_push_of_some _ x)⟩
def Ite (K : W.Frag) (a : Addr) : It :=
 ⟨λ i H => ∃ xs x, SqT K H a xs /\ xs[i]? = some x, λ i H y H' => ∃ b, y = .ref b /\ H b = none /\ ∀ xs x, SqT K H a xs -> xs[i]? = some x -> H' = upd H b (.tup [.int i, x]), λ i H => ∃ xs, SqT K H a xs /\ xs.length = i⟩
theorem zuk {P : Program} {w : World} {K : W.Frag} {elts : List Expr} {k : Nat} {pos : Pos} (a e it : Addr) (hne : e ≠ it) : Turn P w K (.Tuple elts k pos) (Ite K a) [e, it] e (λ i h => (∃ old, IsEnum h e it i old) /\ h.IsTupleIter it a i) where
 mem := by simp
 obj := λ i h st b hb => by
   obtain ⟨⟨old, he⟩, ⟨o, ho, hc, hd⟩⟩ := st
   rcases List.mem_cons.mp hb with z | z
   . subst z
     exact ⟨_, he, λ v z => by cases (show Data.fields _ = Data.cell v from z)⟩
   . have z : b = it := by simpa using z
     subst z
     exact ⟨o, ho, λ v z => by rw [hd] at z; cases z⟩
 keep := λ i h h' st kk => by
   obtain ⟨⟨old, he⟩, ⟨o, ho, r⟩⟩ := st
   exact ⟨⟨old, kk e (by simp) _ he⟩, ⟨o, kk it (by simp) o ho, r⟩⟩
 item := by
   intro X hP hw hK hc i pins s σ H E I hf st hg
   subst hP hw hK
   obtain ⟨⟨old, he⟩, hit⟩ := st
   obtain ⟨xs, x, hq, hx⟩ := hg
   obtain ⟨its, rv, p, hz⟩ := I.tuple hq
   have pt : s.heap.IsTuple a its.toArray := p
   obtain ⟨u, hu, ru⟩ := rv.get hx
   have hia : a ≠ it := λ z => by
     subst z
     obtain ⟨o1, h1, c1, _⟩ := hit
     obtain ⟨o2, h2, c2, _⟩ := pt
     rw [h1] at h2
     cases h2
     rw [c1] at c2
     injection c2 with c2
     exact absurd c2 (by decide)
   have hea : e ∉ [it, a] := λ z => by
     rcases List.mem_cons.mp z with z | z
     . exact hne z
     . have z : e = a := by simpa using z
       subst z
       obtain ⟨o2, h2, c2, _⟩ := pt
       rw [he] at h2
       cases h2
       injection (show Value.type "enumerate" = Value.type "tuple" from c2) with c2
       exact absurd c2 (by decide)
   have hlt : i < its.toArray.size := by
     have := (List.getElem?_eq_some_iff.mp hu).1
     simpa using this
   refine wpAny_pyNext_enum_itemD (zky (A := X.A.in1) (I.ok.hd hc) it a hia its.toArray) he ⟨hit, pt⟩ hlt hne hea λ y h' tk hy hout hst hT hsz hk => ?_
   refine ⟨_, rfl, wpAny_letOwnedTupleGo_enum hout λ h2 he2 hs2 => ?_⟩
   have hs2 : Heap.SameBut e h' h2 := hs2
   have hyu : y = u := by
     have hy : its.toArray[i]? = some y := hy
     have : its[i]? = some y := by simpa using hy
     rw [hu] at this
     exact (Option.some.inj this).symm
   subst hyu
   have helt : e < s.heap.objs.size := Heap.lt_size he
   have hfr : H s.heap.objs.size = none := I.hok.fresh (Nat.le_refl _)
   have hnS : s.heap.objs.size ≠ e := Nat.ne_of_gt helt
   have hT2 : h2.get? s.heap.objs.size = some { cls := .type "tuple", data := .seq #[.int i tk, y] } := (hs2.2 _ hnS).trans hT
   refine ⟨.ref s.heap.objs.size, upd H s.heap.objs.size (.tup [.int i, x]), I.turnLaid (t' := tk + 1) (ch := [e, it]) (λ b o hb q => ?_) hf (Nat.le_refl _) ?_, rfl, ⟨s.heap.objs.size, rfl, hfr, λ xs' x' hq' hx' => ?_⟩, ⟨⟨y, by exact_mod_cast he2⟩, ?_⟩, λ b hb => ?_⟩
   . have h1 : b ≠ e := λ z => hb (by simp [z])
     have h3 : b ≠ it := λ z => hb (by simp [z])
     exact (hs2.2 b h1).trans (hk b o h1 h3 q)
   . exact ⟨by show 2 <= sizeLine; decide, [.int i tk, y], .cons ⟨tk, rfl⟩ (.cons ru .nil), ⟨_, hT2, rfl, _, rfl⟩⟩
   . have := I.tuple_inj hq' hq
     subst this
     rw [hx] at hx'
     cases hx'
     rfl
   . obtain ⟨⟨o, ho, r⟩, _⟩ := hst
     exact ⟨o, (hs2.2 it hne.symm).trans ho, r⟩
   . have hb0 := (hf b hb).1
     rw [zah]
     . exact hb0
     . intro z
       subst z
       obtain ⟨o, ho, _⟩ := hit
       rcases List.mem_cons.mp hb with z | z
       . exact hnS z
       . have z : s.heap.objs.size = it := by simpa using z
         exact absurd (Heap.lt_size ho) (by rw [<- z]; exact Nat.lt_irrefl _)
 done := by
   intro X hP hw hK hc i pins s σ H E I hf st hg
   subst hP hw hK
   obtain ⟨⟨old, he⟩, hit⟩ := st
   obtain ⟨xs, hq, hx⟩ := hg
   obtain ⟨its, rv, p, hz⟩ := I.tuple hq
   have pt : s.heap.IsTuple a its.toArray := p
   have hl := rv.length
   have hia : a ≠ it := λ z => by
     subst z
     obtain ⟨o1, h1, c1, _⟩ := hit
     obtain ⟨o2, h2, c2, _⟩ := pt
     rw [h1] at h2
     cases h2
     rw [c1] at c2
     injection c2 with c2
     exact absurd c2 (by decide)
   have hi : i = its.toArray.size := by simp; omega
   refine wpAny_pyNext_enum_endD (zky (A := X.A.in1) (I.ok.hd hc) it a hia its.toArray) he (by rw [<- hi]; exact ⟨hit, pt⟩) λ h' eb => ⟨rfl, ?_⟩
   exact I.turnedL (t' := s.toks) (ch := [e, it]) (λ b o hb q => eb b o (λ z => hb (by simp [z])) q) hf
 self := λ _ _ _ _ _ st h => by
   obtain ⟨⟨old, he⟩, _⟩ := st
   exact wpAny_pyIter_enum he h
end L2
namespace L2
open PySem PySem.Spec PyProof.Rows
section
variable {X : Cx}
theorem zoh : bootBuiltins "enumerate" = some (.type "enumerate") := zpx
def z17 (K : W.Frag) (ta : TA) : TI := λ σ H R => ta σ H λ vs H1 => ∃ a, vs = [.ref a] /\ (∃ xs, SqT K H1 a xs) /\ R (Ite K a) H1
theorem zru {a : Expr} {ta : TA} {p pos tpos : Pos} {elts : List Expr} {k : Nat} (hg : Gl X "enumerate") (hm : X.mg "enumerate" = none) (ha : PA X [a] ta) (hs : starEach [a] X.env = [(false, eval a X.env)] := by rfl) : PI X (.Tuple elts k tpos) (.Call (.Name "enumerate" p) [a] [] pos) (z17 X.K ta) := by
 intro pins s σ H R I h
 refine Call_ (zjc I hg hm zoh (PyProof.Rows.callWith_type1 (thn (ha pos pins s σ H _ I h) λ us s1 ⟨vs, H1, I1, r1, q1⟩ => ?_) hs rfl))
 obtain ⟨a, e, ⟨xs, hq⟩, q⟩ := q1
 subst e
 cases r1 with
 | cons r rr =>
   cases rr
   cases r
   obtain ⟨its, rv, p, hz⟩ := I1.tuple hq
   refine zk7 (show s1.heap.IsTuple a its.toArray from p) λ h' he hit hk => ?_
   refine wpAny_pyIter_enum he ?_
   refine ⟨s1.heap.objs.size + 1, [s1.heap.objs.size + 1, s1.heap.objs.size], _, _, H1, rfl, I1.kept (t' := s1.toks) hk, zuk a (s1.heap.objs.size + 1) s1.heap.objs.size (Nat.succ_ne_self _), ⟨⟨.none, he⟩, hit⟩, λ b hb => ?_, q⟩
   rcases List.mem_cons.mp hb with z | z
   . subst z
     exact I1.fpOk (Nat.le_succ _) (I1.hok.fresh (Nat.le_succ _))
   . have z : b = s1.heap.objs.size := by simpa using z
     subst z
     exact I1.fpOk (Nat.le_refl _) (I1.hok.fresh (Nat.le_refl _))
theorem zom {K : W.Frag} {a : Addr} {xs : List V} {g : TG} {tb : TS} {D : zj7} {σ : St} {H : Hp} (Pv : Nat -> St -> Hp -> Prop) (h0 : Pv 0 σ H) (hl : ∀ i σ H, i <= xs.length -> Pv i σ H -> SqT K H a xs)
   (hs : ∀ i x σ H b, xs[i]? = some x -> Pv i σ H -> H b = none -> g (.ref b) σ (upd H b (.tup [.int i, x])) λ σ2 H2 => tb { D with nx := Pv (i + 1), ct := Pv (i + 1), bk := D.nx } σ2 H2) (hd : ∀ σ H, Pv xs.length σ H -> D.nx σ H) :
   ∃ W : Nat -> Nat -> St -> Hp -> Prop, (∃ m, W 0 m σ H) /\ ∀ i m σ H, W i m σ H -> ((Ite K a).stop i H /\ D.nx σ H) \/ ((Ite K a).go i H /\ ∃ N : St -> Hp -> Prop, (∀ σ' H', N σ' H' -> ∃ m', m' < m /\ W (i + 1) m' σ' H') /\ ∀ x H', (Ite K a).yld i H x H' -> g x σ H' λ σ2 H2 => tb { D with nx := N, ct := N, bk := D.nx } σ2 H2) := by
 refine ⟨λ i m σ H => m = xs.length - i /\ i <= xs.length /\ Pv i σ H, ⟨xs.length, by simp, Nat.zero_le _, h0⟩, ?_⟩
 rintro i m σ H ⟨rfl, hi, p⟩
 have q := hl i σ H hi p
 by_cases hlt : i < xs.length
 . refine .inr ⟨⟨xs, xs[i], q, by simp [hlt]⟩, Pv (i + 1), λ σ' H' p' => ⟨xs.length - (i + 1), by omega, rfl, hlt, p'⟩, λ x H' y => ?_⟩
   obtain ⟨b, rfl, hb, y⟩ := y
   rw [y xs xs[i] q (by simp [hlt])]
   exact hs i xs[i] σ H b (by simp [hlt]) p hb
 . have e : i = xs.length := by omega
   subst e
   exact .inl ⟨⟨xs, q, rfl⟩, hd σ H p⟩
end
end L2
namespace L2
open PySem PySem.Spec PyProof.Rows
section
variable {X : Cx} {pins : List (Addr × Obj)} {σ : St} {H : Hp} {s : Shared}
theorem Inv.freeze {d : Addr} {kvs : List (Key × V)} (I : Inv X pins σ H s) (e : H d = some (.dK kvs)) : ∃ o, s.heap.get? d = some o /\ Inv X pins σ (upd H d (.frz o (.dK kvs))) s := by
 obtain ⟨z, hd, vs, rel, ⟨o, es, ep, ho, r⟩⟩ := I.hok d _ e
 refine ⟨o, ho, ?_⟩
 have nd : ∀ b u, H b = some u -> u ≠ .dK kvs -> b ≠ d := λ b u q n z => by
   subst z
   rw [e] at q
   cases q
   exact n rfl
 refine I.step (g' := s.gens) (t' := s.toks) (d' := s.drawn) (h' := s.heap) (ch := []) (λ _ z => nomatch z) (λ b o _ _ _ q _ => q) (λ b o _ _ _ q _ => ⟨o.slots, q⟩) (λ b o _ _ n => ?_) (λ b o _ q => ⟨o, q⟩) (λ b xs q => ?_) (λ b o u q => ?_) (λ b ps q => ⟨#[], ?_⟩) (λ m hm => hm) (λ b u q => ?_) I.bare
 . rw [zah (λ z => by subst z; rw [e] at n; cases n)]
   exact n
 . rw [zah (nd b _ q (by intro z; cases z))]
   exact q
 . rw [zah (nd b _ q (by intro z; cases z))]
   exact q
 . rw [zah (nd b _ q (by intro z; cases z)), q]
   simp
 . have own : ∀ c b, H c = some (.own b) -> (upd H d (.frz o (.dK kvs))) c = some (.own b) := λ c b q => (zah (nd c _ q (by intro z; cases z))).trans q
   have tup : ∀ c xs, H c = some (.tup xs) -> (upd H d (.frz o (.dK kvs))) c = some (.tup xs) := λ c xs q => (zah (nd c _ q (by intro z; cases z))).trans q
   by_cases hb : b = d
   . subst hb
     rw [zab] at q
     cases q
     exact ⟨ho, (I.hok _ _ e).stay (λ _ _ _ q => q) (λ c q => own c _ q) tup⟩
   . rw [zah hb] at q
     exact (I.hok b u q).stay (λ _ _ _ q => q) (λ c q => own c _ q) tup
end
theorem zmt : entryFor table "dict_itemiterator.__iter__" = some Builtin.«dict_keyiterator.__iter__» := entryFor_alias (id' := "dict_keyiterator.__iter__") (by kernel_rfl) (by first | rfl | decide +kernel | (unfold String.splitOn; simp +decide [String.splitOnAux])) (by decide +kernel) (by kernel_rfl)
def Itd (o : Obj) (d : Addr) (kvs : List (Key × V)) : It :=
 ⟨λ i H => H d = some (.frz o (.dK kvs)) /\ i < kvs.length, λ i H y H' => ∃ b, y = .ref b /\ H b = none /\ ∀ kv, kvs[i]? = some kv -> H' = upd H b (.tup [kV kv.1, kv.2]), λ i H => H d = some (.frz o (.dK kvs)) /\ i = kvs.length⟩
theorem zvo {X : Cx} {pins : List (Addr × Obj)} {σ : St} {H : Hp} {s : Shared} {o : Obj} {d : Addr} {kvs : List (Key × V)} (I : Inv X pins σ H s) (e : H d = some (.frz o (.dK kvs))) {es0 : Array DictEntry} {ep : Nat} (hep : o.data = .dict es0 ep) :
   ∃ vs, KV kvs vs /\ s.heap.DictAt (zcc X.prog X.w) d vs ep := by
 obtain ⟨h1, z, hd, vs, rel, ⟨o', es, ep', ho, hx, hdat, r⟩⟩ := I.hok d _ e
 rw [h1] at ho
 cases ho
 rw [hep] at hdat
 cases hdat
 exact ⟨vs, rel, o, es0, h1, hx, hep, r⟩
theorem zs0 {P : Program} {w : World} {K : W.Frag} {elts : List Expr} {k : Nat} {pos : Pos} (o : Obj) (d it : Addr) (kvs : List (Key × V)) (es0 : Array DictEntry) (ep : Nat) (hep : o.data = .dict es0 ep) :
   Turn P w K (.Tuple elts k pos) (Itd o d kvs) [it] it (λ i h => ∃ ok ov, IsItemIter h it d i kvs.length ep ok ov) where
 mem := by simp
 obj := λ i h st b hb => by
   obtain ⟨ok, ov, he⟩ := st
   have z : b = it := by simpa using hb
   subst z
   exact ⟨_, he, λ v z => by cases (show Data.fields _ = Data.cell v from z)⟩
 keep := λ i h h' st kk => by
   obtain ⟨ok, ov, he⟩ := st
   exact ⟨ok, ov, kk it (by simp) _ he⟩
 item := by
   intro X hP hw hK hc i pins s σ H E I hf st hg
   subst hP hw hK
   obtain ⟨ok, ov, he⟩ := st
   obtain ⟨hfz, hi⟩ := hg
   obtain ⟨vs, rel, hD⟩ := zvo I hfz hep
   have hlen : kvs.length = vs.length := KV.length rel
   have hi' : i < vs.length := by omega
   have rk : kvs[i].1 = vs[i].1 /\ zdk kvs[i].2 vs[i].2 := zjw rel hi hi'
   refine wpAny_pyNext_items_item (knd := zcc X.prog X.w) (k := vs[i].1) (v := vs[i].2) (kvs := vs) (by rw [<- hlen]; exact he) hD (by simp [hi']) λ key h' hkey hout hT hsz hk => ?_
   refine ⟨_, rfl, wpAny_letOwnedTupleGo_items hout λ h2 he2 hs2 => ?_⟩
   have hs2 : Heap.SameBut it h' h2 := hs2
   have hilt : it < s.heap.objs.size := Heap.lt_size he
   have hnS : s.heap.objs.size ≠ it := Nat.ne_of_gt hilt
   have hfr : H s.heap.objs.size = none := I.hok.fresh (Nat.le_refl _)
   have hT2 : h2.get? s.heap.objs.size = some { cls := .type "tuple", data := .seq #[key, vs[i].2] } := (hs2.2 _ hnS).trans hT
   refine ⟨.ref s.heap.objs.size, upd H s.heap.objs.size (.tup [kV kvs[i].1, kvs[i].2]), I.turnLaid (t' := s.toks) (ch := [it]) (λ b o hb q => ?_) hf (Nat.le_refl _) ?_, rfl, ⟨s.heap.objs.size, rfl, hfr, λ kv hkv => ?_⟩, ⟨_, _, by rw [hlen]; exact he2⟩, λ b hb => ?_⟩
   . have h1 : b ≠ it := λ z => hb (by simp [z])
     exact (hs2.2 b h1).trans (hk b o h1 q)
   . exact ⟨by show 2 <= sizeLine; decide, [key, vs[i].2], .cons (by rw [rk.1]; exact zym hkey) (.cons rk.2 .nil), ⟨_, hT2, rfl, _, rfl⟩⟩
   . have : kvs[i] = kv := by simpa [hi] using hkv
     rw [<- this]
   . have z : b = it := by simpa using hb
     subst z
     rw [zah hnS.symm]
     exact (hf _ hb).1
 done := by
   intro X hP hw hK hc i pins s σ H E I hf st hg
   subst hP hw hK
   obtain ⟨ok, ov, he⟩ := st
   obtain ⟨hfz, hi⟩ := hg
   obtain ⟨vs, rel, hD⟩ := zvo I hfz hep
   have hlen : kvs.length = vs.length := KV.length rel
   refine wpAny_pyNext_items_end (knd := zcc X.prog X.w) (kvs := vs) (I.ok.hd hc) (by rw [<- hlen]; exact he) hD (by simp; omega) λ h' eb => ⟨rfl, ?_⟩
   exact I.turnedL (t' := s.toks) (ch := [it]) (λ b o hb q => eb b o (λ z => hb (by simp [z])) q) hf
 self := λ A i s Q E st h => by
   obtain ⟨ok, ov, he⟩ := st
   have hT : s.TypeIs (.ref it) "dict_itemiterator" := ⟨_, he, rfl⟩
   exact wpAny_pyIter_slot hT F.slot_dict_itemiterator_iter (wpAny_call_entry F.slot_dict_itemiterator_iter hT zmt (show wpAny _ _ (ret (.ref it)) _ _ s from wpAny_pure ⟨_, rfl, "dict_itemiterator", _, hT, F.slot_dict_itemiterator_next.lookup, h⟩) (F.args_dict_itemiterator_iter_1 _))
section
variable {X : Cx}
def z00 (td : TE) : TI := λ σ H R => td σ H λ x H1 => ∃ d kvs, x = .ref d /\ ((H1 d = some (.dK kvs) /\ ∀ o, R (Itd o d kvs) (upd H1 d (.frz o (.dK kvs)))) \/ ∃ o, H1 d = some (.frz o (.dK kvs)) /\ R (Itd o d kvs) H1)
theorem zrh {l : Expr} {td : TE} {apos cpos tpos : Pos} {elts : List Expr} {k : Nat} (hl : PE X l td) (hbase : attributeBase l "items" X.env (eval l X.env) = eval l X.env := by rfl) (hline : (apos.endLine == cpos.line) = true := by rfl) :
   PI X (.Tuple elts k tpos) (.Call (.Attribute l "items" apos) [] [] cpos) (z00 td) := by
 intro pins s σ H R I h
 refine wpAny_Call_method0_late hbase hline (thn (hl pins s σ H _ I h) λ v s1 ⟨x, H1, I1, r1, q1⟩ => ?_)
 obtain ⟨d, kvs, rfl, q1⟩ := q1
 cases r1
 have key : ∃ o H2, Inv X pins σ H2 s1 /\ H2 d = some (.frz o (.dK kvs)) /\ R (Itd o d kvs) H2 := by
   rcases q1 with ⟨e, q⟩ | ⟨o, e, q⟩
   . obtain ⟨o, ho, I2⟩ := I1.freeze e
     exact ⟨o, _, I2, zab, q o⟩
   . exact ⟨o, H1, I1, e, q⟩
 obtain ⟨o, H2, I2, e2, q⟩ := key
 obtain ⟨ho, z, hd, vs, rel, dd⟩ := I2.hok d _ e2
 obtain ⟨o', es, ep, ho', hx, hdat, r⟩ := id dd
 rw [ho] at ho'
 cases ho'
 refine ⟨"dict", "dict.items", PySem.F.plainAttrs_dict, PySem.F.slot_dict_items, PySem.F.type_dict_items, dd.typeIs, λ b q => ?_, Calls.callWith_builtin rfl (PySem.evalArgs_none ?_)⟩
 . cases q
   exact ⟨o, ho, hx.2.1⟩
 refine call_meetsIn PySem.F.slot_dict_items dd.typeIs PySem.F.entry_dict_items (PySem.F.args_dict_items_1 _) (meets_dict_items (zcc X.prog X.w) d hd) ⟨⟨vs, dd⟩, ?_⟩
 have I3 : Inv X pins σ H2 { s1 with heap := s1.heap.push { cls := .type "dict_items", data := .fields #[.ref d] } } := I2.kept (t' := s1.toks) λ b o e => Heap.get?_push_of_some _ e
 obtain ⟨vs3, rel3, hD3⟩ := zvo I3 e2 hdat
 refine wpAny_pyIter_items (knd := zcc X.prog X.w) (kvs := vs3) (ep := ep) ⟨_, Heap.get?_push_size _ rfl, rfl, rfl⟩ hD3 ?_
 have hlen : kvs.length = vs3.length := KV.length rel3
 rw [<- hlen]
 generalize hh3 : s1.heap.push { cls := .type "dict_items", data := .fields #[.ref d] } = h3 at I3 ⊢
 refine ⟨h3.objs.size, [h3.objs.size], _, _, H2, rfl, I3.kept (t' := s1.toks) λ b o e => Heap.get?_push_of_some _ e, zs0 o d h3.objs.size kvs es ep hdat, ⟨_, _, Heap.get?_push_size _ rfl⟩, λ b hb => ?_, q⟩
 have z : b = h3.objs.size := by simpa using hb
 subst z
 exact I3.fpOk (Nat.le_refl _) (I3.hok.fresh (Nat.le_refl _))
theorem zo8 {o : Obj} {d : Addr} {kvs : List (Key × V)} {g : TG} {tb : TS} {D : zj7} {σ : St} {H : Hp} (Pv : Nat -> St -> Hp -> Prop) (h0 : Pv 0 σ H) (hl : ∀ i σ H, i <= kvs.length -> Pv i σ H -> H d = some (.frz o (.dK kvs)))
   (hs : ∀ i kv σ H b, kvs[i]? = some kv -> Pv i σ H -> H b = none -> g (.ref b) σ (upd H b (.tup [kV kv.1, kv.2])) λ σ2 H2 => tb { D with nx := Pv (i + 1), ct := Pv (i + 1), bk := D.nx } σ2 H2) (hd : ∀ σ H, Pv kvs.length σ H -> D.nx σ H) :
   ∃ W : Nat -> Nat -> St -> Hp -> Prop, (∃ m, W 0 m σ H) /\ ∀ i m σ H, W i m σ H -> ((Itd o d kvs).stop i H /\ D.nx σ H) \/ ((Itd o d kvs).go i H /\ ∃ N : St -> Hp -> Prop, (∀ σ' H', N σ' H' -> ∃ m', m' < m /\ W (i + 1) m' σ' H') /\ ∀ x H', (Itd o d kvs).yld i H x H' -> g x σ H' λ σ2 H2 => tb { D with nx := N, ct := N, bk := D.nx } σ2 H2) := by
 refine ⟨λ i m σ H => m = kvs.length - i /\ i <= kvs.length /\ Pv i σ H, ⟨kvs.length, by simp, Nat.zero_le _, h0⟩, ?_⟩
 rintro i m σ H ⟨rfl, hi, p⟩
 have q := hl i σ H hi p
 by_cases hlt : i < kvs.length
 . refine .inr ⟨⟨q, hlt⟩, Pv (i + 1), λ σ' H' p' => ⟨kvs.length - (i + 1), by omega, rfl, hlt, p'⟩, λ x H' y => ?_⟩
   obtain ⟨b, rfl, hb, y⟩ := y
   rw [y kvs[i] (by simp [hlt])]
   exact hs i kvs[i] σ H b (by simp [hlt]) p hb
 . have e : i = kvs.length := by omega
   subst e
   exact .inl ⟨⟨q, rfl⟩, hd σ H p⟩
end
section
variable {X : Cx} {o e f : Expr} {apos cpos : Pos} {td ty tx : TE}
def z1f (td ty tx : TE) : TE := λ σ H Q => td σ H λ x H1 => ∃ a, x = .ref a /\ IsD H1 a /\ ty σ H1 λ y H2 => tx σ H2 λ z H3 => ∃ kvs k, H3 a = some (.dK kvs) /\ y = kV k /\ kvs.length < sizeLine /\
 (∀ v, zdc kvs k = some v -> Q v H3) /\ (zdc kvs k = none -> Q z (upd H3 a (.dK (za3 kvs k z))))
theorem zw5 (ho : PE X o td) (he : PE X e ty) (hf : PE X f tx) (m : M2 X o "setdefault" apos e f cpos) : PE X (.Call (.Attribute o "setdefault" apos) [e, f] [] cpos) (z1f td ty tx) := by
 intro pins s σ H Q I h
 refine wpAny_Call_method m.base m.few m.line PySem.F.plainAttrs_dict PySem.F.slot_dict_setdefault PySem.F.type_dict_setdefault (thn (ho pins s σ H _ I h) λ u s1 ⟨x, H1, I1, rx, a, ex, d, q1⟩ => ?_)
 subst ex
 obtain rfl : u = Value.ref a := rx
 obtain ⟨t1, t2, _⟩ := zyb I1 d
 refine ⟨t1, t2, ?_⟩
 rw [m.trees]
 refine Calls.callWith_builtin rfl (Calls.evalArgs_plain (Calls.spliced_cons (thn (he pins s1 σ H1 _ I1 q1) λ iv s2 ⟨y, H2, I2, ry, q2⟩ => Calls.spliced_cons (thn (hf pins s2 σ H2 _ I2 q2) λ fv s3 ⟨z, H3, I3, rz, kvs, k, ea, ey, hl, q3, q4⟩ => Calls.spliced_nil ?_))))
 subst ey
 obtain ⟨hz, hd, vs, rel, dd⟩ := zwm I3.hok ea
 refine call_meetsIn PySem.F.slot_dict_setdefault dd.typeIs PySem.F.entry_dict_setdefault (PySem.F.args_dict_setdefault_3 _ _ _) (kt_meets_setdefault (zcc X.prog X.w) a (zqz ry) hd fv) ⟨vs, dd, by rw [<- rel.length]; exact hz, λ v hv => ?_, λ hn h' dd' hs => ?_⟩
 . have rv := rel.val k
   rw [hv] at rv
   cases l : zdc kvs k with
   | none => rw [l] at rv; exact absurd rv (by intro z; cases z)
   | some v' =>
     rw [l] at rv
     exact ⟨v', H3, I3.tok _, rv, q3 v' l⟩
 . have rv := rel.val k
   rw [hn] at rv
   have l : zdc kvs k = none := by
     cases l : zdc kvs k with
     | none => rfl
     | some v' => rw [l] at rv; exact absurd rv (by intro z; cases z)
   have hex : ∃ q, h'.get? a = some q := let ⟨q, _, _, hq, _⟩ := dd'; ⟨q, hq⟩
   have hlp : (za3 kvs k z).length <= sizeLine := by have := zau kvs k z; omega
   exact ⟨z, _, znv I3 (by rw [ea]; exact True.intro) hs hex (zt9 hlp hd (rel.put k rz) dd'), rz, q4 l⟩
end
end L2
namespace L2
open PySem PySem.Spec PyProof.Rows
def Itn (hi : Int) (n : Nat) : It := ⟨λ i _ => i < n, λ i H x H' => H' = H /\ x = .int (hi - i), λ i _ => n <= i⟩
theorem zu9 {P : Program} {w : World} {K : W.Frag} {tg : Expr} (it : Addr) (hi : Int) (n : Nat) : Turn P w K tg (Itn hi n) [it] it (λ i h => IsRangeIter h it (hi + (i : Nat) * (-1)) ((n : Int) - (i : Nat)) (-1)) where
 mem := by simp
 obj := λ i h st b hb => by
   have e : b = it := by simpa using hb
   subst e
   exact ⟨_, st, λ v z => by cases (show Data.fields _ = Data.cell v from z)⟩
 keep := λ i h h' st k => k it (by simp) _ st
 item := by
   intro X hP hw hK hc i pins s σ H E I hf st hg
   subst hP hw hK
   refine (Walks.range (prog := X.prog) (w := X.w) (I.ok.hd hc) it hi (-1) n).item i s _ _ hg st λ v h' tk hv st' kk => ?_
   obtain ⟨t, rfl⟩ := hv
   have I1 : Inv X pins σ H { s with heap := h', toks := tk } := I.turnedL (ch := [it]) (λ b o hb e => kk b o hb e) hf
   have e : hi + (i : Int) * (-1) = hi - (i : Int) := by omega
   exact ⟨_, rfl, zw2 (s := { s with heap := h', toks := tk }) (n := "range_iterator") st' rfl rfl (by decide) ⟨.int (hi - i), H, I1, ⟨t, by rw [e]⟩, ⟨rfl, rfl⟩, st', λ b hb => (hf b hb).1⟩⟩
 done := by
   intro X hP hw hK hc i pins s σ H E I hf st hg
   subst hP hw hK
   exact wpAny_pyNext_range_end (I.ok.hd hc) st (by have : n <= i := hg; omega) λ h' eb => ⟨rfl, I.turnedL (t' := s.toks) (ch := [it]) (λ b o hb e => eb b o (λ z => hb (by simp [z])) e) hf⟩
 self := λ _ _ _ _ _ st h => wpAny_pyIter_rangeiter st h
theorem ziu (a b : Int) : Builtin.Range.rangeSize a b (-1) = if b < a then a - b else 0 := by
 unfold Builtin.Range.rangeSize
 rw [if_neg (by decide)]
 have : (-(-1) : Int) = 1 := by decide
 rw [this]
 rw [Int.ediv_one]
 by_cases h : b < a
 . rw [if_pos h, if_pos h]; omega
 . rw [if_neg h, if_neg h]
theorem zs4 {a b : Int} (ha : -(2 ^ 60) <= a) (ha' : a < 2 ^ 60) (hb : -(2 ^ 60) <= b) (hb' : b < 2 ^ 60) : Builtin.Range.small a b (-1) = true := by
 unfold Builtin.Range.small
 rw [ziu]
 simp only [Builtin.Range.rangeFitsLong, Bool.and_eq_true, Bool.or_eq_true, decide_eq_true_eq, beq_iff_eq, show ¬ ((-1 : Int) > 0) by decide, if_false]
 by_cases h : b < a
 . simp only [if_pos h]; omega
 . simp only [if_neg h]; omega
section
variable {X : Cx} {tg : Expr}
def z2l (ta : TA) : TI := λ σ H R => ta σ H λ vs H1 => ∃ i j : Int, vs = [.int i, .int j, .int (-1)] /\ (-(2 ^ 60) <= i /\ i < 2 ^ 60 /\ -(2 ^ 60) <= j /\ j < 2 ^ 60) /\ R (Itn i (i - j).toNat) H1
theorem zz7 {a b c : Expr} {ta : TA} {p pos : Pos} (hg : Gl X "range") (hm : X.mg "range" = none) (ha : PA X [a, b, c] ta) (hs : starEach [a, b, c] X.env = (false, eval a X.env) :: starEach [b, c] X.env := by rfl) (hs2 : (backTo pos (starEach [b, c] X.env)).any (·.1) = false := by rfl) :
   PI X tg (.Call (.Name "range" p) [a, b, c] [] pos) (z2l ta) := by
 intro pins s σ H R I h
 refine Call_ (zjc I hg hm boot_range (PyProof.Rows.callWith_type1 (thn (ha pos pins s σ H _ I h) λ us s1 ⟨vs, H1, I1, r1, q1⟩ => ?_) hs hs2))
 obtain ⟨i, j, e, ⟨q1, q2, q3, q4⟩, q⟩ := q1
 subst e
 cases r1 with
 | cons r rr =>
   cases rr with
   | cons r' rr =>
     cases rr with
     | cons r'' rr =>
       cases rr
       obtain ⟨t, rfl⟩ := r
       obtain ⟨t', rfl⟩ := r'
       obtain ⟨t'', rfl⟩ := r''
       refine call_range_3 (by decide) ?_ (.inl (PyProof.noPylong_small (by omega)))
       refine wpAny_pyIter_range (IsRange.new ..) (zs4 q1 q2 q3 q4) ?_
       have I2 : Inv X pins σ H1 { s1 with heap := s1.heap.push { cls := .type "range", data := .fields #[.int i t, .int j t', .int (-1) t''] }, toks := s1.toks } := I1.kept λ b o e => Heap.get?_push_of_some _ e
       refine ⟨_, [(s1.heap.push { cls := .type "range", data := .fields #[.int i t, .int j t', .int (-1) t''] }).objs.size], _, _, H1, rfl, I2.kept (t' := s1.toks) λ b o e => Heap.get?_push_of_some _ e, zu9 _ i (i - j).toNat, ?_, λ b hb => ?_, q⟩
       . have e1 : i + ((0 : Nat) : Int) * (-1) = i := by omega
         have e2 : (((i - j).toNat : Nat) : Int) - ((0 : Nat) : Int) = Builtin.Range.rangeSize i j (-1) := by rw [ziu]; split <;> omega
         show IsRangeIter _ _ (i + ((0 : Nat) : Int) * (-1)) ((((i - j).toNat : Nat) : Int) - ((0 : Nat) : Int)) (-1)
         rw [e1, e2]
         exact Heap.get?_push_size _ rfl
       . have e : b = (s1.heap.push { cls := .type "range", data := .fields #[.int i t, .int j t', .int (-1) t''] }).objs.size := by simpa using hb
         subst e
         exact I2.fpOk (Nat.le_refl _) (I2.hok.fresh (Nat.le_refl _))
theorem zxd {hi : Int} {n : Nat} {g : TG} {tb : TS} {D : zj7} {σ : St} {H : Hp} (Pv : Nat -> St -> Hp -> Prop) (h0 : Pv 0 σ H) (hs : ∀ i σ H, i < n -> Pv i σ H -> g (.int (hi - i)) σ H λ σ2 H2 => tb { D with nx := Pv (i + 1), ct := Pv (i + 1), bk := D.nx } σ2 H2) (hd : ∀ σ H, Pv n σ H -> D.nx σ H) :
   ∃ W : Nat -> Nat -> St -> Hp -> Prop, (∃ m, W 0 m σ H) /\ ∀ i m σ H, W i m σ H -> ((Itn hi n).stop i H /\ D.nx σ H) \/ ((Itn hi n).go i H /\ ∃ N : St -> Hp -> Prop, (∀ σ' H', N σ' H' -> ∃ m', m' < m /\ W (i + 1) m' σ' H') /\ ∀ x H', (Itn hi n).yld i H x H' -> g x σ H' λ σ2 H2 => tb { D with nx := N, ct := N, bk := D.nx } σ2 H2) := by
 refine ⟨λ i m σ H => m = n - i /\ i <= n /\ Pv i σ H, ⟨n, by simp, Nat.zero_le _, h0⟩, ?_⟩
 rintro i m σ H ⟨rfl, hi', p⟩
 by_cases hlt : i < n
 . refine .inr ⟨hlt, Pv (i + 1), λ σ' H' p' => ⟨n - (i + 1), by omega, rfl, hlt, p'⟩, λ x H' y => ?_⟩
   obtain ⟨e, y⟩ := y
   subst e y
   exact hs i σ _ hlt p
 . have e : i = n := by omega
   subst e
   exact .inl ⟨Nat.le_refl _, hd σ H p⟩
end
end L2
namespace L2
open PySem PySem.Spec PyProof.Rows
def zx2 (K : W.Frag) : R2 := λ x y H Q => ∃ a b ys, x = .ref a /\ y = .ref b /\ SqT K H a [] /\ SqT K H b ys /\ Q (.ref b) H
theorem zwu {X : Cx} : OpR X (binaryOp .Add) (zx2 X.K) := by
 intro pins s σ H x y v u Q I rx ry h
 obtain ⟨a, b, ys, rfl, rfl, ha, hb, q⟩ := h
 cases rx
 cases ry
 obtain ⟨its, r1, p1, _⟩ := I.tuple ha
 obtain ⟨its2, r2, p2, _⟩ := I.tuple hb
 obtain ⟨⟨cls, dd, data, sl⟩, ho, hc, n, hd⟩ := id p1
 obtain ⟨⟨cls2, dd2, data2, sl2⟩, ho2, hc2, n2, hd2⟩ := id p2
 simp only at hc hd hc2 hd2
 subst hc hd hc2 hd2
 exact concat_meets ⟨_, ho, rfl⟩ ⟨_, ho2, rfl⟩ noFill_tuple_add seq_tuple_add PySem.F.slot_tuple_add PySem.F.entry_tuple_add (PySem.F.args_tuple_add_2 _ _)
   (tuple_addW0 a b its.toArray its2.toArray n n2 dd dd2 sl sl2 (by simp [r1.nil_iff.mpr rfl])) ⟨ho, ho2, ⟨.ref b, H, I, rfl, q⟩⟩
theorem znn {X : Cx} {st : Stmt} {rest : List Stmt} {t u : TS} (h1 : PS X st t) (h2 : PSs X rest u) : PSs X (st :: rest) (λ D σ H => ∃ M : St -> Hp -> Prop, t { D with nx := M } σ H /\ ∀ σ' H', M σ' H' -> u D σ' H') := by
 intro pins s σ H D I h
 obtain ⟨M, h, hm⟩ := h
 refine wpAny_execs_cons (thn (h1 pins s σ H { D with nx := M } I h) λ f s1 q => ?_)
 cases f with
 | next =>
   obtain ⟨σ', H', I', q⟩ := q
   exact h2 pins s1 σ' H' D I' (hm _ _ q)
 | ret v => exact q
 | brk => exact q
 | cont => exact q
end L2
namespace L2
open PySem PySem.Spec PyProof.Rows PySem.W
theorem Paired.len {α β : Type} {R : α -> β -> Prop} : ∀ {xs : List α} {ys : List β}, Paired R xs ys -> xs.length = ys.length
 | _, _, .nil => rfl
 | _, _, .cons _ r => by rw [List.length_cons, List.length_cons, Paired.len r]
def zyu : List V -> Hp -> VK -> Prop := λ xs H Q => ∃ a kvs, xs = [.ref a] /\ H a = some (.dK kvs) /\ ∀ d, H d = none -> Q (.ref d) (upd H d (.dK kvs))
theorem zok {X : Cx} : zl7 X (.type "dict") zyu := by
 intro pins s σ H xs us Q I r h
 obtain ⟨a, kvs, rfl, hH, q⟩ := h
 obtain ⟨u, rfl, ru⟩ := zny r
 cases (show u = Value.ref a from ru)
 obtain ⟨z, ha, vs, rel, da⟩ := I.hok a _ hH
 refine kt_call_dict ha da (by rw [<- Paired.len rel]; exact z) λ h' hm hs => ?_
 have hk : ∀ b u, s.heap.get? b = some u -> h'.get? b = some u := λ b u e => hs.extBut b u (Nat.ne_of_lt (Heap.lt_size e)) (Heap.get?_push_of_some _ e)
 exact ⟨.ref s.heap.objs.size, _, I.laid (a := s.heap.objs.size) (o := .dK kvs) (t' := s.toks) hk (Nat.le_refl _) ⟨z, beq_eq_false_iff_ne.mpr (Ne.symm (Nat.ne_of_lt I.big)), vs, rel, hm⟩, rfl, q _ (I.hok.fresh (Nat.le_refl _))⟩
end L2
namespace L2
open PySem PySem.Spec PyProof.Rows
mutual
theorem ztl.mono {K : W.Frag} {H H' : Hp} (e : zal H H') : ∀ (d : PyData) (v : V), ztl K H d v -> ztl K H' d v
 | .none, v, h => by unfold ztl at h ⊢; exact h
 | .bool b, v, h => by unfold ztl at h ⊢; exact h
 | .int i, v, h => by unfold ztl at h ⊢; exact h
 | .str x, v, h => by unfold ztl at h ⊢; exact h
 | .list ds, v, h => by
   unfold ztl at h ⊢
   obtain ⟨a, xs, rfl, hq, hd⟩ := h
   exact ⟨a, xs, rfl, e.seq hq, zh6.mono e ds xs hd⟩
 | .tuple ds, v, h => by
   unfold ztl at h ⊢
   obtain ⟨a, xs, rfl, hq, hd⟩ := h
   exact ⟨a, xs, rfl, e.tup hq, zh6.mono e ds xs hd⟩
 | .dict _, v, h => by unfold ztl at h; exact h.elim
theorem zh6.mono {K : W.Frag} {H H' : Hp} (e : zal H H') : ∀ (ds : List PyData) (xs : List V), zh6 K H ds xs -> zh6 K H' ds xs
 | [], xs, h => by unfold zh6 at h ⊢; exact h
 | d :: ds, xs, h => by
   unfold zh6 at h ⊢
   obtain ⟨x, r, rfl, hd, hds⟩ := h
   exact ⟨x, r, rfl, ztl.mono e d x hd, zh6.mono e ds r hds⟩
end
def ers (l : Addr) (H : Hp) : Hp := λ b => if b = l then none else H b
theorem zdf {l b : Addr} {H : Hp} (h : b ≠ l) : ers l H b = H b := by unfold ers; rw [if_neg h]
theorem zig {l : Addr} {H : Hp} : zal (ers l H) H := λ b o h => by
 unfold ers at h
 split at h
 . cases h
 . exact h
theorem zal.ers {l : Addr} {H H' : Hp} (e : zal H H') : zal (ers l H) (ers l H') := λ b o h => by
 unfold L2.ers at h ⊢
 split at h
 . cases h
 . rename_i hb
   rw [if_neg hb]
   exact e b o h
end L2
namespace Gx
open PySem L2
theorem le0 : 0 <= sizeLine := by decide
theorem le1 : 1 <= sizeLine := by decide
theorem le2 : 2 <= sizeLine := by decide
theorem le3 : 3 <= sizeLine := by decide
theorem le4 : 4 <= sizeLine := by decide
theorem at0 {x : V} {r : List V} : atI (x :: r) 0 = some x := by
 unfold atI ixN
 rw [if_pos (by decide), if_pos (by simp)]
 rfl
theorem vq {Q : VK} {H : Hp} {x y : V} (h : x = y) (q : Q y H) : Q x H := by subst h; exact q
theorem zea (z n : Int) (h : 0 < n) : 0 <= z % n /\ z % n < n := ⟨Int.emod_nonneg _ (by omega), Int.emod_lt_of_pos _ h⟩
theorem zl4 {α : Type} {es : List α} {f : α -> V} {i : Nat} {x : V} (h : (es.map f)[i]? = some x) : ∃ e, es[i]? = some e /\ e ∈ es /\ x = f e := by
 rw [List.getElem?_map] at h
 cases he : es[i]? with
 | none => rw [he] at h; cases h
 | some e => rw [he] at h; cases h; exact ⟨e, rfl, List.mem_of_getElem? he, rfl⟩
end Gx
namespace L2
open PySem PySem.Spec PyProof.Rows
def tTru (K : W.Frag) (ta : TE) : TT := λ σ H Q => ta σ H λ x H' => ∃ k, z3i K x H' k /\ Q k H'
theorem z04 {X : Cx} {K : W.Frag} {a : Expr} {ta : TE} (hK : X.K = K) (ha : PE X a ta) (he : ∀ whole, isTrue a X.env whole = (do let v <- whole; standAt a.pos; holding [v] (truthy v))) : PT X a (tTru K ta) := by
 subst hK
 exact zwx ha he
end L2
namespace Gx
open PySem L2
def tx (l : List Nat) : Str := ⟨l.toArray⟩
theorem zjg (l : List Nat) : (tx l).cps.toList = l := by unfold tx; simp
theorem zit (l : List Nat) : (tx l).length = l.length := by unfold tx Str.length; simp
theorem z1i (a b : List Nat) : tx a ++ tx b = tx (a ++ b) := by
 show (⟨_ ++ _⟩ : Str) = _
 unfold tx
 simp
theorem z1s {a b : List Nat} (h : tx a = tx b) : a = b := by rw [<- zjg a, h, zjg]
theorem zwj {l : List Nat} {i j : Int} (h0 : 0 <= i) (h1 : i <= j) (h2 : j <= l.length) : Txt.slice (tx l) (some i) (some j) = tx ((l.drop i.toNat).take (j - i).toNat) := by
 have := PyProof.Rows.slice_closes (x := tx l) (i := i) (j := j) ⟨h0, h1, by rw [zjg]; exact h2⟩
 rw [beq_iff_eq, zjg] at this
 exact this
theorem ztn (y : Str) (ys : List Str) : PySem.Txt.join "" (y :: ys) = y ++ PySem.Txt.join "" ys := by
 show PySem.Builtin.Str.glued ("" : Str) (y :: ys) = y ++ PySem.Builtin.Str.glued ("" : Str) ys
 rw [PySem.StrLaws.glued_eq_join, PySem.StrLaws.glued_eq_join]
 cases ys with
 | nil =>
   show y = y ++ Str.empty
   cases y
   show _ = (⟨_ ++ #[]⟩ : Str)
   simp
 | cons z zs =>
   show y ++ "" ++ Str.join "" (z :: zs) = _
   have : y ++ ("" : Str) = y := by
     cases y
     show (⟨_ ++ #[]⟩ : Str) = _
     simp
   rw [this]
theorem zu3 : ∀ (ls : List (List Nat)), PySem.Txt.join "" (ls.map tx) = tx ls.flatten
 | [] => by
   show PySem.Builtin.Str.glued ("" : Str) [] = _
   rw [PySem.StrLaws.glued_eq_join]
   rfl
 | l :: ls => by rw [List.map_cons, ztn, zu3 ls, z1i, List.flatten_cons]
end Gx
namespace L2
open PySem PySem.Spec PyProof.Rows
def ItE (K : W.Frag) (a : Addr) : It :=
 ⟨λ i H => ∃ xs x, SqL K H a xs /\ xs[i]? = some x, λ i H y H' => ∃ b, y = .ref b /\ H b = none /\ ∀ xs x, SqL K H a xs -> xs[i]? = some x -> H' = upd H b (.tup [.int i, x]), λ i H => ∃ xs, SqL K H a xs /\ xs.length = i⟩
theorem zta {P : Program} {w : World} {K : W.Frag} {elts : List Expr} {k : Nat} {pos : Pos} (a e it : Addr) (hne : e ≠ it) : Turn P w K (.Tuple elts k pos) (ItE K a) [e, it] e (λ i h => (∃ old, IsEnum h e it i old) /\ h.IsListIter it a i) where
 mem := by simp
 obj := λ i h st b hb => by
   obtain ⟨⟨old, he⟩, ⟨o, ho, hc, hd⟩⟩ := st
   rcases List.mem_cons.mp hb with z | z
   . subst z
     exact ⟨_, he, λ v z => by cases (show Data.fields _ = Data.cell v from z)⟩
   . have z : b = it := by simpa using z
     subst z
     exact ⟨o, ho, λ v z => by rw [hd] at z; cases z⟩
 keep := λ i h h' st kk => by
   obtain ⟨⟨old, he⟩, ⟨o, ho, r⟩⟩ := st
   exact ⟨⟨old, kk e (by simp) _ he⟩, ⟨o, kk it (by simp) o ho, r⟩⟩
 item := by
   intro X hP hw hK hc i pins s σ H E I hf st hg
   subst hP hw hK
   obtain ⟨⟨old, he⟩, hit⟩ := st
   obtain ⟨xs, x, hq, hx⟩ := hg
   obtain ⟨its, rv, p, hz⟩ := I.list hq
   have pt : s.heap.IsList a its.toArray := p.isList
   obtain ⟨u, hu, ru⟩ := rv.get hx
   have hia : a ≠ it := λ z => by
     subst z
     obtain ⟨o1, h1, c1, _⟩ := hit
     obtain ⟨o2, h2, c2, _⟩ := pt
     rw [h1] at h2
     cases h2
     rw [c1] at c2
     injection c2 with c2
     exact absurd c2 (by decide)
   have hea : e ∉ [it, a] := λ z => by
     rcases List.mem_cons.mp z with z | z
     . exact hne z
     . have z : e = a := by simpa using z
       subst z
       obtain ⟨o2, h2, c2, _⟩ := pt
       rw [he] at h2
       cases h2
       injection (show Value.type "enumerate" = Value.type "list" from c2) with c2
       exact absurd c2 (by decide)
   have hlt : i < its.toArray.size := by
     have := (List.getElem?_eq_some_iff.mp hu).1
     simpa using this
   refine wpAny_pyNext_enum_itemD (Draws.list (A := X.A.in1) (I.ok.hd hc) it a hia its.toArray) he ⟨hit, pt⟩ hlt hne hea λ y h' tk hy hout hst hT hsz hk => ?_
   refine ⟨_, rfl, wpAny_letOwnedTupleGo_enum hout λ h2 he2 hs2 => ?_⟩
   have hs2 : Heap.SameBut e h' h2 := hs2
   have hyu : y = u := by
     have hy : its.toArray[i]? = some y := hy
     have : its[i]? = some y := by simpa using hy
     rw [hu] at this
     exact (Option.some.inj this).symm
   subst hyu
   have helt : e < s.heap.objs.size := Heap.lt_size he
   have hfr : H s.heap.objs.size = none := I.hok.fresh (Nat.le_refl _)
   have hnS : s.heap.objs.size ≠ e := Nat.ne_of_gt helt
   have hT2 : h2.get? s.heap.objs.size = some { cls := .type "tuple", data := .seq #[.int i tk, y] } := (hs2.2 _ hnS).trans hT
   refine ⟨.ref s.heap.objs.size, upd H s.heap.objs.size (.tup [.int i, x]), I.turnLaid (t' := tk + 1) (ch := [e, it]) (λ b o hb q => ?_) hf (Nat.le_refl _) ?_, rfl, ⟨s.heap.objs.size, rfl, hfr, λ xs' x' hq' hx' => ?_⟩, ⟨⟨y, by exact_mod_cast he2⟩, ?_⟩, λ b hb => ?_⟩
   . have h1 : b ≠ e := λ z => hb (by simp [z])
     have h3 : b ≠ it := λ z => hb (by simp [z])
     exact (hs2.2 b h1).trans (hk b o h1 h3 q)
   . exact ⟨by show 2 <= sizeLine; decide, [.int i tk, y], .cons ⟨tk, rfl⟩ (.cons ru .nil), ⟨_, hT2, rfl, _, rfl⟩⟩
   . have := I.list_inj hq' hq
     subst this
     rw [hx] at hx'
     cases hx'
     rfl
   . obtain ⟨⟨o, ho, r⟩, _⟩ := hst
     exact ⟨o, (hs2.2 it hne.symm).trans ho, r⟩
   . have hb0 := (hf b hb).1
     rw [zah]
     . exact hb0
     . intro z
       subst z
       obtain ⟨o, ho, _⟩ := hit
       rcases List.mem_cons.mp hb with z | z
       . exact hnS z
       . have z : s.heap.objs.size = it := by simpa using z
         exact absurd (Heap.lt_size ho) (by rw [<- z]; exact Nat.lt_irrefl _)
 done := by
   intro X hP hw hK hc i pins s σ H E I hf st hg
   subst hP hw hK
   obtain ⟨⟨old, he⟩, hit⟩ := st
   obtain ⟨xs, hq, hx⟩ := hg
   obtain ⟨its, rv, p, hz⟩ := I.list hq
   have pt : s.heap.IsList a its.toArray := p.isList
   have hl := rv.length
   have hia : a ≠ it := λ z => by
     subst z
     obtain ⟨o1, h1, c1, _⟩ := hit
     obtain ⟨o2, h2, c2, _⟩ := pt
     rw [h1] at h2
     cases h2
     rw [c1] at c2
     injection c2 with c2
     exact absurd c2 (by decide)
   have hi : i = its.toArray.size := by simp; omega
   refine wpAny_pyNext_enum_endD (Draws.list (A := X.A.in1) (I.ok.hd hc) it a hia its.toArray) he (by rw [<- hi]; exact ⟨hit, pt⟩) λ h' eb => ⟨rfl, ?_⟩
   exact I.turnedL (t' := s.toks) (ch := [e, it]) (λ b o hb q => eb b o (λ z => hb (by simp [z])) q) hf
 self := λ _ _ _ _ _ st h => by
   obtain ⟨⟨old, he⟩, _⟩ := st
   exact wpAny_pyIter_enum he h
end L2
namespace L2
open PySem PySem.Spec PyProof.Rows
section
variable {X : Cx}
def z19 (K : W.Frag) (ta : TA) : TI := λ σ H R => ta σ H λ vs H1 => ∃ a, vs = [.ref a] /\ (∃ xs, SqL K H1 a xs) /\ R (ItE K a) H1
theorem zxo {a : Expr} {ta : TA} {p pos tpos : Pos} {elts : List Expr} {k : Nat} (hg : Gl X "enumerate") (hm : X.mg "enumerate" = none) (ha : PA X [a] ta) (hs : starEach [a] X.env = [(false, eval a X.env)] := by rfl) : PI X (.Tuple elts k tpos) (.Call (.Name "enumerate" p) [a] [] pos) (z19 X.K ta) := by
 intro pins s σ H R I h
 refine Call_ (zjc I hg hm zoh (PyProof.Rows.callWith_type1 (thn (ha pos pins s σ H _ I h) λ us s1 ⟨vs, H1, I1, r1, q1⟩ => ?_) hs rfl))
 obtain ⟨a, e, ⟨xs, hq⟩, q⟩ := q1
 subst e
 cases r1 with
 | cons r rr =>
   cases rr
   cases r
   obtain ⟨its, rv, p, hz⟩ := I1.list hq
   refine call_enumerate_list p.isList λ h' he hit _ hk => ?_
   refine wpAny_pyIter_enum he ?_
   refine ⟨s1.heap.objs.size + 1, [s1.heap.objs.size + 1, s1.heap.objs.size], _, _, H1, rfl, I1.kept (t' := s1.toks) hk, zta a (s1.heap.objs.size + 1) s1.heap.objs.size (Nat.succ_ne_self _), ⟨⟨.none, he⟩, hit⟩, λ b hb => ?_, q⟩
   rcases List.mem_cons.mp hb with z | z
   . subst z
     exact I1.fpOk (Nat.le_succ _) (I1.hok.fresh (Nat.le_succ _))
   . have z : b = s1.heap.objs.size := by simpa using z
     subst z
     exact I1.fpOk (Nat.le_refl _) (I1.hok.fresh (Nat.le_refl _))
theorem zvt {K : W.Frag} {a : Addr} {xs : List V} {g : TG} {tb : TS} {D : zj7} {σ : St} {H : Hp} (Pv : Nat -> St -> Hp -> Prop) (h0 : Pv 0 σ H) (hl : ∀ i σ H, i <= xs.length -> Pv i σ H -> SqL K H a xs)
   (hs : ∀ i x σ H b, xs[i]? = some x -> Pv i σ H -> H b = none -> g (.ref b) σ (upd H b (.tup [.int i, x])) λ σ2 H2 => tb { D with nx := Pv (i + 1), ct := Pv (i + 1), bk := D.nx } σ2 H2) (hd : ∀ σ H, Pv xs.length σ H -> D.nx σ H) :
   ∃ W : Nat -> Nat -> St -> Hp -> Prop, (∃ m, W 0 m σ H) /\ ∀ i m σ H, W i m σ H -> ((ItE K a).stop i H /\ D.nx σ H) \/ ((ItE K a).go i H /\ ∃ N : St -> Hp -> Prop, (∀ σ' H', N σ' H' -> ∃ m', m' < m /\ W (i + 1) m' σ' H') /\ ∀ x H', (ItE K a).yld i H x H' -> g x σ H' λ σ2 H2 => tb { D with nx := N, ct := N, bk := D.nx } σ2 H2) := by
 refine ⟨λ i m σ H => m = xs.length - i /\ i <= xs.length /\ Pv i σ H, ⟨xs.length, by simp, Nat.zero_le _, h0⟩, ?_⟩
 rintro i m σ H ⟨rfl, hi, p⟩
 have q := hl i σ H hi p
 by_cases hlt : i < xs.length
 . refine .inr ⟨⟨xs, xs[i], q, by simp [hlt]⟩, Pv (i + 1), λ σ' H' p' => ⟨xs.length - (i + 1), by omega, rfl, hlt, p'⟩, λ x H' y => ?_⟩
   obtain ⟨b, rfl, hb, y⟩ := y
   rw [y xs xs[i] q (by simp [hlt])]
   exact hs i xs[i] σ H b (by simp [hlt]) p hb
 . have e : i = xs.length := by omega
   subst e
   exact .inl ⟨⟨xs, q, rfl⟩, hd σ H p⟩
end
end L2
namespace PySem
open Sem (wp)
def ItB (b : Bool) (h : Heap) (it l : Addr) (k : Nat) : Prop := match b with | true => h.IsTupleIter it l k | false => h.IsListIter it l k
def SqB (b : Bool) (h : Heap) (l : Addr) (xs : Array Value) : Prop := match b with | true => h.IsTuple l xs | false => h.IsList l xs
theorem ItB.at {b : Bool} {h h' : Heap} {it l : Addr} {k : Nat} (p : ItB b h it l k) (e : ∀ o, h.get? it = some o -> h'.get? it = some o) : ItB b h' it l k := by
 cases b <;> (obtain ⟨o, ho, r⟩ := p; exact ⟨o, e o ho, r⟩)
theorem SqB.at {b : Bool} {h h' : Heap} {l : Addr} {xs : Array Value} (p : SqB b h l xs) (e : ∀ o, h.get? l = some o -> h'.get? l = some o) : SqB b h' l xs := by
 cases b <;> (obtain ⟨o, ho, r⟩ := p; exact ⟨o, e o ho, r⟩)
theorem ItB.extBut {b : Bool} {h h' : Heap} {it l c : Addr} {k : Nat} (p : ItB b h it l k) (e : Heap.ExtBut c h h') (n : it ≠ c) : ItB b h' it l k := p.at λ o ho => e _ _ n ho
theorem SqB.extBut {b : Bool} {h h' : Heap} {l c : Addr} {xs : Array Value} (p : SqB b h l xs) (e : Heap.ExtBut c h h') (n : l ≠ c) : SqB b h' l xs := p.at λ o ho => e _ _ n ho
theorem ItB.lt {b : Bool} {h : Heap} {it l : Addr} {k : Nat} (p : ItB b h it l k) : it < h.objs.size := by
 cases b <;> (obtain ⟨o, ho, r⟩ := p; exact Heap.lt_size ho)
section
variable {prog : Program} {w : World} {A : Around} {E : Value -> Shared -> Prop} {s : Shared}
theorem zkk {b : Bool} {it l : Addr} {i : Nat} {items : Array Value} {x : Value} {Q : Value -> Shared -> Prop} (p : ItB b s.heap it l i) (q : SqB b s.heap l items) (hx : items[i]? = some x)
   (hQ : ∀ h', ItB b h' it l (i + 1) -> Heap.SameBut it s.heap h' -> Q x { s with heap := h' }) : wpAny (model prog w) A (Builtin.SmallTypes.nextOf (.ref it)) Q E s := by
 cases b with
 | true => exact L2.gx_nextOf_tup p q hx hQ
 | false => exact wpAny_nextOf_list_item p q hx hQ
theorem zpr {b : Bool} {it l : Addr} {i : Nat} {items : Array Value} {Q : Value -> Shared -> Prop} (hh : A.handled = none) (p : ItB b s.heap it l i) (q : SqB b s.heap l items) (hx : items[i]? = none)
   (hE : ∀ h' e, Heap.ExtBut it s.heap h' -> (∃ o, h'.get? e = some o /\ o.cls = .type "StopIteration") -> E (.ref e) { s with heap := h' }) : wpAny (model prog w) A (Builtin.SmallTypes.nextOf (.ref it)) Q E s := by
 cases b with
 | true => exact L2.gx_nextOf_tup_end hh p q hx hE
 | false => exact wpAny_nextOf_list_end hh p q hx hE
theorem zpq {b1 b2 : Bool} {z TI TO i1 i2 l1 l2 : Addr} {k1 k2 : Nat} {xs ys : Array Value} {x y a b : Value} {Q : Value -> Shared -> Prop} (D : ZipApart z TI TO i1 i2 l1 l2)
   (zZ : IsZip s.heap z TI TO .none) (zI : IsPair s.heap TI (.ref i1) (.ref i2)) (zO : IsPair s.heap TO a b)
   (p1 : ItB b1 s.heap i1 l1 k1) (p2 : ItB b2 s.heap i2 l2 k2) (q1 : SqB b1 s.heap l1 xs) (q2 : SqB b2 s.heap l2 ys) (hx : xs[k1]? = some x) (hy : ys[k2]? = some y)
   (hQ : ∀ h', IsZip h' z TI TO (rawInt s.heap.objs.size) -> IsPair h' TO x y -> ItB b1 h' i1 l1 (k1 + 1) -> ItB b2 h' i2 l2 (k2 + 1) -> IsPair h' s.heap.objs.size x y -> h'.objs.size = s.heap.objs.size + 1 ->
     (∀ c o, c ≠ z -> c ≠ TO -> c ≠ i1 -> c ≠ i2 -> s.heap.get? c = some o -> h'.get? c = some o) -> Q (.ref s.heap.objs.size) { s with heap := h' }) :
   wpAny (model prog w) A (Builtin.«zip.__next__» ⟨[.ref z], []⟩) (λ fin s' => ∃ v, fin = .done (.ret v) /\ Q v s') E s := by
 show wpAny _ _ (field (.ref z) 2 >>= _) _ _ _; refine wpAny_bind (wpAny_field zZ rfl (x := .bool false) rfl ?_); show wpAny _ _ (field (.ref z) 3 >>= _) _ _ _; refine wpAny_bind (wpAny_field zZ rfl (x := .ref TI) rfl ?_); refine wpAny_bind (wpAny_seqItems zI rfl ?_); show wpAny _ _ (Builtin.SmallTypes.ownedTupleIsFree (.ref z) >>= _) _ _ _; refine wpAny_bind ?_; unfold Builtin.SmallTypes.ownedTupleIsFree; refine wpAny_bind (wpAny_field zZ rfl (x := .none) rfl (wpAny_pure ?_)); simp only [if_true]; refine wpAny_bind (wpAny_rule ?_); refine wpAny_bind (wpAny_field zZ rfl (x := .ref TO) rfl ?_)
 refine wpAny_bind (wpAny_setField_rec zZ (by simp) λ h₁ zZ₁ hs₁ => ?_); replace zZ₁ : IsZip h₁ z TI TO .ellipsis := zZ₁; refine wpAny_bind ?_; simp only [List.zipIdx_cons, List.zipIdx_nil, List.forIn_cons, List.forIn_nil]
 refine wpAny_bind (wpAny_bind (wpAny_onRaise ?_)); show wpAny _ _ (Builtin.SmallTypes.nextOf (.ref i1) >>= _) _ _ _; refine wpAny_bind (zkk (p1.extBut hs₁.extBut D.i1z) (q1.extBut hs₁.extBut D.l1z) hx λ h₂ h1₂ hs₂ => wpAny_pure ?_); have hTO₂ : IsPair h₂ TO a b := hs₂.extBut _ _ D.TOi1 (hs₁.extBut _ _ D.TOz zO); refine wpAny_bind (wpAny_seqItems hTO₂ rfl ?_); refine wpAny_bind (wpAny_updateSeq_pair hTO₂ λ h₃ hTO₃ hs₃ => ?_); replace hTO₃ : IsPair h₃ TO x b := hTO₃; refine wpAny_bind (wpAny_letGo (wpAny_pure ?_))
 refine wpAny_bind (wpAny_bind (wpAny_onRaise ?_)); show wpAny _ _ (Builtin.SmallTypes.nextOf (.ref i2) >>= _) _ _ _; refine wpAny_bind (zkk (((p2.extBut hs₁.extBut D.i2z).extBut hs₂.extBut D.i12.symm).extBut hs₃.extBut D.TOi2.symm)
   (((q2.extBut hs₁.extBut D.l2z).extBut hs₂.extBut D.l2i1).extBut hs₃.extBut D.l2TO) hy λ h₄ h2₄ hs₄ => wpAny_pure ?_)
 have hTO₄ : IsPair h₄ TO x b := hs₄.extBut _ _ D.TOi2 hTO₃; refine wpAny_bind (wpAny_seqItems hTO₄ rfl ?_); refine wpAny_bind (wpAny_updateSeq_pair hTO₄ λ h₅ hTO₅ hs₅ => ?_); replace hTO₅ : IsPair h₅ TO x y := hTO₅; refine wpAny_bind (wpAny_letGo (wpAny_pure (wpAny_pure ?_)))
 refine wpAny_bind (wpAny_seqItems hTO₅ rfl ?_); refine wpAny_bind (wpAny_newTuple ?_); have hsz : h₅.objs.size = s.heap.objs.size := (by rw [hs₅.1, hs₄.1, hs₃.1, hs₂.1, hs₁.1]); have hz₅ : IsZip h₅ z TI TO .ellipsis := hs₅.extBut _ _ D.TOz.symm (hs₄.extBut _ _ D.i2z.symm (hs₃.extBut _ _ D.TOz.symm (hs₂.extBut _ _ D.i1z.symm zZ₁))); have hk₅ : ∀ c o, c ≠ z -> c ≠ TO -> c ≠ i1 -> c ≠ i2 -> s.heap.get? c = some o -> h₅.get? c = some o := λ c o c1 c2 c3 c4 e =>
   hs₅.extBut _ _ c2 (hs₄.extBut _ _ c4 (hs₃.extBut _ _ c2 (hs₂.extBut _ _ c3 (hs₁.extBut _ _ c1 e))))
 have h1₅ : ItB b1 h₅ i1 l1 (k1 + 1) := ((h1₂.extBut hs₃.extBut D.TOi1.symm).extBut hs₄.extBut D.i12).extBut hs₅.extBut D.TOi1.symm; have h2₅ : ItB b2 h₅ i2 l2 (k2 + 1) := h2₄.extBut hs₅.extBut D.TOi2.symm; have hzlt : z < h₅.objs.size := Heap.lt_size hz₅; have hTOlt : TO < h₅.objs.size := Heap.lt_size hTO₅; have hi1lt : i1 < h₅.objs.size := ItB.lt h1₅; have hi2lt : i2 < h₅.objs.size := ItB.lt h2₅; show wpAny _ _ (Builtin.SmallTypes.ownedTupleHandOut (.ref z) (.ref h₅.objs.size) >>= _) _ _ _; refine wpAny_bind ?_; unfold Builtin.SmallTypes.ownedTupleHandOut; have hz₆ : IsZip (h₅.push { cls := .type "tuple", data := .seq #[x, y] }) z TI TO .ellipsis := Heap.get?_push_of_some _ hz₅
 refine wpAny_bind (wpAny_setField_rec hz₆ (by simp) λ h₇ hz₇ hs₇ => ?_); replace hz₇ : IsZip h₇ z TI TO (rawInt h₅.objs.size) := hz₇; refine wpAny_setField_rec hz₇ (by simp) λ h₈ hz₈ hs₈ => ?_; replace hz₈ : IsZip h₈ z TI TO (rawInt h₅.objs.size) := hz₈; have up : ∀ c o, c ≠ z -> h₅.get? c = some o -> h₈.get? c = some o := λ c o c1 e => hs₈.extBut _ _ c1 (hs₇.extBut _ _ c1 (Heap.get?_push_of_some _ e)); have hT₈ : IsPair h₈ h₅.objs.size x y := hs₈.extBut _ _ (Nat.ne_of_gt hzlt) (hs₇.extBut _ _ (Nat.ne_of_gt hzlt) (Heap.get?_push_size _ rfl)); have hz8 : h₈.objs.size = h₅.objs.size + 1 := (by rw [hs₈.1, hs₇.1, Heap.size_push])
 rw [hsz] at hz₈ hT₈ hz8
 refine wpAny_pure ⟨_, rfl, ?_⟩; show Q (.ref h₅.objs.size) _
 rw [hsz]
 exact hQ h₈ hz₈ (up _ _ D.TOz hTO₅) (h1₅.at λ o e => up _ o D.i1z e) (h2₅.at λ o e => up _ o D.i2z e) hT₈ hz8 λ c o c1 c2 c3 c4 e => up c o c1 (hk₅ c o c1 c2 c3 c4 e)
theorem zqa {b1 b2 : Bool} {z TI TO i1 i2 l1 l2 : Addr} {k1 k2 : Nat} {xs ys : Array Value} {a b : Value} {Q : Fin -> Shared -> Prop} (hh : A.handled = none) (D : ZipApart z TI TO i1 i2 l1 l2)
   (zZ : IsZip s.heap z TI TO .none) (zI : IsPair s.heap TI (.ref i1) (.ref i2)) (zO : IsPair s.heap TO a b)
   (p1 : ItB b1 s.heap i1 l1 k1) (p2 : ItB b2 s.heap i2 l2 k2) (q1 : SqB b1 s.heap l1 xs) (q2 : SqB b2 s.heap l2 ys) (hend : xs[k1]? = none \/ ys[k2]? = none)
   (hE : ∀ h' e, (∀ c o, c ≠ z -> c ≠ TO -> c ≠ i1 -> c ≠ i2 -> s.heap.get? c = some o -> h'.get? c = some o) -> (∃ o, h'.get? e = some o /\ o.cls = .type "StopIteration") -> E (.ref e) { s with heap := h' }) :
   wpAny (model prog w) A (Builtin.«zip.__next__» ⟨[.ref z], []⟩) Q E s := by
 show wpAny _ _ (field (.ref z) 2 >>= _) _ _ _; refine wpAny_bind (wpAny_field zZ rfl (x := .bool false) rfl ?_); show wpAny _ _ (field (.ref z) 3 >>= _) _ _ _; refine wpAny_bind (wpAny_field zZ rfl (x := .ref TI) rfl ?_); refine wpAny_bind (wpAny_seqItems zI rfl ?_); show wpAny _ _ (Builtin.SmallTypes.ownedTupleIsFree (.ref z) >>= _) _ _ _; refine wpAny_bind ?_; unfold Builtin.SmallTypes.ownedTupleIsFree; refine wpAny_bind (wpAny_field zZ rfl (x := .none) rfl (wpAny_pure ?_)); simp only [if_true]; refine wpAny_bind (wpAny_rule ?_); refine wpAny_bind (wpAny_field zZ rfl (x := .ref TO) rfl ?_)
 refine wpAny_bind (wpAny_setField_rec zZ (by simp) λ h₁ zZ₁ hs₁ => ?_); replace zZ₁ : IsZip h₁ z TI TO .ellipsis := zZ₁; refine wpAny_bind ?_; simp only [List.zipIdx_cons, List.zipIdx_nil, List.forIn_cons, List.forIn_nil]; refine wpAny_bind (wpAny_bind (wpAny_onRaise ?_)); show wpAny _ _ (Builtin.SmallTypes.nextOf (.ref i1) >>= _) _ _ _
 cases hx : xs[k1]? with
 | none =>
   refine wpAny_bind (zpr hh (p1.extBut hs₁.extBut D.i1z) (q1.extBut hs₁.extBut D.l1z) hx λ h₂ e hs₂ he => ?_); obtain ⟨oe, hoe, hce⟩ := he; have hz₂ : IsZip h₂ z TI TO .ellipsis := hs₂ _ _ D.i1z.symm zZ₁; have hez : e ≠ z := (λ x => by subst x; rw [hz₂] at hoe; cases hoe; simp at hce); refine wpAny_setField_rec hz₂ (by simp) λ h₃ _ hs₃ => hE h₃ e (λ c o c1 _ c3 _ x => hs₃.extBut _ _ c1 (hs₂ _ _ c3 (hs₁.extBut _ _ c1 x))) ⟨oe, hs₃.extBut _ _ hez hoe, hce⟩
 | some x =>
   have hy : ys[k2]? = none := (by rcases hend with h | h; rw [hx] at h; cases h; exact h); refine wpAny_bind (zkk (p1.extBut hs₁.extBut D.i1z) (q1.extBut hs₁.extBut D.l1z) hx λ h₂ h1₂ hs₂ => wpAny_pure ?_); have hTO₂ : IsPair h₂ TO a b := hs₂.extBut _ _ D.TOi1 (hs₁.extBut _ _ D.TOz zO); refine wpAny_bind (wpAny_seqItems hTO₂ rfl ?_); refine wpAny_bind (wpAny_updateSeq_pair hTO₂ λ h₃ hTO₃ hs₃ => ?_); refine wpAny_bind (wpAny_letGo (wpAny_pure ?_)); refine wpAny_bind (wpAny_bind (wpAny_onRaise ?_)); show wpAny _ _ (Builtin.SmallTypes.nextOf (.ref i2) >>= _) _ _ _; refine wpAny_bind (zpr hh (((p2.extBut hs₁.extBut D.i2z).extBut hs₂.extBut D.i12.symm).extBut hs₃.extBut D.TOi2.symm)
     (((q2.extBut hs₁.extBut D.l2z).extBut hs₂.extBut D.l2i1).extBut hs₃.extBut D.l2TO) hy λ h₄ e hs₄ he => ?_)
   obtain ⟨oe, hoe, hce⟩ := he; have hz₄ : IsZip h₄ z TI TO .ellipsis := hs₄ _ _ D.i2z.symm (hs₃.extBut _ _ D.TOz.symm (hs₂.extBut _ _ D.i1z.symm zZ₁)); have hez : e ≠ z := (λ x => by subst x; rw [hz₄] at hoe; cases hoe; simp at hce); refine wpAny_setField_rec hz₄ (by simp) λ h₅ _ hs₅ => hE h₅ e (λ c o c1 c2 c3 c4 x => hs₅.extBut _ _ c1 (hs₄ _ _ c4 (hs₃.extBut _ _ c2 (hs₂.extBut _ _ c3 (hs₁.extBut _ _ c1 x))))) ⟨oe, hs₅.extBut _ _ hez hoe, hce⟩
theorem zo3 {b1 b2 : Bool} {z TI TO i1 i2 l1 l2 : Addr} {k1 k2 : Nat} {xs ys : Array Value} {x y a b : Value} {Q : Option Value -> Shared -> Prop} (D : ZipApart z TI TO i1 i2 l1 l2)
   (zZ : IsZip s.heap z TI TO .none) (zI : IsPair s.heap TI (.ref i1) (.ref i2)) (zO : IsPair s.heap TO a b)
   (p1 : ItB b1 s.heap i1 l1 k1) (p2 : ItB b2 s.heap i2 l2 k2) (q1 : SqB b1 s.heap l1 xs) (q2 : SqB b2 s.heap l2 ys) (hx : xs[k1]? = some x) (hy : ys[k2]? = some y)
   (hQ : ∀ h', IsZip h' z TI TO (rawInt s.heap.objs.size) -> IsPair h' TO x y -> ItB b1 h' i1 l1 (k1 + 1) -> ItB b2 h' i2 l2 (k2 + 1) -> IsPair h' s.heap.objs.size x y -> h'.objs.size = s.heap.objs.size + 1 ->
     (∀ c o, c ≠ z -> c ≠ TO -> c ≠ i1 -> c ≠ i2 -> s.heap.get? c = some o -> h'.get? c = some o) -> Q (some (.ref s.heap.objs.size)) { s with heap := h' }) :
   wpAny (model prog w) A (pyNext (.ref z)) Q E s := by
 have hT : s.TypeIs (.ref z) "zip" := ⟨_, zZ, rfl⟩; unfold pyNext
 exact wpAny_bind (wpAny_attempt (wpAny_callSpecial?_slot (name := Str.ofString "__next__") hT F.slot_zip_next
   (wpAny_call_entry F.slot_zip_next hT F.entry_zip_next
     (zpq D zZ zI zO p1 p2 q1 q2 hx hy λ h' a1 a2 a3 a4 a5 a6 a7 => wpAny_pure (hQ h' a1 a2 a3 a4 a5 a6 a7)) (F.args_zip_next_1 _))))
theorem zq2 {b1 b2 : Bool} {z TI TO i1 i2 l1 l2 : Addr} {k1 k2 : Nat} {xs ys : Array Value} {a b : Value} {Q : Option Value -> Shared -> Prop} (hh : A.handled = none) (D : ZipApart z TI TO i1 i2 l1 l2)
   (zZ : IsZip s.heap z TI TO .none) (zI : IsPair s.heap TI (.ref i1) (.ref i2)) (zO : IsPair s.heap TO a b)
   (p1 : ItB b1 s.heap i1 l1 k1) (p2 : ItB b2 s.heap i2 l2 k2) (q1 : SqB b1 s.heap l1 xs) (q2 : SqB b2 s.heap l2 ys) (hend : xs[k1]? = none \/ ys[k2]? = none)
   (hQ : ∀ h', (∀ c o, c ≠ z -> c ≠ TO -> c ≠ i1 -> c ≠ i2 -> s.heap.get? c = some o -> h'.get? c = some o) -> Q none { s with heap := h' }) : wpAny (model prog w) A (pyNext (.ref z)) Q E s := by
 have hT : s.TypeIs (.ref z) "zip" := ⟨_, zZ, rfl⟩; unfold pyNext; refine wpAny_bind (wpAny_attempt (wpAny_callSpecial?_slot (name := Str.ofString "__next__") hT F.slot_zip_next
   (wpAny_call_entry F.slot_zip_next hT F.entry_zip_next (zqa hh D zZ zI zO p1 p2 q1 q2 hend λ h' e hk he => ?_) (F.args_zip_next_1 _))))
 obtain ⟨o, ho, hc⟩ := he; refine wpAny_bind (wpAny_isInstance (T := "StopIteration") (b := true) ⟨o, ho, hc⟩ isSubtype_stop ?_)
 exact wpAny_pure (hQ _ hk)
end
end PySem
namespace PySem
open Sem (wp)
def itO (b : Bool) (l : Addr) : Obj := { cls := .type (match b with | true => "tuple_iterator" | false => "list_iterator"), data := .fields #[.ref l, .int 0 0] }
theorem zsv (b1 b2 : Bool) (l1 l2 : Addr) (xs ys : Array Value) :
   Meets (Builtin.«zip.__new__» ⟨[.type "zip", .ref l1, .ref l2], []⟩) (λ _ R s => SqB b1 s.heap l1 xs /\ SqB b2 s.heap l2 ys /\
     R (.ok (.ret (.ref ((((s.heap.push (itO b1 l1)).push (itO b2 l2)).push { cls := .type "tuple", data := .seq #[.ref s.heap.objs.size, .ref (s.heap.push (itO b1 l1)).objs.size] }).push { cls := .type "tuple", data := .seq #[.none, .none] }).objs.size)))
       { s with heap := (((((s.heap.push (itO b1 l1)).push (itO b2 l2)).push { cls := .type "tuple", data := .seq #[.ref s.heap.objs.size, .ref (s.heap.push (itO b1 l1)).objs.size] }).push { cls := .type "tuple", data := .seq #[.none, .none] }).push
         { cls := .type "zip", data := .fields #[.none, .bool false, .bool false, .ref ((s.heap.push (itO b1 l1)).push (itO b2 l2)).objs.size, .ref (((s.heap.push (itO b1 l1)).push (itO b2 l2)).push { cls := .type "tuple", data := .seq #[.ref s.heap.objs.size, .ref (s.heap.push (itO b1 l1)).objs.size] }).objs.size] }) }) :=
 .of_wp λ prog w A R s h => by
   obtain ⟨hp, g, d, tk, os⟩ := s; obtain ⟨q1, q2, h⟩ := h
   have hsub := sub_zip
   have q2' : SqB b2 (hp.push (itO b1 l1)) l2 ys := q2.at λ o e => Heap.get?_push_of_some _ e
   cases b1 with
   | true =>
     have hL1 : Heap.IsTuple (Shared.heap ⟨hp, g, d, tk, os⟩) l1 xs := q1
     cases b2 with
     | true =>
       have hL2 : Heap.IsTuple (Shared.heap ⟨hp.push { cls := .type "tuple_iterator", data := .fields #[.ref l1, .int 0 0] }, g, d, tk, os⟩) l2 ys := q2'
       wp_walk using wpAny_pyIter_tuple hL1, wpAny_pyIter_tuple hL2; exact ⟨_, rfl, h⟩
     | false =>
       have hL2 : Heap.IsList (Shared.heap ⟨hp.push { cls := .type "tuple_iterator", data := .fields #[.ref l1, .int 0 0] }, g, d, tk, os⟩) l2 ys := q2'
       wp_walk using wpAny_pyIter_tuple hL1, wpAny_pyIter_list hL2; exact ⟨_, rfl, h⟩
   | false =>
     have hL1 : Heap.IsList (Shared.heap ⟨hp, g, d, tk, os⟩) l1 xs := q1
     cases b2 with
     | true =>
       have hL2 : Heap.IsTuple (Shared.heap ⟨hp.push { cls := .type "list_iterator", data := .fields #[.ref l1, .int 0 0] }, g, d, tk, os⟩) l2 ys := q2'
       wp_walk using wpAny_pyIter_list hL1, wpAny_pyIter_tuple hL2; exact ⟨_, rfl, h⟩
     | false =>
       have hL2 : Heap.IsList (Shared.heap ⟨hp.push { cls := .type "list_iterator", data := .fields #[.ref l1, .int 0 0] }, g, d, tk, os⟩) l2 ys := q2'
       wp_walk using wpAny_pyIter_list hL1, wpAny_pyIter_list hL2; exact ⟨_, rfl, h⟩
end PySem
namespace PySem
open Sem (wp)
section
variable {prog : Program} {w : World} {A : Around} {E : Value -> Shared -> Prop} {s : Shared}
theorem zya {b : Bool} {h : Heap} {it l : Addr} (e : h.get? it = some (itO b l)) : ItB b h it l 0 := by cases b <;> exact ⟨_, e, rfl, rfl⟩
theorem zqk {b1 b2 : Bool} {l1 l2 : Addr} {xs ys : Array Value} {Q : Value -> Shared -> Prop} (q1 : SqB b1 s.heap l1 xs) (q2 : SqB b2 s.heap l2 ys)
   (h : ∀ h' (n : Nat), n = s.heap.objs.size -> IsZip h' (n + 4) (n + 2) (n + 3) .none -> IsPair h' (n + 2) (.ref n) (.ref (n + 1)) -> IsPair h' (n + 3) .none .none -> ItB b1 h' n l1 0 -> ItB b2 h' (n + 1) l2 0 ->
     (∀ c o, s.heap.get? c = some o -> h'.get? c = some o) -> Q (.ref (n + 4)) { s with heap := h' }) :
   wpAny (model prog w) A (call (.type "zip") [.ref l1, .ref l2]) Q E s := by
 refine callType_new F.called_zip (by decide) (F.typeCall_zip_2 _ _) (F.newCall_zip_2 _ _) (λ obj => F.args_object_init_3 obj _ _) F.entry_zip_new (zsv b1 b2 l1 l2 xs ys) ⟨q1, q2, ?_⟩
 generalize ho1 : itO b1 l1 = o1
 generalize ho2 : itO b2 l2 = o2
 have z1 : (s.heap.push o1).objs.size = s.heap.objs.size + 1 := Heap.size_push ..
 have z2 : ((s.heap.push o1).push o2).objs.size = s.heap.objs.size + 2 := by rw [Heap.size_push, z1]
 rw [z1, z2]
 generalize hT1 : ({ cls := .type "tuple", data := .seq #[.ref s.heap.objs.size, .ref (s.heap.objs.size + 1)] } : Obj) = t1
 generalize hT2 : ({ cls := .type "tuple", data := .seq #[.none, .none] } : Obj) = t2
 have z3 : (((s.heap.push o1).push o2).push t1).objs.size = s.heap.objs.size + 3 := by rw [Heap.size_push, z2]
 have z4 : ((((s.heap.push o1).push o2).push t1).push t2).objs.size = s.heap.objs.size + 4 := by rw [Heap.size_push, z3]
 rw [z3, z4]
 generalize hZ : ({ cls := .type "zip", data := .fields #[.none, .bool false, .bool false, .ref (s.heap.objs.size + 2), .ref (s.heap.objs.size + 3)] } : Obj) = tz
 have g5 := Heap.get?_push_size ((((s.heap.push o1).push o2).push t1).push t2) (o := tz) (by rw [<- hZ]; rfl)
 have g4 := Heap.get?_push_of_some tz (Heap.get?_push_size (((s.heap.push o1).push o2).push t1) (o := t2) (by rw [<- hT2]; rfl))
 have g3 := Heap.get?_push_of_some tz (Heap.get?_push_of_some t2 (Heap.get?_push_size ((s.heap.push o1).push o2) (o := t1) (by rw [<- hT1]; rfl)))
 have g2 := Heap.get?_push_of_some tz (Heap.get?_push_of_some t2 (Heap.get?_push_of_some t1 (Heap.get?_push_size (s.heap.push o1) (o := o2) (by rw [<- ho2]; rfl))))
 have g1 := Heap.get?_push_of_some tz (Heap.get?_push_of_some t2 (Heap.get?_push_of_some t1 (Heap.get?_push_of_some o2 (Heap.get?_push_size s.heap (o := o1) (by rw [<- ho1]; rfl)))))
 rw [z4] at g5
 rw [z3] at g4
 rw [z2] at g3
 rw [z1] at g2
 subst hZ hT1 hT2 ho1 ho2
 exact ⟨⟨_, g5, rfl⟩, h _ s.heap.objs.size rfl g5 g3 g4 (zya g1) (zya g2) λ c o x =>
   Heap.get?_push_of_some _ (Heap.get?_push_of_some _ (Heap.get?_push_of_some _ (Heap.get?_push_of_some _ (Heap.get?_push_of_some _ x))))⟩
end
end PySem
namespace L2
open PySem PySem.Spec PyProof.Rows
def SqV (b : Bool) (K : W.Frag) (H : Hp) (l : Addr) (xs : List V) : Prop := match b with | true => SqT K H l xs | false => SqL K H l xs
theorem Inv.sqv {X : Cx} {pins : List (Addr × Obj)} {σ : St} {H : Hp} {s : Shared} {b : Bool} {l : Addr} {xs : List V} (I : Inv X pins σ H s) (h : SqV b X.K H l xs) : ∃ its : List Value, zc6 xs its /\ SqB b s.heap l its.toArray := by
 cases b with
 | true => obtain ⟨its, r, p, _⟩ := I.tuple h; exact ⟨its, r, p⟩
 | false => obtain ⟨its, r, p, _⟩ := I.list h; exact ⟨its, r, p.isList⟩
theorem Inv.sqv_inj {X : Cx} {pins : List (Addr × Obj)} {σ : St} {H : Hp} {s : Shared} {b : Bool} {l : Addr} {xs ys : List V} (I : Inv X pins σ H s) (h : SqV b X.K H l xs) (h' : SqV b X.K H l ys) : xs = ys := by
 cases b with
 | true => exact I.tuple_inj h h'
 | false => exact I.list_inj h h'
theorem SqB.lt {b : Bool} {h : Heap} {l : Addr} {xs : Array Value} (p : SqB b h l xs) : l < h.objs.size := by
 cases b <;> (obtain ⟨o, ho, r⟩ := p; exact Heap.lt_size ho)
def Itz (K : W.Frag) (b1 b2 : Bool) (l1 l2 : Addr) : It :=
 ⟨λ i H => ∃ xs ys x y, SqV b1 K H l1 xs /\ SqV b2 K H l2 ys /\ xs[i]? = some x /\ ys[i]? = some y,
  λ i H v H' => ∃ b, v = .ref b /\ H b = none /\ ∀ xs ys x y, SqV b1 K H l1 xs -> SqV b2 K H l2 ys -> xs[i]? = some x -> ys[i]? = some y -> H' = upd H b (.tup [x, y]),
  λ i H => ∃ xs ys, SqV b1 K H l1 xs /\ SqV b2 K H l2 ys /\ (xs[i]? = none \/ ys[i]? = none)⟩
theorem zxf {P : Program} {w : World} {K : W.Frag} {elts : List Expr} {k : Nat} {pos : Pos} (b1 b2 : Bool) (z TI TO i1 i2 l1 l2 : Addr) (D : ZipApart z TI TO i1 i2 l1 l2) :
   Turn P w K (.Tuple elts k pos) (Itz K b1 b2 l1 l2) [z, TI, TO, i1, i2] z (λ i h => IsZip h z TI TO .none /\ IsPair h TI (.ref i1) (.ref i2) /\ (∃ a b, IsPair h TO a b) /\ ItB b1 h i1 l1 i /\ ItB b2 h i2 l2 i) where
 mem := by simp
 obj := λ i h st b hb => by
   obtain ⟨hz, hTI, ⟨a, c, hTO⟩, h1, h2⟩ := st
   simp only [List.mem_cons, List.not_mem_nil, or_false] at hb
   rcases hb with rfl | rfl | rfl | rfl | rfl
   . exact ⟨_, hz, λ v z => by cases (show Data.fields _ = Data.cell v from z)⟩
   . exact ⟨_, hTI, λ v z => by cases (show Data.seq _ _ = Data.cell v from z)⟩
   . exact ⟨_, hTO, λ v z => by cases (show Data.seq _ _ = Data.cell v from z)⟩
   . cases b1 <;> (obtain ⟨o, ho, hc, hd⟩ := h1; exact ⟨o, ho, λ v z => by rw [hd] at z; cases z⟩)
   . cases b2 <;> (obtain ⟨o, ho, hc, hd⟩ := h2; exact ⟨o, ho, λ v z => by rw [hd] at z; cases z⟩)
 keep := λ i h h' st kk => by
   obtain ⟨hz, hTI, ⟨a, c, hTO⟩, h1, h2⟩ := st
   exact ⟨kk _ (by simp) _ hz, kk _ (by simp) _ hTI, ⟨a, c, kk _ (by simp) _ hTO⟩, h1.at λ o e => kk _ (by simp) o e, h2.at λ o e => kk _ (by simp) o e⟩
 item := by
   intro X hP hw hK hc i pins s σ H E I hf st hg
   subst hP hw hK
   obtain ⟨hz, hTI, ⟨oa, ob, hTO⟩, h1, h2⟩ := st
   obtain ⟨xs, ys, x, y, e1, e2, hx, hy⟩ := hg
   obtain ⟨is1, r1, p1⟩ := I.sqv e1
   obtain ⟨is2, r2, p2⟩ := I.sqv e2
   obtain ⟨u, hu, ru⟩ := r1.get hx
   obtain ⟨v, hv, rv⟩ := r2.get hy
   refine zo3 D hz hTI hTO h1 h2 p1 p2 (by simpa using hu) (by simpa using hv) λ h' a1 a2 a3 a4 a5 a6 hk => ?_
   refine ⟨_, rfl, wpAny_letOwnedTupleGo_zip a1 λ h3 hz3 hs3 => ?_⟩
   have hs3 : Heap.SameBut z h' h3 := hs3
   have hzlt : z < s.heap.objs.size := Heap.lt_size hz
   have hfr : H s.heap.objs.size = none := I.hok.fresh (Nat.le_refl _)
   have hnS : s.heap.objs.size ≠ z := Nat.ne_of_gt hzlt
   have hT3 : IsPair h3 s.heap.objs.size u v := (hs3.2 _ hnS).trans a5
   refine ⟨.ref s.heap.objs.size, upd H s.heap.objs.size (.tup [x, y]), I.turnLaid (t' := s.toks) (ch := [z, TI, TO, i1, i2]) (λ b o hb q => ?_) hf (Nat.le_refl _) ?_, rfl, ⟨s.heap.objs.size, rfl, hfr, λ xs' ys' x' y' q1 q2 hx' hy' => ?_⟩, ⟨hz3, ?_, ⟨u, v, ?_⟩, ?_, ?_⟩, λ b hb => ?_⟩
   . have n1 : b ≠ z := λ zz => hb (by simp [zz])
     have n3 : b ≠ TO := λ zz => hb (by simp [zz])
     have n4 : b ≠ i1 := λ zz => hb (by simp [zz])
     have n5 : b ≠ i2 := λ zz => hb (by simp [zz])
     exact (hs3.2 b n1).trans (hk b o n1 n3 n4 n5 q)
   . exact ⟨by show 2 <= sizeLine; decide, [u, v], .cons ru (.cons rv .nil), ⟨_, hT3, rfl, _, rfl⟩⟩
   . have t1 := I.sqv_inj q1 e1
     have t2 := I.sqv_inj q2 e2
     subst t1 t2
     rw [hx] at hx'
     rw [hy] at hy'
     cases hx'
     cases hy'
     rfl
   . exact (hs3.2 _ D.TIz).trans (hk _ _ D.TIz D.TITO D.TIi1 D.TIi2 hTI)
   . exact (hs3.2 _ D.TOz).trans a2
   . exact a3.at λ o e => (hs3.2 _ D.i1z).trans e
   . exact a4.at λ o e => (hs3.2 _ D.i2z).trans e
   . have hb0 := (hf b hb).1
     rw [zah]
     . exact hb0
     . intro zz
       subst zz
       simp only [List.mem_cons, List.not_mem_nil, or_false] at hb
       rcases hb with e | e | e | e | e
       . exact hnS e
       . exact absurd (Heap.lt_size hTI) (by rw [<- e]; exact Nat.lt_irrefl _)
       . exact absurd (Heap.lt_size hTO) (by rw [<- e]; exact Nat.lt_irrefl _)
       . exact absurd h1.lt (by rw [<- e]; exact Nat.lt_irrefl _)
       . exact absurd h2.lt (by rw [<- e]; exact Nat.lt_irrefl _)
 done := by
   intro X hP hw hK hc i pins s σ H E I hf st hg
   subst hP hw hK
   obtain ⟨hz, hTI, ⟨oa, ob, hTO⟩, h1, h2⟩ := st
   obtain ⟨xs, ys, e1, e2, hend⟩ := hg
   obtain ⟨is1, r1, p1⟩ := I.sqv e1
   obtain ⟨is2, r2, p2⟩ := I.sqv e2
   refine zq2 (I.ok.hd hc) D hz hTI hTO h1 h2 p1 p2 ?_ λ h' hk => ⟨rfl, ?_⟩
   . rcases hend with h | h
     . left; have := r1.none_of h; simpa using this
     . right; have := r2.none_of h; simpa using this
   . exact I.turnedL (t' := s.toks) (ch := [z, TI, TO, i1, i2]) (λ b o hb q => hk b o (λ zz => hb (by simp [zz])) (λ zz => hb (by simp [zz])) (λ zz => hb (by simp [zz])) (λ zz => hb (by simp [zz])) q) hf
 self := λ _ _ _ _ _ st h => wpAny_pyIter_zip st.1 h
section
variable {X : Cx}
def iZip (b1 b2 : Bool) (K : W.Frag) (ta : TA) : TI := λ σ H R => ta σ H λ vs H1 => ∃ l1 l2, vs = [.ref l1, .ref l2] /\ (∃ xs, SqV b1 K H1 l1 xs) /\ (∃ ys, SqV b2 K H1 l2 ys) /\ R (Itz K b1 b2 l1 l2) H1
theorem zt0 (b1 b2 : Bool) {a b : Expr} {ta : TA} {p pos tpos : Pos} {elts : List Expr} {k : Nat} (hg : Gl X "zip") (hm : X.mg "zip" = none) (ha : PA X [a, b] ta) (hs : starEach [a, b] X.env = (false, eval a X.env) :: starEach [b] X.env := by rfl) (hs2 : (backTo pos (starEach [b] X.env)).any (·.1) = false := by rfl) :
   PI X (.Tuple elts k tpos) (.Call (.Name "zip" p) [a, b] [] pos) (iZip b1 b2 X.K ta) := by
 intro pins s σ H R I h
 refine Call_ (zjc I hg hm z2a (PyProof.Rows.callWith_type1 (thn (ha pos pins s σ H _ I h) λ us s1 ⟨vs, H1, I1, r1, q1⟩ => ?_) hs hs2))
 obtain ⟨l1, l2, e, ⟨xs, hx⟩, ⟨ys, hy⟩, q⟩ := q1
 subst e
 cases r1 with
 | cons r rr =>
   cases rr with
   | cons r' rr =>
     cases rr
     cases r
     cases r'
     obtain ⟨is1, v1, p1⟩ := I1.sqv hx
     obtain ⟨is2, v2, p2⟩ := I1.sqv hy
     refine zqk p1 p2 λ h' n hn hz hTI hTO h1 h2 hk => ?_
     subst hn
     refine wpAny_pyIter_zip hz ?_
     refine ⟨s1.heap.objs.size + 4, [s1.heap.objs.size + 4, s1.heap.objs.size + 2, s1.heap.objs.size + 3, s1.heap.objs.size, s1.heap.objs.size + 1], _, _, H1, rfl, I1.kept (t' := s1.toks) hk, zxf b1 b2 _ _ _ _ _ l1 l2 (zipApart_new (SqB.lt p1) (SqB.lt p2)), ⟨hz, hTI, ⟨_, _, hTO⟩, h1, h2⟩, λ b hb => ?_, q⟩
     have hb' : s1.heap.objs.size <= b := by
       simp only [List.mem_cons, List.not_mem_nil, or_false] at hb
       rcases hb with e | e | e | e | e <;> rw [e] <;> first | exact Nat.le_refl _ | exact Nat.le_add_right _ _
     exact I1.fpOk hb' (I1.hok.fresh hb')
theorem zp9 {b1 b2 : Bool} {K : W.Frag} {l1 l2 : Addr} {xs ys : List V} {g : TG} {tb : TS} {D : zj7} {σ : St} {H : Hp} (Pv : Nat -> St -> Hp -> Prop) (h0 : Pv 0 σ H) (hl : ∀ i σ H, i <= min xs.length ys.length -> Pv i σ H -> SqV b1 K H l1 xs /\ SqV b2 K H l2 ys)
   (hs : ∀ i x y σ H b, xs[i]? = some x -> ys[i]? = some y -> Pv i σ H -> H b = none -> g (.ref b) σ (upd H b (.tup [x, y])) λ σ2 H2 => tb { D with nx := Pv (i + 1), ct := Pv (i + 1), bk := D.nx } σ2 H2) (hd : ∀ σ H, Pv (min xs.length ys.length) σ H -> D.nx σ H) :
   ∃ W : Nat -> Nat -> St -> Hp -> Prop, (∃ m, W 0 m σ H) /\ ∀ i m σ H, W i m σ H -> ((Itz K b1 b2 l1 l2).stop i H /\ D.nx σ H) \/ ((Itz K b1 b2 l1 l2).go i H /\ ∃ N : St -> Hp -> Prop, (∀ σ' H', N σ' H' -> ∃ m', m' < m /\ W (i + 1) m' σ' H') /\ ∀ x H', (Itz K b1 b2 l1 l2).yld i H x H' -> g x σ H' λ σ2 H2 => tb { D with nx := N, ct := N, bk := D.nx } σ2 H2) := by
 refine ⟨λ i m σ H => m = min xs.length ys.length - i /\ i <= min xs.length ys.length /\ Pv i σ H, ⟨min xs.length ys.length, by simp, Nat.zero_le _, h0⟩, ?_⟩
 rintro i m σ H ⟨rfl, hi, p⟩
 obtain ⟨q1, q2⟩ := hl i σ H hi p
 by_cases hlt : i < min xs.length ys.length
 . have l1' : i < xs.length := by omega
   have l2' : i < ys.length := by omega
   refine .inr ⟨⟨xs, ys, xs[i], ys[i], q1, q2, by simp [l1'], by simp [l2']⟩, Pv (i + 1), λ σ' H' p' => ⟨min xs.length ys.length - (i + 1), by omega, rfl, hlt, p'⟩, λ x H' y => ?_⟩
   obtain ⟨b, rfl, hb, y⟩ := y
   rw [y xs ys xs[i] ys[i] q1 q2 (by simp [l1']) (by simp [l2'])]
   exact hs i xs[i] ys[i] σ H b (by simp [l1']) (by simp [l2']) p hb
 . have e : i = min xs.length ys.length := by omega
   subst e
   refine .inl ⟨⟨xs, ys, q1, q2, ?_⟩, hd σ H p⟩
   rcases Nat.le_total xs.length ys.length with h | h
   . left; rw [Nat.min_eq_left h]; exact List.getElem?_eq_none (Nat.le_refl _)
   . right; rw [Nat.min_eq_right h]; exact List.getElem?_eq_none (Nat.le_refl _)
end
end L2
namespace L2
open PySem PySem.Spec PyProof.Rows
structure ClsOk (K : W.Frag) (mg : Str -> Option Value) (name : Str) (C : Addr) : Prop where
 cl : Cls K C
 g : mg name = some (.ref C)
structure MetOk (K : W.Frag) (C : Addr) (m qual : Str) (st : Stmt) (ps : List Str) (f : Addr) (fd : FuncData) : Prop where
 F : Fun K m qual st f fd
 b : zjt K fd ps []
 m : Meth K C m f
structure IniOk (K : W.Frag) (C : Addr) (qual : Str) (st : Stmt) (ps : List Str) (f : Addr) (fd : FuncData) : Prop where
 F : Fun K "__init__" qual st f fd
 b : zjt K fd ps []
 M : Mk K C f
section
variable {X : Cx} {k : Nat} {C f : Addr} {fd : FuncData} {ps : List Str} {sp : Sp} {x m qual : Str} {st : Stmt} {p pos apos : Pos} {o e : Expr} {es : List Expr} {ta : TE} {t : TA}
theorem zz5 (Cc : ClsOk X.K X.mg x C) (D : IniOk X.K C qual st ps f fd) (G : FnOk X.prog X.w X.K X.mg X.base CX0 k f fd ps sp) (hr : Room (k + 1) X.A) (ha : PA X (e :: es) t) (hg : Gl X x := by rfl)
   (hdb : (x == ("__debug__" : Str)) = false := by decide) (he : starEach (e :: es) X.env = (false, eval e X.env) :: starEach es X.env := by rfl) (hpl : (backTo pos (starEach es X.env)).any (·.1) = false := by rfl) :
   PE X (.Call (.Name x p) (e :: es) [] pos) (z13 C sp [] E0 t) := zzh D.M G hr hg Cc.g D.b .nil zcz ha hdb he hpl
theorem zb3 {K : W.Frag} {C : Addr} {m qual : Str} {st : Stmt} {ps : List Str} {f : Addr} {oc : Value} {od an : Option Addr} {osl : Array (Option Value)} {kV doc pm cdv ct : Value}
   (a : PySem.W.findIn K (.ref C) m = some (some (.ref f))) (i : PySem.W.isFn K (.ref f) = true) (l : K.lookup f = some ⟨oc, od, .func (PySem.W.fnOf m qual (zaj st) (zai st) (zac st) .none kV doc pm an cdv ct), osl⟩) (c : PySem.W.codeIn K cdv qual = true) (k : PySem.W.keepIn K (.ref f) = true)
   (b : ∀ (kV doc pm : Value) (an : Option Addr) (cdv ct : Value) (us : List Value), us.length = ps.length -> bindArgs (PySem.W.fnOf m qual (zaj st) (zai st) (zac st) .none kV doc pm an cdv ct) ⟨us, []⟩ = pure (ps.zip us)) :
   MetOk K C m qual st ps f (PySem.W.fnOf m qual (zaj st) (zai st) (zac st) .none kV doc pm an cdv ct) :=
 ⟨zko l c k, (zko l c k).binds b, ⟨a, i, k⟩⟩
theorem zn6 {K : W.Frag} {C : Addr} {qual : Str} {st : Stmt} {ps : List Str} {f : Addr} {oc : Value} {od an : Option Addr} {osl : Array (Option Value)} {kV doc pm cdv ct : Value}
   (mk : PySem.W.makesIn K C = true) (kc : PySem.W.keepIn K (.ref C) = true) (a : PySem.W.findIn K (.ref C) "__init__" = some (some (.ref f))) (i : PySem.W.isFn K (.ref f) = true) (l : K.lookup f = some ⟨oc, od, .func (PySem.W.fnOf "__init__" qual (zaj st) (zai st) (zac st) .none kV doc pm an cdv ct), osl⟩) (c : PySem.W.codeIn K cdv qual = true) (k : PySem.W.keepIn K (.ref f) = true)
   (b : ∀ (kV doc pm : Value) (an : Option Addr) (cdv ct : Value) (us : List Value), us.length = ps.length -> bindArgs (PySem.W.fnOf "__init__" qual (zaj st) (zai st) (zac st) .none kV doc pm an cdv ct) ⟨us, []⟩ = pure (ps.zip us)) :
   IniOk K C qual st ps f (PySem.W.fnOf "__init__" qual (zaj st) (zai st) (zac st) .none kV doc pm an cdv ct) :=
 ⟨zko l c k, (zko l c k).binds b, ⟨mk, a, i, kc⟩⟩
end
theorem u1' {A : Around} (h : A.units + 64 < cLine) : A.units + 1 < cLine := by omega
end L2
namespace K12
open PySem L2
def step (acc : List Str) (s : Str) : List Str := if s ∈ acc then acc else acc ++ [s]
def onceL (ss : List Str) : List Str := ss.foldl step []
def strsOf (as : List V) : List Str := as.filterMap λ v => match v with | .str s => some s | _ => none
theorem strsOf_append (a b : List V) : strsOf (a ++ b) = strsOf a ++ strsOf b := List.filterMap_append ..
theorem ztf (i : Int) : strsOf [.int i] = [] := rfl
theorem strsOf_map (ss : List Str) : strsOf (ss.map V.str) = ss := by
 induction ss with
 | nil => rfl
 | cons s r ih => rw [List.map_cons]; show s :: strsOf (r.map V.str) = _; rw [ih]
theorem zxa (acc : List Str) (s : Str) : ∀ x ∈ acc, x ∈ step acc s := λ x hx => by
 unfold step
 split
 . exact hx
 . exact List.mem_append_left _ hx
theorem zw0 (acc : List Str) (s : Str) : s ∈ step acc s := by
 unfold step
 split
 . assumption
 . exact List.mem_append_right _ (by simp)
theorem zr2 : ∀ (ss acc : List Str), ∀ x ∈ acc, x ∈ ss.foldl step acc
 | [], acc, x, hx => hx
 | s :: ss, acc, x, hx => zr2 ss _ x (zxa acc s x hx)
theorem fold_has : ∀ (ss acc : List Str), ∀ x ∈ ss, x ∈ ss.foldl step acc
 | s :: ss, acc, x, hx => by
   rcases List.mem_cons.mp hx with e | e
   . subst e
     exact zr2 ss _ _ (zw0 acc _)
   . exact fold_has ss _ x e
theorem zpt : ∀ (B : List Str) (acc C : List Str), (B.foldl step C).foldl step acc = B.foldl step (C.foldl step acc)
 | [], acc, C => rfl
 | s :: B, acc, C => by
   rw [List.foldl_cons, zpt B acc (step C s), List.foldl_cons]
   congr 1
   unfold step
   by_cases h : s ∈ C
   . rw [if_pos h]
     have h2 : s ∈ C.foldl step acc := fold_has C acc s h
     have h2' : s ∈ List.foldl (λ acc s => if s ∈ acc then acc else acc ++ [s]) acc C := h2
     rw [if_pos h2']
   . rw [if_neg h, List.foldl_append]
     rfl
theorem ztx (A B C : List Str) : onceL (A ++ onceL B ++ C) = onceL (A ++ B ++ C) := by
 unfold onceL
 rw [List.foldl_append, List.foldl_append, List.foldl_append, List.foldl_append]
 have e := zpt B (A.foldl step []) []
 rw [e]
 rfl
theorem onceL_sub (ss : List Str) : ∀ x ∈ onceL ss, x ∈ ss := by
 have key : ∀ (ss acc : List Str), ∀ x ∈ ss.foldl step acc, x ∈ acc \/ x ∈ ss := by
   intro ss
   induction ss with
   | nil => intro acc x hx; exact .inl hx
   | cons s ss ih =>
     intro acc x hx
     rcases ih _ x hx with h | h
     . unfold step at h
       split at h
       . exact .inl h
       . rcases List.mem_append.mp h with h | h
         . exact .inl h
         . have : x = s := by simpa using h
           exact .inr (by rw [this]; exact List.mem_cons_self)
     . exact .inr (List.mem_cons_of_mem _ h)
 intro x hx
 rcases key ss [] x hx with h | h
 . cases h
 . exact h
theorem zxl (acc : List Str) (s : Str) : (step acc s).length <= acc.length + 1 := by
 unfold step
 split
 . omega
 . simp
theorem onceL_len (ss : List Str) : (onceL ss).length <= ss.length := by
 have key : ∀ (ss acc : List Str), (ss.foldl step acc).length <= acc.length + ss.length := by
   intro ss
   induction ss with
   | nil => intro acc; simp
   | cons s ss ih =>
     intro acc
     have h1 := ih (step acc s)
     have h2 := zxl acc s
     rw [List.foldl_cons]
     simp only [List.length_cons]
     omega
 have := key ss []
 unfold onceL
 simpa using this
def tru (ss : List Str) : List (Key × V) := ss.map λ s => (Sum.inr s, V.bl true)
theorem zzy (acc : List Str) (s : Str) : za3 (tru acc) (Sum.inr s) (.bl true) = tru (step acc s) := by
 unfold za3 step
 have e : ((tru acc).any λ kv => decide (kv.1 = (Sum.inr s : Key))) = decide (s ∈ acc) := by
   unfold tru
   rw [List.any_map]
   rw [Bool.eq_iff_iff, List.any_eq_true]
   simp only [Function.comp, decide_eq_true_eq]
   constructor
   . rintro ⟨x, hx, h⟩
     have : x = s := Sum.inr.inj h
     rw [<- this]
     exact hx
   . intro h
     exact ⟨s, h, rfl⟩
 rw [e]
 by_cases h : s ∈ acc
 . rw [decide_eq_true h, if_pos rfl, if_pos h]
   unfold tru
   rw [List.map_map]
   apply List.map_congr_left
   intro x _
   show (if (Sum.inr x : Key) = Sum.inr s then ((Sum.inr x : Key), V.bl true) else (Sum.inr x, V.bl true)) = _
   split <;> rfl
 . rw [decide_eq_false h, if_neg (by decide), if_neg h]
   unfold tru
   rw [List.map_append]
   rfl
theorem zry : ∀ (ss acc : List Str), (tru ss).foldl (λ acc kv => za3 acc kv.1 kv.2) (tru acc) = tru (ss.foldl step acc)
 | [], acc => rfl
 | s :: ss, acc => by
   show (tru ss).foldl _ (za3 (tru acc) (Sum.inr s) (.bl true)) = _
   rw [zzy]
   exact zry ss (step acc s)
theorem zwq (ss : List Str) : (tru ss).foldl (λ acc kv => za3 acc kv.1 kv.2) [] = tru (onceL ss) := zry ss []
theorem zw9 (ss : List Str) : ((tru ss).map λ kv => kV kv.1) = ss.map V.str := by
 unfold tru
 rw [List.map_map]
 rfl
theorem zzx {K : W.Frag} {H : Hp} {a q : Addr} {xs l l' : List V} (h : SqT K H a xs) (hq : H q = some (.lst l)) : SqT K (upd H q (.lst l')) a xs := by
 rcases h with (h | ⟨o, h⟩) | h
 . exact .inl (.inl (by rw [zah (zqx h hq (by intro z; cases z))]; exact h))
 . exact .inl (.inr ⟨o, by rw [zah (zqx h hq (by intro z; cases z))]; exact h⟩)
 . exact .inr h
def Nm (s : Str) : Prop := s.length <= 1000 /\ PyData.strOk s = true
end K12
namespace K12
open PySem L2 PySem.W PyProof.Rows
inductive RowS (K : W.Frag) (H : Hp) : List V -> Option Str -> List V -> Prop
 | copy (x : Str) (a : V) : RowS K H [.str "copy", .str x, a] (some x) [a]
 | op (x s : Str) (a b : V) : RowS K H [.str "op", .str x, .str s, a, b] (some x) [a, b]
 | new (x : Str) : RowS K H [.str "new", .str x] (some x) []
 | get (x : Str) (a : V) (f : Str) : RowS K H [.str "get", .str x, a, .str f] (some x) [a]
 | put (a : V) (f : Str) (b : V) : RowS K H [.str "put", a, .str f, b] none [a, b]
 | call (x f : Str) (p : Addr) (as : List V) : SqT K H p as -> RowS K H [.str "call", .str x, .str f, .ref p] (some x) as
 | out (a : V) : RowS K H [.str "out", a] none [a]
 | back (a : V) : RowS K H [.str "back", a] none [a]
 | ifs (a : V) : RowS K H [.str "if", a] none [a]
 | whl (a : V) : RowS K H [.str "while", a] none [a]
 | els : RowS K H [.str "else"] none []
 | fin : RowS K H [.str "end"] none []
theorem RowS.mono {K : W.Frag} {H H' : Hp} {xs : List V} {g : Option Str} {as : List V} (h : RowS K H xs g as) (e : zal H H') : RowS K H' xs g as := by
 cases h with
 | call x f p as hp => exact .call x f p as (e.tup hp)
 | copy x a => exact .copy x a
 | op x s a b => exact .op x s a b
 | new x => exact .new x
 | get x a f => exact .get x a f
 | put a f b => exact .put a f b
 | out a => exact .out a
 | back a => exact .back a
 | ifs a => exact .ifs a
 | whl a => exact .whl a
 | els => exact .els
 | fin => exact .fin
def tabl : List (Str × List V) := [("copy", [.int 2]), ("op", [.int 3, .int 4]), ("new", []), ("get", [.int 2]), ("put", [.int 1, .int 3]), ("out", [.int 1]), ("back", [.int 1]), ("if", [.int 1]), ("while", [.int 1]), ("else", []), ("end", [])]
def giving : List Str := ["copy", "op", "new", "get", "call"]
theorem zsq {K : W.Frag} {H : Hp} {xs : List V} {g : Option Str} {as : List V} (h : RowS K H xs g as) : ∃ kd : Str, atI xs 0 = some (.str kd) /\
   ((kd = "call" /\ ∃ p, atI xs 3 = some (.ref p) /\ SqT K H p as) \/ (kd ≠ "call" /\ ∃ pl : List Int, KTD.datumAt kd tabl = some (pl.map V.int) /\ pl.length = as.length /\ ∀ (i : Nat) (a : V), as[i]? = some a -> ∃ p, pl[i]? = some p /\ atI xs p = some a)) := by
 cases h with
 | call x f p as hp => exact ⟨"call", rfl, .inl ⟨rfl, p, rfl, hp⟩⟩
 | copy x a => exact ⟨"copy", rfl, .inr ⟨by decide +kernel, [2], by decide +kernel, rfl, λ i a' e => by match i, e with | 0, e => exact ⟨2, rfl, e⟩⟩⟩
 | op x s a b => exact ⟨"op", rfl, .inr ⟨by decide +kernel, [3, 4], by decide +kernel, rfl, λ i a' e => by match i, e with | 0, e => exact ⟨3, rfl, e⟩ | 1, e => exact ⟨4, rfl, e⟩⟩⟩
 | new x => exact ⟨"new", rfl, .inr ⟨by decide +kernel, [], by decide +kernel, rfl, λ i a' e => by simp at e⟩⟩
 | get x a f => exact ⟨"get", rfl, .inr ⟨by decide +kernel, [2], by decide +kernel, rfl, λ i a' e => by match i, e with | 0, e => exact ⟨2, rfl, e⟩⟩⟩
 | put a f b => exact ⟨"put", rfl, .inr ⟨by decide +kernel, [1, 3], by decide +kernel, rfl, λ i a' e => by match i, e with | 0, e => exact ⟨1, rfl, e⟩ | 1, e => exact ⟨3, rfl, e⟩⟩⟩
 | out a => exact ⟨"out", rfl, .inr ⟨by decide +kernel, [1], by decide +kernel, rfl, λ i a' e => by match i, e with | 0, e => exact ⟨1, rfl, e⟩⟩⟩
 | back a => exact ⟨"back", rfl, .inr ⟨by decide +kernel, [1], by decide +kernel, rfl, λ i a' e => by match i, e with | 0, e => exact ⟨1, rfl, e⟩⟩⟩
 | ifs a => exact ⟨"if", rfl, .inr ⟨by decide +kernel, [1], by decide +kernel, rfl, λ i a' e => by match i, e with | 0, e => exact ⟨1, rfl, e⟩⟩⟩
 | whl a => exact ⟨"while", rfl, .inr ⟨by decide +kernel, [1], by decide +kernel, rfl, λ i a' e => by match i, e with | 0, e => exact ⟨1, rfl, e⟩⟩⟩
 | els => exact ⟨"else", rfl, .inr ⟨by decide +kernel, [], by decide +kernel, rfl, λ i a' e => by simp at e⟩⟩
 | fin => exact ⟨"end", rfl, .inr ⟨by decide +kernel, [], by decide +kernel, rfl, λ i a' e => by simp at e⟩⟩
def xv : Option Str -> V
 | some x => .str x
 | none => .non
theorem zvc {K : W.Frag} {H : Hp} {xs : List V} {g : Option Str} {as : List V} (h : RowS K H xs g as) : ∃ kd : Str, atI xs 0 = some (.str kd) /\
   ((∃ x, g = some x /\ inV (.str kd) (giving.map V.str) = true /\ atI xs 1 = some (.str x)) \/ (g = none /\ inV (.str kd) (giving.map V.str) = false)) := by
 cases h with
 | call x f p as hp => exact ⟨"call", rfl, .inl ⟨x, rfl, by decide +kernel, rfl⟩⟩
 | copy x a => exact ⟨"copy", rfl, .inl ⟨x, rfl, by decide +kernel, rfl⟩⟩
 | op x s a b => exact ⟨"op", rfl, .inl ⟨x, rfl, by decide +kernel, rfl⟩⟩
 | new x => exact ⟨"new", rfl, .inl ⟨x, rfl, by decide +kernel, rfl⟩⟩
 | get x a f => exact ⟨"get", rfl, .inl ⟨x, rfl, by decide +kernel, rfl⟩⟩
 | put a f b => exact ⟨"put", rfl, .inr ⟨rfl, by decide +kernel⟩⟩
 | out a => exact ⟨"out", rfl, .inr ⟨rfl, by decide +kernel⟩⟩
 | back a => exact ⟨"back", rfl, .inr ⟨rfl, by decide +kernel⟩⟩
 | ifs a => exact ⟨"if", rfl, .inr ⟨rfl, by decide +kernel⟩⟩
 | whl a => exact ⟨"while", rfl, .inr ⟨rfl, by decide +kernel⟩⟩
 | els => exact ⟨"else", rfl, .inr ⟨rfl, by decide +kernel⟩⟩
 | fin => exact ⟨"end", rfl, .inr ⟨rfl, by decide +kernel⟩⟩
theorem zqs : (giving.map V.str).all zmp = true := by decide +kernel
def Atom (v : V) : Prop := (∃ s, v = .str s /\ Nm s) \/ ∃ i, v = .int i
structure RowD where
 r : Addr
 e : Addr
 a : Addr
 gx : Option Str
 as : List V
structure RowAt (K : W.Frag) (H : Hp) (d : RowD) : Prop where
 row : ∃ xs, SqT K H d.r xs /\ RowS K H xs d.gx d.as
 ats : ∀ v ∈ d.as, Atom v
 len : d.as.length <= 10
 nm : ∀ x, d.gx = some x -> Nm x
theorem RowAt.mono {K : W.Frag} {H H' : Hp} {d : RowD} (h : RowAt K H d) (e : zal H H') : RowAt K H' d :=
 ⟨let ⟨xs, h1, h2⟩ := h.row; ⟨xs, e.tup h1, h2.mono e⟩, h.ats, h.len, h.nm⟩
structure FunAt (K : W.Frag) (H : Hp) (f : Addr) (ps : List Str) (ds : List RowD) : Prop where
 fn : ∃ n b p r, SqT K H f [n, b, .ref p, .ref r] /\ SqT K H p (ps.map V.str) /\ SqT K H r (ds.map λ d => V.ref d.r)
 rows : ∀ d ∈ ds, RowAt K H d
 pn : ∀ s ∈ ps, Nm s
 pl : ps.length <= 100
 dl : ds.length <= 100
theorem FunAt.mono {K : W.Frag} {H H' : Hp} {f : Addr} {ps : List Str} {ds : List RowD} (h : FunAt K H f ps ds) (e : zal H H') : FunAt K H' f ps ds :=
 ⟨let ⟨n, b, p, r, h1, h2, h3⟩ := h.fn; ⟨n, b, p, r, e.tup h1, e.tup h2, e.tup h3⟩, λ d hd => (h.rows d hd).mono e, h.pn, h.pl, h.dl⟩
def rowStrs (d : RowD) : List Str := d.gx.toList ++ strsOf d.as
def allOf (ps : List Str) (ds : List RowD) : List Str := ps ++ ds.flatMap rowStrs
theorem strsOf_len (as : List V) : (strsOf as).length <= as.length := List.length_filterMap_le _ _
end K12
namespace K12
open PySem L2
section
variable {P : Program} {w : World} {K : W.Frag} {mg : Str -> Option Value} {base : Heap}
def zxm (H : Hp) (Q : VK) (vs : List V) : Prop := ∀ l H', zal H H' -> H l = none -> H' l = some (.lst vs) -> Q (.ref l) H'
def sp_gives (K : W.Frag) : Sp := λ vs H Q _ => ∃ (r : Addr) (xs : List V) (g : Option Str) (as : List V), vs = [.ref r] /\ SqT K H r xs /\ RowS K H xs g as /\ Q (xv g) H
def sp_atoms_of (K : W.Frag) : Sp := λ vs H Q _ => ∃ (r : Addr) (xs : List V) (g : Option Str) (as : List V), vs = [.ref r] /\ SqT K H r xs /\ RowS K H xs g as /\ as.length <= 10 /\ zxm H Q as
def sp_each_once (K : W.Frag) : Sp := λ vs H Q _ => ∃ (p : Addr) (ss : List Str), vs = [.ref p] /\ SqL K H p (ss.map V.str) /\ ss.length <= 5000 /\ zxm H Q ((onceL ss).map V.str)
def sp_reads (K : W.Frag) : Sp := λ vs H Q _ => ∃ (r : Addr) (xs : List V) (g : Option Str) (as : List V), vs = [.ref r] /\ SqT K H r xs /\ RowS K H xs g as /\ as.length <= 10 /\ (∀ v ∈ as, Atom v) /\ zxm H Q ((onceL (strsOf as)).map V.str)
def sp_names_of (K : W.Frag) : Sp := λ vs H Q _ => ∃ (f : Addr) (ps : List Str) (ds : List RowD), vs = [.ref f] /\ FunAt K H f ps ds /\ zxm H Q ((onceL (allOf ps ds)).map V.str)
def rIsi (K : W.Frag) : List V -> Hp -> VK -> Prop := λ xs H Q => ∃ x c t b, xs = [x, .ty c] /\ TyOf K H x t /\ W.kitOne K t (.type c) = some b /\ Q (.bl b) H
theorem znj {n : Nat} (h : n < 1000000) : n <= sizeLine := by
 have : (1000000 : Nat) < sizeLine := by decide
 omega
theorem zee {n : Nat} (h : n < 1000000) : n < sizeLine := by
 have : (1000000 : Nat) < sizeLine := by decide
 omega
theorem zrp {fs P G B : List Str} (h : onceL fs = onceL P) : onceL (fs ++ G ++ onceL B) = onceL (P ++ (G ++ B)) := by
 have e := ztx (fs ++ G) B []
 rw [List.append_nil, List.append_nil] at e
 rw [e, List.append_assoc]
 unfold onceL at h ⊢
 rw [List.foldl_append, h, <- List.foldl_append]
end
end K12
namespace K13
open PySem L2
def isO (s : Str) : Bool := decide (s = "if") || decide (s = "while")
def isE (s : Str) : Bool := decide (s = "else") || decide (s = "end")
def push (st : List Nat) (i : Nat) (s : Str) : List Nat := if isO s = true then i :: st else if s = "end" then st.tail else st
def kd (ks : List Str) (i : Nat) : Str := ks.getD i ""
def stk (ks : List Str) : Nat -> List Nat
 | 0 => []
 | i + 1 => push (stk ks i) i (kd ks i)
theorem zc8 (ks : List Str) (i : Nat) : stk ks (i + 1) = push (stk ks i) i (kd ks i) := rfl
theorem zkp (ks : List Str) : ∀ i, ∀ x ∈ stk ks i, x < i /\ isO (kd ks x) = true
 | 0, x, h => by cases h
 | i + 1, x, h => by
   rw [zc8] at h
   unfold push at h
   split at h
   . rcases List.mem_cons.mp h with e | e
     . subst e
       exact ⟨Nat.lt_succ_self _, by assumption⟩
     . have := zkp ks i x e
       exact ⟨by omega, this.2⟩
   . split at h
     . have := zkp ks i x (List.mem_of_mem_tail h)
       exact ⟨by omega, this.2⟩
     . have := zkp ks i x h
       exact ⟨by omega, this.2⟩
theorem zqc {s : Str} (h : isO s = true) : ¬ s = "end" := by
 intro e
 subst e
 revert h
 decide +kernel
theorem zpm {s : Str} (h : isO s = true) : ¬ s = "else" := by
 intro e
 subst e
 revert h
 decide +kernel
theorem zl2 : isO ("end" : Str) = false := by decide +kernel
structure Wf (ks : List Str) : Prop where
 open_ : ∀ i, i < ks.length -> isE (kd ks i) = true -> stk ks i ≠ []
 els : ∀ i b r, i < ks.length -> kd ks i = "else" -> stk ks i = b :: r -> kd ks b = "if"
 shut : stk ks ks.length = []
 last : ∀ i, i + 1 = ks.length -> kd ks i = "back"
 pos : 0 < ks.length
def At (ks : List Str) (b j d : Nat) : Prop := ∃ pre, stk ks j = pre ++ b :: stk ks b /\ pre.length + 1 = d
theorem zr5 {ks : List Str} {b : Nat} (h : isO (kd ks b) = true) : At ks b (b + 1) 1 := ⟨[], by rw [zc8]; unfold push; rw [if_pos h]; rfl, rfl⟩
theorem zzi {ks : List Str} {b j d : Nat} (h : At ks b j d) (ho : isO (kd ks j) = true) : At ks b (j + 1) (d + 1) := by
 obtain ⟨pre, e, l⟩ := h
 exact ⟨j :: pre, by rw [zc8]; unfold push; rw [if_pos ho, e]; rfl, by simp [l]⟩
theorem zuc {ks : List Str} {b j d : Nat} (h : At ks b j (d + 1)) (hd : 0 < d) (he : kd ks j = "end") : At ks b (j + 1) d := by
 obtain ⟨pre, e, l⟩ := h
 cases pre with
 | nil => simp at l; omega
 | cons p pre =>
   refine ⟨pre, ?_, by simpa using l⟩
   rw [zc8]
   unfold push
   rw [he, if_neg (by rw [zl2]; decide), if_pos rfl, e]
   rfl
theorem zxg {ks : List Str} {b j d : Nat} (h : At ks b j d) (ho : ¬ isO (kd ks j) = true) (he : ¬ kd ks j = "end") : At ks b (j + 1) d := by
 obtain ⟨pre, e, l⟩ := h
 exact ⟨pre, by rw [zc8]; unfold push; rw [if_neg ho, if_neg he, e], l⟩
theorem z12 {ks : List Str} {b j : Nat} (h : At ks b j 1) : stk ks j = b :: stk ks b := by
 obtain ⟨pre, e, l⟩ := h
 cases pre with
 | nil => exact e
 | cons p pre => simp at l
theorem z0o {ks : List Str} (w : Wf ks) {b j d : Nat} (h : At ks b j d) (hj : j <= ks.length) : j < ks.length := by
 rcases Nat.lt_or_ge j ks.length with q | q
 . exact q
 . have e : j = ks.length := by omega
   subst e
   obtain ⟨pre, e, _⟩ := h
   rw [w.shut] at e
   simp at e
theorem z1l {ks : List Str} {b j d : Nat} (h : At ks b j d) : 0 < d := by
 obtain ⟨pre, _, l⟩ := h
 omega
def zj7 (ks : List Str) (b e : Nat) : Prop := b < e /\ e < ks.length /\ kd ks e = "end" /\ stk ks e = b :: stk ks b /\ ∀ j, b < j -> j <= e -> ∃ d, At ks b j d
theorem zud {ks : List Str} {b e e' : Nat} (h : zj7 ks b e) (h' : zj7 ks b e') : e = e' := by
 have key : ∀ {e e' : Nat}, zj7 ks b e -> zj7 ks b e' -> ¬ e < e' := by
   intro e e' h h' hlt
   obtain ⟨h1, h2, h3, h4, h5⟩ := h
   obtain ⟨d, pre, q, _⟩ := h'.2.2.2.2 (e + 1) (by omega) hlt
   rw [zc8] at q
   unfold push at q
   rw [h3, if_neg (by rw [zl2]; decide), if_pos rfl, h4] at q
   have : (stk ks b).length = (pre ++ b :: stk ks b).length := by rw [<- q]; rfl
   simp at this
   omega
 have a := key h h'
 have b := key h' h
 omega
theorem zpk {ks : List Str} (w : Wf ks) {b : Nat} : ∀ (m j d : Nat), m = ks.length - j -> j <= ks.length -> b < j -> (∀ i, b < i -> i <= j -> ∃ d, At ks b i d) -> At ks b j d -> ∃ e, j <= e /\ zj7 ks b e
 | 0, j, d, hm, hj, hb, hall, h => absurd (z0o w h hj) (by omega)
 | m + 1, j, d, hm, hj, hb, hall, h => by
   have hlt := z0o w h hj
   have go : ∀ d', At ks b (j + 1) d' -> ∃ e, j <= e /\ zj7 ks b e := λ d' h' => by
     obtain ⟨e, he, q⟩ := zpk w m (j + 1) d' (by omega) (by omega) (by omega) (λ i h1 h2 => by
       rcases Nat.lt_or_ge j i with z | z
       . have : i = j + 1 := by omega
         subst this
         exact ⟨d', h'⟩
       . exact hall i h1 z) h'
     exact ⟨e, by omega, q⟩
   by_cases ho : isO (kd ks j) = true
   . exact go _ (zzi h ho)
   by_cases he : kd ks j = "end"
   . have hp := z1l h
     by_cases hd : d = 1
     . subst hd
       exact ⟨j, Nat.le_refl _, hb, hlt, he, z12 h, hall⟩
     . obtain ⟨d', rfl⟩ : ∃ d', d = d' + 1 := ⟨d - 1, by omega⟩
       exact go _ (zuc h (by omega) he)
   . exact go _ (zxg h ho he)
theorem zuv {ks : List Str} (w : Wf ks) {b : Nat} (hb : b < ks.length) (ho : isO (kd ks b) = true) : ∃ e, zj7 ks b e := by
 obtain ⟨e, _, h⟩ := zpk w (ks.length - (b + 1)) (b + 1) 1 rfl (by omega) (by omega) (λ i h1 h2 => by
   have : i = b + 1 := by omega
   subst this
   exact ⟨1, zr5 ho⟩) (zr5 ho)
 exact ⟨e, h⟩
def Hit (ks : List Str) (b k : Nat) : Prop := isE (kd ks k) = true /\ (stk ks k).head? = some b
theorem zut {ks : List Str} {b k : Nat} (h : Hit ks b k) : b < k /\ isO (kd ks b) = true := zkp ks k b (List.mem_of_mem_head? h.2)
theorem zql {ks : List Str} {b e : Nat} (h : zj7 ks b e) : Hit ks b e := by
 refine ⟨?_, ?_⟩
 . rw [h.2.2.1]; decide +kernel
 . rw [h.2.2.2.1]; rfl
theorem gone {ks : List Str} {b e : Nat} (h : zj7 ks b e) : ∀ j, e < j -> b ∉ stk ks j
 | 0, hj, _ => by omega
 | j + 1, hj, hm => by
   rcases Nat.lt_or_ge e j with q | q
   . have ih := gone h j q
     rw [zc8] at hm
     unfold push at hm
     split at hm
     . rcases List.mem_cons.mp hm with z | z
       . have := h.1
         omega
       . exact ih z
     . split at hm
       . exact ih (List.mem_of_mem_tail hm)
       . exact ih hm
   . have e1 : j = e := by omega
     subst e1
     rw [zc8] at hm
     unfold push at hm
     rw [h.2.2.1, if_neg (by rw [zl2]; decide), if_pos rfl, h.2.2.2.1] at hm
     have := (zkp ks b b hm).1
     omega
theorem zyg {ks : List Str} {b e k : Nat} (h : zj7 ks b e) (hk : Hit ks b k) : k <= e := by
 rcases Nat.lt_or_ge e k with q | q
 . exact absurd (List.mem_of_mem_head? hk.2) (gone h k q)
 . exact q
def one (ks : List Str) (i : Nat) : List (Nat × Nat) := if isE (kd ks i) = true then (match stk ks i with | [] => [] | b :: _ => [(i, b)]) else []
def prs (ks : List Str) : Nat -> List (Nat × Nat)
 | 0 => []
 | i + 1 => prs ks i ++ one ks i
def zg9 (L : List (Nat × Nat)) (b : Nat) : Option Nat := L.foldl (λ acc p => if p.2 = b then some p.1 else acc) none
def zcr (L : List (Nat × Nat)) (b : Nat) : Option Nat := L.foldl (λ acc p => if acc.isSome = true then acc else if p.2 = b then some p.1 else none) none
theorem zfn (ks : List Str) (i : Nat) : (∃ b, one ks i = [(i, b)] /\ Hit ks b i) \/ (one ks i = [] /\ ∀ b, ¬ Hit ks b i) := by
 unfold one Hit
 by_cases h : isE (kd ks i) = true
 . rw [if_pos h]
   cases q : stk ks i with
   | nil => exact .inr ⟨rfl, λ b z => by simp at z⟩
   | cons b r => exact .inl ⟨b, rfl, h, rfl⟩
 . rw [if_neg h]
   exact .inr ⟨rfl, λ b z => h z.1⟩
theorem zlu (L : List (Nat × Nat)) (p : Nat × Nat) (b : Nat) : zg9 (L ++ [p]) b = if p.2 = b then some p.1 else zg9 L b := by unfold zg9; rw [List.foldl_append]; rfl
theorem zkv (L : List (Nat × Nat)) (p : Nat × Nat) (b : Nat) : zcr (L ++ [p]) b = if (zcr L b).isSome = true then zcr L b else if p.2 = b then some p.1 else none := by unfold zcr; rw [List.foldl_append]; rfl
theorem zn8 {ks : List Str} {b b' k : Nat} (h : Hit ks b k) (h' : Hit ks b' k) : b = b' := by
 have := h.2.symm.trans h'.2
 simpa using this
theorem zoq (ks : List Str) (b : Nat) : ∀ i, (∀ m, zg9 (prs ks i) b = some m -> m < i /\ Hit ks b m /\ ∀ k, m < k -> k < i -> ¬ Hit ks b k) /\ (zg9 (prs ks i) b = none -> ∀ k, k < i -> ¬ Hit ks b k)
 | 0 => ⟨λ m h => (by cases h), λ _ k hk => (by omega)⟩
 | i + 1 => by
   obtain ⟨ih1, ih2⟩ := zoq ks b i
   show (∀ m, zg9 (prs ks i ++ one ks i) b = some m -> _) /\ (zg9 (prs ks i ++ one ks i) b = none -> _)
   rcases zfn ks i with ⟨b', e, hh⟩ | ⟨e, hn⟩
   . rw [e, zlu]
     by_cases hb : b' = b
     . rw [if_pos hb]
       subst hb
       exact ⟨λ m h => by cases h; exact ⟨Nat.lt_succ_self _, hh, λ k h1 h2 => by omega⟩, λ h => by cases h⟩
     . rw [if_neg hb]
       refine ⟨λ m h => ?_, λ h k hk => ?_⟩
       . obtain ⟨h1, h2, h3⟩ := ih1 m h
         refine ⟨by omega, h2, λ k q1 q2 hk => ?_⟩
         rcases Nat.lt_or_ge k i with z | z
         . exact h3 k q1 z hk
         . have : k = i := by omega
           subst this
           exact hb (zn8 hh hk)
       . intro hk'
         rcases Nat.lt_or_ge k i with z | z
         . exact ih2 h k z hk'
         . have : k = i := by omega
           subst this
           exact hb (zn8 hh hk')
   . rw [e, List.append_nil]
     refine ⟨λ m h => ?_, λ h k hk hk' => ?_⟩
     . obtain ⟨h1, h2, h3⟩ := ih1 m h
       refine ⟨by omega, h2, λ k q1 q2 hk => ?_⟩
       rcases Nat.lt_or_ge k i with z | z
       . exact h3 k q1 z hk
       . have : k = i := by omega
         subst this
         exact hn b hk
     . rcases Nat.lt_or_ge k i with z | z
       . exact ih2 h k z hk'
       . have : k = i := by omega
         subst this
         exact hn b hk'
theorem zih (ks : List Str) (b : Nat) : ∀ i, (∀ m, zcr (prs ks i) b = some m -> m < i /\ Hit ks b m /\ ∀ k, k < m -> ¬ Hit ks b k) /\ (zcr (prs ks i) b = none -> ∀ k, k < i -> ¬ Hit ks b k)
 | 0 => ⟨λ m h => (by cases h), λ _ k hk => (by omega)⟩
 | i + 1 => by
   obtain ⟨ih1, ih2⟩ := zih ks b i
   show (∀ m, zcr (prs ks i ++ one ks i) b = some m -> _) /\ (zcr (prs ks i ++ one ks i) b = none -> _)
   rcases zfn ks i with ⟨b', e, hh⟩ | ⟨e, hn⟩
   . rw [e, zkv]
     cases hf : zcr (prs ks i) b with
     | some m0 =>
       rw [if_pos (show (some m0).isSome = true from rfl)]
       obtain ⟨h1, h2, h3⟩ := ih1 m0 hf
       exact ⟨λ m h => by cases h; exact ⟨by omega, h2, h3⟩, λ h => by cases h⟩
     | none =>
       rw [if_neg (show ¬ (none : Option Nat).isSome = true by decide)]
       have hno := ih2 hf
       by_cases hb : b' = b
       . rw [if_pos hb]
         subst hb
         exact ⟨λ m h => by cases h; exact ⟨Nat.lt_succ_self _, hh, λ k hk => hno k hk⟩, λ h => by cases h⟩
       . rw [if_neg hb]
         refine ⟨λ m h => (by cases h), λ _ k hk hk' => ?_⟩
         rcases Nat.lt_or_ge k i with z | z
         . exact hno k z hk'
         . have : k = i := by omega
           subst this
           exact hb (zn8 hh hk')
   . rw [e, List.append_nil]
     refine ⟨λ m h => ?_, λ h k hk hk' => ?_⟩
     . obtain ⟨h1, h2, h3⟩ := ih1 m h
       exact ⟨by omega, h2, h3⟩
     . rcases Nat.lt_or_ge k i with z | z
       . exact ih2 h k z hk'
       . have : k = i := by omega
         subst this
         exact hn b hk'
theorem zxk {ks : List Str} {b e : Nat} (h : zj7 ks b e) : zg9 (prs ks ks.length) b = some e := by
 obtain ⟨h1, h2⟩ := zoq ks b ks.length
 cases q : zg9 (prs ks ks.length) b with
 | none => exact absurd (zql h) (h2 q e h.2.1)
 | some m =>
   obtain ⟨q1, q2, q3⟩ := h1 m q
   have := zyg h q2
   rcases Nat.lt_or_ge m e with z | z
   . exact absurd (zql h) (q3 e z h.2.1)
   . have : m = e := by omega
     rw [this]
def zqg (ks : List Str) (b f : Nat) : Prop := f < ks.length /\ Hit ks b f /\ ∀ k, k < f -> ¬ Hit ks b k
theorem zm8 {ks : List Str} {b f f' : Nat} (h : zqg ks b f) (h' : zqg ks b f') : f = f' := by
 rcases Nat.lt_trichotomy f f' with z | z | z
 . exact absurd h.2.1 (h'.2.2 f z)
 . exact z
 . exact absurd h'.2.1 (h.2.2 f' z)
theorem zxp {ks : List Str} {b f : Nat} (h : zqg ks b f) : zcr (prs ks ks.length) b = some f := by
 obtain ⟨h1, h2⟩ := zih ks b ks.length
 cases q : zcr (prs ks ks.length) b with
 | none => exact absurd h.2.1 (h2 q f h.1)
 | some m =>
   obtain ⟨q1, q2, q3⟩ := h1 m q
   rw [zm8 (⟨q1, q2, q3⟩ : zqg ks b m) h]
theorem ztk {ks : List Str} {b : Nat} (h : ¬ isO (kd ks b) = true) : zcr (prs ks ks.length) b = none := by
 obtain ⟨h1, h2⟩ := zih ks b ks.length
 cases q : zcr (prs ks ks.length) b with
 | none => rfl
 | some m => exact absurd (zut (h1 m q).2.1).2 h
inductive Beh (ks : List Str) : Nat -> Nat -> Prop
 | els {k b e r : Nat} : kd ks (k + 1) = "else" -> (stk ks (k + 1)).head? = some b -> zj7 ks b e -> Beh ks e r -> Beh ks k r
 | whl {k b : Nat} : kd ks (k + 1) = "end" -> (stk ks (k + 1)).head? = some b -> kd ks b = "while" -> Beh ks k b
 | fin {k b r : Nat} : kd ks (k + 1) = "end" -> (stk ks (k + 1)).head? = some b -> ¬ kd ks b = "while" -> Beh ks (k + 1) r -> Beh ks k r
 | oth {k : Nat} : ¬ kd ks (k + 1) = "else" -> ¬ kd ks (k + 1) = "end" -> Beh ks k (k + 1)
theorem zlz : ¬ (("else" : Str) = "end") := by decide +kernel
theorem Beh.uniq {ks : List Str} {k r : Nat} (h : Beh ks k r) : ∀ {r' : Nat}, Beh ks k r' -> r = r' := by
 induction h with
 | els h1 h2 h3 h4 ih =>
   intro r' h'
   cases h' with
   | els g1 g2 g3 g4 =>
     have hb := Option.some.inj (h2.symm.trans g2)
     subst hb
     have he := zud h3 g3
     subst he
     exact ih g4
   | whl g1 _ _ => exact absurd (h1.symm.trans g1) zlz
   | fin g1 _ _ _ => exact absurd (h1.symm.trans g1) zlz
   | oth g1 _ => exact absurd h1 g1
 | whl h1 h2 h3 =>
   intro r' h'
   cases h' with
   | els g1 _ _ _ => exact absurd (g1.symm.trans h1) zlz
   | whl g1 g2 g3 => exact Option.some.inj (h2.symm.trans g2)
   | fin g1 g2 g3 _ =>
     have hb := Option.some.inj (h2.symm.trans g2)
     subst hb
     exact absurd h3 g3
   | oth _ g2 => exact absurd h1 g2
 | fin h1 h2 h3 h4 ih =>
   intro r' h'
   cases h' with
   | els g1 _ _ _ => exact absurd (g1.symm.trans h1) zlz
   | whl g1 g2 g3 =>
     have hb := Option.some.inj (h2.symm.trans g2)
     subst hb
     exact absurd g3 h3
   | fin g1 g2 g3 g4 => exact ih g4
   | oth _ g2 => exact absurd h1 g2
 | oth h1 h2 =>
   intro r' h'
   cases h' with
   | els g1 _ _ _ => exact absurd g1 h1
   | whl g1 _ _ => exact absurd g1 h2
   | fin g1 _ _ _ => exact absurd g1 h2
   | oth _ _ => rfl
theorem zvi : ¬ (("back" : Str) = "else") /\ ¬ (("back" : Str) = "end") := by decide +kernel
theorem zlo {s : Str} (h : isO s = true) : ¬ isE s = true := by
 unfold isE
 rw [decide_eq_false (zpm h), decide_eq_false (zqc h)]
 decide
theorem z1d {s : Str} (h1 : ¬ s = "else") (h2 : ¬ s = "end") : ¬ isE s = true := by
 unfold isE
 rw [decide_eq_false h1, decide_eq_false h2]
 decide
inductive Due (ks : List Str) : Nat -> Option (List Nat) -> Prop
 | no {k : Nat} : isE (kd ks k) = true -> Due ks k none
 | back {k : Nat} : kd ks k = "back" -> Due ks k (some [])
 | two {k f r1 r2 : Nat} : isO (kd ks k) = true -> zqg ks k f -> Beh ks k r1 -> Beh ks f r2 -> Due ks k (some [r1, r2])
 | one {k r : Nat} : ¬ isE (kd ks k) = true -> ¬ kd ks k = "back" -> ¬ isO (kd ks k) = true -> Beh ks k r -> Due ks k (some [r])
theorem zrl : ¬ isE ("back" : Str) = true := by decide +kernel
theorem zt5 : ¬ isO ("back" : Str) = true := by decide +kernel
theorem Due.uniq {ks : List Str} {k : Nat} {o o' : Option (List Nat)} (h : Due ks k o) (h' : Due ks k o') : o = o' := by
 cases h with
 | no h =>
   cases h' with
   | no _ => rfl
   | back g => rw [g] at h; exact absurd h zrl
   | two g _ _ _ => exact absurd h (zlo g)
   | one g _ _ _ => exact absurd h g
 | back h =>
   cases h' with
   | no g => rw [h] at g; exact absurd g zrl
   | back _ => rfl
   | two g _ _ _ => rw [h] at g; exact absurd g zt5
   | one _ g _ _ => exact absurd h g
 | two h1 h2 h3 h4 =>
   cases h' with
   | no g => exact absurd g (zlo h1)
   | back g => rw [g] at h1; exact absurd h1 zt5
   | two g1 g2 g3 g4 =>
     have := zm8 h2 g2
     subst this
     rw [h3.uniq g3, h4.uniq g4]
   | one _ _ g _ => exact absurd h1 g
 | one h1 h2 h3 h4 =>
   cases h' with
   | no g => exact absurd g h1
   | back g => exact absurd g h2
   | two g _ _ _ => exact absurd g h3
   | one _ _ _ g => rw [h4.uniq g]
theorem zw8 {ks : List Str} {b e : Nat} (h : zj7 ks b e) : ∃ f, zqg ks b f := by
 obtain ⟨h1, h2⟩ := zih ks b ks.length
 cases q : zcr (prs ks ks.length) b with
 | none => exact absurd (zql h) (h2 q e h.2.1)
 | some m =>
   obtain ⟨q1, q2, q3⟩ := h1 m q
   exact ⟨m, q1, q2, q3⟩
theorem zr4 {ks : List Str} (w : Wf ks) {k : Nat} (hk : k < ks.length) (h : ¬ kd ks k = "back") : k + 1 < ks.length := by
 rcases Nat.lt_or_ge (k + 1) ks.length with z | z
 . exact z
 . exact absurd (w.last k (by omega)) h
theorem zs5 {ks : List Str} (w : Wf ks) {b f : Nat} (h : zqg ks b f) : f + 1 < ks.length := by
 refine zr4 w h.1 λ z => ?_
 have := h.2.1.1
 rw [z] at this
 exact zrl this
theorem zj8 {ks ys : List Str} {i : Nat} (h : i < ks.length) : kd (ks ++ ys) i = kd ks i := by
 unfold kd
 rw [List.getD_eq_getElem?_getD, List.getD_eq_getElem?_getD, List.getElem?_append_left h]
theorem zwl (ks ys : List Str) (i : Nat) : kd (ks ++ ys) (ks.length + i) = kd ys i := by
 unfold kd
 rw [List.getD_eq_getElem?_getD, List.getD_eq_getElem?_getD, List.getElem?_append_right (Nat.le_add_right _ _), Nat.add_sub_cancel_left]
theorem znl (ks : List Str) (x : Str) : kd (ks ++ [x]) ks.length = x := by
 have := zwl ks [x] 0
 rw [Nat.add_zero] at this
 rw [this]
 rfl
theorem zle (ks ys : List Str) : ∀ i, i <= ks.length -> stk (ks ++ ys) i = stk ks i
 | 0, _ => rfl
 | i + 1, h => by
   rw [zc8, zc8, zle ks ys i (by omega), zj8 (by omega)]
structure Good (ks os : List Str) : Prop where
 open_ : ∀ i, i < ks.length -> isE (kd ks i) = true -> stk ks i ≠ []
 els : ∀ i b r, i < ks.length -> kd ks i = "else" -> stk ks i = b :: r -> kd ks b = "if"
 len : (stk ks ks.length).length = os.length
 mt : ∀ (i b : Nat), (stk ks ks.length)[i]? = some b -> os[i]? = some "if" -> kd ks b = "if"
theorem good_nil : Good [] [] := ⟨λ i h => absurd h (Nat.not_lt_zero i), λ i _ _ h => absurd h (Nat.not_lt_zero i), rfl, λ i b h => by cases h⟩
theorem zrz (ks : List Str) (x : Str) : stk (ks ++ [x]) (ks ++ [x]).length = push (stk ks ks.length) ks.length x := by
 rw [List.length_append]
 show stk (ks ++ [x]) (ks.length + 1) = _
 rw [zc8, zle _ _ _ (Nat.le_refl _), znl]
theorem Good.snoc {ks os os' : List Str} {x : Str} (g : Good ks os) (ho : isE x = true -> os ≠ []) (he : x = "else" -> ∃ r, os = ("if" : Str) :: r)
   (hl : (push (stk ks ks.length) ks.length x).length = os'.length) (hm : ∀ (i b : Nat), (push (stk ks ks.length) ks.length x)[i]? = some b -> os'[i]? = some "if" -> kd (ks ++ [x]) b = "if") : Good (ks ++ [x]) os' := by
 have hn : (ks ++ [x]).length = ks.length + 1 := by rw [List.length_append]; rfl
 refine ⟨λ i h hE => ?_, λ i b r h hE hs => ?_, by rw [zrz]; exact hl, by rw [zrz]; exact hm⟩
 . rw [zle _ _ _ (by omega)]
   rcases Nat.lt_or_ge i ks.length with z | z
   . rw [zj8 z] at hE
     exact g.open_ i z hE
   . have : i = ks.length := by omega
     subst this
     rw [znl] at hE
     intro e
     have := g.len
     rw [e] at this
     exact ho hE (List.length_eq_zero_iff.mp this.symm)
 . rw [zle _ _ _ (by omega)] at hs
   rcases Nat.lt_or_ge i ks.length with z | z
   . rw [zj8 z] at hE
     have hb := (zkp ks i b (by rw [hs]; exact List.mem_cons_self)).1
     rw [zj8 (by omega)]
     exact g.els i b r z hE hs
   . have : i = ks.length := by omega
     subst this
     rw [znl] at hE
     obtain ⟨r', e⟩ := he hE
     have hb := (zkp ks ks.length b (by rw [hs]; exact List.mem_cons_self)).1
     rw [zj8 hb]
     exact g.mt 0 b (by rw [hs]; rfl) (by rw [e]; rfl)
theorem Good.keep {ks os : List Str} (g : Good ks os) (x : Str) {i b : Nat} (h : (stk ks ks.length)[i]? = some b) (h' : os[i]? = some "if") : kd (ks ++ [x]) b = "if" := by
 have hb := (zkp ks ks.length b (List.mem_of_getElem? h)).1
 rw [zj8 hb]
 exact g.mt i b h h'
theorem Good.plain {ks os : List Str} {x : Str} (g : Good ks os) (h1 : ¬ isO x = true) (h2 : ¬ isE x = true) (h3 : ¬ x = "end") : Good (ks ++ [x]) os := by
 have e : push (stk ks ks.length) ks.length x = stk ks ks.length := by unfold push; rw [if_neg h1, if_neg h3]
 refine g.snoc (λ z => absurd z h2) (λ z => absurd (by rw [z]; decide +kernel) h2) (by rw [e, g.len]) ?_
 rw [e]
 intro i b h h'
 exact g.keep x h h'
theorem Good.back {ks : List Str} (g : Good ks []) : Wf (ks ++ [("back" : Str)]) := by
 have hs : stk ks ks.length = [] := List.length_eq_zero_iff.mp g.len
 have g' := g.plain zt5 zrl (by decide +kernel)
 refine ⟨g'.open_, g'.els, List.length_eq_zero_iff.mp g'.len, λ i h => ?_, by rw [List.length_append]; exact Nat.succ_pos _⟩
 have : i = ks.length := by rw [List.length_append] at h; simpa using h
 rw [this, znl]
end K13
namespace K13
open PySem L2
structure RowsAt (K : W.Frag) (H : Hp) (a : Addr) (ks : List Str) : Prop where
 ex : ∃ rs : List Addr, SqT K H a (rs.map V.ref) /\ rs.length = ks.length /\ ∀ i r, rs[i]? = some r -> ∃ rest, SqT K H r (V.str (kd ks i) :: rest)
theorem RowsAt.mono {K : W.Frag} {H H' : Hp} {a : Addr} {ks : List Str} (h : RowsAt K H a ks) (e : zal H H') : RowsAt K H' a ks :=
 ⟨let ⟨rs, h1, h2, h3⟩ := h.ex; ⟨rs, e.tup h1, h2, λ i r q => let ⟨rest, z⟩ := h3 i r q; ⟨rest, e.tup z⟩⟩⟩
theorem at0 {x : V} {r : List V} : atI (x :: r) 0 = some x := by
 unfold atI ixN
 rw [if_pos (by decide), if_pos (by simp)]
 rfl
theorem ixk {K : W.Frag} {H : Hp} {Q : VK} {a : Addr} {ks : List Str} {i : Int} (h : RowsAt K H a ks) (h0 : 0 <= i) (h1 : i < ks.length) (q : Q (.str (kd ks i.toNat)) H) : z2b K (.ref a) (.int i) H λ x H1 => z2b K x (.int 0) H1 Q := by
 obtain ⟨rs, e1, e2, e3⟩ := h.ex
 have hi : i.toNat < rs.length := by omega
 obtain ⟨rest, hr⟩ := e3 i.toNat rs[i.toNat] (by simp [hi])
 refine ⟨a, _, i, .ref rs[i.toNat], rfl, rfl, e1, ?_, rs[i.toNat], _, 0, _, rfl, rfl, hr, at0, q⟩
 have e : atI (rs.map V.ref) i = some (V.ref rs[i.toNat]) := by
   unfold atI ixN
   rw [if_pos h0, if_pos (by rw [List.length_map]; omega), Option.bind_some, List.getElem?_map]
   simp [hi]
 exact e
def zwe (L : List (Nat × Nat)) : List (Key × V) := L.map λ p => (Sum.inl (p.1 : Int), V.int (p.2 : Int))
def bg (ks : List Str) (i : Nat) : List (Key × V) := zwe (prs ks i)
theorem zx7 (ks : List Str) : ∀ i, ∀ p ∈ prs ks i, p.1 < i
 | 0, p, h => by cases h
 | i + 1, p, h => by
   rcases List.mem_append.mp h with h | h
   . have := zx7 ks i p h
     omega
   . rcases zfn ks i with ⟨b, e, _⟩ | ⟨e, _⟩
     . rw [e] at h
       have : p = (i, b) := by simpa using h
       rw [this]
       exact Nat.lt_succ_self _
     . rw [e] at h
       cases h
theorem z0v (ks : List Str) (i : Nat) : zdc (bg ks i) (Sum.inl (i : Int) : Key) = none := by
 have h := zij (Sum.inl (i : Int) : Key) (bg ks i)
 cases q : zdc (bg ks i) (Sum.inl (i : Int) : Key) with
 | none => rfl
 | some v =>
   rw [q] at h
   obtain ⟨kv, hm, e⟩ := List.any_eq_true.mp h
   obtain ⟨p, hp, rfl⟩ := List.mem_map.mp hm
   have e := of_decide_eq_true e
   have : (p.1 : Int) = (i : Int) := Sum.inl.inj e
   have := zx7 ks i p hp
   omega
theorem zrv {ks : List Str} {i b : Nat} (h : Hit ks b i) : za3 (bg ks i) (Sum.inl (i : Int) : Key) (V.int (b : Int)) = bg ks (i + 1) := by
 rw [zsc _ (z0v ks i)]
 rcases zfn ks i with ⟨b', e, h'⟩ | ⟨e, h'⟩
 . show zwe (prs ks i) ++ _ = zwe (prs ks i ++ one ks i)
   rw [e, zn8 h h']
   unfold zwe
   rw [List.map_append]
   rfl
 . exact absurd h (h' b)
theorem zvn {ks : List Str} {i : Nat} (h : ¬ isE (kd ks i) = true) : bg ks (i + 1) = bg ks i := by
 rcases zfn ks i with ⟨b', e, h'⟩ | ⟨e, h'⟩
 . exact absurd h'.1 h
 . show zwe (prs ks i ++ one ks i) = _
   rw [e, List.append_nil]
   rfl
theorem zqv (ks : List Str) : ∀ i, (prs ks i).length <= i
 | 0 => Nat.le_refl _
 | i + 1 => by
   have := zqv ks i
   show (prs ks i ++ one ks i).length <= i + 1
   rw [List.length_append]
   rcases zfn ks i with ⟨b', e, h'⟩ | ⟨e, h'⟩ <;> rw [e] <;> simp <;> omega
theorem zup (ks : List Str) (i : Nat) : (bg ks i).length <= i := by unfold bg zwe; rw [List.length_map]; exact zqv ks i
def zso (ks : List Str) (i : Nat) : List V := (stk ks i).reverse.map λ (n : Nat) => V.int (n : Int)
theorem zw6 (ks : List Str) : ∀ i, (zso ks i).length <= i := by
 intro i
 unfold zso
 rw [List.length_map, List.length_reverse]
 induction i with
 | zero => exact Nat.le_refl _
 | succ i ih =>
   rw [zc8]
   unfold push
   split
   . simp; omega
   . split
     . simp; omega
     . omega
theorem inO (s : Str) : inV (.str s) [V.str "if", V.str "while"] = isO s := by
 show ((("if" : Str) == s) || ((("while" : Str) == s) || false)) = isO s
 unfold isO
 rw [Bool.or_false]
 congr 1 <;> (rw [Bool.eq_iff_iff, beq_iff_eq, decide_eq_true_eq]; exact eq_comm)
theorem inE (s : Str) : inV (.str s) [V.str "else", V.str "end"] = isE s := by
 show ((("else" : Str) == s) || ((("end" : Str) == s) || false)) = isE s
 unfold isE
 rw [Bool.or_false]
 congr 1 <;> (rw [Bool.eq_iff_iff, beq_iff_eq, decide_eq_true_eq]; exact eq_comm)
theorem le0 : 0 <= sizeLine := by decide
theorem le1 : 1 <= sizeLine := by decide
theorem le2 : 2 <= sizeLine := by decide
theorem zee {n : Nat} (h : n < 1000000) : n < sizeLine := by
 have : (1000000 : Nat) < sizeLine := by decide
 omega
theorem zrk {ks : List Str} {i b : Nat} {r : List Nat} (h : stk ks i = b :: r) : atI (zso ks i) (-1) = some (.int (b : Int)) /\ (zso ks i)[(zso ks i).length - 1]? = some (.int (b : Int)) /\ (zso ks i).dropLast = r.reverse.map λ (n : Nat) => V.int (n : Int) := by
 have e : zso ks i = (r.reverse.map λ (n : Nat) => V.int (n : Int)) ++ [V.int (b : Int)] := by
   unfold zso
   rw [h, List.reverse_cons, List.map_append]
   rfl
 rw [e]
 refine ⟨?_, by simp, by simp⟩
 unfold atI ixN
 rw [if_neg (by decide), if_pos (by simp; omega), Option.bind_some]
 have : ((-1 : Int) + (((r.reverse.map λ (n : Nat) => V.int (n : Int)) ++ [V.int (b : Int)]).length : Int)).toNat = (r.reverse.map λ (n : Nat) => V.int (n : Int)).length := by
   rw [List.length_append]
   simp
   omega
 rw [this]
 simp
theorem zvu {K : W.Frag} {H : Hp} {a q : Addr} {xs : List V} {kvs : List (Key × V)} {o : HO} (h : SqT K H a xs) (hq : H q = some (.dK kvs)) : SqT K (upd H q o) a xs := by
 rcases h with (h | ⟨o, h⟩) | h
 . exact .inl (.inl (by rw [zah (zqx h hq (by intro z; cases z))]; exact h))
 . exact .inl (.inr ⟨o, by rw [zah (zqx h hq (by intro z; cases z))]; exact h⟩)
 . exact .inr h
theorem RowsAt.frz {K : W.Frag} {H : Hp} {a q : Addr} {ks : List Str} {kvs : List (Key × V)} {o : HO} (h : RowsAt K H a ks) (hq : H q = some (.dK kvs)) : RowsAt K (upd H q o) a ks :=
 ⟨let ⟨rs, h1, h2, h3⟩ := h.ex; ⟨rs, zvu h1 hq, h2, λ i r z => let ⟨rest, y⟩ := h3 i r z; ⟨rest, zvu y hq⟩⟩⟩
def BehL (H : Hp) (l : Addr) (ks : List Str) : Prop := ∃ bs, H l = some (.lst bs) /\ bs.length = ks.length /\ ∀ k, k + 1 < ks.length -> ∃ r : Nat, Beh ks k r /\ bs[k]? = some (.int (r : Int))
def z07 (n : Nat) : List V := (List.replicate n [V.non]).flatten
theorem ztm (n : Nat) : (z07 n).length = n := by unfold z07; rw [zub]; simp
theorem z1j {ks : List Str} {b k : Nat} (n : Nat) (hk : k < n) (h : Hit ks b k) : zdc (bg ks n) (Sum.inl (k : Int) : Key) = some (.int (b : Int)) := by
 induction n with
 | zero => omega
 | succ n ih =>
   rcases Nat.lt_or_ge k n with z | z
   . rcases zfn ks n with ⟨b', e, h'⟩ | ⟨e, h'⟩
     . rw [<- zrv h', zdn, if_neg (λ z' => by have : (k : Int) = (n : Int) := Sum.inl.inj z'; omega)]
       exact ih z
     . have : bg ks (n + 1) = bg ks n := by
         show zwe (prs ks n ++ one ks n) = _
         rw [e, List.append_nil]
         rfl
       rw [this]
       exact ih z
   . have : k = n := by omega
     subst this
     rw [<- zrv h, zdn, if_pos rfl]
theorem zyf {ks : List Str} {n i : Nat} {kv : Key × V} (h : (bg ks n)[i]? = some kv) : ∃ p : Nat × Nat, (prs ks n)[i]? = some p /\ kv = (Sum.inl (p.1 : Int), V.int (p.2 : Int)) := by
 unfold bg zwe at h
 rw [List.getElem?_map] at h
 cases q : (prs ks n)[i]? with
 | none => rw [q] at h; cases h
 | some p => rw [q] at h; exact ⟨p, rfl, by simpa using h.symm⟩
def natsV (l : List Nat) : List V := l.map λ (n : Nat) => V.int (n : Int)
def zwf (H : Hp) (v : V) : Option (List Nat) -> Prop
 | none => v = .non
 | some l => ∃ p, v = .ref p /\ H p = some (.tup (natsV l))
theorem zwf.mono {H H' : Hp} {v : V} {o : Option (List Nat)} (h : zwf H v o) (e : zal H H') : zwf H' v o := by
 cases o with
 | none => exact h
 | some l => obtain ⟨p, h1, h2⟩ := h; exact ⟨p, h1, e _ _ h2⟩
theorem zwf.lst {H : Hp} {q : Addr} {l l' : List V} {v : V} {o : Option (List Nat)} (h : zwf H v o) (hq : H q = some (.lst l)) : zwf (upd H q (.lst l')) v o := by
 cases o with
 | none => exact h
 | some l => obtain ⟨p, h1, h2⟩ := h; exact ⟨p, h1, by rw [zah (zqx h2 hq (by intro z; cases z))]; exact h2⟩
def FoundN (H : Hp) (l : Addr) (ks : List Str) (i : Nat) : Prop := ∃ vs : List V, H l = some (.lst vs) /\ vs.length = i /\ ∀ k v, vs[k]? = some v -> ∃ o, Due ks k o /\ zwf H v o
theorem FoundN.mono {H H' : Hp} {l : Addr} {ks : List Str} {i : Nat} (h : FoundN H l ks i) (e : zal H H') : FoundN H' l ks i :=
 let ⟨vs, h1, h2, h3⟩ := h; ⟨vs, e _ _ h1, h2, λ k v q => let ⟨o, d, z⟩ := h3 k v q; ⟨o, d, z.mono e⟩⟩
theorem FoundN.push {H : Hp} {l : Addr} {ks : List Str} {i : Nat} {vs : List V} {v : V} {o : Option (List Nat)} (h1 : H l = some (.lst vs)) (h2 : vs.length = i) (h3 : ∀ k v, vs[k]? = some v -> ∃ o, Due ks k o /\ zwf H v o) (hd : Due ks i o) (hv : zwf H v o) : FoundN (upd H l (.lst (vs ++ [v]))) l ks (i + 1) := by
 refine ⟨_, zab, by rw [List.length_append, h2]; rfl, λ k v' q => ?_⟩
 rcases Nat.lt_or_ge k vs.length with z | z
 . rw [List.getElem?_append_left z] at q
   obtain ⟨o', d, y⟩ := h3 k v' q
   exact ⟨o', d, y.lst h1⟩
 . rw [List.getElem?_append_right z] at q
   have hk : k - vs.length = 0 := by
     rcases Nat.eq_zero_or_pos (k - vs.length) with y | y
     . exact y
     . rw [List.getElem?_eq_none (by simp; omega)] at q
       cases q
   rw [hk] at q
   have hv' : v = v' := by simpa using q
   subst hv'
   have : k = i := by omega
   subst this
   exact ⟨o, hd, hv.lst h1⟩
section
variable {P : Program} {w : World} {K : W.Frag} {mg : Str -> Option Value} {base : Heap}
def sp_begins_of (K : W.Frag) : Sp := λ vs H Q _ => ∃ (a : Addr) (ks : List Str), vs = [.ref a] /\ RowsAt K H a ks /\ Wf ks /\ ks.length <= 1000 /\ ∀ d H', zal H H' -> H d = none -> H' d = some (.dK (bg ks ks.length)) -> Q (.ref d) H'
def sp_firsts_behind (K : W.Frag) : Sp := λ vs H Q _ => ∃ (a d : Addr) (ks : List Str), vs = [.ref a, .ref d] /\ RowsAt K H a ks /\ Wf ks /\ ks.length <= 1000 /\ H d = some (.dK (bg ks ks.length)) /\ ∀ l o H', zal (upd H d (.frz o (.dK (bg ks ks.length)))) H' -> H l = none -> BehL H' l ks -> Q (.ref l) H'
def sp_ways (K : W.Frag) : Sp := λ vs H Q _ => ∃ (a : Addr) (ks : List Str), vs = [.ref a] /\ RowsAt K H a ks /\ Wf ks /\ ks.length <= 1000 /\ ∀ l H', zal H H' -> H l = none -> FoundN H' l ks ks.length -> Q (.ref l) H'
theorem znj {n : Nat} (h : n < 1000000) : n <= sizeLine := by
 have : (1000000 : Nat) < sizeLine := by decide
 omega
end
end K13
namespace Fl
open PySem L2 Gx
structure Rw where
 r : Addr
 k : Str
 c : Str
structure Fd where
 name : Str
 fa : Addr
 ra : Addr
 rs : List Rw
def z0k (K : W.Frag) (H : Hp) (w : Rw) : Prop := ∃ rest, SqT K H w.r (V.str w.k :: rest) /\ (w.k = "call" -> ∃ x y, rest = [x, .str w.c, y])
theorem z0k.mono {K : W.Frag} {H H' : Hp} {w : Rw} (e : zal H H') (h : z0k K H w) : z0k K H' w := let ⟨rest, h1, h2⟩ := h; ⟨rest, e.tup h1, h2⟩
structure FnAt (K : W.Frag) (H : Hp) (f : Fd) : Prop where
 fn : ∃ fo pa, SqT K H f.fa [.str f.name, fo, .ref pa, .ref f.ra]
 rw_ : SqT K H f.ra (f.rs.map λ w => V.ref w.r)
 rk : ∀ w ∈ f.rs, z0k K H w
 fu : ∃ ps ds, K12.FunAt K H f.fa ps ds
 wf : K13.Wf (f.rs.map (·.k))
 len : f.rs.length <= 100
theorem FnAt.mono {K : W.Frag} {H H' : Hp} {f : Fd} (e : zal H H') (h : FnAt K H f) : FnAt K H' f :=
 ⟨let ⟨a, b, z⟩ := h.fn; ⟨a, b, e.tup z⟩, e.tup h.rw_, λ w hw => (h.rk w hw).mono e, let ⟨a, b, z⟩ := h.fu; ⟨a, b, z.mono e⟩, h.wf, h.len⟩
theorem FnAt.rows {K : W.Frag} {H : Hp} {f : Fd} (h : FnAt K H f) : K13.RowsAt K H f.ra (f.rs.map (·.k)) := by
 refine ⟨f.rs.map (·.r), by rw [List.map_map]; exact h.rw_, by rw [List.length_map, List.length_map], λ i r hr => ?_⟩
 rw [List.getElem?_map] at hr
 cases e : f.rs[i]? with
 | none => rw [e] at hr; cases hr
 | some w =>
   rw [e] at hr
   cases hr
   obtain ⟨rest, h1, _⟩ := h.rk w (List.mem_of_getElem? e)
   refine ⟨rest, ?_⟩
   have : K13.kd (f.rs.map (·.k)) i = w.k := by
     unfold K13.kd
     rw [List.getD_eq_getElem?_getD, List.getElem?_map, e]
     rfl
   rw [this]
   exact h1
structure FS (C : Addr) (H : Hp) (x dx : Addr) (fs : List (Str × V)) (d : Nat -> Addr) (kv : Nat -> List (Key × V)) : Prop where
 ob : H x = some (.ins C dx fs)
 dc : ∀ j, j < 6 -> H (d j) = some (.dK (kv j))
theorem FS.mono {C : Addr} {H H' : Hp} {x dx : Addr} {fs : List (Str × V)} {d : Nat -> Addr} {kv : Nat -> List (Key × V)} (e : zal H H') (h : FS C H x dx fs d kv) : FS C H' x dx fs d kv := ⟨e _ _ h.ob, λ j hj => e _ _ (h.dc j hj)⟩
theorem FS.put {C : Addr} {H : Hp} {x dx : Addr} {fs : List (Str × V)} {d : Nat -> Addr} {kv : Nat -> List (Key × V)} (h : FS C H x dx fs d kv) (inj : ∀ i j, i < 6 -> j < 6 -> d i = d j -> i = j) (j : Nat) (hj : j < 6) (k' : List (Key × V)) : FS C (upd H (d j) (.dK k')) x dx fs d (λ i => if i = j then k' else kv i) := by
 refine ⟨?_, λ i hi => ?_⟩
 . rw [zah (zqx h.ob (h.dc j hj) (by intro z; cases z))]; exact h.ob
 . by_cases e : i = j
   . subst e
     rw [zab, if_pos rfl]
   . rw [zah (λ z => e (inj i j hi hj z)), if_neg e]
     exact h.dc i hi
def zov (v : V) (d : Nat -> Addr) : List (Str × V) := zja "ways_in" (.ref (d 5)) (zja "names_in" (.ref (d 4)) (zja "rows_of" (.ref (d 3)) (zja "params_of" (.ref (d 2)) (zja "folded_of" (.ref (d 1)) (zja "number_of" (.ref (d 0)) (zja "last" v []))))))
theorem zu0 (v : V) (d : Nat -> Addr) : (zov v d).lookup ("number_of" : Str) = some (.ref (d 0)) := by
 unfold zov
 rw [zaq, if_neg (by decide +kernel), zaq, if_neg (by decide +kernel), zaq, if_neg (by decide +kernel), zaq, if_neg (by decide +kernel), zaq, if_neg (by decide +kernel), zaq, if_pos rfl]
theorem zuz (v : V) (d : Nat -> Addr) : (zov v d).lookup ("folded_of" : Str) = some (.ref (d 1)) := by
 unfold zov
 rw [zaq, if_neg (by decide +kernel), zaq, if_neg (by decide +kernel), zaq, if_neg (by decide +kernel), zaq, if_neg (by decide +kernel), zaq, if_pos rfl]
theorem zps (v : V) (d : Nat -> Addr) : (zov v d).lookup ("params_of" : Str) = some (.ref (d 2)) := by
 unfold zov
 rw [zaq, if_neg (by decide +kernel), zaq, if_neg (by decide +kernel), zaq, if_neg (by decide +kernel), zaq, if_pos rfl]
theorem zun (v : V) (d : Nat -> Addr) : (zov v d).lookup ("rows_of" : Str) = some (.ref (d 3)) := by
 unfold zov
 rw [zaq, if_neg (by decide +kernel), zaq, if_neg (by decide +kernel), zaq, if_pos rfl]
theorem zr7 (v : V) (d : Nat -> Addr) : (zov v d).lookup ("names_in" : Str) = some (.ref (d 4)) := by
 unfold zov
 rw [zaq, if_neg (by decide +kernel), zaq, if_pos rfl]
theorem zuf (v : V) (d : Nat -> Addr) : (zov v d).lookup ("ways_in" : Str) = some (.ref (d 5)) := by
 unfold zov
 rw [zaq, if_pos rfl]
theorem zz9 (v : V) (d : Nat -> Addr) : (zov v d).lookup ("last" : Str) = some v := by
 unfold zov
 rw [zaq, if_neg (by decide +kernel), zaq, if_neg (by decide +kernel), zaq, if_neg (by decide +kernel), zaq, if_neg (by decide +kernel), zaq, if_neg (by decide +kernel), zaq, if_neg (by decide +kernel), zaq, if_pos rfl]
def dd (d0 d1 d2 d3 d4 d5 : Addr) : Nat -> Addr
 | 0 => d0
 | 1 => d1
 | 2 => d2
 | 3 => d3
 | 4 => d4
 | _ => d5
theorem zby {H : Hp} {a b : Addr} {o : HO} (h : upd H a o b = none) : b ≠ a /\ H b = none := by
 have hn : b ≠ a := λ z => by rw [z, zab] at h; cases h
 rw [zah hn] at h
 exact ⟨hn, h⟩
theorem za2 {H : Hp} {a b : Addr} {o o' : HO} (h : H b = some o) (hn : b ≠ a) : upd H a o' b = some o := by rw [zah hn]; exact h
theorem zke (f : Str) (v : V) (l : List (Str × V)) (k : Nat) (h : l.length <= k) : (zja f v l).length <= k + 1 := Nat.le_trans (zeo f v l) (by omega)
theorem zmw {α : Type} {l : List α} {f : α -> V} {r : Int} {a : α} (h0 : 0 <= r) (h : l[r.toNat]? = some a) : atI (l.map f) r = some (f a) := by
 obtain ⟨j, rfl⟩ := Int.eq_ofNat_of_zero_le h0
 refine zft ?_
 rw [Int.toNat_natCast] at h
 rw [List.getElem?_map, h]
 rfl
end Fl
namespace L2
open PySem
def hl (H : Hp) : Hp := λ b => match H b with
 | some (.lst xs) => some (.lst xs)
 | some (.tup xs) => some (.tup xs)
 | _ => none
theorem zqn {H : Hp} : zal (hl H) H := λ b o h => by
 unfold hl at h
 split at h
 . rename_i e; rw [e]; exact h
 . rename_i e; rw [e]; exact h
 . cases h
theorem zx5 {H : Hp} {b : Addr} {xs : List V} (h : H b = some (.lst xs)) : hl H b = some (.lst xs) := by unfold hl; rw [h]
theorem z15 {H : Hp} {b : Addr} {xs : List V} (h : H b = some (.tup xs)) : hl H b = some (.tup xs) := by unfold hl; rw [h]
theorem zal.hl {H H' : Hp} (e : zal H H') : zal (hl H) (hl H') := λ b o h => by
 have h1 := zqn _ _ h
 have h2 := e _ _ h1
 unfold L2.hl at h ⊢
 rw [h1] at h
 rw [h2]
 exact h
theorem z1r {H : Hp} {a : Addr} {o : HO} (h : ∀ xs, H a ≠ some (.lst xs) /\ H a ≠ some (.tup xs)) (ho : ∀ xs, o ≠ .lst xs /\ o ≠ .tup xs) : hl (upd H a o) = hl H := by
 funext b
 unfold hl upd
 by_cases hb : b = a
 . subst hb
   rw [if_pos rfl]
   cases o with
   | lst xs => exact absurd rfl (ho xs).1
   | tup xs => exact absurd rfl (ho xs).2
   | _ =>
     cases e : H b with
     | none => rfl
     | some u => cases u with
       | lst xs => exact absurd e (h xs).1
       | tup xs => exact absurd e (h xs).2
       | _ => rfl
 . rw [if_neg hb]
theorem zs6 {H : Hp} {a : Addr} {kvs kvs' : List (Key × V)} (h : H a = some (.dK kvs)) : hl (upd H a (.dK kvs')) = hl H :=
 z1r (λ xs => ⟨(by rw [h]; intro z; cases z), (by rw [h]; intro z; cases z)⟩) λ xs => ⟨(by intro z; cases z), (by intro z; cases z)⟩
end L2
namespace K13
open PySem L2
theorem FoundN.hl {H : Hp} {l : Addr} {ks : List Str} {i : Nat} (h : FoundN H l ks i) : FoundN (L2.hl H) l ks i := by
 obtain ⟨vs, h1, h2, h3⟩ := h
 refine ⟨vs, zx5 h1, h2, λ k v q => ?_⟩
 obtain ⟨o, d, z⟩ := h3 k v q
 refine ⟨o, d, ?_⟩
 cases o with
 | none => exact z
 | some l => obtain ⟨p, z1, z2⟩ := z; exact ⟨p, z1, z15 z2⟩
end K13
namespace F2
open PySem L2 Gx Fl
structure Fd where
 name : Str
 fo : V
 fa : Addr
 pa : Addr
 ra : Addr
 ps : List Str
 rs : List Rw
 ds : List K12.RowD
structure FnAt (K : W.Frag) (H : Hp) (f : Fd) : Prop where
 fn : SqT K H f.fa [.str f.name, f.fo, .ref f.pa, .ref f.ra]
 pr : SqT K H f.pa (f.ps.map V.str)
 rw_ : SqT K H f.ra (f.rs.map λ w => V.ref w.r)
 rk : ∀ w ∈ f.rs, z0k K H w
 fu : K12.FunAt K H f.fa f.ps f.ds
 wf : K13.Wf (f.rs.map (·.k))
 len : f.rs.length <= 100
theorem FnAt.mono {K : W.Frag} {H H' : Hp} {f : Fd} (e : zal H H') (h : FnAt K H f) : FnAt K H' f :=
 ⟨e.tup h.fn, e.tup h.pr, e.tup h.rw_, λ w hw => (h.rk w hw).mono e, h.fu.mono e, h.wf, h.len⟩
def toF (f : Fd) : Fl.Fd := ⟨f.name, f.fa, f.ra, f.rs⟩
theorem FnAt.old {K : W.Frag} {H : Hp} {f : Fd} (h : FnAt K H f) : Fl.FnAt K H (toF f) := ⟨⟨_, _, h.fn⟩, h.rw_, h.rk, ⟨_, _, h.fu⟩, h.wf, h.len⟩
def nms (f : Fd) : List Str := K12.onceL (K12.allOf f.ps f.ds)
def kds (f : Fd) : List Str := f.rs.map (·.k)
def kD (g : Nat -> Fd -> V) (fns : List Fd) : List (Key × V) := fns.mapIdx λ i f => (Sum.inr f.name, g i f)
theorem kD_len (g : Nat -> Fd -> V) (fns : List Fd) : (kD g fns).length = fns.length := by unfold kD; rw [List.length_mapIdx]
theorem zz6 (g : Nat -> Fd -> V) (fns : List Fd) (f : Fd) : kD g (fns ++ [f]) = kD g fns ++ [(Sum.inr f.name, g fns.length f)] := by
 unfold kD
 rw [List.mapIdx_append]
 simp
theorem zwk {g g' : Nat -> Fd -> V} {fns : List Fd} (h : ∀ i f, i < fns.length -> g i f = g' i f) : kD g fns = kD g' fns := by
 unfold kD
 refine List.ext_getElem (by simp) λ i h1 h2 => ?_
 simp only [List.getElem_mapIdx]
 rw [h i _ (by simpa using h1)]
theorem zz3 (g : Nat -> Fd -> V) {fns : List Fd} {s : Str} (h : s ∉ fns.map (·.name)) : zdc (kD g fns) (Sum.inr s : Key) = none := by
 unfold zdc
 rw [Option.map_eq_none_iff, List.find?_eq_none]
 intro kv hkv z
 unfold kD at hkv
 obtain ⟨i, hi, e⟩ := List.mem_mapIdx.mp hkv
 subst e
 have z : (Sum.inr fns[i].name : Key) = Sum.inr s := by simpa using z
 exact h (List.mem_map.mpr ⟨fns[i], List.getElem_mem hi, Sum.inr.inj z⟩)
theorem zm9 {fns : List Fd} {f : Fd} {i : Nat} (h : fns[i]? = some f) (nd : (fns.map (·.name)).Nodup) : f.name ∉ (fns.take i).map (·.name) := by
 intro z
 obtain ⟨g, hg, e⟩ := List.mem_map.mp z
 obtain ⟨j, hj⟩ := List.getElem?_of_mem hg
 have hji : j < i := by
   have := (List.getElem?_eq_some_iff.mp hj).1
   rw [List.length_take] at this
   omega
 rw [List.getElem?_take_of_lt hji] at hj
 have h1 : (fns.map (·.name))[i]? = some f.name := by rw [List.getElem?_map, h]; rfl
 have h2 : (fns.map (·.name))[j]? = some f.name := by rw [List.getElem?_map, hj]; exact congrArg some e
 have := (List.getElem?_inj (List.getElem?_eq_some_iff.mp h2).1 nd).mp (h2.trans h1.symm)
 omega
theorem zlp {g g' : Nat -> Fd -> V} {fns : List Fd} {f : Fd} {i : Nat} {v : V} (h : fns[i]? = some f) (nd : (fns.map (·.name)).Nodup) (hg : ∀ j f, j < i -> g j f = g' j f) (hv : v = g' i f) : za3 (kD g (fns.take i)) (Sum.inr f.name : Key) v = kD g' (fns.take (i + 1)) := by
 have hi : i < fns.length := (List.getElem?_eq_some_iff.mp h).1
 have hl : (fns.take i).length = i := by rw [List.length_take]; omega
 rw [zsc _ (zz3 g (zm9 h nd)), List.take_add_one, h]
 show _ = kD g' (fns.take i ++ [f])
 rw [zz6, hl, <- hv, zwk (g := g) (g' := g') λ j f hj => hg j f (by omega)]
theorem kD_at (g : Nat -> Fd -> V) : ∀ {fns : List Fd} {i : Nat} {f : Fd}, (fns.map (·.name)).Nodup -> fns[i]? = some f -> zdc (kD g fns) (Sum.inr f.name : Key) = some (g i f) := by
 intro fns i f nd h
 have hi : i < fns.length := (List.getElem?_eq_some_iff.mp h).1
 have key : ∀ k, i < k -> k <= fns.length -> zdc (kD g (fns.take k)) (Sum.inr f.name : Key) = some (g i f) := by
   intro k
   induction k with
   | zero => intro h0; exact absurd h0 (Nat.not_lt_zero _)
   | succ k ih =>
     intro hk hk'
     obtain ⟨f', hf'⟩ : ∃ f', fns[k]? = some f' := ⟨fns[k], List.getElem?_eq_getElem (by omega)⟩
     rw [<- zlp (g := g) (g' := g) hf' nd (λ _ _ _ => rfl) rfl, zdn]
     by_cases e : i = k
     . subst e
       rw [h] at hf'
       cases hf'
       rw [if_pos rfl]
     . have hn : ¬ (Sum.inr f.name : Key) = Sum.inr f'.name := λ z => zm9 hf' nd (List.mem_map.mpr ⟨f, List.mem_of_getElem? (by rw [List.getElem?_take_of_lt (show i < k by omega)]; exact h), Sum.inr.inj z⟩)
       rw [if_neg hn]
       exact ih (by omega) (by omega)
 have := key fns.length hi (Nat.le_refl _)
 rw [List.take_length] at this
 exact this
structure FlowsAt (K : W.Frag) (C : Addr) (H : Hp) (x : Addr) (fns : List Fd) : Prop where
 all : ∀ f ∈ fns, FnAt K H f
 nd : (fns.map (·.name)).Nodup
 ob : ∃ dx fz d kv, ∃ nl wl : Nat -> Addr, fns[fns.length - 1]? = some fz /\ FS C H x dx (zov (V.str fz.name) d) d kv /\ kv 0 = kD (λ i _ => .int i) fns /\ kv 1 = kD (λ _ f => f.fo) fns /\ kv 2 = kD (λ _ f => .ref f.pa) fns /\ kv 3 = kD (λ _ f => .ref f.ra) fns /\
   kv 4 = kD (λ i _ => .ref (nl i)) fns /\ kv 5 = kD (λ i _ => .ref (wl i)) fns /\ ∀ i f, fns[i]? = some f -> H (nl i) = some (.lst ((nms f).map V.str)) /\ K13.FoundN H (wl i) (kds f) (kds f).length
theorem FlowsAt.mono {K : W.Frag} {C : Addr} {H H' : Hp} {x : Addr} {fns : List Fd} (e : zal H H') (h : FlowsAt K C H x fns) : FlowsAt K C H' x fns := by
 obtain ⟨dx, fz, d, kv, nl, wl, h0, h1, h2, h3, h4, h5, h6, h7, h8⟩ := h.ob
 exact ⟨λ f hf => (h.all f hf).mono e, h.nd, ⟨dx, fz, d, kv, nl, wl, h0, h1.mono e, h2, h3, h4, h5, h6, h7, λ i f hi => ⟨e _ _ (h8 i f hi).1, (h8 i f hi).2.mono e⟩⟩⟩
end F2
namespace K21
open PySem L2
abbrev wide : Int := 281474976710656
def bw (s : Str) (a b : Int) : Int := if s = "&" then Builtin.bitAnd a b else if s = "|" then Builtin.bitOr a b else Builtin.bitXor a b
def valOf (s : Str) (a b : Int) : Int :=
 if s = "+" then (a + b) % wide else if s = "-" then (a - b) % wide else if s = "*" then (a * b) % wide else if s = "/" then (if b = 0 then 0 else a / b)
 else if s = "<" then (if a < b then 1 else 0) else if s = "=" then (if a = b then 1 else 0) else bw s a b
end K21
namespace Ex
open PySem PySem.W PyProof.Rows PySem.Spec
section
variable {prog : Program} {w : World} {A : Around} {E : Value -> Shared -> Prop} {R : Result -> Shared -> Prop} {h : Heap} {g : Array GenState} {d : Drawn} {t : Nat} {os : OsState}
 {nm q : Str} {C N : Addr} {bs bm : List Value} {hdct : Bool} {sn : List Str} {sub : List Value} {ab : Bool} {col : Option Bool} {dd : Option Addr} {k0 k1 k2 k3 k5 : Option Value}
end
end Ex
namespace L2
open PySem PySem.Spec PyProof.Rows
section
variable {P : Program} {w : World} {K : W.Frag} {mg : Str -> Option Value} {base : Heap} {N : List Str} {qual : Str} {sc : Scope} {f : Addr} {cd : Value} {A : Around} {outer : List Env} {s0 s : Shared} {H0 H : Hp} {E : XK}
 {pins : List (Addr × Obj)} {σ : St} {cls : Value} {d : Option Addr} {e : Addr}
end
end L2
namespace Ex
open PySem PySem.W PyProof.Rows PySem.Spec
section
variable {prog : Program} {w : World} {A : Around} {E : Value -> Shared -> Prop} {R : Result -> Shared -> Prop} {h : Heap} {g : Array GenState} {d : Drawn} {t : Nat} {os : OsState}
 {nm q : Str} {C N : Addr} {bs bm : List Value} {hdct : Bool} {sn : List Str} {sub : List Value} {ab : Bool} {col : Option Bool} {dd : Option Addr} {k0 k1 k2 k3 k5 : Option Value}
end
end Ex
namespace L2
open PySem PySem.Spec PyProof.Rows
theorem zzw {X : Cx} : OpR X (compareOp .IsNot) (λ x y H Q => ∃ a b, x = .bl a /\ y = .bl b /\ Q (.bl (!decide (a = b))) H) := by
 intro pins s σ H x y v u Q I rx ry h
 obtain ⟨a, b, rfl, rfl, q⟩ := h
 cases rx
 cases ry
 exact wpAny_isNot_plain rfl (zcs I q (by cases a <;> cases b <;> rfl))
end L2
namespace Sk
open PySem PySem.Spec PyProof.Rows
mutual
def hsh (w : World) : PyData -> Int
 | .int i => hashInt i
 | .str x => hashStr w x
 | .bool b => hashInt (if b then 1 else 0)
 | .tuple ds => reduceHash (Builtin.Tuple.tupleHashOf (hshs w ds))
 | _ => 0
def hshs (w : World) : List PyData -> List Int
 | [] => []
 | d :: ds => hsh w d :: hshs w ds
end
mutual
def drw : PyData -> Nat
 | .tuple ds => drws ds + 1
 | _ => 1
def drws : List PyData -> Nat
 | [] => 0
 | d :: ds => drw d + drws ds
end
end Sk
namespace L2
open PySem PySem.Spec PyProof.Rows
structure BaseOk (K : W.Frag) (C : Addr) (m : Str) (f : Addr) : Prop where
 ga : PySem.W.specialIn K (.ref C) "__getattribute__" = some (some (.builtin "type.__getattribute__"))
 rd : PySem.W.readsIn K C (.type "type") = true
 e : PySem.W.findCls K (.ref C) (.type "type") m = some (.val (.ref f))
 kp : PySem.W.keepIn K (.ref f) = true
section
variable {X : Cx} {CX : CXT} {k : Nat} {f C : Addr} {fd : FuncData} {ps : List Str} {sp : Sp} {dvs : List V} {ds : List Value} {E : XK} {x m : Str} {p pos apos : Pos} {e o : Expr} {es : List Expr} {ta : TE} {t : TA}
theorem zz4 {pl : Sem Bool} (he : PE X o (tC (.ref C))) (B : BaseOk X.K C m f) (F : FnOk X.prog X.w X.K X.mg X.base CX k f fd ps sp) (hr : Room k X.A) (hb : zjt X.K fd ps ds) (hd : zc6 dvs ds) (hx : zkt CX X E) (ha : PA X (e :: es) t)
   (hst : starEach (e :: es) X.env = (false, eval e X.env) :: starEach es X.env := by rfl) (hpl : (backTo pos (starEach es X.env)).any (·.1) = false := by rfl)
   (ht : eval (.Call (.Attribute o m apos) (e :: es) [] pos) X.env = (do
     let ov <- eval o X.env
     standAt apos.atName
     let (f, first) <- holding [ov] (getMethod ov m pl)
     callWith pos f first (backTo pos (starEach (e :: es) X.env)) (backToKw pos (keywordEach [] X.env))) := by rfl) :
   PE X (.Call (.Attribute o m apos) (e :: es) [] pos) (zzd sp dvs E t) := by
 intro pins s σ H Q I h
 refine PySem.W.methodCall_KW (pl := pl) (thn (he pins s σ H (λ x H1 => x = .ref C /\ t σ H1 λ vs H2 => sp (vs ++ dvs) H2 Q E) I ⟨rfl, h⟩) λ u s1 ⟨x, H1, I1, rx, ex, q⟩ => ?_) ht
 subst ex
 obtain rfl : u = Value.ref C := rx
 refine PySem.W.method_cls I1.kIn B.ga (PySem.W.cls_value I1.kIn B.rd B.e rfl ?_)
 have I2 := I1.tok (s1.toks + 1)
 refine PySem.W.callWith_K (first := []) (h₀ := X.base) I.ok.mod.kin B.kp (thn (ha pos pins _ σ H1 _ I2 q) λ us s2 ⟨vs, H2, I3, r, q2⟩ => ⟨I3.kIn, ?_⟩) hst hpl
 exact zr0 (us := us) (vs := vs) F hr hb hd hx I3 r q2
end
structure BasOk (K : W.Frag) (C : Addr) (m qual : Str) (st : Stmt) (ps : List Str) (f : Addr) (fd : FuncData) : Prop where
 F : Fun K m qual st f fd
 b : zjt K fd ps []
 B : BaseOk K C m f
theorem zwv {K : W.Frag} {C : Addr} {m qual : Str} {st : Stmt} {ps : List Str} {f : Addr} {oc : Value} {od an : Option Addr} {osl : Array (Option Value)} {kV doc pm cdv ct : Value}
   (ga : PySem.W.specialIn K (.ref C) "__getattribute__" = some (some (.builtin "type.__getattribute__"))) (rd : PySem.W.readsIn K C (.type "type") = true) (e : PySem.W.findCls K (.ref C) (.type "type") m = some (.val (.ref f))) (l : K.lookup f = some ⟨oc, od, .func (PySem.W.fnOf m qual (zaj st) (zai st) (zac st) .none kV doc pm an cdv ct), osl⟩) (c : PySem.W.codeIn K cdv qual = true) (k : PySem.W.keepIn K (.ref f) = true)
   (b : ∀ (kV doc pm : Value) (an : Option Addr) (cdv ct : Value) (us : List Value), us.length = ps.length -> bindArgs (PySem.W.fnOf m qual (zaj st) (zai st) (zac st) .none kV doc pm an cdv ct) ⟨us, []⟩ = pure (ps.zip us)) :
   BasOk K C m qual st ps f (PySem.W.fnOf m qual (zaj st) (zai st) (zac st) .none kV doc pm an cdv ct) :=
 ⟨zko l c k, (zko l c k).binds b, ⟨ga, rd, e, k⟩⟩
end L2
namespace L2
open PySem PySem.Spec PyProof.Rows
section
variable {prog : Program} {w : World} {A : Around} {E : Value -> Shared -> Prop} {s : Shared}
theorem zpp {d : Addr} {o : Obj} {es : Array DictEntry} {ep : Nat} {Q : Value -> Shared -> Prop} (hd : (d == sysModules) = false) (ho : s.heap.get? d = some o) (hc : o.ExactDict) (hdat : o.data = .dict es ep)
   (hQ : Q (.ref s.heap.objs.size) { s with heap := s.heap.push { cls := .type "dict_keyiterator", data := .fields #[.ref d, .int 0 0, .int es.size 0, .int ep 0] } }) :
   wpAny (model prog w) A (pyIter (.ref d)) Q E s := by
 have hT : s.TypeIs (.ref d) "dict" := ⟨o, ho, hc.1⟩
 refine wpAny_pyIter_slot hT F.slot_dict_iter (wpAny_call_entry F.slot_dict_iter hT F.entry_dict_iter ?_ (F.args_dict_iter_1 _))
 unfold Builtin.«dict.__iter__»
 refine wpAny_bind ?_
 unfold Builtin.Dict.dictSlotNone
 refine wpAny_bind (wpAny_notOrdered_dict hT ?_)
 show wpAny _ _ (pure (Value.ref d)) _ _ s
 refine wpAny_pure ?_
 show wpAny _ _ (Builtin.Dict.showsAll d >>= _) _ _ s
 unfold Builtin.Dict.showsAll
 rw [if_neg (by rw [hd]; exact Bool.false_ne_true)]
 refine wpAny_bind (wpAny_pure ?_)
 refine wpAny_bind (wpAny_dictEntries ho hdat ?_)
 refine wpAny_bind (wpAny_dictEpoch ho hdat ?_)
 refine wpAny_bind (wpAny_newObj_type (wpAny_pure ⟨_, rfl, "dict_keyiterator", _, ⟨_, Heap.get?_push_size _ rfl, rfl⟩, F.slot_dict_keyiterator_next.lookup, ?_⟩))
 simpa [rawInt] using hQ
theorem zqe {it d : Addr} {i ep : Nat} {od : Obj} {es : Array DictEntry} {Q : Option Value -> Shared -> Prop} (hit : s.heap.IsKeyIter it d i es.size ep) (hod : s.heap.get? d = some od) (hdd : od.data = .dict es ep) (hlt : i < es.size)
   (hQ : ∀ h', h'.IsKeyIter it d (i + 1) es.size ep -> Heap.SameBut it s.heap h' -> Q (some es[i].key) { s with heap := h' }) :
   wpAny (model prog w) A (pyNext (.ref it)) Q E s := by
 obtain ⟨o, ho, hc, hd⟩ := id hit
 unfold pyNext
 refine wpAny_bind (wpAny_attempt (wpAny_callSpecial?_slot (name := Str.ofString "__next__") hit.typeIs F.slot_dict_keyiterator_next
   (wpAny_call_entry F.slot_dict_keyiterator_next hit.typeIs F.entry_dict_keyiterator_next ?_ (F.args_dict_keyiterator_next_1 _))))
 refine wpAny_bind (wpAny_pure ?_)
 refine wpAny_bind ?_
 refine wpAny_bind ?_
 first | refine wpAny_bind (wpAny_typeNameOfWhole_keyiter hit.typeIs (wpAny_pure ?_)) | refine wpAny_bind (wpAny_typeNameOf_keyiter hit.typeIs (wpAny_pure ?_))
 refine wpAny_bind (wpAny_fieldsOf ho hd ?_)
 have hown : Builtin.Dict_items.ownsTuple "dict_keyiterator" = false := by decide
 simp only [hown, Bool.false_eq_true, if_false]
 show wpAny _ _ (if (Value.ref d == Value.none) = true then _ else _) _ _ s
 rw [if_neg (show ¬ ((Value.ref d == Value.none) = true) from Bool.false_ne_true)]
 refine wpAny_bind (wpAny_pure ?_)
 refine wpAny_bind (wpAny_dictEntries hod hdd ?_)
 rw [if_neg (by simp)]
 refine wpAny_bind (wpAny_pure ?_)
 refine wpAny_bind (wpAny_dictEpoch hod hdd ?_)
 rw [if_neg (by simp)]
 refine wpAny_pure ?_
 simp only [show ¬ ((i : Int) < 0) from by omega, if_false, Int.toNat_natCast, Array.getElem?_eq_getElem hlt]
 refine wpAny_bind ?_
 first | refine wpAny_bind (wpAny_typeNameOfWhole_keyiter hit.typeIs (wpAny_pure ?_)) | refine wpAny_bind (wpAny_typeNameOf_keyiter hit.typeIs (wpAny_pure ?_))
 refine wpAny_bind (wpAny_isOneOf_keyiter hit.typeIs ?_)
 show wpAny _ _ (setField (.ref it) 1 (rawInt ((i : Int) + 1)) >>= _) _ _ s
 refine wpAny_bind (wpAny_setField ho hd (by simp) ?_)
 have hit' : (s.heap.update it (Obj.mapFields (·.setIfInBounds 1 (rawInt ((i : Int) + 1))))).IsKeyIter it d (i + 1) es.size ep :=
   ⟨_, Heap.get?_update_self _ ho (Obj.isFreed_of_fields (Obj.data_mapFields hd _)), (Obj.cls_mapFields ..).trans hc, by rw [Obj.data_mapFields hd]; simp [rawInt]⟩
 refine wpAny_bind (wpAny_holding ?_)
 refine wpAny_bind (wpAny_isOneOf_keyiter (s := { s with heap := s.heap.update it (Obj.mapFields (·.setIfInBounds 1 (rawInt ((i : Int) + 1)))) }) hit'.typeIs ?_)
 show wpAny _ _ (pure es[i].key) _ _ _
 exact wpAny_pure (wpAny_pure ⟨_, rfl, wpAny_pure (hQ _ hit' (Heap.SameBut.update ..))⟩)
theorem zl3 {it d : Addr} {i ep : Nat} {od : Obj} {es : Array DictEntry} {Q : Option Value -> Shared -> Prop} (hh : A.handled = none) (hit : s.heap.IsKeyIter it d i es.size ep) (hod : s.heap.get? d = some od) (hdd : od.data = .dict es ep) (hge : es.size <= i)
   (hQ : ∀ h', Heap.ExtBut it s.heap h' -> Q none { s with heap := h' }) : wpAny (model prog w) A (pyNext (.ref it)) Q E s := by
 obtain ⟨o, ho, hc, hd⟩ := id hit
 unfold pyNext
 refine wpAny_bind (wpAny_attempt (wpAny_callSpecial?_slot (name := Str.ofString "__next__") hit.typeIs F.slot_dict_keyiterator_next
   (wpAny_call_entry F.slot_dict_keyiterator_next hit.typeIs F.entry_dict_keyiterator_next ?_ (F.args_dict_keyiterator_next_1 _))))
 refine wpAny_bind (wpAny_pure ?_)
 refine wpAny_bind ?_
 refine wpAny_bind ?_
 first | refine wpAny_bind (wpAny_typeNameOfWhole_keyiter hit.typeIs (wpAny_pure ?_)) | refine wpAny_bind (wpAny_typeNameOf_keyiter hit.typeIs (wpAny_pure ?_))
 refine wpAny_bind (wpAny_fieldsOf ho hd ?_)
 have hown : Builtin.Dict_items.ownsTuple "dict_keyiterator" = false := by decide
 simp only [hown, Bool.false_eq_true, if_false]
 show wpAny _ _ (if (Value.ref d == Value.none) = true then _ else _) _ _ s
 rw [if_neg (show ¬ ((Value.ref d == Value.none) = true) from Bool.false_ne_true)]
 refine wpAny_bind (wpAny_pure ?_)
 refine wpAny_bind (wpAny_dictEntries hod hdd ?_)
 rw [if_neg (by simp)]
 refine wpAny_bind (wpAny_pure ?_)
 refine wpAny_bind (wpAny_dictEpoch hod hdd ?_)
 rw [if_neg (by simp)]
 refine wpAny_pure ?_
 simp only [show ¬ ((i : Int) < 0) from by omega, if_false, Int.toNat_natCast, Array.getElem?_eq_none hge]
 refine wpAny_bind ?_
 first | refine wpAny_bind (wpAny_typeNameOfWhole_keyiter hit.typeIs (wpAny_pure ?_)) | refine wpAny_bind (wpAny_typeNameOf_keyiter hit.typeIs (wpAny_pure ?_))
 show wpAny _ _ (setField (.ref it) 0 .none >>= _) _ _ s
 refine wpAny_bind (wpAny_setField ho hd (by simp) ?_)
 show wpAny _ _ (newExc (.type "StopIteration") [] >>= _) _ _ _
 refine wpAny_bind ?_
 simp only [newExc, newTuple]
 refine wpAny_bind (wpAny_newObj_type ?_ (by size_fits))
 refine wpAny_bind (m := firstArgMember _ _) (wpAny_of_eq (a := Value.none) (by first | rfl | (simp only [firstArgMember]; rfl)) ?_)
 refine wpAny_newObj_type ?_ (by size_fits)
 simp only [raiseNew]
 refine wpAny_bind (wpAny_handled ?_)
 rw [show A.in1.handled = none from hh]
 refine wpAny_bind (wpAny_pure (wpAny_throw ?_))
 refine wpAny_bind (wpAny_isInstance (T := "StopIteration") (b := true) ⟨_, Heap.get?_push_size _ rfl, rfl⟩ isSubtype_stop ?_)
 exact wpAny_pure (hQ _ (((Heap.SameBut.update ..).extBut.push _).push _))
end
end L2
namespace L2
open PySem PySem.Spec PyProof.Rows
def z2s : R2 := λ x y H Q => ∃ (c : Nat) (k : Int), x = .str ⟨#[c]⟩ /\ y = .int k /\ 1 <= k /\ k <= 1000 /\ Q (.str ⟨(List.replicate k.toNat c).toArray⟩) H
theorem zvh (c : Nat) : ∀ (n : Nat) (a : Array Nat), (List.replicate n #[c]).foldl (· ++ ·) a = a ++ (List.replicate n c).toArray
 | 0, a => by simp
 | n + 1, a => by
   rw [List.replicate_succ, List.foldl_cons, zvh c n, List.replicate_succ]
   apply Array.toList_inj.mp
   simp
theorem zy6 {X : Cx} : OpR X (binaryOp .Mult) z2s := by
 intro pins s σ H x y v u Q I rx ry h
 obtain ⟨c, k, rfl, rfl, k0, k1, q⟩ := h
 obtain ⟨t, rfl⟩ := rx
 obtain ⟨tu, rfl⟩ := ry
 have hl : (⟨#[c]⟩ : Str).length = 1 := rfl
 refine PySem.P.mul_str ?_ (λ _ _ => ?_) (λ _ _ => ?_) ?_
 . rw [decide_eq_false (by omega), decide_eq_false (by omega)]; rfl
 . rw [hl]
   have : (1 : Int) <= (2 ^ 63 - 1) / k := by
     rw [Int.le_ediv_iff_mul_le (by omega)]
     omega
   omega
 . rw [hl]
   show decide (1 * k.toNat > sizeLine) = false
   refine decide_eq_false ?_
   have : (1000 : Nat) < sizeLine := by decide
   omega
 . rw [if_neg (by omega)]
   by_cases e : k = 1
   . subst e
     rw [if_pos (by simp)]
     exact ⟨.str ⟨#[c]⟩, H, I, ⟨_, rfl⟩, q⟩
   . rw [if_neg (by rw [hl]; simp [e]), zvh]
     refine ⟨?_, ?_⟩
     . show _ <= _
       simp [Str.length]
       have : (1000 : Nat) < sizeLine := by decide
       omega
     . have ee : (#[] : Array Nat) ++ (List.replicate k.toNat c).toArray = (List.replicate k.toNat c).toArray := by simp
       rw [ee]
       exact ⟨.str _, H, I.tok _, ⟨_, rfl⟩, q⟩
end L2
namespace L2
open PySem PySem.Spec PyProof.Rows
section
variable {g : TG} {tif : TT} {te : TE} {js : List (Option Nat)} {σ : St} {H : Hp} {Q : VK}
def zse (H : Hp) (p : Addr) (T : Nat -> Hp -> V -> Prop) (i : Nat) (acc : List V) (H2 : Hp) : Prop := zal H H2 /\ H2 p = some (.lst acc) /\ acc.length = i /\ ∀ (j : Nat) v, acc[j]? = some v -> T j (ers p H2) v
theorem ersU {p : Addr} {H : Hp} {o : HO} : ers p (upd H p o) = ers p H := by
 funext b
 unfold ers
 by_cases h : b = p
 . rw [if_pos h, if_pos h]
 . rw [if_neg h, if_neg h, zah h]
theorem zrs {p : Addr} {T : Nat -> Hp -> V -> Prop} {i : Nat} {acc : List V} {H2 H3 : Hp} {v : V} (tm : ∀ i v H H', zal H H' -> T i H v -> T i H' v) (hp : H p = none) (r : zse H p T i acc H2) (s3 : zal H2 H3) (hv : T i (ers p H3) v) :
   H3 p = some (.lst acc) /\ zse H p T (i + 1) (acc ++ [v]) (upd H3 p (.lst (acc ++ [v]))) := by
 obtain ⟨s2, e2, rfl, ht⟩ := r
 refine ⟨s3 _ _ e2, (s2.trans s3).upd hp, zab, by simp, λ j u hu => ?_⟩
 rw [ersU]
 by_cases hj : j < acc.length
 . rw [List.getElem?_append_left hj] at hu
   exact tm _ _ _ _ (zal.ers s3) (ht j u hu)
 . have : j = acc.length := by
     have := (List.getElem?_eq_some_iff.mp hu).1
     simp at this
     omega
   subst this
   rw [List.getElem?_append_right (Nat.le_refl _)] at hu
   simp at hu
   rw [<- hu]
   exact hv
theorem zou {K : W.Frag} {a : Addr} {xs : List V} {p : Addr} (T : Nat -> Hp -> V -> Prop) (tm : ∀ i v H H', zal H H' -> T i H v -> T i H' v) (hn : xs.length <= 1000000) (hS : SqL K H a xs) (hp : H p = none)
   (hs : ∀ i x H2 (R : VK), xs[i]? = some x -> zal H H2 -> (∃ acc, H2 p = some (.lst acc)) -> (∀ v H3, zal H2 H3 -> T i (ers p H3) v -> R v H3) -> g x (cap js σ) H2 λ σ2 H3 => tif σ2 H3 λ c H4 => if c = true then te σ2 H4 R else False)
   (hd : ∀ H2 vs, zal H H2 -> H2 p = some (.lst vs) -> vs.length = xs.length -> (∀ (i : Nat) v, vs[i]? = some v -> T i (ers p H2) v) -> Q (.ref p) H2) (mono : ∀ x H2 (M M' : St -> Hp -> Prop), (∀ σ' H', M σ' H' -> M' σ' H') -> g x (cap js σ) H2 M -> g x (cap js σ) H2 M' := by intro _ _ _ _ h z; exact h _ _ z) (mon2 : ∀ σ2 H2 (M M' : Bool -> Hp -> Prop), (∀ c H', M c H' -> M' c H') -> tif σ2 H2 M -> tif σ2 H2 M' := by intro _ _ _ _ h z; exact h _ _ z) :
   zqf (Itl K a) g tif te js σ Q p H := by
 refine zjs hn (zse H p T) ⟨zal.new hp, zab, rfl, λ j v h => by simp at h⟩ ?_ ?_ ?_
 . rintro i acc H2 hi ⟨s2, e2, l2, _⟩
   exact ⟨e2, by omega, s2.seq hS⟩
 . rintro i x acc H2 hx r
   refine mono _ _ _ _ (λ σ' H' z => ?_) (hs i x H2 _ hx r.1 ⟨acc, r.2.1⟩ λ v H3 s3 t3 => zrs tm hp r s3 t3)
   refine mon2 _ _ _ _ (λ c H'' zz => ?_) z
   cases c with
   | true => exact zz
   | false => exact zz.elim
 . rintro acc H2 ⟨s2, e2, l2, t2⟩
   exact hd H2 acc s2 e2 l2 t2
theorem zpo {lo : Int} {n : Nat} {p : Addr} (T : Nat -> Hp -> V -> Prop) (tm : ∀ i v H H', zal H H' -> T i H v -> T i H' v) (hn : n <= 1000000) (hp : H p = none)
   (hs : ∀ i H2 (R : VK), i < n -> zal H H2 -> (∃ acc, H2 p = some (.lst acc)) -> (∀ v H3, zal H2 H3 -> T i (ers p H3) v -> R v H3) -> g (.int (lo + i)) (cap js σ) H2 λ σ2 H3 => tif σ2 H3 λ c H4 => if c = true then te σ2 H4 R else False)
   (hd : ∀ H2 vs, zal H H2 -> H2 p = some (.lst vs) -> vs.length = n -> (∀ (i : Nat) v, vs[i]? = some v -> T i (ers p H2) v) -> Q (.ref p) H2) (mono : ∀ x H2 (M M' : St -> Hp -> Prop), (∀ σ' H', M σ' H' -> M' σ' H') -> g x (cap js σ) H2 M -> g x (cap js σ) H2 M' := by intro _ _ _ _ h z; exact h _ _ z) (mon2 : ∀ σ2 H2 (M M' : Bool -> Hp -> Prop), (∀ c H', M c H' -> M' c H') -> tif σ2 H2 M -> tif σ2 H2 M' := by intro _ _ _ _ h z; exact h _ _ z) :
   zqf (Itr lo n) g tif te js σ Q p H := by
 refine zti hn (zse H p T) ⟨zal.new hp, zab, rfl, λ j v h => by simp at h⟩ ?_ ?_ ?_
 . rintro i acc H2 hi ⟨s2, e2, l2, _⟩
   exact ⟨e2, by omega⟩
 . rintro i acc H2 hx r
   refine mono _ _ _ _ (λ σ' H' z => ?_) (hs i H2 _ hx r.1 ⟨acc, r.2.1⟩ λ v H3 s3 t3 => zrs tm hp r s3 t3)
   refine mon2 _ _ _ _ (λ c H'' zz => ?_) z
   cases c with
   | true => exact zz
   | false => exact zz.elim
 . rintro acc H2 ⟨s2, e2, l2, t2⟩
   exact hd H2 acc s2 e2 l2 t2
end
end L2
namespace Wk
open PySem L2 Gx Fl
structure Wr where
 (a dx st sd ct fl : Addr)
structure Fm where
 (a dx nd : Addr)
 fn : Str
 row : Nat
 kvs : List (Key × V)
def wF (w : Wr) (oc : V) (rc : Int) : List (Str × V) := [("flows", .ref w.fl), ("stack", .ref w.st), ("outcome", oc), ("sendings", .ref w.sd), ("contents", .ref w.ct), ("records", .int rc)]
def fF (f : Fm) : List (Str × V) := [("function", .str f.fn), ("row", .int f.row), ("named", .ref f.nd)]
structure FrAt (cF : Addr) (H : Hp) (f : Fm) : Prop where
 o : H f.a = some (.ins cF f.dx (fF f))
 n : H f.nd = some (.dK f.kvs)
structure WAt (cW cF : Addr) (Hb H : Hp) (w : Wr) (fs : List Fm) (oc : V) (sent : List V) (co : HO) (rc : Int) : Prop where
 b : zal Hb H
 o : H w.a = some (.ins cW w.dx (wF w oc rc))
 st : H w.st = some (.lst (fs.map λ f => V.ref f.a))
 sd : H w.sd = some (.lst sent)
 ct : H w.ct = some co
 fr : ∀ f ∈ fs, FrAt cF H f
 na : (fs.map (·.a)).Nodup
 nn : (fs.map (·.nd)).Nodup
 ne : w.st ≠ w.sd
 nc : ∀ f ∈ fs, f.nd ≠ w.ct
 cs : w.ct ≠ w.st /\ w.ct ≠ w.sd /\ w.ct ≠ w.a
 nf : ∀ f ∈ fs, f.a ≠ w.a /\ f.a ≠ w.ct
 fa : Hb w.a = none
 fst : Hb w.st = none
 fsd : Hb w.sd = none
 fct : Hb w.ct = none
 ff : ∀ f ∈ fs, Hb f.a = none /\ Hb f.nd = none
section
variable {cW cF : Addr} {Hb H H2 : Hp} {w : Wr} {fs : List Fm} {oc : V} {sent : List V} {co : HO} {rc : Int}
def gr (Hb H H2 : Hp) : Hp := λ b => match H b with
 | some _ => Hb b
 | none => H2 b
theorem zb5 (hb : zal Hb H) : zal Hb (gr Hb H H2) := λ b o h => by
 unfold gr
 rw [hb _ _ h]
 exact h
theorem z3d (hb : zal Hb H) (s : zal H H2) : zal (gr Hb H H2) H2 := λ b o h => by
 unfold gr at h
 cases e : H b with
 | none => rw [e] at h; exact h
 | some v => rw [e] at h; exact s _ _ (hb _ _ h)
theorem zu8 {b : Addr} {o : HO} (h : H b = none) (h2 : H2 b = some o) : gr Hb H H2 b = some o := by
 unfold gr
 rw [h]
 exact h2
theorem zmy {b : Addr} {o : HO} (h : H b = some o) (hb : Hb b = none) : gr Hb H H2 b = none := by
 unfold gr
 rw [h]
 exact hb
theorem WAt.grow (h : WAt cW cF Hb H w fs oc sent co rc) (s : zal H H2) : WAt cW cF (gr Hb H H2) H2 w fs oc sent co rc :=
 ⟨z3d h.b s, s _ _ h.o, s _ _ h.st, s _ _ h.sd, s _ _ h.ct, λ f hf => ⟨s _ _ (h.fr f hf).o, s _ _ (h.fr f hf).n⟩, h.na, h.nn, h.ne, h.nc, h.cs, h.nf, zmy h.o h.fa, zmy h.st h.fst, zmy h.sd h.fsd, zmy h.ct h.fct, λ f hf => ⟨zmy (h.fr f hf).o (h.ff f hf).1, zmy (h.fr f hf).n (h.ff f hf).2⟩⟩
theorem WAt.put {x : Addr} {o o' : HO} (h : WAt cW cF Hb H w fs oc sent co rc) (hx : Hb x = some o) : WAt cW cF (upd Hb x o') (upd H x o') w fs oc sent co rc := by
 have k : ∀ {b : Addr}, Hb b = none -> b ≠ x := λ hb z => by rw [z, hx] at hb; cases hb
 refine ⟨λ b u q => ?_, by rw [zah (k h.fa)]; exact h.o, by rw [zah (k h.fst)]; exact h.st, by rw [zah (k h.fsd)]; exact h.sd, by rw [zah (k h.fct)]; exact h.ct, λ f hf => ⟨by rw [zah (k (h.ff f hf).1)]; exact (h.fr f hf).o, by rw [zah (k (h.ff f hf).2)]; exact (h.fr f hf).n⟩,
   h.na, h.nn, h.ne, h.nc, h.cs, h.nf, by rw [zah (k h.fa)]; exact h.fa, by rw [zah (k h.fst)]; exact h.fst, by rw [zah (k h.fsd)]; exact h.fsd, by rw [zah (k h.fct)]; exact h.fct, λ f hf => ⟨by rw [zah (k (h.ff f hf).1)]; exact (h.ff f hf).1, by rw [zah (k (h.ff f hf).2)]; exact (h.ff f hf).2⟩⟩
 by_cases z : b = x
 . subst z; rw [zab] at q ⊢; exact q
 . rw [zah z] at q ⊢; exact h.b _ _ q
theorem zbl {a b : Addr} {x y : HO} (h1 : H a = some x) (h2 : H b = some y) (h : x ≠ y) : a ≠ b := λ z => by
 rw [z, h2] at h1
 exact h (Option.some.inj h1).symm
theorem WAt.out {v : V} (h : WAt cW cF Hb H w fs oc sent co rc) : WAt cW cF Hb (upd H w.a (.ins cW w.dx (wF w v rc))) w fs v sent co rc :=
 ⟨h.b.upd h.fa, zab, by rw [zah (zbl h.st h.o (by intro z; cases z))]; exact h.st, by rw [zah (zbl h.sd h.o (by intro z; cases z))]; exact h.sd, by rw [zah h.cs.2.2]; exact h.ct, λ f hf => ⟨by rw [zah (h.nf f hf).1]; exact (h.fr f hf).o, by rw [zah (zbl (h.fr f hf).n h.o (by intro z; cases z))]; exact (h.fr f hf).n⟩, h.na, h.nn, h.ne, h.nc, h.cs, h.nf, h.fa, h.fst, h.fsd, h.fct, h.ff⟩
theorem WAt.pop {f : Fm} (h : WAt cW cF Hb H w (fs ++ [f]) oc sent co rc) : WAt cW cF Hb (upd H w.st (.lst (fs.map λ f => V.ref f.a))) w fs oc sent co rc := by
 have sub : ∀ g ∈ fs, g ∈ fs ++ [f] := λ g hg => List.mem_append_left _ hg
 refine ⟨h.b.upd h.fst, by rw [zah (zbl h.o h.st (by intro z; cases z))]; exact h.o, zab, by rw [zah h.ne.symm]; exact h.sd, by rw [zah h.cs.1]; exact h.ct, λ g hg => ⟨by rw [zah (zbl (h.fr g (sub g hg)).o h.st (by intro z; cases z))]; exact (h.fr g (sub g hg)).o, by rw [zah (zbl (h.fr g (sub g hg)).n h.st (by intro z; cases z))]; exact (h.fr g (sub g hg)).n⟩,
   ?_, ?_, h.ne, λ g hg => h.nc g (sub g hg), h.cs, λ g hg => h.nf g (sub g hg), h.fa, h.fst, h.fsd, h.fct, λ g hg => h.ff g (sub g hg)⟩
 . have := h.na; rw [List.map_append] at this; exact (List.nodup_append.mp this).1
 . have := h.nn; rw [List.map_append] at this; exact (List.nodup_append.mp this).1
theorem WAt.goto {f : Fm} {r : Nat} (h : WAt cW cF Hb H w (fs ++ [f]) oc sent co rc) : WAt cW cF Hb (upd H f.a (.ins cF f.dx (fF { f with row := r }))) w (fs ++ [{ f with row := r }]) oc sent co rc := by
 have hf : f ∈ fs ++ [f] := List.mem_append_right _ (List.mem_singleton.mpr rfl)
 have sub : ∀ g ∈ fs, g ∈ fs ++ [f] := λ g hg => List.mem_append_left _ hg
 have of := (h.fr f hf).o
 have na := h.na
 rw [List.map_append] at na
 have apart : ∀ g ∈ fs, g.a ≠ f.a := λ g hg z => (List.nodup_append.mp na).2.2 _ (List.mem_map.mpr ⟨g, hg, rfl⟩) _ (List.mem_singleton.mpr rfl) z
 have fall : ∀ {P : Fm -> Prop}, (∀ g ∈ fs, P g) -> P { f with row := r } -> ∀ g ∈ fs ++ [{ f with row := r }], P g := λ h1 h2 g hg => by
   rcases List.mem_append.mp hg with hg | hg
   . exact h1 g hg
   . rw [List.mem_singleton.mp hg]; exact h2
 refine ⟨h.b.upd (h.ff f hf).1, by rw [zah (h.nf f hf).1.symm]; exact h.o, ?_, by rw [zah (zbl h.sd of (by intro z; cases z))]; exact h.sd, by rw [zah (h.nf f hf).2.symm]; exact h.ct,
   fall (λ g hg => ⟨by rw [zah (apart g hg)]; exact (h.fr g (sub g hg)).o, by rw [zah (zbl (h.fr g (sub g hg)).n of (by intro z; cases z))]; exact (h.fr g (sub g hg)).n⟩) ⟨zab, ?_⟩, ?_, ?_, h.ne, fall (λ g hg => h.nc g (sub g hg)) (h.nc f hf), h.cs, fall (λ g hg => h.nf g (sub g hg)) (h.nf f hf), h.fa, h.fst, h.fsd, h.fct, fall (λ g hg => h.ff g (sub g hg)) (h.ff f hf)⟩
 . rw [zah (zbl h.st of (by intro z; cases z)), h.st, List.map_append, List.map_append]; rfl
 . show upd H f.a _ f.nd = some (.dK f.kvs)
   rw [zah (zbl (h.fr f hf).n of (by intro z; cases z))]; exact (h.fr f hf).n
 . have := h.na; rw [List.map_append] at this ⊢; exact this
 . have := h.nn; rw [List.map_append] at this ⊢; exact this
theorem WAt.name {f : Fm} {ks : List (Key × V)} (h : WAt cW cF Hb H w (fs ++ [f]) oc sent co rc) : WAt cW cF Hb (upd H f.nd (.dK ks)) w (fs ++ [{ f with kvs := ks }]) oc sent co rc := by
 have hf : f ∈ fs ++ [f] := List.mem_append_right _ (List.mem_singleton.mpr rfl)
 have sub : ∀ g ∈ fs, g ∈ fs ++ [f] := λ g hg => List.mem_append_left _ hg
 have nf := (h.fr f hf).n
 have nn := h.nn
 rw [List.map_append] at nn
 have apart : ∀ g ∈ fs, g.nd ≠ f.nd := λ g hg z => (List.nodup_append.mp nn).2.2 _ (List.mem_map.mpr ⟨g, hg, rfl⟩) _ (List.mem_singleton.mpr rfl) z
 have fall : ∀ {P : Fm -> Prop}, (∀ g ∈ fs, P g) -> P { f with kvs := ks } -> ∀ g ∈ fs ++ [{ f with kvs := ks }], P g := λ h1 h2 g hg => by
   rcases List.mem_append.mp hg with hg | hg
   . exact h1 g hg
   . rw [List.mem_singleton.mp hg]; exact h2
 refine ⟨h.b.upd (h.ff f hf).2, by rw [zah (zbl h.o nf (by intro z; cases z))]; exact h.o, ?_, by rw [zah (zbl h.sd nf (by intro z; cases z))]; exact h.sd, by rw [zah (h.nc f hf).symm]; exact h.ct,
   fall (λ g hg => ⟨by rw [zah (zbl (h.fr g (sub g hg)).o nf (by intro z; cases z))]; exact (h.fr g (sub g hg)).o, by rw [zah (apart g hg)]; exact (h.fr g (sub g hg)).n⟩) ⟨?_, zab⟩, ?_, ?_, h.ne, fall (λ g hg => h.nc g (sub g hg)) (h.nc f hf), h.cs, fall (λ g hg => h.nf g (sub g hg)) (h.nf f hf), h.fa, h.fst, h.fsd, h.fct, fall (λ g hg => h.ff g (sub g hg)) (h.ff f hf)⟩
 . rw [zah (zbl h.st nf (by intro z; cases z)), h.st, List.map_append, List.map_append]; rfl
 . show upd H f.nd _ f.a = some (.ins cF f.dx (fF f))
   rw [zah (zbl (h.fr f hf).o nf (by intro z; cases z))]; exact (h.fr f hf).o
 . have := h.na; rw [List.map_append] at this ⊢; exact this
 . have := h.nn; rw [List.map_append] at this ⊢; exact this
theorem WAt.push {f : Fm} (h : WAt cW cF Hb H w fs oc sent co rc) (s : zal H H2) (ha : H f.a = none) (hn : H f.nd = none) (hF : FrAt cF H2 f) :
   WAt cW cF (ers f.a (ers f.nd (gr Hb H H2))) (upd H2 w.st (.lst ((fs ++ [f]).map λ f => V.ref f.a))) w (fs ++ [f]) oc sent co rc /\ zal Hb (ers f.a (ers f.nd (gr Hb H H2))) := by
 have h2 := h.grow s
 have old : ∀ {b : Addr} {o : HO}, H b = some o -> b ≠ f.a /\ b ≠ f.nd := λ hb => ⟨(λ z => by rw [z, ha] at hb; cases hb), (λ z => by rw [z, hn] at hb; cases hb)⟩
 have er : ∀ {b : Addr}, gr Hb H H2 b = none -> ers f.a (ers f.nd (gr Hb H H2)) b = none := λ {b} hb => by
   unfold L2.ers
   split
   . rfl
   . split
     . rfl
     . exact hb
 have fall : ∀ {P : Fm -> Prop}, (∀ g ∈ fs, P g) -> P f -> ∀ g ∈ fs ++ [f], P g := λ h1 h2 g hg => by
   rcases List.mem_append.mp hg with hg | hg
   . exact h1 g hg
   . rw [List.mem_singleton.mp hg]; exact h2
 have hb2 : zal (ers f.a (ers f.nd (gr Hb H H2))) H2 := λ b o hb => by
   unfold L2.ers at hb
   split at hb
   . cases hb
   . split at hb
     . cases hb
     . exact h2.b _ _ hb
 refine ⟨⟨hb2.upd (er h2.fst), by rw [zah (zbl h2.o h2.st (by intro z; cases z))]; exact h2.o, zab, by rw [zah h.ne.symm]; exact h2.sd, by rw [zah h.cs.1]; exact h2.ct, ?_, ?_, ?_, h.ne, fall h.nc (old h.ct).2.symm, h.cs, fall h.nf ⟨(old h.o).1.symm, (old h.ct).1.symm⟩, er h2.fa, er h2.fst, er h2.fsd, er h2.fct, ?_⟩, λ b o hb => ?_⟩
 . refine fall (λ g hg => ⟨by rw [zah (zbl (h2.fr g hg).o h2.st (by intro z; cases z))]; exact (h2.fr g hg).o, by rw [zah (zbl (h2.fr g hg).n h2.st (by intro z; cases z))]; exact (h2.fr g hg).n⟩) ⟨by rw [zah (zbl hF.o h2.st (by intro z; cases z))]; exact hF.o, by rw [zah (zbl hF.n h2.st (by intro z; cases z))]; exact hF.n⟩
 . rw [List.map_append, List.nodup_append]
   refine ⟨h.na, (by simp), λ a ha' b hb z => ?_⟩
   obtain ⟨g, hg, rfl⟩ := List.mem_map.mp ha'
   rw [List.mem_singleton.mp hb] at z
   exact (old (h.fr g hg).o).1 z
 . rw [List.map_append, List.nodup_append]
   refine ⟨h.nn, (by simp), λ a ha' b hb z => ?_⟩
   obtain ⟨g, hg, rfl⟩ := List.mem_map.mp ha'
   rw [List.mem_singleton.mp hb] at z
   exact (old (h.fr g hg).n).2 z
 . refine fall (λ g hg => ⟨er (h2.ff g hg).1, er (h2.ff g hg).2⟩) ⟨?_, ?_⟩
   . unfold L2.ers; rw [if_pos rfl]
   . unfold L2.ers
     split
     . rfl
     . rw [if_pos rfl]
 . have o' := h.b _ _ hb
   have n1 := old o'
   rw [zdf n1.1, zdf n1.2]
   exact zb5 h.b _ _ hb
def NI (H H' : Hp) : Prop := ∀ b o, H b = some o -> (∀ C dx fs, o ≠ .ins C dx fs) -> H' b = some o
theorem NI.tup {K : W.Frag} {a : Addr} {xs : List V} {H' : Hp} (e : NI H H') (h : SqT K H a xs) : SqT K H' a xs := by
 rcases h with h | h
 . refine .inl ?_
   rcases h with h | h
   . exact .inl (e _ _ h (λ _ _ _ z => by cases z))
   . exact .inr (by
       obtain h := h
       first
         | exact e _ _ h (λ _ _ _ z => by cases z)
         | (obtain ⟨n, h⟩ := h; exact ⟨n, e _ _ h (λ _ _ _ z => by cases z)⟩))
 . exact .inr h
theorem zyz {K : W.Frag} {H' : Hp} {xs as : List V} {g : Option Str} (e : NI H H') (h : K12.RowS K H xs g as) : K12.RowS K H' xs g as := by
 cases h <;> first | (constructor; done) | (constructor; exact e.tup (by assumption))
theorem zzv {K : W.Frag} {H' : Hp} {f : F2.Fd} (h : F2.FnAt K H f) (e : NI H H') : F2.FnAt K H' f :=
 ⟨e.tup h.fn, e.tup h.pr, e.tup h.rw_, λ w hw => let ⟨rest, h1, h2⟩ := h.rk w hw; ⟨rest, e.tup h1, h2⟩,
   ⟨let ⟨n, b, p, r, h1, h2, h3⟩ := h.fu.fn; ⟨n, b, p, r, e.tup h1, e.tup h2, e.tup h3⟩, λ d hd => let z := h.fu.rows d hd; ⟨let ⟨xs, h1, h2⟩ := z.row; ⟨xs, e.tup h1, zyz e h2⟩, z.ats, z.len, z.nm⟩, h.fu.pn, h.fu.pl, h.fu.dl⟩, h.wf, h.len⟩
theorem zxc {K : W.Frag} {C x : Addr} {H' : Hp} {fns : List F2.Fd} (h : F2.FlowsAt K C H x fns) (e : NI H H') (ex : ∀ o, H x = some o -> H' x = some o) : F2.FlowsAt K C H' x fns := by
 obtain ⟨dx, fz, d, kv, nl, wl, h0, h1, h2, h3, h4, h5, h6, h7, h8⟩ := h.ob
 refine ⟨λ f hf => zzv (h.all f hf) e, h.nd, ⟨dx, fz, d, kv, nl, wl, h0, ⟨ex _ h1.ob, λ j hj => e _ _ (h1.dc j hj) (λ _ _ _ z => by cases z)⟩, h2, h3, h4, h5, h6, h7, λ i f hi => ⟨e _ _ (h8 i f hi).1 (λ _ _ _ z => by cases z), ?_⟩⟩⟩
 obtain ⟨vs, e1, e2, e3⟩ := (h8 i f hi).2
 refine ⟨vs, e _ _ e1 (λ _ _ _ z => by cases z), e2, λ k v q => ?_⟩
 obtain ⟨o, due, vo⟩ := e3 k v q
 refine ⟨o, due, ?_⟩
 cases o with
 | none => exact vo
 | some l => obtain ⟨p, z1, z2⟩ := vo; exact ⟨p, z1, e _ _ z2 (λ _ _ _ z => by cases z)⟩
end
end Wk
namespace Wk
open PySem L2 Gx Fl
def av (kvs : List (Key × V)) : V -> Option V
 | .str s => zdc kvs (Sum.inr s)
 | .int i => some (.int i)
 | _ => none
def Way (F : F2.Fd) (k j r : Nat) : Prop := ∃ l, K13.Due (F2.kds F) k (some l) /\ l[j]? = some r
section
variable {K : W.Frag} {C x : Addr} {H : Hp} {fns : List F2.Fd} {F : F2.Fd}
def zwp (C : Addr) (H : Hp) (x : Addr) (fld : Str) (n : Str) (v : V) : Prop := ∃ dx fs d kvs, H x = some (.ins C dx fs) /\ fs.lookup fld = some (.ref d) /\ H d = some (.dK kvs) /\ zdc kvs (Sum.inr n : Key) = some v
theorem zep {H : Hp} {d : Addr} {kvs : List (Key × V)} {n : Str} {v : V} (h : H d = some (.dK kvs)) (hv : zdc kvs (Sum.inr n : Key) = some v) : zlb H d (.str n) (some v) := by
 have := zlb.k (k := (Sum.inr n : Key)) h
 rw [hv] at this
 exact this
theorem z0c (h : F2.FlowsAt K C H x fns) (hF : F ∈ fns) : zwp C H x "rows_of" F.name (.ref F.ra) := by
 obtain ⟨i, hi⟩ := List.getElem?_of_mem hF
 obtain ⟨dx, fz, d, kv, nl, wl, h0, hO, h2, h3, h4, h5, h6, h7, h8⟩ := h.ob
 have hd := hO.dc 3 (by decide)
 rw [h5] at hd
 exact ⟨dx, _, _, _, hO.ob, zun _ _, hd, F2.kD_at _ h.nd hi⟩
theorem ztt (h : F2.FlowsAt K C H x fns) (hF : F ∈ fns) : zwp C H x "params_of" F.name (.ref F.pa) := by
 obtain ⟨i, hi⟩ := List.getElem?_of_mem hF
 obtain ⟨dx, fz, d, kv, nl, wl, h0, hO, h2, h3, h4, h5, h6, h7, h8⟩ := h.ob
 have hd := hO.dc 2 (by decide)
 rw [h4] at hd
 exact ⟨dx, _, _, _, hO.ob, zps _ _, hd, F2.kD_at _ h.nd hi⟩
theorem zr6 (h : F2.FlowsAt K C H x fns) (hF : F ∈ fns) : ∃ nl, zwp C H x "names_in" F.name (.ref nl) /\ H nl = some (.lst ((F2.nms F).map V.str)) := by
 obtain ⟨i, hi⟩ := List.getElem?_of_mem hF
 obtain ⟨dx, fz, d, kv, nl, wl, h0, hO, h2, h3, h4, h5, h6, h7, h8⟩ := h.ob
 have hd := hO.dc 4 (by decide)
 rw [h6] at hd
 exact ⟨nl i, ⟨dx, _, _, _, hO.ob, zr7 _ _, hd, F2.kD_at _ h.nd hi⟩, (h8 i F hi).1⟩
theorem zy1 (h : F2.FlowsAt K C H x fns) (hF : F ∈ fns) {k j r : Nat} (hk : k < F.rs.length) (hw : Way F k j r) : ∃ wl tp vs l, zwp C H x "ways_in" F.name (.ref wl) /\ H wl = some (.lst vs) /\ vs[k]? = some (.ref tp) /\ H tp = some (.tup (K13.natsV l)) /\ l[j]? = some r := by
 obtain ⟨i, hi⟩ := List.getElem?_of_mem hF
 obtain ⟨dx, fz, d, kv, nl, wl, h0, hO, h2, h3, h4, h5, h6, h7, h8⟩ := h.ob
 have hd := hO.dc 5 (by decide)
 rw [h7] at hd
 obtain ⟨vs, e1, e2, e3⟩ := (h8 i F hi).2
 have hl : (F2.kds F).length = F.rs.length := by unfold F2.kds; rw [List.length_map]
 have ev : vs[k]? = some vs[k] := List.getElem?_eq_getElem (by omega)
 obtain ⟨o, due, vo⟩ := e3 k _ ev
 obtain ⟨l, dl, hl'⟩ := hw
 rw [K13.Due.uniq due dl] at vo
 obtain ⟨p, ep, hp⟩ := vo
 exact ⟨wl i, p, vs, l, ⟨dx, _, _, _, hO.ob, zuf _ _, hd, F2.kD_at _ h.nd hi⟩, e1, by rw [ev, ep], hp, hl'⟩
theorem zy2 (h : F2.FlowsAt K C H x fns) : ∃ dx fs fz, H x = some (.ins C dx fs) /\ fns[fns.length - 1]? = some fz /\ fs.lookup ("last" : Str) = some (.str fz.name) := by
 obtain ⟨dx, fz, d, kv, nl, wl, h0, hO, _⟩ := h.ob
 exact ⟨dx, _, fz, hO.ob, h0, zz9 _ _⟩
end
theorem zr1 {K : W.Frag} {H : Hp} : ∀ {vs : List V} {ns : List Str}, vs.length = ns.length -> (∀ (i : Nat) v, vs[i]? = some v -> ∃ y tp, ns[i]? = some y /\ v = .ref tp /\ H tp = some (.tup [.str y, .int 0])) -> ∃ ps : List Addr, vs = ps.map V.ref /\ Paired (λ a (kv : Key × V) => SqT K H a [kV kv.1, kv.2]) ps (ns.map λ n => ((Sum.inr n : Key), V.int 0))
 | [], [], _, _ => ⟨[], rfl, .nil⟩
 | v :: vs, n :: ns, hl, h => by
   obtain ⟨y, tp, h1, h2, h3⟩ := h 0 v rfl
   obtain ⟨ps, e, p⟩ := zr1 (vs := vs) (ns := ns) (by simpa using hl) (λ i u hu => by
     obtain ⟨y, tp, q⟩ := h (i + 1) u (by simpa using hu)
     exact ⟨y, tp, by simpa using q⟩)
   have : n = y := by simpa using h1
   subst this
   exact ⟨tp :: ps, by rw [h2, e]; rfl, .cons (SqT.of h3) p⟩
 | [], _ :: _, hl, _ => by simp at hl
 | _ :: _, [], hl, _ => by simp at hl
theorem zzc (kvs : List (Key × V)) (k : Key) (v : V) : (za3 kvs k v).length <= kvs.length + 1 := by
 induction kvs with
 | nil => simp [za3]
 | cons p r ih =>
   unfold za3
   split <;> simp <;> omega
theorem zgm {α : Type} (g : α -> Key × V) : ∀ (l : List α) (d : List (Key × V)), (l.foldl (λ d p => za3 d (g p).1 (g p).2) d).length <= d.length + l.length
 | [], d => by simp
 | p :: l, d => by
   rw [List.foldl_cons, List.length_cons]
   have h1 := zgm g l (za3 d (g p).1 (g p).2)
   have h2 := zzc d (g p).1 (g p).2
   omega
end Wk
namespace K41
open PySem L2 Gx Fl
structure RR where
 w : Rw
 d : K12.RowD
def RRok (K : W.Frag) (H : Hp) (x : RR) : Prop := x.w.r = x.d.r /\ z0k K H x.w /\ K12.RowAt K H x.d
end K41
namespace Bg
open PySem L2 Gx K41
theorem z1p {K : W.Frag} {H : Hp} {nk : Str} {fa tr qC : Addr} {fo : V} {ps : List Str} (rr : List RR) (h1 : SqT K H fa [.str nk, fo, .ref qC, .ref tr]) (h2 : SqT K H tr (rr.map λ x => V.ref x.w.r)) (h3 : ∀ x ∈ rr, RRok K H x) (h4 : SqT K H qC (ps.map V.str)) (h5 : ∀ s ∈ ps, K12.Nm s) (h6 : ps.length <= 100) (h7 : rr.length <= 100) (wf : K13.Wf (rr.map λ x => x.w.k)) :
   F2.FnAt K H ⟨nk, fo, fa, qC, tr, ps, rr.map (·.w), rr.map (·.d)⟩ := by
 refine ⟨h1, h4, by show SqT K H tr ((rr.map (·.w)).map λ w => V.ref w.r); rw [List.map_map]; exact h2, λ w hw => ?_, ⟨⟨_, _, _, _, h1, h4, ?_⟩, λ d hd => ?_, h5, h6, by show (rr.map (·.d)).length <= 100; rw [List.length_map]; exact h7⟩, by show K13.Wf ((rr.map (·.w)).map (·.k)); rw [List.map_map]; exact wf, by show (rr.map (·.w)).length <= 100; rw [List.length_map]; exact h7⟩
 . obtain ⟨x, hx, rfl⟩ := List.mem_map.mp hw
   exact (h3 x hx).2.1
 . show SqT K H tr ((rr.map (·.d)).map λ d => V.ref d.r)
   rw [List.map_map]
   have : (rr.map λ x => V.ref x.w.r) = rr.map ((λ d => V.ref d.r) ∘ (·.d)) := List.map_congr_left λ x hx => by
     show V.ref x.w.r = V.ref x.d.r
     rw [(h3 x hx).1]
   rw [<- this]
   exact h2
 . obtain ⟨x, hx, rfl⟩ := List.mem_map.mp hd
   exact (h3 x hx).2.2
end Bg
namespace K55
open PySem L2 Gx Fl Sk
def TS (H H' : Hp) : Prop := ∀ b xs, Rd H b (.tup xs) -> Rd H' b (.tup xs)
theorem TS.tup {K : W.Frag} {H H' : Hp} {a : Addr} {xs : List V} (e : TS H H') (h : SqT K H a xs) : SqT K H' a xs := h.imp (e a xs) id
end K55
namespace K55
open PySem L2 Gx Fl Sk K41 Bg
theorem zy0 {K : W.Frag} {H H' : Hp} {xs as : List V} {g : Option Str} (e : TS H H') (h : K12.RowS K H xs g as) : K12.RowS K H' xs g as := by
 cases h <;> first | (constructor; done) | (constructor; exact e.tup (by assumption))
theorem fnAt_ts {K : W.Frag} {H H' : Hp} {f : F2.Fd} (h : F2.FnAt K H f) (e : TS H H') : F2.FnAt K H' f :=
 ⟨e.tup h.fn, e.tup h.pr, e.tup h.rw_, λ w hw => let ⟨rest, h1, h2⟩ := h.rk w hw; ⟨rest, e.tup h1, h2⟩,
   ⟨let ⟨n, b, p, r, h1, h2, h3⟩ := h.fu.fn; ⟨n, b, p, r, e.tup h1, e.tup h2, e.tup h3⟩, λ d hd => let z := h.fu.rows d hd; ⟨let ⟨xs, h1, h2⟩ := z.row; ⟨xs, e.tup h1, zy0 e h2⟩, z.ats, z.len, z.nm⟩, h.fu.pn, h.fu.pl, h.fu.dl⟩, h.wf, h.len⟩
end K55
namespace L2
open PySem PySem.Spec PyProof.Rows
section
variable {X : Cx} {pins : List (Addr × Obj)} {σ : St} {H : Hp} {s : Shared}
theorem Inv.freezeT {d : Addr} {kvs : List (List Key × V)} (I : Inv X pins σ H s) (e : H d = some (.dT kvs)) : ∃ o, s.heap.get? d = some o /\ Inv X pins σ (upd H d (.frz o (.dT kvs))) s := by
 obtain ⟨z, hd, vs, rel, o, es, ep, ho, r⟩ := I.hok d _ e
 refine ⟨o, ho, ?_⟩
 have nd : ∀ b u, H b = some u -> u ≠ .dT kvs -> b ≠ d := λ b u q n z => by
   subst z
   rw [e] at q
   cases q
   exact n rfl
 refine I.step (g' := s.gens) (t' := s.toks) (d' := s.drawn) (h' := s.heap) (ch := []) (λ _ z => nomatch z) (λ b o _ _ _ q _ => q) (λ b o _ _ _ q _ => ⟨o.slots, q⟩) (λ b o _ _ n => ?_) (λ b o _ q => ⟨o, q⟩) (λ b xs q => ?_) (λ b o u q => ?_) (λ b ps q => ⟨#[], ?_⟩) (λ m hm => hm) (λ b u q => ?_) I.bare
 . rw [zah (λ z => by subst z; rw [e] at n; cases n)]
   exact n
 . rw [zah (nd b _ q (by intro z; cases z))]
   exact q
 . rw [zah (nd b _ q (by intro z; cases z))]
   exact q
 . rw [zah (nd b _ q (by intro z; cases z)), q]
   simp
 . have own : ∀ c b, H c = some (.own b) -> (upd H d (.frz o (.dT kvs))) c = some (.own b) := λ c b q => (zah (nd c _ q (by intro z; cases z))).trans q
   have tup : ∀ c xs, H c = some (.tup xs) -> (upd H d (.frz o (.dT kvs))) c = some (.tup xs) := λ c xs q => (zah (nd c _ q (by intro z; cases z))).trans q
   by_cases hb : b = d
   . subst hb
     rw [zab] at q
     cases q
     exact ⟨ho, (I.hok _ _ e).stay (λ _ _ _ q => q) (λ c q => own c _ q) tup⟩
   . rw [zah hb] at q
     exact (I.hok b u q).stay (λ _ _ _ q => q) (λ c q => own c _ q) tup
end
theorem Inv.thawT {X : Cx} {pins : List (Addr × Obj)} {σ : St} {H : Hp} {s : Shared} {d : Addr} {o : Obj} {kvs : List (List Key × V)} (I : Inv X pins σ H s) (e : H d = some (.frz o (.dT kvs))) (h0 : ∀ o u, X.H₀ d ≠ some (.frz o u)) : Inv X pins σ (upd H d (.dT kvs)) s := by
 have nd : ∀ b u, H b = some u -> u ≠ .frz o (.dT kvs) -> b ≠ d := λ b u q n z => by
   subst z
   rw [e] at q
   cases q
   exact n rfl
 have none_of : ∀ {b : Addr}, H b = none -> upd H d (.dT kvs) b = none := λ {b} hb => by
   rw [zah (λ z => by subst z; rw [e] at hb; cases hb)]
   exact hb
 refine ⟨I.ok, I.os, I.bare, ⟨I.base.keep, I.base.slot, λ b q h1 h2 h3 => none_of (I.base.free b q h1 h2 h3), I.base.there, λ b xs q => ?_, λ b q u h => ?_, λ b ps q => ?_⟩, I.loc, I.cell, none_of I.free, λ x c h => none_of (I.freeC x c h), λ p hp => ?_, λ b u q => ?_, I.len⟩
 . have := I.base.tups b xs q
   rw [zah (nd b _ this (by intro z; cases z))]
   exact this
 . have := I.base.frzs b q u h
   rw [zah (λ z => by subst z; exact h0 _ _ h)]
   exact this
 . obtain ⟨more, this⟩ := I.base.tbls b ps q
   refine ⟨more, ?_⟩
   rw [zah (nd b _ this (by intro z; cases z))]
   exact this
 . obtain ⟨p1, p2, p3⟩ := I.pin p hp
   exact ⟨p1, none_of p2, p3⟩
 . have own : ∀ c b, H c = some (.own b) -> (upd H d (.dT kvs)) c = some (.own b) := λ c b q => (zah (nd c _ q (by intro z; cases z))).trans q
   have tup : ∀ c xs, H c = some (.tup xs) -> (upd H d (.dT kvs)) c = some (.tup xs) := λ c xs q => (zah (nd c _ q (by intro z; cases z))).trans q
   by_cases hb : b = d
   . subst hb
     rw [zab] at q
     cases q
     exact (I.hok _ _ e).2.stay (λ _ _ _ q => q) (λ c q => own c _ q) tup
   . rw [zah hb] at q
     exact (I.hok b u q).stay (λ _ _ _ q => q) (λ c q => own c _ q) tup
theorem zrg {X : Cx} {st : Stmt} {t : TS} (h : PS X st t) : PS X st (λ D σ H => ∃ d kvs, H d = some (.dT kvs) /\ t { D with nx := λ σ' H' => ∃ o, H' d = some (.frz o (.dT kvs)) /\ D.nx σ' (upd H' d (.dT kvs)) } σ H) := by
 intro pins s σ H D I hh
 obtain ⟨d, kvs, hd, hh⟩ := hh
 have h0 : ∀ o u, X.H₀ d ≠ some (.frz o u) := λ o u z => by
   have := I.base.frzs d o u z
   rw [hd] at this
   cases this
 refine thn (h pins s σ H _ I hh) λ f s1 q => ?_
 cases f with
 | next =>
   obtain ⟨σ', H', I', o, e, q⟩ := q
   exact ⟨σ', _, I'.thawT e h0, q⟩
 | brk => exact q
 | cont => exact q
 | ret u => exact q
theorem zx4 {α β : Type} {F : α -> β -> Prop} : ∀ {l₁ : List α} {l₂ : List β}, Paired F l₁ l₂ -> ∀ {i : Nat} {a : α}, l₁[i]? = some a -> ∃ b, l₂[i]? = some b /\ F a b
 | _, _, .nil, i, a, e => by simp at e
 | _, _, .cons r t, 0, a, e => by simp at e; subst e; exact ⟨_, rfl, r⟩
 | _, _, .cons r t, i + 1, a, e => by
   obtain ⟨b, h1, h2⟩ := zx4 t (i := i) (a := a) (by simpa using e)
   exact ⟨b, by simpa using h1, h2⟩
def z0j (o : Obj) (d : Addr) (kvs : List (List Key × V)) : It :=
 ⟨λ i H => H d = some (.frz o (.dT kvs)) /\ i < kvs.length, λ i H y H' => H' = H /\ ∀ kv, kvs[i]? = some kv -> ∃ b, y = .ref b /\ H b = some (.tup (kv.1.map kV)), λ i H => H d = some (.frz o (.dT kvs)) /\ i = kvs.length⟩
theorem zx8 {X : Cx} {pins : List (Addr × Obj)} {σ : St} {H : Hp} {s : Shared} {o : Obj} {d : Addr} {kvs : List (List Key × V)} (I : Inv X pins σ H s) (e : H d = some (.frz o (.dT kvs))) {es : Array DictEntry} {ep : Nat} (hep : o.data = .dict es ep) :
   (d == sysModules) = false /\ s.heap.get? d = some o /\ o.ExactDict /\ es.size = kvs.length /\ ∀ (i : Nat) (hi : i < es.size) kv, kvs[i]? = some kv -> ∃ b, es[i].key = .ref b /\ H b = some (.tup (kv.1.map kV)) := by
 obtain ⟨h1, z, hd, xs, rel, o', es', ep', ho, hx, hdat, h4, _⟩ := I.hok d _ e
 rw [h1] at ho
 cases ho
 rw [hep] at hdat
 cases hdat
 have hlen : es.size = xs.length := by
   have := congrArg List.length h4
   rw [List.length_map] at this
   simpa using this
 refine ⟨hd, h1, hx, by rw [hlen, Paired.length rel], λ i hi kv hkv => ?_⟩
 obtain ⟨q, hq, e1, e2, e3⟩ := zx4 rel hkv
 refine ⟨q.2.1, ?_, e2⟩
 have hh : es.toList[i]? = (xs.map (entryOfKey (tupleKind (zcc X.prog X.w))))[i]? := by rw [h4]
 rw [List.getElem?_map, hq] at hh
 have : es.toList[i]? = some es[i] := by simp [hi]
 rw [this] at hh
 have := Option.some.inj hh
 rw [this]
 rfl
theorem zzt {P : Program} {w : World} {K : W.Frag} {tg : Expr} (o : Obj) (d it : Addr) (kvs : List (List Key × V)) (es : Array DictEntry) (ep : Nat) (hep : o.data = .dict es ep) :
   Turn P w K tg (z0j o d kvs) [it] it (λ i h => h.IsKeyIter it d i es.size ep) where
 mem := by simp
 obj := λ i h st b hb => by
   have e : b = it := by simpa using hb
   subst e
   obtain ⟨o, e, c, d⟩ := st
   exact ⟨o, e, λ v z => by rw [d] at z; cases z⟩
 keep := λ i h h' st k => st.at λ o e => k it (by simp) o e
 item := by
   intro X hP hw hK hc i pins s σ H E I hf st hg
   subst hP hw hK
   obtain ⟨hfz, hi⟩ := hg
   obtain ⟨hd, ho, hx, hlen, hkey⟩ := zx8 I hfz hep
   have hlt : i < es.size := by omega
   obtain ⟨b, ek, eb⟩ := hkey i hlt kvs[i] (by simp [hi])
   refine zqe st ho hep hlt λ h' st' sb => ?_
   rw [ek]
   have I1 : Inv X pins σ H { s with heap := h' } := I.turnedL (t' := s.toks) (ch := [it]) (λ b o hb e => (sb.2 b (λ z => hb (by simp [z]))).trans e) hf
   have kk : ∀ kv, kvs[i]? = some kv -> ∃ b', V.ref b = .ref b' /\ H b' = some (.tup (kv.1.map kV)) := λ kv hkv => by
     have : kvs[i] = kv := by simpa [hi] using hkv
     rw [<- this]
     exact ⟨b, rfl, eb⟩
   exact ⟨_, rfl, letGo_keyiter (s' := { s with heap := h' }) st' ⟨.ref b, H, I1, rfl, ⟨rfl, kk⟩, st', λ b hb => (hf b hb).1⟩⟩
 done := by
   intro X hP hw hK hc i pins s σ H E I hf st hg
   subst hP hw hK
   obtain ⟨hfz, hi⟩ := hg
   obtain ⟨hd, ho, hx, hlen, hkey⟩ := zx8 I hfz hep
   exact zl3 (I.ok.hd hc) st ho hep (by omega) λ h' eb => ⟨rfl, I.turnedL (t' := s.toks) (ch := [it]) (λ b o hb e => eb b o (λ z => hb (by simp [z])) e) hf⟩
 self := λ _ _ _ _ _ st h => wpAny_pyIter_keyiter st h
section
variable {X : Cx} {tg : Expr}
def iDt (td : TE) : TI := λ σ H R => td σ H λ x H1 => ∃ d kvs, x = .ref d /\ H1 d = some (.dT kvs) /\ ∀ o, R (z0j o d kvs) (upd H1 d (.frz o (.dT kvs)))
theorem z1n {l : Expr} {td : TE} (hl : PE X l td) : PI X tg l (iDt td) := by
 intro pins s σ H R I h
 refine thn (hl pins s σ H _ I h) λ v s1 ⟨x, H1, I1, r1, q1⟩ => ?_
 obtain ⟨d, kvs, rfl, e, q⟩ := q1
 cases r1
 obtain ⟨o, ho, I2⟩ := I1.freezeT e
 obtain ⟨ho2, z, hd, xs, rel, o', es, ep, ho', hx, hdat, _⟩ := I2.hok d _ zab
 rw [ho] at ho'
 cases ho'
 refine zpp hd ho hx hdat ?_
 refine ⟨s1.heap.objs.size, [s1.heap.objs.size], _, _, _, rfl, I2.kept (t' := s1.toks) λ b o e => Heap.get?_push_of_some _ e, zzt o d s1.heap.objs.size kvs es ep hdat, ⟨_, Heap.get?_push_size _ rfl, rfl, rfl⟩, λ b hb => ?_, q o⟩
 have z : b = s1.heap.objs.size := by simpa using hb
 subst z
 exact I2.fpOk (Nat.le_refl _) (I2.hok.fresh (Nat.le_refl _))
theorem z11 {o : Obj} {d : Addr} {kvs : List (List Key × V)} {g : TG} {tb : TS} {D : zj7} {σ : St} {H : Hp} (Pv : Nat -> St -> Hp -> Prop) (h0 : Pv 0 σ H) (hl : ∀ i σ H, i <= kvs.length -> Pv i σ H -> H d = some (.frz o (.dT kvs)))
   (hs : ∀ i kv b σ H, kvs[i]? = some kv -> H b = some (.tup (kv.1.map kV)) -> Pv i σ H -> g (.ref b) σ H λ σ2 H2 => tb { D with nx := Pv (i + 1), ct := Pv (i + 1), bk := D.nx } σ2 H2) (hd : ∀ σ H, Pv kvs.length σ H -> D.nx σ H) :
   ∃ W : Nat -> Nat -> St -> Hp -> Prop, (∃ m, W 0 m σ H) /\ ∀ i m σ H, W i m σ H -> ((z0j o d kvs).stop i H /\ D.nx σ H) \/ ((z0j o d kvs).go i H /\ ∃ N : St -> Hp -> Prop, (∀ σ' H', N σ' H' -> ∃ m', m' < m /\ W (i + 1) m' σ' H') /\ ∀ x H', (z0j o d kvs).yld i H x H' -> g x σ H' λ σ2 H2 => tb { D with nx := N, ct := N, bk := D.nx } σ2 H2) := by
 refine ⟨λ i m σ H => m = kvs.length - i /\ i <= kvs.length /\ Pv i σ H, ⟨kvs.length, by simp, Nat.zero_le _, h0⟩, ?_⟩
 rintro i m σ H ⟨rfl, hi, p⟩
 have q := hl i σ H hi p
 by_cases hlt : i < kvs.length
 . refine .inr ⟨⟨q, hlt⟩, Pv (i + 1), λ σ' H' p' => ⟨kvs.length - (i + 1), by omega, rfl, hlt, p'⟩, λ x H' y => ?_⟩
   obtain ⟨rfl, y⟩ := y
   obtain ⟨b, rfl, eb⟩ := y kvs[i] (by simp [hlt])
   exact hs i kvs[i] b σ H' (by simp [hlt]) eb p
 . have e : i = kvs.length := by omega
   subst e
   exact .inl ⟨⟨q, rfl⟩, hd σ H p⟩
theorem zzm {o : Obj} {d : Addr} {kvs : List (List Key × V)} {g : TG} {tif : TT} {te : TE} {js : List (Option Nat)} {σ : St} {H : Hp} {Q : VK} {p : Addr} (hn : kvs.length <= 1000000) (Pv : Nat -> List V -> Hp -> Prop) (h0 : Pv 0 [] (upd H p (.lst [])))
   (hl : ∀ i acc H2, i <= kvs.length -> Pv i acc H2 -> H2 p = some (.lst acc) /\ acc.length <= i /\ H2 d = some (.frz o (.dT kvs)))
   (hs : ∀ i kv b acc H2, kvs[i]? = some kv -> H2 b = some (.tup (kv.1.map kV)) -> Pv i acc H2 -> zxs g tif te (cap js σ) p acc (Pv (i + 1)) (.ref b) H2) (hd : ∀ acc H2, Pv kvs.length acc H2 -> Q (.ref p) H2) :
   zqf (z0j o d kvs) g tif te js σ Q p H := by
 refine ⟨λ i m acc H => m = kvs.length - i /\ i <= kvs.length /\ Pv i acc H, ⟨kvs.length, by simp, Nat.zero_le _, h0⟩, ?_⟩
 rintro i m acc H2 ⟨rfl, hi, q⟩
 obtain ⟨q1, q2, q3⟩ := hl i acc H2 hi q
 refine ⟨q1, ?_⟩
 by_cases hlt : i < kvs.length
 . refine .inr ⟨⟨q3, hlt⟩, ?_, Pv (i + 1), λ acc' H' p' => ⟨kvs.length - (i + 1), by omega, rfl, hlt, p'⟩, λ x H' y => ?_⟩
   . have : (1000000 : Nat) < sizeLine := by decide
     omega
   . obtain ⟨e, y⟩ := y
     subst e
     obtain ⟨b, rfl, eb⟩ := y kvs[i] (by simp [hlt])
     exact hs i kvs[i] b acc _ (by simp [hlt]) eb q
 . have e : i = kvs.length := by omega
   subst e
   exact .inl ⟨⟨q3, rfl⟩, hd acc H2 q⟩
end
end L2
namespace L2
open PySem PySem.Spec PyProof.Rows
theorem OpR.or2 {X : Cx} {f : Value -> Value -> Sem Value} {r1 r2 : R2} (h1 : OpR X f r1) (h2 : OpR X f r2) : OpR X f (λ x y H Q => r1 x y H Q \/ r2 x y H Q) := by
 intro pins s σ H x y v u Q I rx ry h
 rcases h with h | h
 . exact h1 pins s σ H x y v u Q I rx ry h
 . exact h2 pins s σ H x y v u Q I rx ry h
def z16 (K : W.Frag) : R2 := λ x y H Q => zx2 K x y H Q \/ z1a K x y H Q
theorem z0d {X : Cx} : OpR X (binaryOp .Add) (z16 X.K) := OpR.or2 zwu zzz
theorem zw1 {K : W.Frag} {H : Hp} {a b : Addr} {xs ys : List V} {Q : VK} (ha : SqT K H a xs) (hb : H b = some (.tup ys)) (hy : ys ≠ []) (hl : xs.length + ys.length <= sizeLine) (q : ∀ p H', zal H H' -> H' p = some (.tup (xs ++ ys)) -> Q (.ref p) H') : z16 K (.ref a) (.ref b) H Q := by
 by_cases hx : xs = []
 . subst hx
   exact .inl ⟨a, b, ys, rfl, rfl, ha, SqT.of hb, q b H (zal.refl _) hb⟩
 . exact .inr ⟨a, b, xs, ys, rfl, rfl, ha, SqT.of hb, hx, hl, λ z => absurd z hy, λ _ p hp => q p _ (zal.new hp) zab⟩
end L2
namespace Wk
open PySem L2 Gx Fl K41 Bg
inductive RG where
 | out (a : V) | copy (x : Str) (a : V) | op (x s : Str) (a b : V) | back (a : V) | new (x : Str) | get (x : Str) (a : V) (f : Str) | put (a : V) (f : Str) (b : V) | call (x g : Str) (p : Addr) (as : List V) | ifs (a : V) | whl (a : V)
def RG.items : RG -> List V
 | .out a => [.str "out", a]
 | .copy x a => [.str "copy", .str x, a]
 | .op x s a b => [.str "op", .str x, .str s, a, b]
 | .back a => [.str "back", a]
 | .new x => [.str "new", .str x]
 | .get x a f => [.str "get", .str x, a, .str f]
 | .put a f b => [.str "put", a, .str f, b]
 | .call x g p _ => [.str "call", .str x, .str g, .ref p]
 | .ifs a => [.str "if", a]
 | .whl a => [.str "while", a]
def RG.kind : RG -> Str
 | .out _ => "out"
 | .copy _ _ => "copy"
 | .op _ _ _ _ => "op"
 | .back _ => "back"
 | .new _ => "new"
 | .get _ _ _ => "get"
 | .put _ _ _ => "put"
 | .call _ _ _ _ => "call"
 | .ifs _ => "if"
 | .whl _ => "while"
def RG.gx : RG -> Option Str
 | .copy x _ => some x
 | .op x _ _ _ => some x
 | .new x => some x
 | .get x _ _ => some x
 | .call x _ _ _ => some x
 | _ => none
def RG.as : RG -> List V
 | .out a => [a]
 | .copy _ a => [a]
 | .op _ _ a b => [a, b]
 | .back a => [a]
 | .new _ => []
 | .get _ a _ => [a]
 | .put a _ b => [a, b]
 | .call _ _ _ as => as
 | .ifs a => [a]
 | .whl a => [a]
def RG.cl : RG -> Str
 | .call _ g _ _ => g
 | _ => ""
def RG.rr (r : Addr) (rg : RG) : RR := ⟨⟨r, rg.kind, rg.cl⟩, ⟨r, 0, 0, rg.gx, rg.as⟩⟩
def RG.parts (rg : RG) : List V := (rg.gx.toList.map V.str) ++ rg.as
structure RGAt (K : W.Frag) (H : Hp) (r : Addr) (rg : RG) : Prop where
 it : SqT K H r rg.items
 ar : ∀ x g p as, rg = .call x g p as -> SqT K H p as
structure RG.Ok (rg : RG) : Prop where
 at_ : ∀ v ∈ rg.parts, K12.Atom v
 sg : ∀ x s a b, rg = .op x s a b -> PyData.strOk s = true
 fl : (∀ x a f, rg = .get x a f -> PyData.strOk f = true) /\ ∀ a f b, rg = .put a f b -> PyData.strOk f = true
 cl : ∀ x g p as, rg = .call x g p as -> PyData.strOk g = true /\ as.length <= 10
theorem gat {x : Str} (h : K12.Atom (.str x)) : K12.Nm x := by
 rcases h with ⟨s, e, h⟩ | ⟨i, e⟩
 . cases e; exact h
 . cases e
theorem z08 {K : W.Frag} {H : Hp} {r : Addr} {rg : RG} (h : RGAt K H r rg) : K12.RowS K H rg.items rg.gx rg.as := by
 cases rg with
 | out a => exact .out a
 | copy x a => exact .copy x a
 | op x s a b => exact .op x s a b
 | back a => exact .back a
 | new x => exact .new x
 | get x a f => exact .get x a f
 | put a f b => exact .put a f b
 | call x g p as => exact .call x g p as (h.ar x g p as rfl)
 | ifs a => exact .ifs a
 | whl a => exact .whl a
theorem zyj {rg : RG} (ok : rg.Ok) : rg.as.length <= 10 := by
 cases rg with
 | call x g p as => exact (ok.cl x g p as rfl).2
 | _ => simp [RG.as]
theorem z21 {K : W.Frag} {H : Hp} {r : Addr} {rg : RG} (h : RGAt K H r rg) (ok : rg.Ok) : RRok K H (rg.rr r) := by
 refine ⟨rfl, ?_, ⟨⟨_, h.it, z08 h⟩, λ v hv => ok.at_ v (List.mem_append_right _ hv), zyj ok, λ x hx => ?_⟩⟩
 . have ne : ∀ k ∈ ([("out" : Str), "copy", "op", "back", "new", "get", "put", "if", "while"] : List Str), ¬ k = "call" := by decide +kernel
   cases rg with
   | call x g p as => exact ⟨_, h.it, λ _ => ⟨_, _, rfl⟩⟩
   | out a => exact ⟨_, h.it, λ z => absurd z (ne "out" (by simp))⟩
   | copy x a => exact ⟨_, h.it, λ z => absurd z (ne "copy" (by simp))⟩
   | op x s a b => exact ⟨_, h.it, λ z => absurd z (ne "op" (by simp))⟩
   | back a => exact ⟨_, h.it, λ z => absurd z (ne "back" (by simp))⟩
   | new x => exact ⟨_, h.it, λ z => absurd z (ne "new" (by simp))⟩
   | get x a f => exact ⟨_, h.it, λ z => absurd z (ne "get" (by simp))⟩
   | put a f b => exact ⟨_, h.it, λ z => absurd z (ne "put" (by simp))⟩
   | ifs a => exact ⟨_, h.it, λ z => absurd z (ne "if" (by simp))⟩
   | whl a => exact ⟨_, h.it, λ z => absurd z (ne "while" (by simp))⟩
 . have hx : rg.gx = some x := hx
   refine gat (ok.at_ (.str x) (List.mem_append_left _ ?_))
   rw [hx]
   simp
theorem zuj {rg : RG} (h1 : ∀ a, rg ≠ .ifs a) (h2 : ∀ a, rg ≠ .whl a) : ¬ K13.isO rg.kind = true /\ ¬ K13.isE rg.kind = true /\ ¬ rg.kind = "end" /\ ¬ rg.kind = "else" := by
 have key : ∀ k ∈ ([("out" : Str), "copy", "op", "back", "new", "get", "put", "call"] : List Str), ¬ K13.isO k = true /\ ¬ K13.isE k = true /\ ¬ k = "end" /\ ¬ k = "else" := by decide +kernel
 cases rg with
 | ifs a => exact absurd rfl (h1 a)
 | whl a => exact absurd rfl (h2 a)
 | _ => exact key _ (by simp [RG.kind])
theorem zxb {rg : RG} (h : ∀ a, rg ≠ .back a) : ¬ rg.kind = "back" := by
 have key : ∀ k ∈ ([("out" : Str), "copy", "op", "new", "get", "put", "call", "if", "while"] : List Str), ¬ k = "back" := by decide +kernel
 cases rg with
 | back a => exact absurd rfl (h a)
 | _ => exact key _ (by simp [RG.kind])
def Pl (rg : RG) : Prop := (∀ a, rg ≠ .ifs a) /\ ∀ a, rg ≠ .whl a
theorem z09 : ∀ (rgs : List RG) (ks : List Str), (∀ rg ∈ rgs, Pl rg) -> K13.Good ks [] -> K13.Good (ks ++ rgs.map RG.kind) []
 | [], ks, _, g => by rw [List.map_nil, List.append_nil]; exact g
 | rg :: rgs, ks, hp, g => by
   have h := zuj (hp rg List.mem_cons_self).1 (hp rg List.mem_cons_self).2
   have := z09 rgs (ks ++ [rg.kind]) (λ r hr => hp r (List.mem_cons_of_mem _ hr)) (g.plain h.1 h.2.1 h.2.2.1)
   rw [List.append_assoc] at this
   exact this
theorem gwf {rgs : List RG} (a : V) (hp : ∀ rg ∈ rgs, Pl rg) : K13.Wf ((rgs ++ [RG.back a]).map RG.kind) := by
 have g := (z09 rgs [] hp K13.good_nil).back
 rw [List.nil_append] at g
 rw [List.map_append]
 exact g
def grs (rs : List Addr) (rgs : List RG) : List RR := (rs.zip rgs).map λ p => p.2.rr p.1
theorem zvp {rs : List Addr} {rgs : List RG} (h : rs.length = rgs.length) : (grs rs rgs).length = rgs.length := by
 unfold grs
 rw [List.length_map, List.length_zip]
 omega
theorem zyk {rs : List Addr} {rgs : List RG} {k : Nat} {x : RR} (hx : (grs rs rgs)[k]? = some x) : ∃ r rg, rs[k]? = some r /\ rgs[k]? = some rg /\ x = rg.rr r := by
 unfold grs at hx
 rw [List.getElem?_map, Option.map_eq_some_iff] at hx
 obtain ⟨p, hp, rfl⟩ := hx
 rw [List.getElem?_zip_eq_some] at hp
 exact ⟨p.1, p.2, hp.1, hp.2, rfl⟩
theorem z1k {α : Type} (g : Addr -> α) : ∀ (rs : List Addr) (rgs : List RG), rs.length = rgs.length -> (rs.zip rgs).map (λ p => g p.1) = rs.map g
 | [], [], _ => rfl
 | r :: rs, v :: rgs, h => by rw [List.zip_cons_cons, List.map_cons, List.map_cons, z1k g rs rgs (by simpa using h)]
 | [], _ :: _, h => by simp at h
 | _ :: _, [], h => by simp at h
theorem z1q {α : Type} (g : RG -> α) : ∀ (rs : List Addr) (rgs : List RG), rs.length = rgs.length -> (rs.zip rgs).map (λ p => g p.2) = rgs.map g
 | [], [], _ => rfl
 | r :: rs, v :: rgs, h => by rw [List.zip_cons_cons, List.map_cons, List.map_cons, z1q g rs rgs (by simpa using h)]
 | [], _ :: _, h => by simp at h
 | _ :: _, [], h => by simp at h
theorem zxx {rs : List Addr} {rgs : List RG} (h : rs.length = rgs.length) : ((grs rs rgs).map λ x => V.ref x.w.r) = rs.map V.ref := by
 unfold grs
 rw [List.map_map]
 exact z1k V.ref rs rgs h
theorem zor {rs : List Addr} {rgs : List RG} (h : rs.length = rgs.length) : ((grs rs rgs).map λ x => x.w.k) = rgs.map RG.kind := by
 unfold grs
 rw [List.map_map]
 exact z1q RG.kind rs rgs h
theorem z26 (r : Addr) (rg : RG) : K12.rowStrs (rg.rr r).d = K12.strsOf rg.parts := by
 unfold RG.parts K12.rowStrs
 rw [K12.strsOf_append, K12.strsOf_map]
 rfl
theorem z10 {β : Type} (g : RG -> List β) : ∀ (rs : List Addr) (rgs : List RG), rs.length = rgs.length -> (rs.zip rgs).flatMap (λ p => g p.2) = rgs.flatMap g
 | [], [], _ => rfl
 | r :: rs, v :: rgs, h => by rw [List.zip_cons_cons, List.flatMap_cons, List.flatMap_cons, z10 g rs rgs (by simpa using h)]
 | [], _ :: _, h => by simp at h
 | _ :: _, [], h => by simp at h
def zqj (rgs : List RG) : List Str := rgs.flatMap λ rg => K12.strsOf rg.parts
theorem zos {rs : List Addr} {rgs : List RG} (h : rs.length = rgs.length) : ((grs rs rgs).map (·.d)).flatMap K12.rowStrs = zqj rgs := by
 unfold grs zqj
 rw [List.map_map, List.flatMap_map]
 have : ((λ p : Addr × RG => K12.rowStrs (((λ x : RR => x.d) ∘ λ p : Addr × RG => p.2.rr p.1) p)) : Addr × RG -> List Str) = λ p => (λ rg : RG => K12.strsOf rg.parts) p.2 := by
   funext p
   exact z26 p.1 p.2
 rw [this]
 exact z10 (λ rg => K12.strsOf rg.parts) rs rgs h
theorem zsr {rg : RG} (ok : rg.Ok) : rg.parts.length <= 11 := by
 unfold RG.parts
 rw [List.length_append, List.length_map]
 have h1 := zyj ok
 have h2 : rg.gx.toList.length <= 1 := by cases rg.gx <;> simp
 omega
theorem zrt : ∀ rgs : List RG, (∀ rg ∈ rgs, rg.Ok) -> (zqj rgs).length <= 11 * rgs.length
 | [], _ => by simp [zqj]
 | rg :: rgs, ok => by
   have h1 := zrt rgs λ r hr => ok r (List.mem_cons_of_mem _ hr)
   have h2 := K12.strsOf_len rg.parts
   have h3 := zsr (ok rg List.mem_cons_self)
   unfold zqj at h1 ⊢
   rw [List.flatMap_cons, List.length_append, List.length_cons]
   omega
theorem zua {s : Str} {l : List V} : s ∈ K12.strsOf l <-> V.str s ∈ l := by
 unfold K12.strsOf
 rw [List.mem_filterMap]
 constructor
 . rintro ⟨v, hv, e⟩
   cases v with
   | str x => cases e; exact hv
   | _ => cases e
 . intro h
   exact ⟨_, h, rfl⟩
theorem z24 {x : Str} {ss : List Str} : x ∈ K12.onceL ss <-> x ∈ ss := ⟨K12.onceL_sub ss x, λ h => K12.fold_has ss [] x h⟩
def gfn (nk : Str) (fo : V) (fa qC tr : Addr) (ps : List Str) (rs : List Addr) (rgs : List RG) : F2.Fd := ⟨nk, fo, fa, qC, tr, ps, (grs rs rgs).map (·.w), (grs rs rgs).map (·.d)⟩
section
variable {K : W.Frag} {H : Hp} {nk : Str} {fa tr qC : Addr} {fo : V} {ps : List Str} {rs : List Addr} {rgs : List RG}
theorem z1z (hl : rs.length = rgs.length) (h1 : SqT K H fa [.str nk, fo, .ref qC, .ref tr]) (h2 : SqT K H tr (rs.map V.ref)) (h3 : ∀ (i : Nat) r rg, rs[i]? = some r -> rgs[i]? = some rg -> RGAt K H r rg /\ rg.Ok) (h4 : SqT K H qC (ps.map V.str)) (h5 : ∀ s ∈ ps, K12.Nm s) (h6 : ps.length <= 100) (h7 : rgs.length <= 100) (wf : K13.Wf (rgs.map RG.kind)) :
   F2.FnAt K H (gfn nk fo fa qC tr ps rs rgs) := by
 refine z1p (grs rs rgs) h1 (by rw [zxx hl]; exact h2) (λ x hx => ?_) h4 h5 h6 (by rw [zvp hl]; exact h7) (by rw [zor hl]; exact wf)
 obtain ⟨k, hk⟩ := List.getElem?_of_mem hx
 obtain ⟨r, rg, e1, e2, rfl⟩ := zyk hk
 exact z21 (h3 k r rg e1 e2).1 (h3 k r rg e1 e2).2
theorem zza (hl : rs.length = rgs.length) {x : Str} : x ∈ F2.nms (gfn nk fo fa qC tr ps rs rgs) <-> x ∈ ps \/ x ∈ zqj rgs := by
 unfold F2.nms K12.allOf
 rw [z24, List.mem_append]
 show x ∈ ps \/ x ∈ ((grs rs rgs).map (·.d)).flatMap K12.rowStrs <-> _
 rw [zos hl]
theorem zww (hl : rs.length = rgs.length) (ok : ∀ rg ∈ rgs, rg.Ok) : (F2.nms (gfn nk fo fa qC tr ps rs rgs)).length <= ps.length + 11 * rgs.length := by
 unfold F2.nms K12.allOf
 refine Nat.le_trans (K12.onceL_len _) ?_
 rw [List.length_append]
 show ps.length + (((grs rs rgs).map (·.d)).flatMap K12.rowStrs).length <= _
 rw [zos hl]
 have := zrt rgs ok
 omega
theorem zvz (hl : rs.length = rgs.length) {k : Nat} {rg : RG} (hv : rgs[k]? = some rg) : ∃ w : Rw, (gfn nk fo fa qC tr ps rs rgs).rs[k]? = some w /\ rs[k]? = some w.r := by
 have hk : k < (grs rs rgs).length := by rw [zvp hl]; exact (List.getElem?_eq_some_iff.mp hv).1
 have hx : (grs rs rgs)[k]? = some (grs rs rgs)[k] := List.getElem?_eq_getElem hk
 obtain ⟨r, rg', e1, e2, e3⟩ := zyk hx
 refine ⟨(grs rs rgs)[k].w, ?_, ?_⟩
 . show ((grs rs rgs).map (·.w))[k]? = _
   rw [List.getElem?_map, hx]
   rfl
 . rw [e3]; exact e1
theorem zy4 (hl : rs.length = rgs.length) {k : Nat} {rg : RG} (hk : k + 1 < rgs.length) (hv : rgs[k]? = some rg) (hb : ∀ a, rg ≠ .back a) (hp : Pl rg) (hp2 : ∀ r, rgs[k + 1]? = some r -> Pl r) : Way (gfn nk fo fa qC tr ps rs rgs) k 0 (k + 1) := by
 have kdw : ∀ (j : Nat) (rg : RG), rgs[j]? = some rg -> K13.kd (F2.kds (gfn nk fo fa qC tr ps rs rgs)) j = rg.kind := λ j rg h => by
   unfold K13.kd F2.kds
   have e : (gfn nk fo fa qC tr ps rs rgs).rs.map (·.k) = rgs.map RG.kind := by
     show ((grs rs rgs).map (·.w)).map (·.k) = _
     rw [List.map_map]
     exact zor hl
   rw [e, List.getD_eq_getElem?_getD, List.getElem?_map, h]
   rfl
 have h2 : rgs[k + 1]? = some rgs[k + 1] := List.getElem?_eq_getElem hk
 have c1 := zuj hp.1 hp.2
 have c2 := zuj (hp2 _ h2).1 (hp2 _ h2).2
 exact ⟨[k + 1], .one (by rw [kdw k rg hv]; exact c1.2.1) (by rw [kdw k rg hv]; exact zxb hb) (by rw [kdw k rg hv]; exact c1.1) (.oth (by rw [kdw _ _ h2]; exact c2.2.2.2) (by rw [kdw _ _ h2]; exact c2.2.2.1)), rfl⟩
end
structure Cn where
 kv : List (List Key × V)
 rc : Int
def fk (i : Int) (f : Str) : List Key := [Sum.inl i, Sum.inr f]
def zws (cn : Cn) (i : Int) (f : Str) : V := (zdc cn.kv (fk i f)).getD (.int 0)
def RG.gives (kvs : List (Key × V)) (cn : Cn) : RG -> Option (Str × V)
 | .copy x a => (av kvs a).map λ v => (x, v)
 | .op x s a b => match av kvs a, av kvs b with
   | some (.int i), some (.int j) => if 0 <= i /\ 0 <= j /\ i < K21.wide /\ j < K21.wide then some (x, .int (K21.valOf s i j)) else none
   | _, _ => none
 | .get x a f => match av kvs a with
   | some (.int i) => some (x, zws cn i f)
   | _ => none
 | _ => none
theorem zvb {kvs : List (Key × V)} {cn : Cn} {y s x : Str} {a b v : V} (h : (RG.op y s a b).gives kvs cn = some (x, v)) : x = y /\ ∃ i j, av kvs a = some (.int i) /\ av kvs b = some (.int j) /\ (0 <= i /\ 0 <= j /\ i < K21.wide /\ j < K21.wide) /\ v = .int (K21.valOf s i j) := by
 dsimp only [RG.gives] at h
 split at h
 . rename_i i j ea eb
   split at h
   . rename_i hb
     cases h
     exact ⟨rfl, i, j, ea, eb, hb, rfl⟩
   . cases h
 . cases h
theorem zl1 {kvs : List (Key × V)} {cn : Cn} {y x : Str} {a v : V} (h : (RG.copy y a).gives kvs cn = some (x, v)) : x = y /\ av kvs a = some v := by
 have h : (av kvs a).map (λ v => (y, v)) = some (x, v) := h
 rw [Option.map_eq_some_iff] at h
 obtain ⟨u, hu, hz⟩ := h
 cases hz
 exact ⟨rfl, hu⟩
theorem zm2 {kvs : List (Key × V)} {cn : Cn} {y x f : Str} {a v : V} (h : (RG.get y a f).gives kvs cn = some (x, v)) : x = y /\ ∃ i, av kvs a = some (.int i) /\ v = zws cn i f := by
 dsimp only [RG.gives] at h
 split at h
 . rename_i i e
   cases h
   exact ⟨rfl, i, e, rfl⟩
 . cases h
theorem zly {kvs : List (Key × V)} {cn : Cn} {rg : RG} {x : Str} {v : V} (h : rg.gives kvs cn = some (x, v)) : rg.items[1]? = some (.str x) := by
 cases rg with
 | copy y a => rw [(zl1 h).1]; rfl
 | op y s a b => rw [(zvb h).1]; rfl
 | get y a f => rw [(zm2 h).1]; rfl
 | _ => cases h
section
variable {cW cF : Addr} {Hb H H2 : Hp} {w : Wr} {fs : List Fm} {oc : V} {sent : List V} {co : HO} {rc : Int}
theorem WAt.cont {kv kv' : List (List Key × V)} (h : WAt cW cF Hb H w fs oc sent (.dT kv) rc) : WAt cW cF Hb (upd H w.ct (.dT kv')) w fs oc sent (.dT kv') rc :=
 ⟨h.b.upd h.fct, by rw [zah h.cs.2.2.symm]; exact h.o, by rw [zah h.cs.1.symm]; exact h.st, by rw [zah h.cs.2.1.symm]; exact h.sd, zab, λ f hf => ⟨by rw [zah (h.nf f hf).2]; exact (h.fr f hf).o, by rw [zah (h.nc f hf)]; exact (h.fr f hf).n⟩, h.na, h.nn, h.ne, h.nc, h.cs, h.nf, h.fa, h.fst, h.fsd, h.fct, h.ff⟩
theorem WAt.recs {r : Int} (h : WAt cW cF Hb H w fs oc sent co rc) : WAt cW cF Hb (upd H w.a (.ins cW w.dx (wF w oc r))) w fs oc sent co r :=
 ⟨h.b.upd h.fa, zab, by rw [zah (zbl h.st h.o (by intro z; cases z))]; exact h.st, by rw [zah (zbl h.sd h.o (by intro z; cases z))]; exact h.sd, by rw [zah h.cs.2.2]; exact h.ct, λ f hf => ⟨by rw [zah (h.nf f hf).1]; exact (h.fr f hf).o, by rw [zah (zbl (h.fr f hf).n h.o (by intro z; cases z))]; exact (h.fr f hf).n⟩, h.na, h.nn, h.ne, h.nc, h.cs, h.nf, h.fa, h.fst, h.fsd, h.fct, h.ff⟩
end
end Wk
namespace K14
open PySem PySem.NumText L2 K11
theorem str_ext {a b : Str} (h : a.cps.toList = b.cps.toList) : a = b := by
 cases a
 cases b
 have := Array.toList_inj.mp h
 simp only at this
 rw [this]
theorem z0w {ws : List Str} {n : Nat} (h : ∀ w ∈ ws, w.length <= n) : (ws.map (·.length)).sum <= ws.length * n := by
 induction ws with
 | nil => simp
 | cons w r ih =>
   have h1 := h w (by simp)
   have h2 := ih λ z hz => h z (List.mem_cons_of_mem _ hz)
   simp only [List.map_cons, List.sum_cons, List.length_cons]
   rw [Nat.succ_mul]
   omega
end K14
namespace K14
open PySem PyProof.Rows L2 K11 Gx
theorem let_at {z : Int} (h0 : 0 <= z) (h1 : z < 26) : atI ("abcdefghijklmnopqrstuvwxyz" : Str).cps.toList z = some (97 + z.toNat) := by
 obtain ⟨n, rfl⟩ := Int.eq_ofNat_of_zero_le h0
 have g : ∀ n < 26, ("abcdefghijklmnopqrstuvwxyz" : Str).cps.toList[n]? = some (97 + n) := by decide +kernel
 exact zft (g n (by omega))
theorem zrm : ∀ l : List Nat, (l.map λ c => [c]).flatten = l
 | [] => rfl
 | x :: l => by rw [List.map_cons, List.flatten_cons, zrm l]; rfl
theorem one_fit {cs : List Nat} (h : cs.length <= 8) : ((cs.map λ c => tx [c]).map (·.length)).sum + (cs.map λ c => tx [c]).length * ("" : Str).length <= 16777216 := by
 have h2 := z0w (ws := cs.map λ c => tx [c]) (n := 1) λ w hw => by
   obtain ⟨c, _, rfl⟩ := List.mem_map.mp hw
   rw [zit]
   exact Nat.le_refl _
 have e : ("" : Str).length = 0 := by decide +kernel
 rw [e]
 rw [List.length_map] at h2 ⊢
 omega
theorem one_join (cs : List Nat) : PySem.Txt.join "" (cs.map λ c => tx [c]) = tx cs := by
 have := zu3 (cs.map λ c => [c])
 rw [zrm, List.map_map] at this
 exact this
end K14
namespace K15
open PySem PySem.NumText L2 K11 K14 Gx
theorem zra (i j n : Nat) : Builtin.Str.strSliceIndices (some (i : Int)) (some (j : Int)) 1 n = Builtin.Str.strSliceIndices (some ((min i n : Nat) : Int)) (some ((min j n : Nat) : Int)) 1 n := by
 unfold Builtin.Str.strSliceIndices
 simp only [show (1 : Int) > 0 by decide, if_true]
 have h : ∀ k : Nat, (if (k : Int) < 0 then (k : Int) + (n : Int) else (k : Int)) = (k : Int) := λ k => if_neg (by omega)
 rw [h, h, h, h]
 congr 1 <;> omega
theorem zx3 (l : List Nat) {i j : Nat} (h : i <= j) : Txt.slice (tx l) (some (i : Int)) (some (j : Int)) = tx ((l.take j).drop i) := by
 have e : Txt.slice (tx l) (some (i : Int)) (some (j : Int)) = Txt.slice (tx l) (some ((min i l.length : Nat) : Int)) (some ((min j l.length : Nat) : Int)) := by
   unfold Txt.slice
   rw [zit, zra i j l.length]
 rw [e, zwj (by omega) (by omega) (by omega)]
 congr 1
 rw [Int.toNat_natCast]
 by_cases hi : i <= l.length
 . rw [Nat.min_eq_left hi]
   by_cases hj : j <= l.length
   . rw [Nat.min_eq_left hj, List.drop_take]
     congr 1
     omega
   . rw [Nat.min_eq_right (by omega), List.take_of_length_le (l := l) (by omega), List.take_of_length_le]
     rw [List.length_drop]; omega
 . rw [List.drop_eq_nil_of_le (show l.length <= min i l.length by omega), List.drop_eq_nil_of_le (by rw [List.length_take]; omega)]
   simp
theorem sl_to (l : List Nat) (j : Nat) : Txt.slice (tx l) none (some (j : Int)) = tx (l.take j) := by
 have e : Txt.slice (tx l) none (some (j : Int)) = Txt.slice (tx l) (some ((0 : Nat) : Int)) (some (j : Int)) := by
   unfold Txt.slice
   rw [StrLaws.sliceIdx_none_lo]
   rfl
 rw [e, zx3 l (Nat.zero_le _), List.drop_zero]
theorem sl_from (l : List Nat) (i : Nat) : Txt.slice (tx l) (some (i : Int)) none = tx (l.drop i) := by
 have e : Txt.slice (tx l) (some (i : Int)) none = Txt.slice (tx l) (some (i : Int)) (some ((max i l.length : Nat) : Int)) := by
   unfold Txt.slice
   rw [StrLaws.sliceIdx_none_hi, zit, zra i l.length l.length, zra i (max i l.length) l.length]
   have : min (max i l.length) l.length = min l.length l.length := by omega
   rw [this]
 rw [e, zx3 l (by omega), List.take_of_length_le (by omega)]
end K15
namespace Wk
open PySem L2 Gx
theorem zxi {vs : List V} {m : Nat} {f : Nat -> V} (hl : vs.length = m) (h : ∀ (i : Nat) v, vs[i]? = some v -> v = f i) : vs = (List.range m).map f := by
 refine List.ext_getElem? λ i => ?_
 rw [List.getElem?_map]
 cases e : vs[i]? with
 | none =>
   have : vs.length <= i := List.getElem?_eq_none_iff.mp e
   rw [List.getElem?_eq_none (by rw [List.length_range]; omega)]
   rfl
 | some v =>
   have : i < vs.length := (List.getElem?_eq_some_iff.mp e).1
   rw [List.getElem?_range (by omega), h i v e]
   rfl
theorem zvk : ∀ {vs : List V}, (∀ (i : Nat) v, vs[i]? = some v -> ∃ c, (97 <= c /\ c <= 122) /\ v = .str (tx [c])) -> ∃ cs : List Nat, vs = (cs.map λ c => tx [c]).map V.str /\ (∀ c ∈ cs, 97 <= c /\ c <= 122) /\ cs.length = vs.length
 | [], _ => ⟨[], rfl, (λ c h => by cases h), rfl⟩
 | v :: vs, h => by
   obtain ⟨c, hc, e⟩ := h 0 v rfl
   obtain ⟨cs, e1, h1, h2⟩ := zvk (vs := vs) λ i u hu => h (i + 1) u (by simpa using hu)
   refine ⟨c :: cs, by rw [e, e1]; rfl, λ x hx => ?_, by simp [h2]⟩
   rcases List.mem_cons.mp hx with rfl | hx
   . exact hc
   . exact h1 x hx
def chr (q : Int) (k : Nat) : Nat := 97 + ((q + 7 * (k : Int)) % 26).toNat
theorem z1m (q : Int) (k : Nat) : 97 <= chr q k /\ chr q k <= 122 := by
 unfold chr
 have := zea (q + 7 * (k : Int)) 26 (by decide)
 omega
theorem zz2 {q : Int} {j k : Nat} (hj : j < 8) (hk : k < 8) (h : chr q j = chr q k) : j = k := by
 unfold chr at h
 omega
def nmB (cs : List Nat) (a : Nat) (q : Int) (k : Nat) : List Nat := cs.take a ++ (chr q k :: cs.drop a)
def nmF (W : List (List Nat)) (cs : List Nat) (a : Nat) (q : Int) (k : Nat) : List Nat := if nmB cs a q k ∈ W then nmB cs a q k ++ [120] else nmB cs a q k
theorem znm (cs : List Nat) (a : Nat) (q : Int) (k : Nat) : (nmB cs a q k).length = cs.length + 1 := by
 unfold nmB
 rw [List.length_append, List.length_cons, List.length_take, List.length_drop]
 omega
theorem zvq {cs : List Nat} {a : Nat} {q : Int} {j k : Nat} (hj : j < 8) (hk : k < 8) (h : nmB cs a q j = nmB cs a q k) : j = k := by
 unfold nmB at h
 have h2 := List.append_cancel_left h
 exact zz2 hj hk (List.cons.inj h2).1
theorem zzq {W : List (List Nat)} {cs : List Nat} {a : Nat} {q : Int} {j k : Nat} (hj : j < 8) (hk : k < 8) (h : nmF W cs a q j = nmF W cs a q k) : j = k := by
 have l1 := znm cs a q j
 have l2 := znm cs a q k
 unfold nmF at h
 split at h <;> split at h
 . exact zvq hj hk (List.append_cancel_right h)
 . have := congrArg List.length h
   rw [List.length_append] at this
   simp at this
   omega
 . have := congrArg List.length h
   rw [List.length_append] at this
   simp at this
   omega
 . exact zvq hj hk h
theorem nodup_range {α : Type} {m : Nat} {f : Nat -> α} (h : ∀ j k, j < m -> k < m -> f j = f k -> j = k) : ((List.range m).map f).Nodup := by
 rw [List.nodup_iff_pairwise_ne, List.pairwise_map]
 refine List.Pairwise.imp_of_mem (R := λ a b => a ≠ b) (λ {a b} ha hb hab z => hab (h a b (List.mem_range.mp ha) (List.mem_range.mp hb) z)) List.nodup_range
end Wk
namespace Wk
open PySem L2 Gx Fl
def reb (Hb H H' : Hp) : Hp := λ b => match H b, Hb b with
 | some _, none => none
 | _, _ => H' b
section
variable {cW cF : Addr} {Hb H H' Hx : Hp} {w : Wr} {fs : List Fm} {oc : V} {sent : List V} {co : HO} {rc : Int}
theorem zj9 {b : Addr} {o : HO} (h : H b = some o) (hb : Hb b = none) : reb Hb H H' b = none := by
 unfold reb
 rw [h, hb]
theorem z0n : zal (reb Hb H H') H' := λ b o h => by
 unfold reb at h
 split at h
 . cases h
 . exact h
theorem zhn {b : Addr} {o u : HO} (h : Hb b = some o) (h' : H' b = some u) : reb Hb H H' b = some u := by
 unfold reb
 rw [h]
 cases H b <;> exact h'
theorem zqm {b : Addr} {u : HO} (h : H b = none) (h' : H' b = some u) : reb Hb H H' b = some u := by
 unfold reb
 rw [h]
 exact h'
theorem WAt.reb (h : WAt cW cF Hb H w fs oc sent co rc) (k : ∀ b o, H b = some o -> Hb b = none -> H' b = some o) : WAt cW cF (Wk.reb Hb H H') H' w fs oc sent co rc :=
 ⟨z0n, k _ _ h.o h.fa, k _ _ h.st h.fst, k _ _ h.sd h.fsd, k _ _ h.ct h.fct, λ f hf => ⟨k _ _ (h.fr f hf).o (h.ff f hf).1, k _ _ (h.fr f hf).n (h.ff f hf).2⟩, h.na, h.nn, h.ne, h.nc, h.cs, h.nf, zj9 h.o h.fa, zj9 h.st h.fst, zj9 h.sd h.fsd, zj9 h.ct h.fct, λ f hf => ⟨zj9 (h.fr f hf).o (h.ff f hf).1, zj9 (h.fr f hf).n (h.ff f hf).2⟩⟩
theorem WAt.under (h : WAt cW cF Hb H w fs oc sent co rc) (hx : zal Hx Hb) (s : zal Hx H') (k : ∀ b o, H b = some o -> Hb b = none -> H' b = some o) : WAt cW cF Hx H' w fs oc sent co rc :=
 ⟨s, k _ _ h.o h.fa, k _ _ h.st h.fst, k _ _ h.sd h.fsd, k _ _ h.ct h.fct, λ f hf => ⟨k _ _ (h.fr f hf).o (h.ff f hf).1, k _ _ (h.fr f hf).n (h.ff f hf).2⟩, h.na, h.nn, h.ne, h.nc, h.cs, h.nf, hx.free h.fa, hx.free h.fst, hx.free h.fsd, hx.free h.fct, λ f hf => ⟨hx.free (h.ff f hf).1, hx.free (h.ff f hf).2⟩⟩
end
theorem zre {n : Str} : ∀ (ns : List Str) (d : List (Key × V)), (n ∈ ns \/ zdc d (Sum.inr n : Key) = some (.int 0)) -> zdc ((ns.map λ n => ((Sum.inr n : Key), V.int 0)).foldl (λ acc kv => za3 acc kv.1 kv.2) d) (Sum.inr n : Key) = some (.int 0)
 | [], d, h => h.elim (λ z => by cases z) id
 | m :: ns, d, h => by
   rw [List.map_cons, List.foldl_cons]
   refine zre ns _ ?_
   rw [zdn]
   by_cases z : n = m
   . exact .inr (by rw [z, if_pos rfl])
   . rcases h with h | h
     . rcases List.mem_cons.mp h with h | h
       . exact absurd h z
       . exact .inl h
     . exact .inr (by rw [if_neg (by intro y; exact z (Sum.inr.inj y))]; exact h)
end Wk
namespace K23
open PySem L2 Gx Fl Wk
def top (i : Nat) : Stmt := PySem.Challenge.pw_stopglass_k23_records_and_fields.main.body.getD i (.Pass ⟨0, 0, 0, 0⟩)
abbrev zd1 : Stmt := top 8
abbrev zhx : Stmt := top 9
abbrev zhs : Stmt := top 10
abbrev zd5 : Stmt := top 11
abbrev zdr : Stmt := top 12
abbrev zkz : Stmt := top 13
abbrev zdq : Stmt := top 14
abbrev zcg : Stmt := top 15
abbrev zde : Stmt := zcb (top 16) 0
abbrev zhz : Stmt := top 19
abbrev zc1 : Stmt := zcb (top 20) 0
abbrev zcl : Stmt := zcb (top 20) 1
abbrev zcf : Stmt := zcb (top 20) 2
abbrev zdh : Stmt := zcb (top 20) 3
abbrev zcm : Stmt := zcb (top 20) 4
abbrev zcq : Stmt := zcb (top 20) 5
abbrev zc2 : Stmt := zcb (top 20) 6
abbrev zc0 : Stmt := zcb (top 20) 7
abbrev za1 : Stmt := zcb (top 20) 12
abbrev za4 : Stmt := zcb (top 20) 13
abbrev zbz : Stmt := zcb (top 20) 14
abbrev zb1 : Stmt := zcb (top 20) 15
abbrev zbt : Stmt := zcb (top 20) 16
abbrev zbd : Stmt := zcb (top 20) 17
abbrev zb8 : Stmt := zcb (top 21) 0
abbrev zbc : Stmt := zcb (top 21) 1
abbrev zb0 : Stmt := zcb (top 22) 0
abbrev za6 : Stmt := zcb (top 22) 2
abbrev za5 : Stmt := zcb (top 22) 3
abbrev zb2 : Stmt := zcb (top 22) 4
abbrev zbe : Stmt := zcb (top 22) 5
abbrev zbu : Stmt := zcb (top 22) 6
abbrev zbi : Stmt := zcb (top 22) 7
abbrev zbr : Stmt := zcb (top 22) 8
abbrev zba : Stmt := zcb (top 22) 9
abbrev zbk : Stmt := zcb (top 22) 10
abbrev zaz : Stmt := zcb (top 22) 11
abbrev zds : Stmt := top 24
abbrev zd3 : Stmt := top 25
abbrev zey : Stmt := top 26
abbrev zdd : Stmt := top 27
abbrev zeu : Stmt := top 29
abbrev zhw : Stmt := top 30
abbrev zew : Stmt := top 31
abbrev zf5 : Stmt := top 32
abbrev zet : Stmt := top 33
abbrev zch : Stmt := top 34
abbrev zf9 : Stmt := top 35
abbrev zdt : Stmt := top 36
abbrev zf7 : Stmt := top 37
abbrev zd4 : Stmt := top 38
abbrev zl0 : Stmt := top 39
set_option genInjectivity false in
set_option genSizeOf false in
structure Adr where
 zay : Addr
 zsj : Addr
 zam : Addr
 zbo : Addr
 zne : Addr
 zni : FuncData
 zv5 : Addr
 zwa : FuncData
 zv3 : Addr
 zv8 : FuncData
 znb : Addr
 znf : FuncData
 zma : Addr
 zmf : FuncData
 zyo : Addr
 zyp : FuncData
 zl9 : Addr
 zme : FuncData
 zib : Addr
 zie : FuncData
 zk0 : Addr
 zk2 : FuncData
 zv6 : Addr
 zwb : FuncData
 zj0 : Addr
 zj3 : FuncData
 ziw : Addr
 ziy : FuncData
 zia : Addr
 zid : FuncData
 zoa : Addr
 zoc : FuncData
 zix : Addr
 ziz : FuncData
 zl8 : Addr
 zmd : FuncData
 zj2 : Addr
 zj5 : FuncData
 zj1 : Addr
 zj4 : FuncData
 zem : Addr
 zen : FuncData
 ze3 : Addr
 ze6 : FuncData
 zgq : Addr
 zgu : FuncData
 zgr : Addr
 zgv : FuncData
 zge : Addr
 zgh : FuncData
 zff : Addr
 zfj : FuncData
 zha : Addr
 zhb : FuncData
 zfc : Addr
 zfg : FuncData
 zgo : Addr
 zgs : FuncData
 ze1 : Addr
 ze4 : FuncData
 ze2 : Addr
 ze5 : FuncData
 zgp : Addr
 zgt : FuncData
 zfe : Addr
 zfi : FuncData
 zgc : Addr
 zgf : FuncData
 zf1 : Addr
 zf3 : FuncData
 zgd : Addr
 zgg : FuncData
 zfd : Addr
 zfh : FuncData
 zf0 : Addr
 zf2 : FuncData
 zd6 : Addr
 zd7 : FuncData
 zmb : Addr
 zmg : FuncData
 znd : Addr
 znh : FuncData
 zpz : Addr
 zp3 : FuncData
 zk1 : Addr
 zk3 : FuncData
 zp0 : Addr
 zp4 : FuncData
 zv4 : Addr
 zv9 : FuncData
 zp1 : Addr
 zp5 : FuncData
 zsg : Addr
 zsk : FuncData
 zpy : Addr
 zp2 : FuncData
 zic : Addr
 zif : FuncData
 zsh : Addr
 zsl : FuncData
 zmc : Addr
 zmh : FuncData
 zsi : Addr
 zsm : FuncData
 znc : Addr
 zng : FuncData
 z2d : Addr
 zx0 : FuncData
 zn9 : Addr
 z0g : Addr
structure Txt (K : W.Frag) (mg : Str -> Option Value) (t : Adr) : Prop where
 names_of : DefOk K mg "names_of" zd1 ["function"] t.zne t.zni
 reads : DefOk K mg "reads" zhx ["row"] t.zv5 t.zwa
 gives : DefOk K mg "gives" zhs ["row"] t.zv3 t.zv8
 atoms_of : DefOk K mg "atoms_of" zd5 ["row"] t.znb t.znf
 each_once : DefOk K mg "each_once" zdr ["names"] t.zma t.zmf
 ways : DefOk K mg "ways" zkz ["rows"] t.zyo t.zyp
 begins_of : DefOk K mg "begins_of" zdq ["rows"] t.zl9 t.zme
 firsts_behind : DefOk K mg "firsts_behind" zcg ["rows", "begins"] t.zib t.zie
 zna : IniOk K t.zay "Flows.__init__" zde ["self", "program"] t.zk0 t.zk2
 value : DefOk K mg "value" zhz ["sign", "one", "other"] t.zv6 t.zwb
 zi8 : BasOk K t.zsj "__init__" "Walker.__init__" zc1 ["self", "program"] t.zj0 t.zj3
 ze0 : MetOk K t.zam "ended" "Walker.ended" zcl ["self"] t.ziw t.ziy
 zg6 : MetOk K t.zam "answer" "Walker.answer" zcf ["self"] t.zia t.zid
 z0f : MetOk K t.zam "sent" "Walker.sent" zdh ["self"] t.zoa t.zoc
 zc3 : MetOk K t.zam "field" "Walker.field" zcm ["self", "record", "name"] t.zix t.ziz
 zxz : MetOk K t.zam "frames" "Walker.frames" zcq ["self"] t.zl8 t.zmd
 zi9 : MetOk K t.zam "told" "Walker.told" zc2 ["self", "level", "name"] t.zj2 t.zj5
 zfz : MetOk K t.zam "step" "Walker.step" zc0 ["self"] t.zj1 t.zj4
 zdx : MetOk K t.zam "ask_for_level" "Walker.ask_for_level" za1 ["self", "level"] t.zem t.zen
 zd0 : MetOk K t.zam "ask_for_name" "Walker.ask_for_name" za4 ["self", "level", "name"] t.ze3 t.ze6
 zfx : MetOk K t.zam "names_at" "Walker.names_at" zbz ["self", "level"] t.zgq t.zgu
 zfy : MetOk K t.zam "send_out" "Walker.send_out" zb1 ["self", "number"] t.zgr t.zgv
 ze8 : MetOk K t.zam "put_field" "Walker.put_field" zbt ["self", "record", "name", "number"] t.zge t.zgh
 zei : MetOk K t.zam "make_record" "Walker.make_record" zbd ["self"] t.zff t.zfj
 ziv : IniOk K t.zbo "TextFrame.__init__" zb8 ["self", "function", "named"] t.zha t.zhb
 zan : MetOk K t.zbo "value_of" "TextFrame.value_of" zbc ["self", "atom"] t.zfc t.zfg
 zh9 : IniOk K t.zam "TextWalker.__init__" zb0 ["self", "program", "args"] t.zgo t.zgs
 zdz : MetOk K t.zam "chain_of" "TextWalker.chain_of" za6 ["self", "frame"] t.ze1 t.ze4
 zcu : MetOk K t.zam "shown_at" "TextWalker.shown_at" za5 ["self", "level"] t.ze2 t.ze5
 zfw : MetOk K t.zam "tell" "TextWalker.tell" zb2 ["self", "level", "name"] t.zgp t.zgt
 zeh : MetOk K t.zam "walk_on" "TextWalker.walk_on" zbe ["self"] t.zfe t.zfi
 zdj : MetOk K t.zam "begin" "TextWalker.begin" zbu ["self", "function", "args"] t.zgc t.zgf
 zdb : MetOk K t.zam "row_of" "TextWalker.row_of" zbi ["self", "frame"] t.zf1 t.zf3
 zck : MetOk K t.zam "go_on" "TextWalker.go_on" zbr ["self", "frame", "way"] t.zgd t.zgg
 zeg : MetOk K t.zam "go_back" "TextWalker.go_back" zba ["self", "number"] t.zfd t.zfh
 zeq : MetOk K t.zam "do_row" "TextWalker.do_row" zbk ["self", "frame", "row"] t.zf0 t.zf2
 zdm : MetOk K t.zam "value_given" "TextWalker.value_given" zaz ["self", "frame", "row"] t.zd6 t.zd7
 zj6 : DefOk K mg "_law_cell_at" zds ["_law_script", "_law_k"] t.zmb t.zmg
 zoe : DefOk K mg "_law_stream" zd3 ["_law_cell", "_law_many"] t.znd t.znh
 zwd : DefOk K mg "_law_names" zey ["_law_cell", "_law_many"] t.zpz t.zp3
 zil : DefOk K mg "_law_value_by" zdd ["_law_number"] t.zk1 t.zk3
 zkl : DefOk K mg "_law_small" zeu ["_law_number", "_law_names_here"] t.zp0 t.zp4
 z2e : DefOk K mg "_law_row" zhw ["_law_cell", "_law_names_here", "_law_fields"] t.zv4 t.zv9
 zg8 : DefOk K mg "_law_worth" zew ["_law_atom_here", "_law_now"] t.zp1 t.zp5
 zyq : DefOk K mg "_law_done" zf5 ["_law_now", "_law_store", "_law_row_here"] t.zsg t.zsk
 zwc : DefOk K mg "_law_alike" zet ["_law_found", "_law_due"] t.zpy t.zp2
 zg7 : DefOk K mg "_law_fields_told" zch ["_law_walker", "_law_row_here", "_law_now", "_law_store"] t.zic t.zif
 zyr : DefOk K mg "_law_told" zf9 ["_law_walker", "_law_used_here", "_law_now"] t.zsh t.zsl
 zmi : DefOk K mg "_law_stepped" zdt ["_law_walker", "_law_row_here", "_law_used_here", "_law_now", "_law_store"] t.zmc t.zmh
 zys : DefOk K mg "_law_used" zf7 ["_law_params", "_law_rows"] t.zsi t.zsm
 zod : DefOk K mg "_law_at_end" zd4 ["_law_walker", "_law_now", "_law_store", "_law_last", "_law_fields"] t.znc t.zng
 law : DefOk K mg "law" zl0 ["_law_script"] t.z2d t.zx0
 zcj : ClsOk K mg "Flows" t.zay
 zv7 : ClsOk K mg "Walker" t.zsj
 zaf : ClsOk K mg "TextWalker" t.zam
 zar : ClsOk K mg "TextFrame" t.zbo
 zd8 : zdp K t.zay "last"
 zcp : zdp K t.zay "number_of"
 zco : zdp K t.zay "folded_of"
 zce : zdp K t.zay "params_of"
 zcv : zdp K t.zay "rows_of"
 zca : zdp K t.zay "names_in"
 zcw : zdp K t.zay "ways_in"
 za0 : zdp K t.zam "flows"
 zax : zdp K t.zam "stack"
 zbp : zdp K t.zam "outcome"
 zci : zdp K t.zam "sendings"
 zbm : zdp K t.zam "contents"
 zbq : zdp K t.zam "records"
 zbf : zdp K t.zbo "function"
 zb7 : zdp K t.zbo "row"
 za9 : zdp K t.zbo "named"
 c_WIDE : ∃ tk, mg "WIDE" = some (.int 281474976710656 tk)
 zmu : mg "GIVING_KINDS" = some (.ref t.zn9)
 zx1 : ∀ H : Hp, SqT K H t.zn9 (K12.giving.map V.str)
 zob : mg "ATOM_PLACES" = some (.ref t.z0g)
 z3k : z2n K t.z0g K12.tabl
 b_len : mg "len" = none
 b_list : mg "list" = none
 b_tuple : mg "tuple" = none
 b_isinstance : mg "isinstance" = none
 b_range : mg "range" = none
 b_enumerate : mg "enumerate" = none
 b_dict : mg "dict" = none
 b_str : mg "str" = none
 b_min : mg "min" = none
 b_max : mg "max" = none
 b_int : mg "int" = none
 b_zip : mg "zip" = none
 b_bool : mg "bool" = none
 bl : ∀ (s : Shared) (u : Value), BindsTo s t.zx0 ⟨[u], []⟩ [("_law_script", u)]
section
variable {P : Program} {w : World} {K : W.Frag} {mg : Str -> Option Value} {base : Heap} {t : Adr}
abbrev WA (t : Adr) (Hb H : Hp) (w : Wr) (fs : List Fm) (oc : V) (sent : List V) (cn : Cn) : Prop := WAt t.zam t.zbo Hb H w fs oc sent (.dT cn.kv) cn.rc
abbrev z2h (f : Fm) : HO := .tup [.str f.fn, .int f.row]
def znz (K : W.Frag) (t : Adr) : Sp := λ vs H Q _ => ∃ (x dx p : Addr) (fns : List F2.Fd), vs = [.ref x, .ref p] /\ H x = some (.ins t.zay dx []) /\ SqL K (ers x H) p (fns.map λ f => V.ref f.fa) /\ fns ≠ [] /\ fns.length <= 12 /\ (∀ f ∈ fns, F2.FnAt K (ers x H) f) /\ (fns.map (·.name)).Nodup /\
 ∀ H', zal (ers x H) H' -> F2.FlowsAt K t.zay H' x fns -> Q .non H'
def zwt (K : W.Frag) : Sp := λ _ _ _ _ => False
def zmq (K : W.Frag) (t : Adr) : Sp := λ vs H Q _ => ∃ (x dx p : Addr) (fns : List F2.Fd), vs = [.ref x, .ref p] /\ H x = some (.ins t.zam dx []) /\ SqL K (ers x H) p (fns.map λ f => V.ref f.fa) /\ fns ≠ [] /\ fns.length <= 12 /\ (∀ f ∈ fns, F2.FnAt K (ers x H) f) /\ (fns.map (·.name)).Nodup /\
 ∀ Hb w H', w.a = x -> zal (ers x H) Hb -> WA t Hb H' w [] .non [] ⟨[], 0⟩ -> F2.FlowsAt K t.zay Hb w.fl fns -> Q .non H'
def zlq (K : W.Frag) (t : Adr) : Sp := λ vs H Q _ => ∃ (Hb : Hp) (w : Wr) (fs : List Fm) (oc : V) (sent : List V) (cn : Cn), vs = [.ref w.a] /\ WA t Hb H w fs oc sent cn /\ Q (.bl (decide (fs = []))) H
def zk5 (K : W.Frag) (t : Adr) : Sp := λ vs H Q _ => ∃ (Hb : Hp) (w : Wr) (fs : List Fm) (oc : V) (sent : List V) (cn : Cn), vs = [.ref w.a] /\ WA t Hb H w fs oc sent cn /\ Q oc H
def zlx (K : W.Frag) (t : Adr) : Sp := λ vs H Q _ => ∃ (Hb : Hp) (w : Wr) (fs : List Fm) (oc : V) (sent : List V) (cn : Cn) (i : Int) (n : Str), vs = [.ref w.a, .int i, .str n] /\ WA t Hb H w fs oc sent cn /\ ∀ H', zal H H' -> Q (zws cn i n) H'
def zi4 (K : W.Frag) (t : Adr) : Sp := λ vs H Q _ => ∃ (Hb : Hp) (w : Wr) (fs : List Fm) (oc : V) (sent : List V) (cn : Cn) (i : Int) (n : Str) (v : V), vs = [.ref w.a, .int i, .str n, v] /\ WA t Hb H w fs oc sent cn /\ cn.kv.length < 1000000 /\ ∀ Hb' H' tp, zal Hb Hb' -> WA t Hb' H' w fs oc sent ⟨za3 cn.kv (fk i n) v, cn.rc⟩ -> Hb' tp = some (.tup [.str "put", .int i, .str n, v]) -> Q (.ref tp) H'
def zhq (K : W.Frag) (t : Adr) : Sp := λ vs H Q _ => ∃ (Hb : Hp) (w : Wr) (fs : List Fm) (oc : V) (sent : List V) (cn : Cn), vs = [.ref w.a] /\ WA t Hb H w fs oc sent cn /\ ∀ Hb' H' tp, zal Hb Hb' -> WA t Hb' H' w fs oc sent ⟨cn.kv, cn.rc + 1⟩ -> Hb' tp = some (.tup [.str "new", .int (cn.rc + 1)]) -> Q (.ref tp) H'
def zmo (K : W.Frag) (t : Adr) : Sp := λ vs H Q _ => ∃ (Hb : Hp) (w : Wr) (fs : List Fm) (oc : V) (sent : List V) (cn : Cn) (i : Nat) (f : Fm) (n : Str) (v : V) (fns : List F2.Fd) (F : F2.Fd), vs = [.ref w.a, .int i, .str n] /\ WA t Hb H w fs oc sent cn /\ fs[i]? = some f /\ F2.FlowsAt K t.zay Hb w.fl fns /\ F ∈ fns /\ F.name = f.fn /\ n ∈ F2.nms F /\ zdc f.kvs (Sum.inr n : Key) = some v /\ ∀ H', zal H H' -> Q v H'
def zgx (K : W.Frag) (t : Adr) : Sp := λ vs H Q _ => ∃ (Hb : Hp) (w : Wr) (fs : List Fm) (oc : V) (sent : List V) (cn : Cn) (i : Nat), vs = [.ref w.a, .int i] /\ WA t Hb H w fs oc sent cn /\ i < fs.length /\ ∀ H', zal H H' -> Q .non H'
def zjq (K : W.Frag) (t : Adr) : Sp := λ vs H Q _ => ∃ (Hb : Hp) (w : Wr) (fs : List Fm) (oc : V) (sent : List V) (cn : Cn) (i : Nat) (f : Fm) (fns : List F2.Fd) (F : F2.Fd), vs = [.ref w.a, .int i] /\ WA t Hb H w fs oc sent cn /\ fs[i]? = some f /\ F2.FlowsAt K t.zay Hb w.fl fns /\ F ∈ fns /\ F.name = f.fn /\ ∀ nl H', zal H H' -> SqL K H' nl ((F2.nms F).map V.str) -> Q (.ref nl) H'
def zhj (K : W.Frag) (t : Adr) : Sp := λ vs H Q _ => ∃ (Hb : Hp) (w : Wr) (fs : List Fm) (oc : V) (sent : List V) (cn : Cn) (i : Nat) (f : Fm) (n : Str) (fns : List F2.Fd) (F : F2.Fd), vs = [.ref w.a, .int i, .str n] /\ WA t Hb H w fs oc sent cn /\ fs[i]? = some f /\ F2.FlowsAt K t.zay Hb w.fl fns /\ F ∈ fns /\ F.name = f.fn /\ n ∈ F2.nms F /\ ∀ H', zal H H' -> Q .non H'
def zje (K : W.Frag) (t : Adr) : Sp := λ _ _ _ _ => False
def zkf (K : W.Frag) (t : Adr) : Sp := λ vs H Q _ => ∃ (x dx nd : Addr) (fn : Str), vs = [.ref x, .str fn, .ref nd] /\ H x = some (.ins t.zbo dx []) /\ Q .non (upd H x (.ins t.zbo dx (fF ⟨x, dx, nd, fn, 0, []⟩)))
def zhv (K : W.Frag) (t : Adr) : Sp := λ vs H Q _ => ∃ (f : Fm) (v y : V), vs = [.ref f.a, v] /\ FrAt t.zbo H f /\ av f.kvs v = some y /\ Q y H
def zhh (K : W.Frag) (t : Adr) : Sp := λ vs H Q _ => ∃ (x : V) (f : Fm), vs = [x, .ref f.a] /\ FrAt t.zbo H f /\ ∀ tp l, H tp = none -> H l = none -> l ≠ tp -> Q (.ref l) (upd (upd H tp (z2h f)) l (.lst [.ref tp]))
def zhd (K : W.Frag) (t : Adr) : Sp := λ vs H Q _ => ∃ (Hb : Hp) (w : Wr) (fs : List Fm) (oc : V) (sent : List V) (cn : Cn) (i : Nat) (f : Fm), vs = [.ref w.a, .int i] /\ WA t Hb H w fs oc sent cn /\ fs[i]? = some f /\ ∀ tp H', H tp = none -> zal H H' -> H' tp = some (z2h f) -> Q (.ref tp) H'
def zjo (K : W.Frag) (t : Adr) : Sp := λ vs H Q _ => ∃ (Hb : Hp) (w : Wr) (fs : List Fm) (oc : V) (sent : List V) (cn : Cn) (i : Nat) (f : Fm) (n : Str) (v : V), vs = [.ref w.a, .int i, .str n] /\ WA t Hb H w fs oc sent cn /\ fs[i]? = some f /\ zdc f.kvs (Sum.inr n : Key) = some v /\ Q v H
def zio (K : W.Frag) (t : Adr) : Sp := λ vs H Q _ => ∃ (Hb : Hp) (w : Wr) (fs : List Fm) (oc : V) (sent : List V) (cn : Cn) (f : Fm) (fns : List F2.Fd) (F : F2.Fd) (r : Rw), vs = [.ref w.a, .ref f.a] /\ WA t Hb H w fs oc sent cn /\ f ∈ fs /\ F2.FlowsAt K t.zay Hb w.fl fns /\ F ∈ fns /\ F.name = f.fn /\ F.rs[f.row]? = some r /\ Q (.ref r.r) H
def zi2 (K : W.Frag) (t : Adr) : Sp := λ vs H Q _ => ∃ (Hb : Hp) (w : Wr) (fs : List Fm) (oc : V) (sent : List V) (cn : Cn) (f : Fm) (fns : List F2.Fd) (F : F2.Fd) (j r : Nat), vs = [.ref w.a, .ref f.a, .int j] /\ WA t Hb H w (fs ++ [f]) oc sent cn /\ F2.FlowsAt K t.zay Hb w.fl fns /\ F ∈ fns /\ F.name = f.fn /\ f.row < F.rs.length /\ Way F f.row j r /\ ∀ H', WA t Hb H' w (fs ++ [{ f with row := r }]) oc sent cn -> Q .non H'
def zk6 (F : F2.Fd) (vals : List V) : List (Key × V) := (F.ps.zip vals).foldl (λ d p => za3 d (Sum.inr p.1 : Key) p.2) (((F2.nms F).map λ n => ((Sum.inr n : Key), V.int 0)).foldl (λ acc kv => za3 acc kv.1 kv.2) [])
def zi7 (K : W.Frag) (t : Adr) : Sp := λ vs H Q _ => ∃ (Hb : Hp) (w : Wr) (fs : List Fm) (oc : V) (sent : List V) (cn : Cn) (fns : List F2.Fd) (F : F2.Fd) (ar : Addr) (vals : List V), vs = [.ref w.a, .str F.name, .ref ar] /\ WA t Hb H w fs oc sent cn /\ F2.FlowsAt K t.zay Hb w.fl fns /\ F ∈ fns /\ SqL K Hb ar vals /\ vals.length <= 1000 /\ fs.length <= 1000 /\ (F2.nms F).length <= 1000 /\ F.ps.length <= 1000 /\
 ∀ Hb' H' f, zal Hb Hb' -> WA t Hb' H' w (fs ++ [f]) oc sent cn -> f.fn = F.name -> f.row = 0 -> f.kvs = zk6 F vals -> Q .non H'
def zji (K : W.Frag) (t : Adr) : Sp := λ vs H Q _ => ∃ (x dx p ar : Addr) (fns : List F2.Fd) (F : F2.Fd) (vals : List V), vs = [.ref x, .ref p, .ref ar] /\ H x = some (.ins t.zam dx []) /\ SqL K (ers x H) p (fns.map λ f => V.ref f.fa) /\ fns ≠ [] /\ fns.length <= 12 /\ (∀ f ∈ fns, F2.FnAt K (ers x H) f) /\ (fns.map (·.name)).Nodup /\ fns[fns.length - 1]? = some F /\ SqL K (ers x H) ar vals /\ vals.length <= 1000 /\ (F2.nms F).length <= 1000 /\ F.ps.length <= 1000 /\
 ∀ Hb w f H', w.a = x -> zal (ers x H) Hb -> WA t Hb H' w [f] .non [] ⟨[], 0⟩ -> F2.FlowsAt K t.zay Hb w.fl fns -> f.fn = F.name -> f.row = 0 -> f.kvs = zk6 F vals -> Q .non H'
def zgk (K : W.Frag) (t : Adr) : Sp := λ vs H Q _ => ∃ (Hb : Hp) (w : Wr) (fs : List Fm) (oc : V) (sent : List V) (cn : Cn) (f : Fm) (r : Addr) (rg : RG) (x : Str) (v : V), vs = [.ref w.a, .ref f.a, .ref r] /\ WA t Hb H w (fs ++ [f]) oc sent cn /\ SqT K H r rg.items /\ ((∃ x a, rg = .copy x a) \/ (∃ x a fd, rg = .get x a fd)) /\ rg.gives f.kvs cn = some (x, v) /\ ∀ H', zal H H' -> Q v H'
def Done (t : Adr) (Hb : Hp) (w : Wr) (fs : List Fm) (f : Fm) (oc : V) (sent : List V) (cn : Cn) (Q : VK) : RG -> Prop
 | .put a fd b => ∃ i v, av f.kvs a = some (.int i) /\ av f.kvs b = some v /\ cn.kv.length < 1000000 /\ ∀ Hb' H' tp, zal Hb Hb' -> WA t Hb' H' w (fs ++ [f]) oc sent ⟨za3 cn.kv (fk i fd) v, cn.rc⟩ -> Hb' tp = some (.tup [.str "put", .int i, .str fd, v]) -> Q (.ref tp) H'
 | .new x => ∀ Hb' H' tp, zal Hb Hb' -> WA t Hb' H' w (fs ++ [{ f with kvs := za3 f.kvs (Sum.inr x : Key) (.int (cn.rc + 1)) }]) oc sent ⟨cn.kv, cn.rc + 1⟩ -> Hb' tp = some (.tup [.str "new", .int (cn.rc + 1)]) -> Q (.ref tp) H'
 | .copy x a => ∃ y v, (RG.copy x a).gives f.kvs cn = some (y, v) /\ ∀ Hb' H', zal Hb Hb' -> WA t Hb' H' w (fs ++ [{ f with kvs := za3 f.kvs (Sum.inr y : Key) v }]) oc sent cn -> Q .non H'
 | .get x a fd => ∃ y v, (RG.get x a fd).gives f.kvs cn = some (y, v) /\ ∀ Hb' H', zal Hb Hb' -> WA t Hb' H' w (fs ++ [{ f with kvs := za3 f.kvs (Sum.inr y : Key) v }]) oc sent cn -> Q .non H'
 | _ => False
def zim (K : W.Frag) (t : Adr) : Sp := λ vs H Q _ => ∃ (Hb : Hp) (w : Wr) (fs : List Fm) (oc : V) (sent : List V) (cn : Cn) (f : Fm) (r : Addr) (rg : RG), vs = [.ref w.a, .ref f.a, .ref r] /\ WA t Hb H w (fs ++ [f]) oc sent cn /\ SqT K Hb r rg.items /\ sent.length < 1000000 /\ f.kvs.length < 1000000 /\ Done t Hb w fs f oc sent cn Q rg
def z1x (K : W.Frag) (t : Adr) (Hb : Hp) (w : Wr) (fs : List Fm) (oc : V) (sent : List V) (cn : Cn) (v : V) (Q : VK) : Prop := (fs = [] /\ ∀ H', WA t Hb H' w [] v sent cn -> Q .non H')
def zh2 (K : W.Frag) (t : Adr) : Sp := λ vs H Q _ => ∃ (Hb : Hp) (w : Wr) (fs : List Fm) (oc : V) (sent : List V) (cn : Cn) (f : Fm) (v : V), vs = [.ref w.a, v] /\ WA t Hb H w (fs ++ [f]) oc sent cn /\ z1x K t Hb w fs oc sent cn v Q
def z3g (K : W.Frag) (t : Adr) (Hb : Hp) (w : Wr) (fs : List Fm) (f : Fm) (sent : List V) (cn : Cn) (fns : List F2.Fd) (F : F2.Fd) (Q : VK) : RG -> Prop
 | .back a => ∃ v, av f.kvs a = some v /\ z1x K t Hb w fs .non sent cn v Q
 | .put a fd b => ∃ r, Way F f.row 0 r /\ ∃ i v, av f.kvs a = some (.int i) /\ av f.kvs b = some v /\ cn.kv.length < 1000000 /\ ∀ Hb' H' tp, zal Hb Hb' -> WA t Hb' H' w (fs ++ [{ f with row := r }]) .non sent ⟨za3 cn.kv (fk i fd) v, cn.rc⟩ -> Hb' tp = some (.tup [.str "put", .int i, .str fd, v]) -> Q (.ref tp) H'
 | .new x => ∃ r, Way F f.row 0 r /\ ∀ Hb' H' tp, zal Hb Hb' -> WA t Hb' H' w (fs ++ [{ f with kvs := za3 f.kvs (Sum.inr x : Key) (.int (cn.rc + 1)), row := r }]) .non sent ⟨cn.kv, cn.rc + 1⟩ -> Hb' tp = some (.tup [.str "new", .int (cn.rc + 1)]) -> Q (.ref tp) H'
 | .copy x a => ∃ r, Way F f.row 0 r /\ ∃ y v, (RG.copy x a).gives f.kvs cn = some (y, v) /\ ∀ Hb' H', zal Hb Hb' -> WA t Hb' H' w (fs ++ [{ f with kvs := za3 f.kvs (Sum.inr y : Key) v, row := r }]) .non sent cn -> Q .non H'
 | .get x a fd => ∃ r, Way F f.row 0 r /\ ∃ y v, (RG.get x a fd).gives f.kvs cn = some (y, v) /\ ∀ Hb' H', zal Hb Hb' -> WA t Hb' H' w (fs ++ [{ f with kvs := za3 f.kvs (Sum.inr y : Key) v, row := r }]) .non sent cn -> Q .non H'
 | _ => False
def zex (K : W.Frag) (t : Adr) : Sp := λ vs H Q _ => ∃ (Hb : Hp) (w : Wr) (fs : List Fm) (f : Fm) (sent : List V) (cn : Cn) (fns : List F2.Fd) (F : F2.Fd) (r : Rw) (rg : RG), vs = [.ref w.a] /\ WA t Hb H w (fs ++ [f]) .non sent cn /\ F2.FlowsAt K t.zay Hb w.fl fns /\ F ∈ fns /\ F.name = f.fn /\ F.rs[f.row]? = some r /\ SqT K Hb r.r rg.items /\ sent.length < 1000000 /\ f.kvs.length < 1000000 /\ z3g K t Hb w fs f sent cn fns F Q rg
def zmk (K : W.Frag) (t : Adr) : Sp := zex K t
theorem za8 {n : Nat} (h : n < 1000000) : n < sizeLine := by
 have : (1000000 : Nat) < sizeLine := by decide
 omega
theorem put1 (f : Str) (v : V) : (zja f v []).length < 1000 := by show 1 < 1000; decide
theorem put2 (f g : Str) (v u : V) : (zja g u (zja f v [])).length < 1000 := by
 have := zeo g u (zja f v [])
 have := zeo f v []
 simp at *
 omega
theorem zp6 (f : Str) (v : V) (l : List (Str × V)) (n : Nat) (h : l.length <= n) : (zja f v l).length <= n + 1 := Nat.le_trans (zeo f v l) (by omega)
theorem zfl (ss : List Str) : (ss.map V.str).all zmp = true := by
 rw [List.all_eq_true]
 intro v hv
 obtain ⟨s, _, rfl⟩ := List.mem_map.mp hv
 rfl
theorem zwz {n : Str} {ss : List Str} (h : n ∈ ss) : (if true = true then !inV (.str n) (ss.map V.str) else inV (.str n) (ss.map V.str)) = false := by
 have : inV (.str n) (ss.map V.str) = true := by
   unfold inV
   rw [List.any_eq_true]
   exact ⟨.str n, List.mem_map.mpr ⟨n, h, rfl⟩, by show (n == n) = true; simp⟩
 rw [this]
 rfl
theorem zz1 {l : List Nat} {j r : Nat} (h : l[j]? = some r) : atI (K13.natsV l) (j : Int) = some (.int r) := zft (by unfold K13.natsV; rw [List.getElem?_map, h]; rfl)
theorem zuc (fs : List Fm) (f : Fm) : atI ((fs ++ [f]).map λ f => V.ref f.a) (-1) = some (.ref f.a) := by
 rw [List.map_append]
 exact zxy _ _
theorem ztq (n : Int) : z2j n 3 := by unfold z2j; decide
theorem zul (n j : Int) (h : 0 < j /\ j < 1073741824) : z2j n j := h
def zoi (K : W.Frag) : Sp := λ vs H Q _ => ∃ (a : Addr) (ns : List Int) (k : Int), vs = [.ref a, .int k] /\ SqL K H a (ns.map V.int) /\ ns.length <= 63 /\ 0 <= k /\ ∀ z, Q (.int z) H
def zqq (K : W.Frag) : Sp := λ vs H Q _ => ∃ (c : Int) (m : Nat), vs = [.int c, .int m] /\ m <= 100 /\ ∀ l H' (ns : List Int), H l = none -> zal H H' -> H' l = some (.lst (ns.map V.int)) -> ns.length = m -> (∀ n ∈ ns, 0 <= n) -> Q (.ref l) H'
def Val (i : Int) : Prop := 0 <= i /\ i < K21.wide
def zn5 (K : W.Frag) : Sp := λ vs H Q _ => ∃ (n : Int), vs = [.int n] /\ ∀ v, Val v -> Q (.int v) H
def zju (ns : List Str) (v : V) : Prop := (∃ i, v = .int i /\ Val i) \/ ∃ s, v = .str s /\ s ∈ ns
def zs3 (K : W.Frag) : Sp := λ vs H Q _ => ∃ (v y : V) (d : Addr) (kvs : List (Key × V)), vs = [v, .ref d] /\ H d = some (.dK kvs) /\ av kvs v = some y /\ Q y H
def Let (cs : List Nat) : Prop := ∀ c ∈ cs, 97 <= c /\ c <= 122
structure NmsOk (ns : List Str) : Prop where
 nd : ns.Nodup
 ok : ∀ n ∈ ns, ∃ cs, n = tx cs /\ Let cs /\ 0 < cs.length /\ cs.length <= 9
def ztj (K : W.Frag) : Sp := λ vs H Q _ => ∃ (c : Int) (m : Nat), vs = [.int c, .int m] /\ m <= 8 /\ ∀ l H' ns, H l = none -> zal H H' -> H' l = some (.lst (ns.map V.str)) -> ns.length = m -> NmsOk ns -> Q (.ref l) H'
theorem zv1 (xs : List V) : zog xs (some 1) none = xs.drop 1 := by
 unfold zog HT.sIx
 simp only
 rw [if_neg (by decide)]
 by_cases h : 1 <= xs.length
 . rw [show min (1 : Int).toNat xs.length = 1 by omega]
   rw [List.take_of_length_le (by rw [List.length_drop]; omega)]
 . rw [show min (1 : Int).toNat xs.length = xs.length by omega]
   rw [List.drop_eq_nil_of_le (Nat.le_refl _), List.drop_eq_nil_of_le (by omega)]
   simp
def zm4 : List Str := ["fn", "in", "new", "get", "put", "call", "out", "if", "while", "else", "end", "back"]
def WN : List (List Nat) := zm4.map λ w => w.cps.toList
theorem inW (l : List Nat) : inV (.str (tx l)) (zm4.map V.str) = decide (l ∈ WN) := by
 rw [Bool.eq_iff_iff, decide_eq_true_eq]
 unfold inV WN
 rw [List.any_eq_true]
 constructor
 . rintro ⟨v, hv, e⟩
   obtain ⟨w, hw, rfl⟩ := List.mem_map.mp hv
   have e : (tx l == w) = true \/ (w == tx l) = true := by first | exact .inl e | exact .inr e
   have : w = tx l := e.elim (λ z => (eq_of_beq z).symm) eq_of_beq
   exact List.mem_map.mpr ⟨w, hw, by rw [this, zjg]⟩
 . intro h
   obtain ⟨w, hw, e⟩ := List.mem_map.mp h
   have : tx l = w := K14.str_ext (by rw [zjg, e])
   refine ⟨.str w, List.mem_map.mpr ⟨w, hw, rfl⟩, ?_⟩
   rw [this]
   show (w == w) = true
   simp
theorem zll {ns : List Str} {v : V} (h : zju ns v) (hn : ∀ s ∈ ns, K12.Nm s) : K12.Atom v := by
 rcases h with ⟨i, rfl, _⟩ | ⟨s, rfl, hs⟩
 . exact .inr ⟨i, rfl⟩
 . exact .inl ⟨s, rfl, hn s hs⟩
theorem zn4 {ns : List Str} (h : NmsOk ns) : ∀ s ∈ ns, K12.Nm s := λ s hs => by
 obtain ⟨cs, rfl, hl, h0, h9⟩ := h.ok s hs
 refine ⟨by rw [zit]; omega, ?_⟩
 unfold PyData.strOk
 rw [Array.all_eq_true']
 intro x hx
 have hx : x ∈ cs := by
   have : x ∈ (tx cs).cps.toList := by simpa using hx
   rwa [zjg] at this
 have := hl x hx
 simp
 omega
theorem zyw {xs : List V} {lo hi : Option Int} {v : V} (h : v ∈ zog xs lo hi) : v ∈ xs := List.mem_of_mem_drop (List.mem_of_mem_take h)
theorem zze (xs : List V) (lo hi : Option Int) : (zog xs lo hi).length <= xs.length := by
 unfold zog
 rw [List.length_take, List.length_drop]
 omega
theorem zsa (ss : List Str) (M : Nat) (h : M <= ss.length) : zog (ss.map V.str) none (some (M : Int)) = (ss.take M).map V.str := by
 unfold zog
 rw [HT.sIx_none, show HT.sIx (ss.map V.str).length (ss.map V.str).length (some (M : Int)) = min M (ss.map V.str).length from HT.sIx_nat _ _ M, List.length_map, List.drop_zero, Nat.sub_zero, Nat.min_eq_left h, List.map_take]
theorem zo4 {H : Hp} {x dx : Addr} {o1 o2 : HO} (hx : H x = none) (hdx : H dx = none) : zal H (ers x (upd (upd H dx o1) x o2)) := λ b o hb => by
 have n1 : b ≠ x := λ z => by rw [z, hx] at hb; cases hb
 have n2 : b ≠ dx := λ z => by rw [z, hdx] at hb; cases hb
 rw [zdf n1, zah n1, zah n2]
 exact hb
def zth (K : W.Frag) : Sp := λ vs H Q _ => ∃ (n : Int) (a : Addr) (ns : List Str), vs = [.int n, .ref a] /\ SqL K H a (ns.map V.str) /\ 0 < ns.length /\ ∀ v, zju ns v -> Q v H
def zy7 (ns fs : List Str) : RG -> Prop
 | .new x => x ∈ ns
 | .get x a f => x ∈ ns /\ zju ns a /\ f ∈ fs
 | .put a f b => zju ns a /\ f ∈ fs /\ zju ns b
 | .copy x a => x ∈ ns /\ zju ns a
 | _ => False
def zw3 (K : W.Frag) : Sp := λ vs H Q _ => ∃ (c : Int) (a b : Addr) (ns fs : List Str), vs = [.int c, .ref a, .ref b] /\ SqL K H a (ns.map V.str) /\ SqL K H b (fs.map V.str) /\ 0 < ns.length /\ fs.length = 3 /\ ∀ tp H' rg, H tp = none -> zal H H' -> H' tp = some (.tup (RG.items rg)) -> zy7 ns fs rg -> Q (.ref tp) H'
def AtV (v : V) : Prop := (∃ i, v = .int i) \/ ∃ s, v = .str s
def zst (K : W.Frag) : Sp := λ vs H Q _ => ∃ (x y : V), vs = [x, y] /\ ((x = .non /\ y = .non) \/ ∃ (p p2 : Addr) (xs : List V), x = .ref p /\ y = .ref p2 /\ H p = some (.tup xs) /\ H p2 = some (.tup xs) /\ xs.length <= 10 /\ ∀ v ∈ xs, AtV v) /\ ∀ H', zal H H' -> Q (.bl true) H'
def isN (kv : List Key × V) : Bool := decide (kv.1[1]? = some (Sum.inr ("" : Str) : Key))
def zfk (st : List (List Key × V)) : Nat := (st.filter isN).length
def er2 (d s : Addr) (H : Hp) : Hp := ers d (ers s H)
def z2p (H : Hp) (d s : Addr) (kvs : List (Key × V)) (st : List (List Key × V)) (Q : VK) : RG -> Prop
 | .new x => ∀ H' tp, H tp = none -> zal (er2 d s H) H' -> H' d = some (.dK (za3 kvs (Sum.inr x : Key) (.int (1 + (zfk st : Int))))) -> H' s = some (.dT (za3 st (fk (1 + (zfk st : Int)) "") (.int 0))) -> H' tp = some (.tup [.str "new", .int (1 + (zfk st : Int))]) -> Q (.ref tp) H'
 | .put a f b => ∃ i v, av kvs a = some (.int i) /\ av kvs b = some v /\ ∀ H' tp, H tp = none -> zal (er2 d s H) H' -> H' d = some (.dK kvs) -> H' s = some (.dT (za3 st (fk i f) v)) -> H' tp = some (.tup [.str "put", .int i, .str f, v]) -> Q (.ref tp) H'
 | .get x a f => ∃ i, av kvs a = some (.int i) /\ ∀ H', zal (er2 d s H) H' -> H' d = some (.dK (za3 kvs (Sum.inr x : Key) ((zdc st (fk i f)).getD (.int 0)))) -> H' s = some (.dT st) -> Q .non H'
 | .copy x a => ∃ v, av kvs a = some v /\ ∀ H', zal (er2 d s H) H' -> H' d = some (.dK (za3 kvs (Sum.inr x : Key) v)) -> H' s = some (.dT st) -> Q .non H'
 | _ => False
def Shp (st : List (List Key × V)) : Prop := ∀ kv ∈ st, ∃ i f z, kv.1 = fk i f /\ kv.2 = .int z
theorem zte (d s : Addr) (H : Hp) : er2 d s H d = none := by unfold er2 L2.ers; rw [if_pos rfl]
theorem zsx (d s : Addr) (H : Hp) : er2 d s H s = none := by
 unfold er2 L2.ers
 split
 . rfl
 . rw [if_pos rfl]
theorem zgb {d s : Addr} {H : Hp} : zal (er2 d s H) H := λ b o h => by
 unfold er2 L2.ers at h
 split at h
 . cases h
 . split at h
   . cases h
   . exact h
theorem zf8 {d s b : Addr} {H : Hp} (h1 : b ≠ d) (h2 : b ≠ s) : er2 d s H b = H b := by
 unfold er2
 rw [zdf h1, zdf h2]
theorem zzr {K : W.Frag} {d s r : Addr} {H : Hp} {kvs : List (Key × V)} {st : List (List Key × V)} {xs : List V} (hd : H d = some (.dK kvs)) (hs : H s = some (.dT st)) (h : SqT K H r xs) : SqT K (er2 d s H) r xs := by
 rcases h with h | h
 . refine .inl ?_
   rcases h with h | ⟨o, h⟩
   . exact .inl (by rw [zf8 (λ z => by rw [z, hd] at h; cases h) (λ z => by rw [z, hs] at h; cases h)]; exact h)
   . exact .inr ⟨o, by rw [zf8 (λ z => by rw [z, hd] at h; cases h) (λ z => by rw [z, hs] at h; cases h)]; exact h⟩
 . exact .inr h
theorem zrf {d s tp : Addr} {H H5 : Hp} {o1 o2 : HO} (h : zal (er2 d s H) H5) (hd : H5 d = some o1) (hs : H5 s = some o2) (ht : H5 tp = none) : H tp = none := by
 have n1 : tp ≠ d := λ z => by rw [z, hd] at ht; cases ht
 have n2 : tp ≠ s := λ z => by rw [z, hs] at ht; cases ht
 have := h.free ht
 rwa [zf8 n1 n2] at this
theorem z0e (st : List (List Key × V)) : zfk st <= st.length := List.length_filter_le _ _
theorem zls (st : List (List Key × V)) (kv : List Key × V) : zfk (st ++ [kv]) = zfk st + (if isN kv = true then 1 else 0) := by
 unfold zfk
 rw [List.filter_append, List.length_append]
 congr 1
 by_cases h : isN kv = true
 . rw [if_pos h, List.filter_cons_of_pos h]; rfl
 . rw [if_neg h, List.filter_cons_of_neg h]; rfl
theorem zv0 (i : Int) (f : Str) (v : V) : isN (fk i f, v) = decide (V.str f = V.str "") := by
 unfold isN fk
 show decide (some (Sum.inr f : Key) = some (Sum.inr ("" : Str) : Key)) = _
 rw [Bool.eq_iff_iff, decide_eq_true_eq, decide_eq_true_eq]
 constructor
 . intro h; cases h; rfl
 . intro h; cases h; rfl
def zvj (K : W.Frag) : Sp := λ vs H Q _ => ∃ (d s r : Addr) (kvs : List (Key × V)) (st : List (List Key × V)) (rg : RG), vs = [.ref d, .ref s, .ref r] /\ H d = some (.dK kvs) /\ H s = some (.dT st) /\ SqT K H r rg.items /\ kvs.length < 100000 /\ st.length < 100000 /\ Shp st /\ z2p H d s kvs st Q rg
def Fld (cn : Cn) (kvs : List (Key × V)) (st : List (List Key × V)) : RG -> Prop
 | .get _ a f => ∃ i z, av kvs a = some (.int i) /\ zws cn i f = .int z /\ (zdc st (fk i f)).getD (.int 0) = .int z
 | .put a f _ => ∃ i z, av kvs a = some (.int i) /\ zws cn i f = .int z /\ (zdc st (fk i f)).getD (.int 0) = .int z
 | .new _ => True
 | .copy _ _ => True
 | _ => False
def zk9 (K : W.Frag) (t : Adr) : Sp := λ vs H Q _ => ∃ (Hb : Hp) (w : Wr) (fs : List Fm) (oc : V) (cn : Cn) (r d s : Addr) (kvs : List (Key × V)) (st : List (List Key × V)) (rg : RG), vs = [.ref w.a, .ref r, .ref d, .ref s] /\ WA t Hb H w fs oc [] cn /\ SqT K H r rg.items /\ H d = some (.dK kvs) /\ H s = some (.dT st) /\ Fld cn kvs st rg /\ ∀ H', zal H H' -> Q (.bl true) H'
def zvr (K : W.Frag) (t : Adr) : Sp := λ vs H Q _ => ∃ (Hb : Hp) (w : Wr) (f : Fm) (cn : Cn) (fns : List F2.Fd) (F : F2.Fd) (u d : Addr) (us : List Str) (kvs : List (Key × V)), vs = [.ref w.a, .ref u, .ref d] /\ WA t Hb H w [f] .non [] cn /\ F2.FlowsAt K t.zay Hb w.fl fns /\ F ∈ fns /\ F.name = f.fn /\ SqL K H u (us.map V.str) /\ H d = some (.dK kvs) /\ (∀ n ∈ us, n ∈ F2.nms F /\ ∃ i, zdc f.kvs (Sum.inr n : Key) = some (.int i) /\ zdc kvs (Sum.inr n : Key) = some (.int i)) /\ ∀ H', zal H H' -> Q (.bl true) H'
structure Rel (st : List (List Key × V)) (cn : Cn) : Prop where
 sh : Shp st
 fld : ∀ i f, f ≠ ("" : Str) -> zdc st (fk i f) = zdc cn.kv (fk i f)
 cnt : cn.rc = (zfk st : Int)
 low : ∀ kv ∈ st, ∀ i, kv.1 = fk i "" -> i <= (zfk st : Int)
structure Goes (K : W.Frag) (t : Adr) (H0 Hb H : Hp) (w : Wr) (f : Fm) (cn : Cn) (fns : List F2.Fd) (F : F2.Fd) (d s : Addr) (kvs : List (Key × V)) (st : List (List Key × V)) : Prop where
 wa : WA t Hb H w [f] .non [] cn
 fl : F2.FlowsAt K t.zay H0 w.fl fns
 s0 : zal H0 Hb
 d0 : H0 d = none
 t0 : H0 s = none
 db : Hb d = some (.dK kvs)
 sb : Hb s = some (.dT st)
 mem : F ∈ fns
 nm : F.name = f.fn
 cpl : ∀ n ∈ F2.nms F, ∃ i, zdc f.kvs (Sum.inr n : Key) = some (.int i) /\ zdc kvs (Sum.inr n : Key) = some (.int i)
 rel : Rel st cn
 lk : kvs.length + f.kvs.length + st.length + cn.kv.length <= 1000 + 4 * f.row
structure Row (K : W.Frag) (H0 : Hp) (F : F2.Fd) (k : Nat) (r : Addr) (rg : RG) : Prop where
 rs : ∃ rw : Rw, F.rs[k]? = some rw /\ rw.r = r
 it : SqT K H0 r rg.items
 at_ : ∀ v ∈ rg.parts, (∃ i, v = .int i) \/ ∃ n, v = .str n /\ n ∈ F2.nms F
 fd : (∀ x a f, rg = .get x a f -> f ≠ ("" : Str)) /\ ∀ a f b, rg = .put a f b -> f ≠ ("" : Str)
 kd : (∃ x, rg = .new x) \/ (∃ x a f, rg = .get x a f) \/ (∃ a f b, rg = .put a f b) \/ ∃ x a, rg = .copy x a
theorem Goes.grow {H0 Hb H H' : Hp} {w : Wr} {f : Fm} {cn : Cn} {fns : List F2.Fd} {F : F2.Fd} {d s : Addr} {kvs : List (Key × V)} {st : List (List Key × V)} (G : Goes K t H0 Hb H w f cn fns F d s kvs st) (e : zal H H') : Goes K t H0 (gr Hb H H') H' w f cn fns F d s kvs st :=
 ⟨G.wa.grow e, G.fl, G.s0.trans (zb5 G.wa.b), G.d0, G.t0, zb5 G.wa.b _ _ G.db, zb5 G.wa.b _ _ G.sb, G.mem, G.nm, G.cpl, G.rel, G.lk⟩
theorem after {H0 Hb B2 H2 H3 : Hp} {w : Wr} {f : Fm} {cn : Cn} {d s : Addr} {o1 o2 p1 p2 : HO} (h2 : WA t B2 H2 w [f] .non [] cn) (g2 : zal Hb B2) (s0 : zal H0 Hb) (d0 : H0 d = none) (t0 : H0 s = none) (dB : B2 d = some p1) (sB : B2 s = some p2) (hS : zal (er2 d s H2) H3) (hd : H3 d = some o1) (hs : H3 s = some o2) :
   ∃ B3, WA t B3 H3 w [f] .non [] cn /\ B3 d = some o1 /\ B3 s = some o2 /\ zal (er2 d s Hb) B3 /\ zal H0 B3 /\ ∀ tp o, H2 tp = none -> H3 tp = some o -> B3 tp = some o := by
 have k : zal (er2 d s Hb) (reb B2 H2 H3) := λ b o hb => by
   have n1 : b ≠ d := λ z => by rw [z, zte] at hb; cases hb
   have n2 : b ≠ s := λ z => by rw [z, zsx] at hb; cases hb
   rw [zf8 n1 n2] at hb
   have e2 := g2 _ _ hb
   exact zhn e2 (hS _ _ (by rw [zf8 n1 n2]; exact h2.b _ _ e2))
 refine ⟨reb B2 H2 H3, h2.reb (λ b o hb hn => hS _ _ ?_), zhn dB hd, zhn sB hs, k, λ b o hb => k _ _ ?_, λ tp o h1 h3 => zqm h1 h3⟩
 . rw [zf8 (λ z => by rw [z, dB] at hn; cases hn) (λ z => by rw [z, sB] at hn; cases hn)]
   exact hb
 . rw [zf8 (λ z => by rw [z, d0] at hb; cases hb) (λ z => by rw [z, t0] at hb; cases hb)]
   exact s0 _ _ hb
theorem znx {κ : Type} [DecidableEq κ] {kvs : List (κ × V)} {k : κ} {v : V} {kv : κ × V} (h : kv ∈ za3 kvs k v) : kv = (k, v) \/ (kv ∈ kvs /\ kv.1 ≠ k) := by
 unfold za3 at h
 split at h
 . obtain ⟨u, hu, e⟩ := List.mem_map.mp h
   by_cases z : u.1 = k
   . rw [if_pos z] at e
     exact .inl (by rw [<- e, z])
   . rw [if_neg z] at e
     subst e
     exact .inr ⟨hu, z⟩
 . rename_i hn
   rcases List.mem_append.mp h with h | h
   . refine .inr ⟨h, λ z => hn ?_⟩
     rw [List.any_eq_true]
     exact ⟨kv, h, decide_eq_true z⟩
   . exact .inl (List.mem_singleton.mp h)
theorem zqi {κ : Type} [DecidableEq κ] {k : κ} {v : V} : ∀ {kvs : List (κ × V)}, zdc kvs k = some v -> (k, v) ∈ kvs := by
 intro kvs h
 unfold zdc at h
 rw [Option.map_eq_some_iff] at h
 obtain ⟨p, hp, rfl⟩ := h
 have h1 := List.mem_of_find?_eq_some hp
 have h2 := List.find?_some hp
 have h3 : p.1 = k := by simpa using h2
 rw [<- h3]
 exact h1
theorem zy3 {κ : Type} [DecidableEq κ] {k : κ} {u : V} {kvs : List (κ × V)} (h : (k, u) ∈ kvs) : ∃ v, zdc kvs k = some v := by
 unfold zdc
 cases e : kvs.find? λ kv => decide (kv.1 = k) with
 | none =>
   have := List.find?_eq_none.mp e (k, u) h
   simp at this
 | some p => exact ⟨p.2, rfl⟩
theorem Shp.put {st : List (List Key × V)} (h : Shp st) (i : Int) (f : Str) (z : Int) : Shp (za3 st (fk i f) (.int z)) := λ kv hkv => by
 rcases znx hkv with rfl | ⟨h1, _⟩
 . exact ⟨i, f, z, rfl, rfl⟩
 . exact h kv h1
theorem z0a (st : List (List Key × V)) (k : List Key) (v : V) : zfk (st.map λ p => if p.1 = k then (p.1, v) else p) = zfk st := by
 unfold zfk
 induction st with
 | nil => rfl
 | cons p r ih =>
   have e : isN (if p.1 = k then (p.1, v) else p) = isN p := by split <;> rfl
   rw [List.map_cons, List.filter_cons, List.filter_cons, e]
   split
   . rw [List.length_cons, List.length_cons, ih]
   . exact ih
theorem zve {st : List (List Key × V)} {i : Int} {f : Str} {v : V} (hf : f ≠ ("" : Str)) : zfk (za3 st (fk i f) v) = zfk st := by
 unfold za3
 split
 . exact z0a st _ v
 . rw [zls, zv0, if_neg (by intro z; exact hf (V.str.inj (of_decide_eq_true z)))]
   rfl
theorem ztr {st : List (List Key × V)} (low : ∀ kv ∈ st, ∀ i, kv.1 = fk i "" -> i <= (zfk st : Int)) : zfk (za3 st (fk (1 + (zfk st : Int)) "") (.int 0)) = zfk st + 1 := by
 unfold za3
 split
 . rename_i h
   rw [List.any_eq_true] at h
   obtain ⟨kv, hkv, e⟩ := h
   have := low kv hkv _ (of_decide_eq_true e)
   omega
 . rw [zls, zv0, if_pos (decide_eq_true rfl)]
theorem zva {i j : Int} {f g : Str} (h : fk i f = fk j g) : i = j /\ f = g := by
 unfold fk at h
 injection h with h1 h2
 injection h2 with h2 _
 exact ⟨Sum.inl.inj h1, Sum.inr.inj h2⟩
theorem Rel.put {st : List (List Key × V)} {cn : Cn} (h : Rel st cn) {i z : Int} {f : Str} (hf : f ≠ ("" : Str)) : Rel (za3 st (fk i f) (.int z)) ⟨za3 cn.kv (fk i f) (.int z), cn.rc⟩ where
 sh := h.sh.put i f z
 fld := λ j g hg => by
   show _ = zdc (za3 cn.kv (fk i f) (.int z)) (fk j g)
   rw [zdn, zdn, h.fld j g hg]
 cnt := by rw [zve hf]; exact h.cnt
 low := λ kv hkv j e => by
   rw [zve hf]
   rcases znx hkv with rfl | ⟨h1, _⟩
   . exact absurd (zva e).2 hf
   . exact h.low kv h1 j e
theorem Rel.new {st : List (List Key × V)} {cn : Cn} (h : Rel st cn) : Rel (za3 st (fk (1 + (zfk st : Int)) "") (.int 0)) ⟨cn.kv, cn.rc + 1⟩ where
 sh := h.sh.put _ _ _
 fld := λ j g hg => by
   rw [zdn, if_neg (λ e => hg (zva e).2)]
   exact h.fld j g hg
 cnt := by
   rw [ztr h.low]
   show cn.rc + 1 = _
   rw [h.cnt]
   rfl
 low := λ kv hkv j e => by
   rw [ztr h.low]
   rcases znx hkv with rfl | ⟨h1, _⟩
   . have := (zva e).1
     omega
   . have := h.low kv h1 j e
     omega
theorem Rel.val {st : List (List Key × V)} {cn : Cn} (h : Rel st cn) (i : Int) {f : Str} (hf : f ≠ ("" : Str)) : ∃ z, zws cn i f = .int z /\ (zdc st (fk i f)).getD (.int 0) = .int z := by
 unfold zws
 rw [h.fld i f hf]
 cases e : zdc cn.kv (fk i f) with
 | none => exact ⟨0, rfl, rfl⟩
 | some v =>
   rw [<- h.fld i f hf] at e
   obtain ⟨_, _, z, _, e2⟩ := h.sh _ (zqi e)
   have e2 : v = .int z := e2
   exact ⟨z, by rw [e2]; rfl, by rw [e2]; rfl⟩
theorem zg4 {F : F2.Fd} {f : Fm} {kvs : List (Key × V)} {a : V} (c : ∀ n ∈ F2.nms F, ∃ i, zdc f.kvs (Sum.inr n : Key) = some (.int i) /\ zdc kvs (Sum.inr n : Key) = some (.int i)) (h : (∃ i, a = .int i) \/ ∃ n, a = .str n /\ n ∈ F2.nms F) : ∃ i, av f.kvs a = some (.int i) /\ av kvs a = some (.int i) := by
 rcases h with ⟨i, rfl⟩ | ⟨n, rfl, hn⟩
 . exact ⟨i, rfl, rfl⟩
 . exact c n hn
theorem zq8 {F : F2.Fd} {f : Fm} {kvs : List (Key × V)} (x : Str) (z : Int) (c : ∀ n ∈ F2.nms F, ∃ i, zdc f.kvs (Sum.inr n : Key) = some (.int i) /\ zdc kvs (Sum.inr n : Key) = some (.int i)) : ∀ n ∈ F2.nms F, ∃ i, zdc (za3 f.kvs (Sum.inr x : Key) (.int z)) (Sum.inr n : Key) = some (.int i) /\ zdc (za3 kvs (Sum.inr x : Key) (.int z)) (Sum.inr n : Key) = some (.int i) := λ n hn => by
 rw [zdn, zdn]
 by_cases e : (Sum.inr n : Key) = Sum.inr x
 . rw [if_pos e, if_pos e]; exact ⟨z, rfl, rfl⟩
 . rw [if_neg e, if_neg e]; exact c n hn
theorem zpn {K : W.Frag} {H0 : Hp} {F : F2.Fd} {k : Nat} {r : Addr} {rg : RG} {f : Fm} {cn : Cn} {kvs : List (Key × V)} {st : List (List Key × V)} (h : Row K H0 F k r rg) (c : ∀ n ∈ F2.nms F, ∃ i, zdc f.kvs (Sum.inr n : Key) = some (.int i) /\ zdc kvs (Sum.inr n : Key) = some (.int i)) (R : Rel st cn) : Fld cn kvs st rg := by
 rcases h.kd with ⟨x, rfl⟩ | ⟨x, a, fd, rfl⟩ | ⟨a, fd, b, rfl⟩ | ⟨x, a, rfl⟩
 . trivial
 . obtain ⟨i, _, h2⟩ := zg4 c (h.at_ a (by simp [RG.parts, RG.as, RG.gx]))
   obtain ⟨z, e1, e2⟩ := R.val i (h.fd.1 _ _ _ rfl)
   exact ⟨i, z, h2, e1, e2⟩
 . obtain ⟨i, _, h2⟩ := zg4 c (h.at_ a (by simp [RG.parts, RG.as, RG.gx]))
   obtain ⟨z, e1, e2⟩ := R.val i (h.fd.2 _ _ _ rfl)
   exact ⟨i, z, h2, e1, e2⟩
 . trivial
def zpb (K : W.Frag) (t : Adr) : Sp := λ vs H Q _ => ∃ (H0 Hb : Hp) (w : Wr) (f : Fm) (cn : Cn) (fns : List F2.Fd) (F : F2.Fd) (u d s r : Addr) (us : List Str) (kvs : List (Key × V)) (st : List (List Key × V)) (rg : RG), vs = [.ref w.a, .ref r, .ref u, .ref d, .ref s] /\ Goes K t H0 Hb H w f cn fns F d s kvs st /\ Row K H0 F f.row r rg /\ Way F f.row 0 (f.row + 1) /\ f.row <= 1000 /\ SqL K H0 u (us.map V.str) /\ (∀ n ∈ us, n ∈ F2.nms F) /\
 ∀ Hb' H' f' cn' kvs' st', zal (er2 d s Hb) Hb' -> Goes K t H0 Hb' H' w f' cn' fns F d s kvs' st' -> f'.row = f.row + 1 -> Q (.bl true) H'
def zvd (K : W.Frag) : Sp := λ vs H Q _ => ∃ (pa ra : Addr) (ps : List Str) (rs : List Addr) (rgs : List RG), vs = [.ref pa, .ref ra] /\ SqL K H pa (ps.map V.str) /\ SqL K H ra (rs.map V.ref) /\ rs.length = rgs.length /\ (∀ (i : Nat) r rg, rs[i]? = some r -> rgs[i]? = some rg -> SqT K H r rg.items /\ (∀ v ∈ rg.parts, AtV v) /\ ((∃ x, rg = .new x) \/ (∃ x a f, rg = .get x a f) \/ (∃ a f b, rg = .put a f b) \/ (∃ x a, rg = .copy x a) \/ ∃ a, rg = .back a)) /\ rs.length <= 100 /\ ps.length <= 100 /\
 ∀ l H' (us : List Str), H l = none -> zal H H' -> H' l = some (.lst (us.map V.str)) -> (∀ n ∈ us, n ∈ ps \/ n ∈ zqj rgs) -> Q (.ref l) H'
def zqy (K : W.Frag) (t : Adr) : Sp := λ vs H Q _ => ∃ (H0 Hb : Hp) (w : Wr) (f : Fm) (cn : Cn) (fns : List F2.Fd) (F : F2.Fd) (d s fl : Addr) (kvs : List (Key × V)) (st : List (List Key × V)) (rw : Rw) (a : V) (fds : List Str), vs = [.ref w.a, .ref d, .ref s, a, .ref fl] /\ Goes K t H0 Hb H w f cn fns F d s kvs st /\ F.rs[f.row]? = some rw /\ SqT K H0 rw.r (RG.items (.back a)) /\ f.row <= 1000 /\ ((∃ i, a = .int i) \/ ∃ n, a = .str n /\ n ∈ F2.nms F) /\ SqL K H0 fl (fds.map V.str) /\ fds.length = 3 /\ (∀ n ∈ fds, n ≠ ("" : Str)) /\
 ∀ Hb' H' v, zal Hb Hb' -> WA t Hb' H' w [] v [] cn -> Q (.bl true) H'
def sp_law (K : W.Frag) : Sp := λ vs H Q _ => ∃ (a : Addr) (ns : List Int), vs = [.ref a] /\ SqL K H a (ns.map V.int) /\ ns.length <= 63 /\ ∀ H', Q (.bl true) H'
structure Nest (K : W.Frag) (t : Adr) (H0 Hx HT H : Hp) (fns : List F2.Fd) (F : F2.Fd) (w : Wr) (f : Fm) (cn : Cn) (d s : Addr) (kv : List (Key × V)) (st : List (List Key × V)) (w2 : Wr) (f2 : Fm) (cn2 : Cn) (d2 s2 : Addr) (kv2 : List (Key × V)) (st2 : List (List Key × V)) : Prop where
 top : Goes K t H0 HT H w f cn fns F d s kv st
 und : Goes K t H0 Hx HT w2 f2 cn2 fns F d2 s2 kv2 st2
 dx : Hx d = some (.dK kv)
 sx : Hx s = some (.dT st)
 nd : d2 ≠ d
 ns : s2 ≠ s
section
variable {H0 Hx HT H : Hp} {fns : List F2.Fd} {F : F2.Fd} {w w2 : Wr} {f f2 : Fm} {cn cn2 : Cn} {d s d2 s2 : Addr} {kv kv2 : List (Key × V)} {st st2 : List (List Key × V)}
theorem Nest.step (N : Nest K t H0 Hx HT H fns F w f cn d s kv st w2 f2 cn2 d2 s2 kv2 st2) {HT' H' : Hp} {f' : Fm} {cn' : Cn} {kv' : List (Key × V)} {st' : List (List Key × V)} (hS : zal (er2 d s HT) HT') (G : Goes K t H0 HT' H' w f' cn' fns F d s kv' st') : Nest K t H0 (reb Hx HT HT') HT' H' fns F w f' cn' d s kv' st' w2 f2 cn2 d2 s2 kv2 st2 := by
 have kp : ∀ b o, HT b = some o -> b ≠ d -> b ≠ s -> HT' b = some o := λ b o hb h1 h2 => hS _ _ (by rw [zf8 h1 h2]; exact hb)
 have dd : d2 ≠ s := λ z => by have := N.und.db; rw [z, N.sx] at this; cases this
 have ds : s2 ≠ d := λ z => by have := N.und.sb; rw [z, N.dx] at this; cases this
 refine ⟨G, ⟨N.und.wa.reb (λ b o hb hn => kp b o hb (λ z => by rw [z, N.dx] at hn; cases hn) (λ z => by rw [z, N.sx] at hn; cases hn)), N.und.fl, λ b o hb => ?_, N.und.d0, N.und.t0, zhn N.und.db (kp _ _ (N.und.wa.b _ _ N.und.db) N.nd dd), zhn N.und.sb (kp _ _ (N.und.wa.b _ _ N.und.sb) ds N.ns), N.und.mem, N.und.nm, N.und.cpl, N.und.rel, N.und.lk⟩, zhn N.dx G.db, zhn N.sx G.sb, N.nd, N.ns⟩
 have hx := N.und.s0 _ _ hb
 exact zhn hx (kp _ _ (N.und.wa.b _ _ hx) (λ z => by rw [z, N.top.d0] at hb; cases hb) (λ z => by rw [z, N.top.t0] at hb; cases hb))
theorem Nest.swap (N : Nest K t H0 Hx HT H fns F w f cn d s kv st w2 f2 cn2 d2 s2 kv2 st2) : Nest K t H0 Hx (reb Hx HT H) H fns F w2 f2 cn2 d2 s2 kv2 st2 w f cn d s kv st := by
 have sx : zal Hx (reb Hx HT H) := λ b o hb => zhn hb (N.top.wa.b _ _ (N.und.wa.b _ _ hb))
 refine ⟨⟨N.und.wa.reb (λ b o hb _ => N.top.wa.b _ _ hb), N.und.fl, N.und.s0.trans sx, N.und.d0, N.und.t0, sx _ _ N.und.db, sx _ _ N.und.sb, N.und.mem, N.und.nm, N.und.cpl, N.und.rel, N.und.lk⟩, ⟨N.top.wa.under N.und.wa.b sx (λ b o hb hn => zqm hn hb), N.top.fl, N.und.s0, N.top.d0, N.top.t0, N.dx, N.sx, N.top.mem, N.top.nm, N.top.cpl, N.top.rel, N.top.lk⟩, N.und.db, N.und.sb, N.nd.symm, N.ns.symm⟩
theorem Nest.rest (N : Nest K t H0 Hx HT H fns F w f cn d s kv st w2 f2 cn2 d2 s2 kv2 st2) {H' : Hp} (hS : zal HT H') : Goes K t H0 (reb Hx HT H') H' w2 f2 cn2 fns F d2 s2 kv2 st2 := by
 have sx : zal Hx (reb Hx HT H') := λ b o hb => zhn hb (hS _ _ (N.und.wa.b _ _ hb))
 exact ⟨N.und.wa.reb (λ b o hb _ => hS _ _ hb), N.und.fl, N.und.s0.trans sx, N.und.d0, N.und.t0, sx _ _ N.und.db, sx _ _ N.und.sb, N.und.mem, N.und.nm, N.und.cpl, N.und.rel, N.und.lk⟩
theorem Nest.grow (N : Nest K t H0 Hx HT H fns F w f cn d s kv st w2 f2 cn2 d2 s2 kv2 st2) {H' : Hp} (e : zal H H') : Nest K t H0 (reb Hx HT (gr HT H H')) (gr HT H H') H' fns F w f cn d s kv st w2 f2 cn2 d2 s2 kv2 st2 := N.step (zgb.trans (zb5 N.top.wa.b)) (N.top.grow e)
theorem Nest.ground (N : Nest K t H0 Hx HT H fns F w f cn d s kv st w2 f2 cn2 d2 s2 kv2 st2) : Nest K t (er2 d s (er2 d2 s2 Hx)) Hx HT H fns F w f cn d s kv st w2 f2 cn2 d2 s2 kv2 st2 := by
 have sb : zal (er2 d s (er2 d2 s2 Hx)) Hx := zgb.trans zgb
 have ks : zal H0 (er2 d s (er2 d2 s2 Hx)) := λ b o hb => by
   rw [zf8 (λ z => by rw [z, N.top.d0] at hb; cases hb) (λ z => by rw [z, N.top.t0] at hb; cases hb), zf8 (λ z => by rw [z, N.und.d0] at hb; cases hb) (λ z => by rw [z, N.und.t0] at hb; cases hb)]
   exact N.und.s0 _ _ hb
 have no : ∀ b, er2 d2 s2 Hx b = none -> er2 d s (er2 d2 s2 Hx) b = none := λ b hb => by
   cases e : er2 d s (er2 d2 s2 Hx) b with
   | none => rfl
   | some o => rw [zgb _ _ e] at hb; cases hb
 exact ⟨⟨N.top.wa, N.top.fl.mono ks, sb.trans N.und.wa.b, zte _ _ _, zsx _ _ _, N.top.db, N.top.sb, N.top.mem, N.top.nm, N.top.cpl, N.top.rel, N.top.lk⟩, ⟨N.und.wa, N.und.fl.mono ks, sb, no _ (zte _ _ _), no _ (zsx _ _ _), N.und.db, N.und.sb, N.und.mem, N.und.nm, N.und.cpl, N.und.rel, N.und.lk⟩, N.dx, N.sx, N.nd, N.ns⟩
end
structure Made (K : W.Frag) (G : Hp) (nl fl rl pr : Addr) (n0 n1 n2 n3 n4 n5 n6 n7 : Str) (rs : List Addr) (rgs : List RG) (last : V) (bk fa qC tr : Addr) : Prop where
 nok : NmsOk [n0, n1, n2, n3, n4, n5, n6, n7]
 en : G nl = some (.lst ([n0, n1, n2, n3, n4, n5, n6, n7].map V.str))
 ef : G fl = some (.lst ([n0, n5, n6].map V.str))
 er : G rl = some (.lst (rs.map V.ref))
 lr : rs.length = rgs.length
 l63 : rgs.length <= 63
 it : ∀ (i : Nat) r rg, rs[i]? = some r -> rgs[i]? = some rg -> G r = some (.tup (RG.items rg))
 ok : ∀ rg ∈ rgs, zy7 [n0, n1, n2, n3, n4] [n0, n5, n6] rg
 la : zju [n0, n1, n2, n3, n4] last
 fbk : G bk = some (.tup (RG.items (.back last)))
 eg : G pr = some (.lst [V.ref fa])
 ffa : G fa = some (.tup [.str n7, .bl false, .ref qC, .ref tr])
 fqC : G qC = some (.tup ([n0, n1].map V.str))
 ftr : G tr = some (.tup ((rs ++ [bk]).map V.ref))
theorem Made.mono {G G' : Hp} {nl fl rl pr : Addr} {n0 n1 n2 n3 n4 n5 n6 n7 : Str} {rs : List Addr} {rgs : List RG} {last : V} {bk fa qC tr : Addr} (M : Made K G nl fl rl pr n0 n1 n2 n3 n4 n5 n6 n7 rs rgs last bk fa qC tr) (e : zal G G') : Made K G' nl fl rl pr n0 n1 n2 n3 n4 n5 n6 n7 rs rgs last bk fa qC tr :=
 ⟨M.nok, e _ _ M.en, e _ _ M.ef, e _ _ M.er, M.lr, M.l63, λ i r rg h1 h2 => e _ _ (M.it i r rg h1 h2), M.ok, M.la, e _ _ M.fbk, e _ _ M.eg, e _ _ M.ffa, e _ _ M.fqC, e _ _ M.ftr⟩
theorem z3j {ns fs : List Str} {rg : RG} (h : zy7 ns fs rg) (hn : ∀ s ∈ ns, K12.Nm s) (hf : ∀ s ∈ fs, K12.Nm s) : rg.Ok /\ Pl rg := by
 have no : ∀ {p : Prop}, False -> p := λ h => h.elim
 cases rg with
 | new x => exact ⟨⟨(λ v hv => by simp [RG.parts, RG.gx, RG.as] at hv; rw [hv]; exact .inl ⟨x, rfl, hn x h⟩), (λ _ _ _ _ z => by cases z), ⟨(λ _ _ _ z => by cases z), (λ _ _ _ z => by cases z)⟩, (λ _ _ _ _ z => by cases z)⟩, (λ a z => by cases z), (λ a z => by cases z)⟩
 | get x a f =>
   refine ⟨⟨λ v hv => ?_, (λ _ _ _ _ z => by cases z), ⟨(λ _ _ _ z => by cases z; exact (hf f h.2.2).2), (λ _ _ _ z => by cases z)⟩, (λ _ _ _ _ z => by cases z)⟩, (λ a z => by cases z), (λ a z => by cases z)⟩
   simp [RG.parts, RG.gx, RG.as] at hv
   rcases hv with rfl | rfl
   . exact .inl ⟨x, rfl, hn x h.1⟩
   . exact zll h.2.1 hn
 | put a f b =>
   refine ⟨⟨λ v hv => ?_, (λ _ _ _ _ z => by cases z), ⟨(λ _ _ _ z => by cases z), (λ _ _ _ z => by cases z; exact (hf f h.2.1).2)⟩, (λ _ _ _ _ z => by cases z)⟩, (λ a z => by cases z), (λ a z => by cases z)⟩
   simp [RG.parts, RG.gx, RG.as] at hv
   rcases hv with rfl | rfl
   . exact zll h.1 hn
   . exact zll h.2.2 hn
 | copy x a =>
   refine ⟨⟨λ v hv => ?_, (λ _ _ _ _ z => by cases z), ⟨(λ _ _ _ z => by cases z), (λ _ _ _ z => by cases z)⟩, (λ _ _ _ _ z => by cases z)⟩, (λ a z => by cases z), (λ a z => by cases z)⟩
   simp [RG.parts, RG.gx, RG.as] at hv
   rcases hv with rfl | rfl
   . exact .inl ⟨x, rfl, hn x h.1⟩
   . exact zll h.2 hn
 | out a => exact no h
 | op x s a b => exact no h
 | back a => exact no h
 | call x g p as => exact no h
 | ifs a => exact no h
 | whl a => exact no h
theorem zyt {ns : List Str} {a : V} (h : zju ns a) (hn : ∀ s ∈ ns, K12.Nm s) : (RG.back a).Ok /\ Pl (RG.back a) :=
 ⟨⟨(λ v hv => by simp [RG.parts, RG.gx, RG.as] at hv; rw [hv]; exact zll h hn), (λ _ _ _ _ z => by cases z), ⟨(λ _ _ _ z => by cases z), (λ _ _ _ z => by cases z)⟩, (λ _ _ _ _ z => by cases z)⟩, (λ a z => by cases z), (λ a z => by cases z)⟩
theorem z0p {ns fs : List Str} {rg : RG} (h : zy7 ns fs rg) : (∃ x, rg = .new x) \/ (∃ x a f, rg = .get x a f) \/ (∃ a f b, rg = .put a f b) \/ ∃ x a, rg = .copy x a := by
 cases rg with
 | new x => exact .inl ⟨x, rfl⟩
 | get x a f => exact .inr (.inl ⟨x, a, f, rfl⟩)
 | put a f b => exact .inr (.inr (.inl ⟨a, f, b, rfl⟩))
 | copy x a => exact .inr (.inr (.inr ⟨x, a, rfl⟩))
 | out a => exact h.elim
 | op x s a b => exact h.elim
 | back a => exact h.elim
 | call x g p as => exact h.elim
 | ifs a => exact h.elim
 | whl a => exact h.elim
theorem z1o {ns : List Str} (h : NmsOk ns) {n : Str} (hn : n ∈ ns) : n ≠ ("" : Str) := λ z => by
 obtain ⟨cs, e, _, h0, _⟩ := h.ok n hn
 rw [z] at e
 have := congrArg Str.length e
 rw [zit] at this
 have h1 : ("" : Str).length = 0 := by decide +kernel
 omega
theorem mem5 {s n0 n1 n2 n3 n4 n5 n6 n7 : Str} (h : s ∈ [n0, n1, n2, n3, n4]) : s ∈ [n0, n1, n2, n3, n4, n5, n6, n7] := List.mem_append_left [n5, n6, n7] h
theorem z2q {s n0 n1 n2 n3 n4 n5 n6 n7 : Str} (h : s ∈ [n0, n5, n6]) : s ∈ [n0, n1, n2, n3, n4, n5, n6, n7] := by
 simp only [List.mem_cons, List.not_mem_nil, or_false] at h
 rcases h with rfl | rfl | rfl <;> simp
theorem mem2 {s n0 n1 n2 n3 n4 : Str} (h : s ∈ [n0, n1]) : s ∈ [n0, n1, n2, n3, n4] := List.mem_append_left [n2, n3, n4] h
section
variable {G : Hp} {nl fl rl pr : Addr} {n0 n1 n2 n3 n4 n5 n6 n7 : Str} {rs : List Addr} {rgs : List RG} {last : V} {bk fa qC tr : Addr}
def zf4 (n0 n1 n7 : Str) (fa qC tr bk : Addr) (rs : List Addr) (rgs : List RG) (last : V) : F2.Fd := gfn n7 (.bl false) fa qC tr [n0, n1] (rs ++ [bk]) (rgs ++ [RG.back last])
theorem Made.all (M : Made K G nl fl rl pr n0 n1 n2 n3 n4 n5 n6 n7 rs rgs last bk fa qC tr) : (rs ++ [bk]).length = (rgs ++ [RG.back last]).length /\ ∀ (i : Nat) r rg, (rs ++ [bk])[i]? = some r -> (rgs ++ [RG.back last])[i]? = some rg -> RGAt K G r rg /\ rg.Ok /\ Pl rg := by
 have nN := zn4 M.nok
 have h5 : ∀ s ∈ [n0, n1, n2, n3, n4], K12.Nm s := λ s hs => nN s (mem5 hs)
 have hF : ∀ s ∈ [n0, n5, n6], K12.Nm s := λ s hs => nN s (z2q hs)
 refine ⟨by rw [List.length_append, List.length_append, M.lr]; rfl, λ i r rg h1 h2 => ?_⟩
 by_cases hi : i < rs.length
 . rw [List.getElem?_append_left hi] at h1
   rw [List.getElem?_append_left (by have := M.lr; omega)] at h2
   have ok := M.ok rg (List.mem_of_getElem? h2)
   refine ⟨⟨SqT.of (M.it i r rg h1 h2), λ x g p as z => ?_⟩, z3j ok h5 hF⟩
   rw [z] at ok
   exact ok.elim
 . have hi2 : i = rs.length := by
     have := (List.getElem?_eq_some_iff.mp h1).1
     rw [List.length_append] at this
     have : i < rs.length + 1 := this
     omega
   rw [hi2, List.getElem?_append_right (Nat.le_refl _), Nat.sub_self] at h1
   rw [hi2, M.lr, List.getElem?_append_right (Nat.le_refl _), Nat.sub_self] at h2
   cases h1
   cases h2
   exact ⟨⟨SqT.of M.fbk, λ x g p as z => by cases z⟩, zyt M.la h5⟩
theorem Made.pl (M : Made K G nl fl rl pr n0 n1 n2 n3 n4 n5 n6 n7 rs rgs last bk fa qC tr) : ∀ (k : Nat) rg, (rgs ++ [RG.back last])[k]? = some rg -> rg.Ok /\ Pl rg := λ k rg h => by
 obtain ⟨hl, ha⟩ := M.all
 have hk : k < (rs ++ [bk]).length := by rw [hl]; exact (List.getElem?_eq_some_iff.mp h).1
 exact (ha k _ rg (List.getElem?_eq_getElem hk) h).2
theorem Made.fn (M : Made K G nl fl rl pr n0 n1 n2 n3 n4 n5 n6 n7 rs rgs last bk fa qC tr) : F2.FnAt K G (zf4 n0 n1 n7 fa qC tr bk rs rgs last) := by
 obtain ⟨hl, ha⟩ := M.all
 have nN := zn4 M.nok
 refine z1z hl (SqT.of M.ffa) (SqT.of M.ftr) (λ i r rg h1 h2 => ⟨(ha i r rg h1 h2).1, (ha i r rg h1 h2).2.1⟩) (SqT.of M.fqC) (λ s hs => nN s (mem5 (mem2 hs))) (by show 2 <= 100; decide) (by rw [List.length_append]; have := M.l63; show rgs.length + 1 <= 100; omega) (gwf last λ rg hrg => ?_)
 obtain ⟨k, hk⟩ := List.getElem?_of_mem hrg
 exact (M.pl k rg (by rw [List.getElem?_append_left (List.getElem?_eq_some_iff.mp hk).1]; exact hk)).2
theorem Made.nms (M : Made K G nl fl rl pr n0 n1 n2 n3 n4 n5 n6 n7 rs rgs last bk fa qC tr) (x : Str) : x ∈ F2.nms (zf4 n0 n1 n7 fa qC tr bk rs rgs last) <-> x ∈ [n0, n1] \/ x ∈ zqj (rgs ++ [RG.back last]) := zza M.all.1
theorem Made.nlen (M : Made K G nl fl rl pr n0 n1 n2 n3 n4 n5 n6 n7 rs rgs last bk fa qC tr) : (F2.nms (zf4 n0 n1 n7 fa qC tr bk rs rgs last)).length <= 800 := by
 refine Nat.le_trans (zww M.all.1 λ rg hrg => ?_) ?_
 . obtain ⟨k, hk⟩ := List.getElem?_of_mem hrg
   exact (M.pl k rg hk).1
 . rw [List.length_append]
   have := M.l63
   show 2 + 11 * (rgs.length + 1) <= 800
   omega
theorem Made.way (M : Made K G nl fl rl pr n0 n1 n2 n3 n4 n5 n6 n7 rs rgs last bk fa qC tr) {k : Nat} (hk : k < rgs.length) : Way (zf4 n0 n1 n7 fa qC tr bk rs rgs last) k 0 (k + 1) := by
 have hr : (rgs ++ [RG.back last])[k]? = some rgs[k] := by rw [List.getElem?_append_left hk]; exact List.getElem?_eq_getElem hk
 refine zy4 M.all.1 (by rw [List.length_append]; show k + 1 < rgs.length + 1; omega) hr (λ a z => ?_) (M.pl k _ hr).2 (λ r h => (M.pl _ r h).2)
 have := M.ok _ (List.getElem_mem hk)
 rw [z] at this
 exact this
theorem Made.row (M : Made K G nl fl rl pr n0 n1 n2 n3 n4 n5 n6 n7 rs rgs last bk fa qC tr) {k : Nat} {r : Addr} {rg : RG} (h1 : rs[k]? = some r) (h2 : rgs[k]? = some rg) : Row K G (zf4 n0 n1 n7 fa qC tr bk rs rgs last) k r rg := by
 have hk := (List.getElem?_eq_some_iff.mp h2).1
 have hk1 := (List.getElem?_eq_some_iff.mp h1).1
 have hr : (rgs ++ [RG.back last])[k]? = some rg := by rw [List.getElem?_append_left hk]; exact h2
 have ok := M.ok rg (List.mem_of_getElem? h2)
 obtain ⟨rw_, e1, e2⟩ := zvz (nk := n7) (fo := .bl false) (fa := fa) (qC := qC) (tr := tr) (ps := [n0, n1]) M.all.1 hr
 rw [List.getElem?_append_left hk1, h1] at e2
 have nf : ∀ f ∈ [n0, n5, n6], f ≠ ("" : Str) := λ f hf => z1o M.nok (z2q hf)
 refine ⟨⟨rw_, e1, (Option.some.inj e2).symm⟩, SqT.of (M.it k r rg h1 h2), λ v hv => ?_, ⟨λ x a f z => ?_, λ a f b z => ?_⟩, z0p ok⟩
 . rcases (M.pl k rg hr).1.at_ v hv with ⟨s, rfl, _⟩ | ⟨i, rfl⟩
   . refine .inr ⟨s, rfl, (M.nms s).mpr (.inr ?_)⟩
     unfold zqj
     rw [List.mem_flatMap]
     exact ⟨rg, List.mem_of_getElem? hr, zua.mpr hv⟩
   . exact .inl ⟨i, rfl⟩
 . rw [z] at ok; exact nf f ok.2.2
 . rw [z] at ok; exact nf f ok.2.1
theorem Made.lastRow (M : Made K G nl fl rl pr n0 n1 n2 n3 n4 n5 n6 n7 rs rgs last bk fa qC tr) : (∃ rw_ : Rw, (zf4 n0 n1 n7 fa qC tr bk rs rgs last).rs[rgs.length]? = some rw_ /\ SqT K G rw_.r (RG.items (.back last))) /\ ((∃ i, last = .int i) \/ ∃ n, last = .str n /\ n ∈ F2.nms (zf4 n0 n1 n7 fa qC tr bk rs rgs last)) := by
 have hr : (rgs ++ [RG.back last])[rgs.length]? = some (RG.back last) := by rw [List.getElem?_append_right (Nat.le_refl _), Nat.sub_self]; rfl
 obtain ⟨rw_, e1, e2⟩ := zvz (nk := n7) (fo := .bl false) (fa := fa) (qC := qC) (tr := tr) (ps := [n0, n1]) M.all.1 hr
 rw [<- M.lr, List.getElem?_append_right (Nat.le_refl _), Nat.sub_self] at e2
 have e2 : bk = rw_.r := Option.some.inj e2
 refine ⟨⟨rw_, e1, by rw [<- e2]; exact SqT.of M.fbk⟩, ?_⟩
 rcases M.la with ⟨i, e, _⟩ | ⟨s, e, _⟩
 . exact .inl ⟨i, e⟩
 . refine .inr ⟨s, e, (M.nms s).mpr (.inr ?_)⟩
   unfold zqj
   rw [List.mem_flatMap]
   exact ⟨_, List.mem_of_getElem? hr, zua.mpr (by rw [e]; simp [RG.parts, RG.as, RG.gx])⟩
theorem Made.sub (M : Made K G nl fl rl pr n0 n1 n2 n3 n4 n5 n6 n7 rs rgs last bk fa qC tr) {x : Str} (h : x ∈ F2.nms (zf4 n0 n1 n7 fa qC tr bk rs rgs last)) : x ∈ [n0, n1, n2, n3, n4] := by
 rcases (M.nms x).mp h with h | h
 . exact mem2 h
 . unfold zqj at h
   rw [List.mem_flatMap] at h
   obtain ⟨rg, hrg, hx⟩ := h
   have hx := zua.mp hx
   have at_ : ∀ {v : V}, zju [n0, n1, n2, n3, n4] v -> v = .str x -> x ∈ [n0, n1, n2, n3, n4] := λ h e => by
     rcases h with ⟨i, e2, _⟩ | ⟨s, e2, hs⟩
     . rw [e2] at e; cases e
     . rw [e2] at e; cases e; exact hs
   rcases List.mem_append.mp hrg with hrg | hrg
   . have ok := M.ok rg hrg
     cases rg with
     | new y => simp [RG.parts, RG.gx, RG.as] at hx; rw [hx]; exact ok
     | get y a f =>
       simp [RG.parts, RG.gx, RG.as] at hx
       rcases hx with rfl | hx
       . exact ok.1
       . exact at_ ok.2.1 hx.symm
     | put a f b =>
       simp [RG.parts, RG.gx, RG.as] at hx
       rcases hx with hx | hx
       . exact at_ ok.1 hx.symm
       . exact at_ ok.2.2 hx.symm
     | copy y a =>
       simp [RG.parts, RG.gx, RG.as] at hx
       rcases hx with rfl | hx
       . exact ok.1
       . exact at_ ok.2 hx.symm
     | out a => exact ok.elim
     | op x s a b => exact ok.elim
     | back a => exact ok.elim
     | call x g p as => exact ok.elim
     | ifs a => exact ok.elim
     | whl a => exact ok.elim
   . rw [List.mem_singleton.mp hrg] at hx
     simp [RG.parts, RG.gx, RG.as] at hx
     exact at_ M.la hx.symm
end
def zqp (n0 n1 n2 n3 n4 : Str) (a b : Int) : List (Key × V) := za3 (za3 (za3 (za3 (za3 [] (Sum.inr n0 : Key) (.int a)) (Sum.inr n1 : Key) (.int b)) (Sum.inr n2 : Key) (.int 0)) (Sum.inr n3 : Key) (.int 0)) (Sum.inr n4 : Key) (.int 0)
theorem zq1 {F : F2.Fd} {f : Fm} {n0 n1 n2 n3 n4 : Str} {a b : Int} (nd : [n0, n1, n2, n3, n4].Nodup) (hp : F.ps = [n0, n1]) (hf : f.kvs = zk6 F [.int a, .int b]) (hs : ∀ x ∈ F2.nms F, x ∈ [n0, n1, n2, n3, n4]) : ∀ n ∈ F2.nms F, ∃ i, zdc f.kvs (Sum.inr n : Key) = some (.int i) /\ zdc (zqp n0 n1 n2 n3 n4 a b) (Sum.inr n : Key) = some (.int i) := λ n hn => by
 have hb : zdc (((F2.nms F).map λ n => ((Sum.inr n : Key), V.int 0)).foldl (λ acc kv => za3 acc kv.1 kv.2) []) (Sum.inr n : Key) = some (.int 0) := zre _ _ (.inl hn)
 have e : f.kvs = za3 (za3 (((F2.nms F).map λ n => ((Sum.inr n : Key), V.int 0)).foldl (λ acc kv => za3 acc kv.1 kv.2) []) (Sum.inr n0 : Key) (.int a)) (Sum.inr n1 : Key) (.int b) := by
   rw [hf]
   unfold zk6
   rw [hp]
   rfl
 have inj : ∀ {x y : Str}, (Sum.inr x : Key) = Sum.inr y <-> x = y := λ {x y} => ⟨λ h => Sum.inr.inj h, λ h => by rw [h]⟩
 have hm := hs n hn
 simp only [List.nodup_cons, List.mem_cons, List.not_mem_nil, or_false, not_or] at nd
 obtain ⟨⟨a1, a2, a3, a4⟩, ⟨b2, b3, b4⟩, ⟨c3, c4⟩, d4, _⟩ := nd
 rw [e]
 unfold zqp
 simp only [zdn, hb, inj]
 simp only [List.mem_cons, List.not_mem_nil, or_false] at hm
 rcases hm with rfl | rfl | rfl | rfl | rfl
 . refine ⟨a, ?_, ?_⟩ <;> simp [*, Ne.symm a1, Ne.symm a2, Ne.symm a3, Ne.symm a4]
 . refine ⟨b, ?_, ?_⟩ <;> simp [*, Ne.symm b2, Ne.symm b3, Ne.symm b4]
 . refine ⟨0, ?_, ?_⟩ <;> simp [*, Ne.symm a2, Ne.symm b2]
 . refine ⟨0, ?_, ?_⟩ <;> simp [*, Ne.symm a3, Ne.symm b3]
 . refine ⟨0, ?_, ?_⟩ <;> simp [*, Ne.symm a4, Ne.symm b4]
theorem zsf {H : Hp} {ns fs : List Str} : ∀ {vs : List V}, (∀ (i : Nat) v, vs[i]? = some v -> ∃ tp rg, v = .ref tp /\ H tp = some (.tup (RG.items rg)) /\ zy7 ns fs rg) -> ∃ (rs : List Addr) (rgs : List RG), vs = rs.map V.ref /\ rs.length = rgs.length /\ (∀ rg ∈ rgs, zy7 ns fs rg) /\ ∀ (i : Nat) r rg, rs[i]? = some r -> rgs[i]? = some rg -> H r = some (.tup (RG.items rg))
 | [], _ => ⟨[], [], rfl, rfl, (λ rv h => by cases h), (λ i r rv h => by cases h)⟩
 | v :: vs, h => by
   obtain ⟨tp, rg, rfl, h1, h2⟩ := h 0 v rfl
   obtain ⟨rs, rgs, rfl, e, h3, h4⟩ := zsf (vs := vs) λ i u hu => h (i + 1) u (by simpa using hu)
   refine ⟨tp :: rs, rg :: rgs, rfl, by simp [e], λ y hy => ?_, λ i r y hr hy => ?_⟩
   . rcases List.mem_cons.mp hy with rfl | hy
     . exact h2
     . exact h3 y hy
   . cases i with
     | zero => cases hr; cases hy; exact h1
     | succ i => exact h4 i r y (by simpa using hr) (by simpa using hy)
def Fo (n : Nat) (H : Hp) (x b : Addr) : HO -> Prop
 | .tup _ => True
 | .frz _ (.tup _) => True
 | .ins _ _ fs => b = x /\ ∃ v r, fs = (("last" : Str), v) :: r
 | .dK kv => kv.length = n
 | .lst xs => xs ≠ [] /\ ∀ v ∈ xs, (∃ s, v = .str s) \/ v = .non \/ ∃ p ns, v = .ref p /\ H p = some (.tup (K13.natsV ns))
 | _ => False
theorem zlg {C x : Addr} {H H' : Hp} {fns : List F2.Fd} (h : F2.FlowsAt K C H x fns) (hn : ∀ f ∈ fns, F2.nms f ≠ []) (k : ∀ b o, H b = some o -> Fo fns.length H x b o -> H' b = some o) : F2.FlowsAt K C H' x fns := by
 obtain ⟨dx, fz, d, kv, nl, wl, h0, h1, h2, h3, h4, h5, h6, h7, h8⟩ := h.ob
 have ts : K55.TS H H' := λ b xs q => by
   rcases q with q | ⟨o, q⟩
   . exact .inl (k _ _ q trivial)
   . exact .inr ⟨o, k _ _ q trivial⟩
 have ln : ∀ j, j < 6 -> (kv j).length = fns.length := λ j hj => by
   match j, hj with
   | 0, _ => rw [h2]; exact F2.kD_len _ _
   | 1, _ => rw [h3]; exact F2.kD_len _ _
   | 2, _ => rw [h4]; exact F2.kD_len _ _
   | 3, _ => rw [h5]; exact F2.kD_len _ _
   | 4, _ => rw [h6]; exact F2.kD_len _ _
   | 5, _ => rw [h7]; exact F2.kD_len _ _
 refine ⟨λ f hf => K55.fnAt_ts (h.all f hf) ts, h.nd, ⟨dx, fz, d, kv, nl, wl, h0, ⟨k _ _ h1.ob ⟨rfl, _, _, rfl⟩, λ j hj => k _ _ (h1.dc j hj) (ln j hj)⟩, h2, h3, h4, h5, h6, h7, λ i f hi => ⟨k _ _ (h8 i f hi).1 ⟨λ z => hn f (List.mem_of_getElem? hi) (List.map_eq_nil_iff.mp z), λ v hv => ?_⟩, ?_⟩⟩⟩
 . obtain ⟨s, _, rfl⟩ := List.mem_map.mp hv
   exact .inl ⟨s, rfl⟩
 obtain ⟨vs, e1, e2, e3⟩ := (h8 i f hi).2
 have pos := (h.all f (List.mem_of_getElem? hi)).wf.pos
 refine ⟨vs, k _ _ e1 ⟨λ z => ?_, λ v hv => ?_⟩, e2, λ j v q => ?_⟩
 . have : 0 < (F2.kds f).length := pos
   rw [<- e2, z] at this
   exact absurd this (Nat.lt_irrefl 0)
 . obtain ⟨j, hj⟩ := List.getElem?_of_mem hv
   obtain ⟨o, _, vo⟩ := e3 j v hj
   cases o with
   | none => exact .inr (.inl vo)
   | some l => obtain ⟨p, z1, z2⟩ := vo; exact .inr (.inr ⟨p, l, z1, z2⟩)
 . obtain ⟨o, due, vo⟩ := e3 j v q
   refine ⟨o, due, ?_⟩
   cases o with
   | none => exact vo
   | some l => obtain ⟨p, z1, z2⟩ := vo; exact ⟨p, z1, k _ _ z2 trivial⟩
def zq0 (w : Wr) (f : Fm) : List Addr := [w.a, w.st, w.sd, w.ct, f.a, f.nd]
def erO (l : List Addr) (H : Hp) : Hp := λ b => if b ∈ l then none else H b
theorem zyi {l : List Addr} {H : Hp} {b : Addr} (h : b ∉ l) : erO l H b = H b := by unfold erO; rw [if_neg h]
theorem zm6 {l : List Addr} {H : Hp} {b : Addr} (h : b ∈ l) : erO l H b = none := by unfold erO; rw [if_pos h]
theorem zxh {l : List Addr} {H : Hp} : zal (erO l H) H := λ b o hb => by
 unfold erO at hb
 split at hb
 . cases hb
 . exact hb
theorem zxe {Hb H : Hp} {w : Wr} {f : Fm} {oc : V} {cn : Cn} (h : WA t Hb H w [f] oc [] cn) {b : Addr} (hb : b ∈ zq0 w f) : Hb b = none := by
 have hf := h.ff f (List.mem_singleton.mpr rfl)
 simp only [zq0, List.mem_cons, List.not_mem_nil, or_false] at hb
 rcases hb with rfl | rfl | rfl | rfl | rfl | rfl
 . exact h.fa
 . exact h.fst
 . exact h.fsd
 . exact h.fct
 . exact hf.1
 . exact hf.2
theorem cutO {Hb H H' : Hp} {w : Wr} {f : Fm} {oc : V} {cn : Cn} (h : WA t Hb H w [f] oc [] cn) (s : zal H H') : WA t (erO (zq0 w f) H') H' w [f] oc [] cn := by
 have hF := h.fr f (List.mem_singleton.mpr rfl)
 refine ⟨zxh, s _ _ h.o, s _ _ h.st, s _ _ h.sd, s _ _ h.ct, λ g hg => ?_, h.na, h.nn, h.ne, h.nc, h.cs, h.nf, zm6 (by simp [zq0]), zm6 (by simp [zq0]), zm6 (by simp [zq0]), zm6 (by simp [zq0]), λ g hg => ?_⟩
 . rw [List.mem_singleton.mp hg]
   exact ⟨s _ _ hF.o, s _ _ hF.n⟩
 . rw [List.mem_singleton.mp hg]
   exact ⟨zm6 (by simp [zq0]), zm6 (by simp [zq0])⟩
theorem z1t {Hb H : Hp} {w : Wr} {f : Fm} {oc : V} {cn : Cn} {n : Nat} {x : Addr} (h : WA t Hb H w [f] oc [] cn) (hk : f.kvs.length ≠ n) {H' : Hp} (sub : zal H H') : ∀ b o, H' b = some o -> Fo n H' x b o -> b ∉ zq0 w f := by
 intro b o hb hf hc
 have hF := h.fr f (List.mem_singleton.mpr rfl)
 simp only [zq0, List.mem_cons, List.not_mem_nil, or_false] at hc
 rcases hc with rfl | rfl | rfl | rfl | rfl | rfl
 . rw [sub _ _ h.o] at hb
   cases hb
   obtain ⟨_, v, r, e⟩ := hf
   have : ("flows" : Str) = "last" := congrArg (λ l : List (Str × V) => match l with | [] => ("" : Str) | p :: _ => p.1) e
   exact absurd this (by decide +kernel)
 . rw [sub _ _ h.st] at hb
   cases hb
   rcases hf.2 (.ref f.a) (by simp) with ⟨s, z⟩ | z | ⟨p, ns, z, e⟩
   . cases z
   . cases z
   . cases z
     rw [sub _ _ hF.o] at e
     cases e
 . rw [sub _ _ h.sd] at hb
   cases hb
   exact hf.1 rfl
 . rw [sub _ _ h.ct] at hb
   cases hb
   exact hf
 . rw [sub _ _ hF.o] at hb
   cases hb
   obtain ⟨_, v, r, e⟩ := hf
   have : ("function" : Str) = "last" := congrArg (λ l : List (Str × V) => match l with | [] => ("" : Str) | p :: _ => p.1) e
   exact absurd this (by decide +kernel)
 . rw [sub _ _ hF.n] at hb
   cases hb
   exact hk hf
theorem zqw {kvs : List (Key × V)} {n m : Str} {u v : V} (h1 : zdc kvs (Sum.inr n : Key) = some u) (h2 : zdc kvs (Sum.inr m : Key) = some v) (hnm : n ≠ m) : kvs.length ≠ 1 := λ z => by
 have a := zqi h1
 have b := zqi h2
 match kvs, z, a, b with
 | [p], _, a, b =>
   have e1 := List.mem_singleton.mp a
   have e2 := List.mem_singleton.mp b
   rw [<- e2] at e1
   have := congrArg Prod.fst e1
   exact hnm (Sum.inr.inj this)
theorem Made.keep {G G' : Hp} {nl fl rl pr : Addr} {n0 n1 n2 n3 n4 n5 n6 n7 : Str} {rs : List Addr} {rgs : List RG} {last : V} {bk fa qC tr : Addr} (M : Made K G nl fl rl pr n0 n1 n2 n3 n4 n5 n6 n7 rs rgs last bk fa qC tr) (e : ∀ b o, G b = some o -> (∀ kv, o ≠ .dK kv) -> (∀ kv, o ≠ .dT kv) -> G' b = some o) : Made K G' nl fl rl pr n0 n1 n2 n3 n4 n5 n6 n7 rs rgs last bk fa qC tr := by
 have l : ∀ {b : Addr} {xs : List V}, G b = some (.lst xs) -> G' b = some (.lst xs) := λ h => e _ _ h (λ _ z => by cases z) (λ _ z => by cases z)
 have u : ∀ {b : Addr} {xs : List V}, G b = some (.tup xs) -> G' b = some (.tup xs) := λ h => e _ _ h (λ _ z => by cases z) (λ _ z => by cases z)
 exact ⟨M.nok, l M.en, l M.ef, l M.er, M.lr, M.l63, λ i r rg h1 h2 => u (M.it i r rg h1 h2), M.ok, M.la, u M.fbk, l M.eg, u M.ffa, u M.fqC, u M.ftr⟩
end
end K23
namespace K23
open PySem L2 K12
section
variable {P : Program} {w : World} {K : W.Frag} {mg : Str -> Option Value} {base : Heap} {t : Adr}
theorem zo5 : FnScope ["names"] ["names"] (zac zdr) := ⟨rfl, rfl, rfl, by decide +kernel, rfl, by decide +kernel, by decide +kernel⟩
theorem zks (T : Txt K mg t) : FnOk P w K mg base CX0 1 t.zma t.zmf ["names"] (K12.sp_each_once K) := by
 refine T.each_once.F.ok zo5 (λ vs H Q E h => ?_) (λ cdv A outer s H vs Q E hr h => ?_)
 . obtain ⟨p0, ss, rfl, hS, hl, q⟩ := h
   rfl
 . obtain ⟨p0, ss, rfl, hS, hl, q⟩ := h
   refine ⟨_, (@zad _ _ _ _ _ (@zav _ _ _ _ (zdy (zpu rfl) (by rfl) T.b_list zn3 (@zaa _ _ _ _ _ (zdy (zku rfl) (by rfl) T.b_dict zq6 (@zaa _ _ _ _ _ (zh5 (N' := ["name"]) (js := [none]) (by kernel_rfl) rfl (zgi (pv 0)) zer (λ _ _ _ _ => (za7 (i := 0) (show (["name"] : List Str).Nodup by decide +kernel) rfl (Or.inl rfl) (.inr rfl))) (λ _ _ _ _ => zhm) (λ _ _ _ _ => (@zcn _ _ _ _ _ (@zaa _ _ _ _ _ (pv 0) (@zaa _ _ _ _ _ zhi zag (by rfl)) (by rfl))))) zag (by rfl))) zag (by rfl)))) zas), ?_⟩
   refine ⟨_, rfl, p0, rfl, ⟨_, hS⟩, λ p hp => zjs (xs := ss.map V.str) (by rw [List.length_map]; omega) (λ i acc H2 => i <= ss.length /\ zal H H2 /\ H2 p = some (.lst acc) /\ ∃ ps : List Addr, acc = ps.map V.ref /\ Paired (λ a (kv : Key × V) => SqT K H2 a [kV kv.1, kv.2]) ps (tru (ss.take i))) ⟨Nat.zero_le _, zal.new hp, zab, [], rfl, .nil⟩ ?_ ?_ ?_⟩
   . rintro i acc H2 hi ⟨hi', s2, h2, ps, rfl, hps⟩
     refine ⟨h2, ?_, s2.seq hS⟩
     have := Paired.length hps
     rw [List.length_map, this]
     unfold tru
     rw [List.length_map, List.length_take]
     omega
   . rintro i x acc H2 hx ⟨hi', s2, h2, ps, rfl, hps⟩
     have hi : i < ss.length := by
       have := (List.getElem?_eq_some_iff.mp hx).1
       rw [List.length_map] at this
       exact this
     rw [List.getElem?_map] at hx
     have hx : V.str ss[i] = x := by simpa [hi] using hx
     subst hx
     refine ⟨_, rfl, (by show 2 <= sizeLine; decide), λ a ha => ?_⟩
     have hap : a ≠ p := λ z => by rw [z, h2] at ha; cases ha
     have e : (upd H2 a (.tup [V.str ss[i], V.bl true])) p = some (.lst (ps.map V.ref)) := by rw [zah hap.symm]; exact h2
     refine ⟨e, hi, ?_, zab, ps ++ [a], by rw [List.map_append]; rfl, ?_⟩
     . exact (s2.trans (zal.new ha)).upd hp
     . have e2 : tru (ss.take (i + 1)) = tru (ss.take i) ++ [(Sum.inr ss[i], V.bl true)] := by
         unfold tru
         rw [List.take_add_one, List.map_append]
         simp [hi]
       rw [e2]
       refine Paired.snoc (Paired.mapP hps λ b kv z => zzx ((zal.new ha).tup z) e) ?_
       exact SqT.of (by rw [zah hap]; exact zab)
   . rintro acc H2 ⟨hi', s2, h2, ps, rfl, hps⟩
     have e0 : ss.take (ss.map V.str).length = ss := by rw [List.length_map]; exact List.take_length
     rw [e0] at hps
     refine ⟨p, ps, tru ss, rfl, SqL.of h2, hps, by unfold tru; rw [List.length_map]; omega, λ d hd => ?_⟩
     rw [zwq]
     refine ⟨d, tru (onceL ss), rfl, zab, λ l hl' => ?_⟩
     rw [zw9]
     exact q l _ ((s2.trans (zal.new hd)).trans (zal.new hl')) (s2.free ((zal.new hd).free hl')) zab
theorem zxu : FnScope ["row"] ["row"] (zac zhs) := ⟨rfl, rfl, rfl, by decide +kernel, rfl, by decide +kernel, by decide +kernel⟩
theorem zwi (T : Txt K mg t) : FnOk P w K mg base CX0 1 t.zv3 t.zv8 ["row"] (K12.sp_gives K) := by
 refine T.gives.F.ok zxu (λ vs H Q E h => ?_) (λ cdv A outer s H vs Q E hr h => ?_)
 . obtain ⟨r, xs, g, as, rfl, hr, hrow, q⟩ := h
   rfl
 . obtain ⟨r, xs, g, as, rfl, hr, hrow, q⟩ := h
   refine ⟨_, (@zad _ _ _ _ _ (@zav _ _ _ _ (@znp _ _ _ _ _ _ _ _ (@zaw _ _ _ _ _ _ _ _ zhl (@zao _ _ _ _ _ _ _ zap (pv 0) zae (λ _ _ => rfl)) (zpf T.zmu) (by with_unfolding_all rfl)) (@zao _ _ _ _ _ _ _ zap (pv 0) zae (λ _ _ => rfl)) zh1)) zas), ?_⟩
   obtain ⟨kd, h0, hc⟩ := zvc hrow
   refine ⟨_, rfl, r, xs, _, _, rfl, rfl, hr, h0, t.zn9, giving.map V.str, rfl, .inr (T.zx1 H), rfl, zqs, _, rfl, ?_⟩
   rcases hc with ⟨x, rfl, e, h1⟩ | ⟨rfl, e⟩
   . exact zfq e ⟨_, rfl, r, xs, _, _, rfl, rfl, hr, h1, q⟩
   . exact zbw (z1e e) q
theorem zqd : FnScope ["row"] ["row"] (zac zd5) := ⟨rfl, rfl, rfl, by decide +kernel, rfl, by decide +kernel, by decide +kernel⟩
theorem zq3 (T : Txt K mg t) : FnOk P w K mg base CX0 1 t.znb t.znf ["row"] (K12.sp_atoms_of K) := by
 refine T.atoms_of.F.ok zqd (λ vs H Q E h => ?_) (λ cdv A outer s H vs Q E hr h => ?_)
 . obtain ⟨r, xs, g, as, rfl, hr, hrow, hl, q⟩ := h
   rfl
 . obtain ⟨r, xs, g, as, rfl, hr, hrow, hl, q⟩ := h
   refine ⟨_, (@zad _ _ _ _ _ (@zcd _ _ _ _ _ _ _ _ (@zaw _ _ _ _ _ _ _ _ zdw (@zao _ _ _ _ _ _ _ zap (pv 0) zae (λ _ _ => rfl)) zbh (zbb _)) (@zak _ _ _ (@zav _ _ _ _ (zdy zh0 (by rfl) T.b_list zn3 (@zaa _ _ _ _ _ (@zao _ _ _ _ _ _ _ zap (pv 0) zae (λ _ _ => rfl)) zag (by rfl))))) zas) (@zak _ _ _ (@zav _ _ _ _ (zh5 (N' := ["place", "row"]) (js := [none, some 0]) (by kernel_rfl) rfl (zu6 (@zao _ _ _ _ _ _ _ z06 (zpf T.zob) (@zao _ _ _ _ _ _ _ zap (pv 0) zae (λ _ _ => rfl)) (λ _ _ => rfl))) zer (λ _ _ _ _ => (za7 (i := 0) (show (["place", "row"] : List Str).Nodup by decide +kernel) rfl (Or.inl rfl) (.inr rfl))) (λ _ _ _ _ => zhm) (λ _ _ _ _ => (@zao _ _ _ _ _ _ _ (show IxR _ (z2b K) from zap) (pv 1) (pv 0) (λ _ _ => rfl))))))), ?_⟩
   obtain ⟨kd, h0, hc⟩ := zsq hrow
   refine ⟨_, rfl, r, xs, _, _, rfl, rfl, hr, h0, rfl, _, rfl, ?_⟩
   rcases hc with ⟨rfl, p, h3, hp⟩ | ⟨hne, pl, hk, hpl, hat⟩
   . exact zfq (decide_eq_true rfl) ⟨_, rfl, r, xs, _, _, rfl, rfl, hr, h3, p, as, rfl, .inr hp, λ l hl => q l _ (zal.new hl) hl zab⟩
   . refine zbw (λ h => hne (V.str.inj (zeb h))) ?_
     refine ⟨_, rfl, r, xs, _, _, rfl, rfl, hr, h0, t.z0g, tabl, _, _, rfl, rfl, T.z3k, hk, λ a ha => ?_⟩
     refine ⟨a, rfl, ⟨_, ha⟩, λ p hp => zxw (xs := pl.map V.int) (by rw [List.length_map]; omega) (λ i acc H2 => acc = as.take i /\ H2 = upd H p (.lst acc)) ⟨rfl, rfl⟩ ?_ ?_ ?_⟩
     . rintro i acc H2 hi ⟨rfl, rfl⟩
       exact ⟨zab, by rw [List.length_take]; omega, (zal.new hp).tup ha⟩
     . rintro i x acc H2 hx ⟨rfl, rfl⟩
       have hi : i < as.length := by
         have := (List.getElem?_eq_some_iff.mp hx).1
         rw [List.length_map] at this
         omega
       obtain ⟨p1, hp1, hp2⟩ := hat i as[i] (by simp [hi])
       rw [List.getElem?_map, hp1] at hx
       have hx : V.int p1 = x := by simpa using hx
       subst hx
       refine ⟨_, rfl, _, rfl, r, xs, _, _, rfl, rfl, (zal.new hp).tup hr, hp2, zab, ?_, zln⟩
       rw [List.take_add_one]
       simp [hi]
     . rintro acc H2 ⟨rfl, rfl⟩
       have e : (as.take (pl.map V.int).length) = as := by rw [List.length_map, hpl]; exact List.take_length
       exact q p _ (zal.new hp) hp (by rw [zab, e])
theorem zxv : FnScope ["row"] ["row"] (zac zhx) := ⟨rfl, rfl, rfl, by decide +kernel, rfl, by decide +kernel, by decide +kernel⟩
theorem zwn (T : Txt K mg t) : FnOk P w K mg base CX0 2 t.zv5 t.zwa ["row"] (K12.sp_reads K) := by
 have G_each_once := zks (P := P) (w := w) (base := base) T
 have G_atoms_of := zq3 (P := P) (w := w) (base := base) T
 refine T.reads.F.ok zxv (λ vs H Q E h => ?_) (λ cdv A outer s H vs Q E hr h => ?_)
 . obtain ⟨r, xs, g, as, rfl, hrw, hrow, hl, hat, q⟩ := h
   rfl
 . obtain ⟨r, xs, g, as, rfl, hrw, hrow, hl, hat, q⟩ := h
   refine ⟨_, (@zad _ _ _ _ _ (@zav _ _ _ _ (zc4 T.each_once G_each_once (hr.mono (by decide)) (@zaa _ _ _ _ _ (zh5 (N' := ["atom"]) (js := [none]) (by kernel_rfl) rfl (zgi (zc4 T.atoms_of G_atoms_of (hr.mono (by decide)) (@zaa _ _ _ _ _ (pv 0) zag (by rfl)))) zer (λ _ _ _ _ => (za7 (i := 0) (show (["atom"] : List Str).Nodup by decide +kernel) rfl (Or.inl rfl) (.inr rfl))) (λ _ _ _ _ => (zu1 (zf6 (zb6 (show zl7 _ (.builtin "isinstance") (rIsi K) from zdu) (by rfl) T.b_isinstance zcy (@zaa _ _ _ _ _ (pv 0) (@zaa _ _ _ _ _ (zhy (v := V.ty "str") rfl T.b_str zrj rfl) zag (by rfl)) (by rfl)))))) (λ _ _ _ _ => (pv 0))) zag (by rfl)))) zas), ?_⟩
   refine ⟨_, rfl, r, xs, g, as, rfl, hrw, hrow, hl, λ l0 H1 s1 n1 e1 => ?_⟩
   refine ⟨l0, rfl, ⟨_, SqL.of e1⟩, λ p hp => zjs (xs := as) (by omega) (λ i acc H2 => acc = (strsOf (as.take i)).map V.str /\ H2 = upd H1 p (.lst acc)) ⟨rfl, rfl⟩ ?_ ?_ ?_⟩
   . rintro i acc H2 hi ⟨rfl, rfl⟩
     refine ⟨zab, ?_, (zal.new hp).seq (SqL.of e1)⟩
     have := strsOf_len (as.take i)
     rw [List.length_map]
     rw [List.length_take] at this
     omega
   . rintro i x acc H2 hx ⟨rfl, rfl⟩
     have hi : i < as.length := (List.getElem?_eq_some_iff.mp hx).1
     have e2 : strsOf (as.take (i + 1)) = strsOf (as.take i) ++ strsOf [x] := by
       rw [List.take_add_one, hx, strsOf_append]
       rfl
     rcases hat x (List.mem_of_getElem? hx) with ⟨s, rfl, hn⟩ | ⟨z, rfl⟩
     . refine ⟨_, rfl, _, _, _, true, rfl, .str _, rfl, _, rfl, ?_⟩
       refine ⟨_, rfl, zab, ?_, zln⟩
       rw [e2, List.map_append]
       rfl
     . refine ⟨_, rfl, _, _, _, false, rfl, .int _, rfl, _, rfl, ?_⟩
       refine ⟨?_, ?_⟩
       . rw [e2, ztf, List.append_nil]
       . rfl
   . rintro acc H2 ⟨rfl, rfl⟩
     rw [List.take_length]
     have hle := strsOf_len as
     exact ⟨p, strsOf as, rfl, SqL.of zab, by omega, λ l H3 s3 n3 e3 => q l H3 ((s1.trans (zal.new hp)).trans s3) (s1.free ((zal.new hp).free n3)) e3⟩
theorem zgw : FnScope ["function", "found", "row", "given"] ["function"] (zac zd1) := ⟨rfl, rfl, rfl, by decide +kernel, rfl, by decide +kernel, by decide +kernel⟩
theorem zqu (T : Txt K mg t) : FnOk P w K mg base CX0 3 t.zne t.zni ["function"] (K12.sp_names_of K) := by
 have G_each_once := zks (P := P) (w := w) (base := base) T
 have G_gives := zwi (P := P) (w := w) (base := base) T
 have G_reads := zwn (P := P) (w := w) (base := base) T
 refine T.names_of.F.ok zgw (λ vs H Q E h => ?_) (λ cdv A outer s H vs Q E hr h => ?_)
 . obtain ⟨f, ps, ds, rfl, hf, q⟩ := h
   rfl
 . obtain ⟨f, ps, ds, rfl, hf, q⟩ := h
   refine ⟨_, (@zad _ _ _ _ _ (@zbs _ _ 1 _ _ _ _ zgw.nd rfl (Or.inl rfl) (zdy zh0 (by rfl) T.b_list zn3 (@zaa _ _ _ _ _ (@zao _ _ _ _ _ _ _ zap (pv 0) zae (λ _ _ => rfl)) zag (by rfl))) (by rfl) (by first | exact .inl rfl | exact .inr rfl | assumption)) (@zad _ _ _ _ _ (zd2 PassesOwn.never rfl (zu6 (@zao _ _ _ _ _ _ _ zap (pv 0) zae (λ _ _ => rfl))) (za7 (i := 2) zgw.nd rfl (Or.inl rfl)) (@zad _ _ _ _ _ (@zbs _ _ 3 _ _ _ _ zgw.nd rfl (Or.inl rfl) (zc4 T.gives G_gives (hr.mono (by decide)) (@zaa _ _ _ _ _ (pv 2) zag (by rfl))) (by rfl) (by first | exact .inl rfl | exact .inr rfl | assumption)) (@zad _ _ _ _ _ (@zcd _ _ _ _ _ _ _ _ (zpj (zui (pv 3))) (@zak _ _ _ (@zct _ _ _ _ (zkg PySem.F.plainAttrs_list PySem.F.slot_list_append PySem.F.type_list_append zdi (pv 1) (@zaa _ _ _ _ _ (pv 3) zag (by rfl))) (by rfl))) zas) (@zak _ _ _ (@zct _ _ _ _ (zkg PySem.F.plainAttrs_list PySem.F.slot_list_extend PySem.F.type_list_extend zvx (pv 1) (@zaa _ _ _ _ _ (zc4 T.reads G_reads (hr.mono (by decide)) (@zaa _ _ _ _ _ (pv 2) zag (by rfl))) zag (by rfl))) (by rfl)))))) (@zak _ _ _ (@zav _ _ _ _ (zc4 T.each_once G_each_once (hr.mono (by decide)) (@zaa _ _ _ _ _ (pv 1) zag (by rfl))))))), ?_⟩
   obtain ⟨n, b, pp, rr, hF, hP, hR⟩ := hf.fn
   refine ⟨_, rfl, f, _, _, _, rfl, rfl, hF, rfl, pp, _, rfl, .inr hP, λ l hl => ?_⟩
   refine ⟨_, rfl, f, _, _, _, rfl, rfl, (zal.new hl).tup hF, rfl, ?_⟩
   refine ⟨rr, rfl, ⟨_, (zal.new hl).tup hR⟩, zzk (xs := ds.map λ d => V.ref d.r) (λ i σ H2 => zal H H2 /\ ∃ v1 v2 fs, σ = [some (.ref f), some (.ref l), v1, v2] /\ H2 l = some (.lst (List.map V.str fs)) /\ onceL fs = onceL (ps ++ (ds.take i).flatMap rowStrs) /\ fs.length <= 100 + 11 * i) ⟨zal.new hl, _, _, ps, rfl, zab, by simp, by have := hf.pl; omega⟩ ?_ ?_ ?_⟩
   . rintro i σ H2 hi ⟨s2, _⟩
     exact s2.tup hR
   . rintro i x σ H2 hx ⟨s2, v1, v2, fs, rfl, h2, ho, hlen⟩
     have hi : i < ds.length := by
       have := (List.getElem?_eq_some_iff.mp hx).1
       rw [List.length_map] at this
       exact this
     rw [List.getElem?_map] at hx
     have hx : V.ref ds[i].r = x := by simpa [hi] using hx
     subst hx
     have hd := hf.rows ds[i] (List.getElem_mem hi)
     have hds := hf.dl
     have ef : (ds.take (i + 1)).flatMap rowStrs = (ds.take i).flatMap rowStrs ++ rowStrs ds[i] := by
       rw [List.take_add_one, List.flatMap_append]
       simp [hi]
     have hol := onceL_len (strsOf ds[i].as)
     have hsl := strsOf_len ds[i].as
     have hal := hd.len
     obtain ⟨xs, hr1, hr2⟩ := (hd.mono s2).row
     refine ⟨_, rfl, ds[i].r, xs, _, _, rfl, hr1, hr2, ?_⟩
     refine ⟨_, rfl, _, rfl, ?_⟩
     cases hg : ds[i].gx with
     | none =>
       refine z2g ⟨_, rfl, .inl ⟨rfl, _, SqL.of h2⟩, _, rfl, ds[i].r, xs, _, _, rfl, hr1, hr2, hd.len, hd.ats, λ l4 H4 s4 n4 e4 => ?_⟩
       refine ⟨l, l4, _, _, rfl, rfl, s4 _ _ h2, e4, znj (by rw [List.length_map, List.length_map]; omega), ?_⟩
       refine ⟨(s2.trans s4).upd hl, _, _, fs ++ [] ++ onceL (strsOf ds[i].as), rfl, (by rw [zab, List.append_nil, List.map_append]), ?_, (by simp only [List.length_append, List.length_nil]; omega)⟩
       rw [zrp ho, ef, List.append_assoc]
       unfold rowStrs
       rw [hg]
       rfl
     | some x =>
       refine z01 ⟨_, rfl, .inl ⟨rfl, _, SqL.of h2⟩, _, rfl, l, _, _, rfl, rfl, h2, zee (by rw [List.length_map]; omega), ?_⟩
       have s3 : zal H (upd H2 l (.lst (List.map V.str fs ++ [V.str x]))) := s2.upd hl
       obtain ⟨xs', hr1', hr2'⟩ := (hd.mono s3).row
       refine ⟨_, rfl, .inl ⟨rfl, _, SqL.of zab⟩, _, rfl, ds[i].r, xs', _, _, rfl, hr1', hr2', hd.len, hd.ats, λ l4 H4 s4 n4 e4 => ?_⟩
       refine ⟨l, l4, _, _, rfl, rfl, s4 _ _ zab, e4, znj (by simp only [List.length_append, List.length_map, List.length_cons, List.length_nil]; omega), ?_⟩
       refine ⟨(s3.trans s4).upd hl, _, _, fs ++ [x] ++ onceL (strsOf ds[i].as), rfl, (by rw [zab, List.map_append, List.map_append]; rfl), ?_, (by simp only [List.length_append, List.length_cons, List.length_nil]; omega)⟩
       rw [zrp ho, ef, List.append_assoc]
       unfold rowStrs
       rw [hg]
       rfl
   . rintro σ H2 ⟨s2, v1, v2, fs, rfl, h2, ho, hlen⟩
     rw [List.length_map, List.take_length] at ho
     rw [List.length_map] at hlen
     have hds := hf.dl
     refine ⟨_, rfl, l, fs, rfl, SqL.of h2, by omega, λ l3 H3 s3 n3 e3 => q l3 H3 (s2.trans s3) (s2.free n3) ?_⟩
     rw [e3, ho]
     rfl
end
end K23
namespace K23
open PySem L2 K13
section
variable {P : Program} {w : World} {K : W.Frag} {mg : Str -> Option Value} {base : Heap} {t : Adr}
theorem zev : FnScope ["rows", "opened", "begins", "k", "row"] ["rows"] (zac zdq) := ⟨rfl, rfl, rfl, by decide +kernel, rfl, by decide +kernel, by decide +kernel⟩
theorem zo9 (T : Txt K mg t) : FnOk P w K mg base CX0 1 t.zl9 t.zme ["rows"] (K13.sp_begins_of K) := by
 refine T.begins_of.F.ok zev (λ vs H Q E h => ?_) (λ cdv A outer s H vs Q E hr h => ?_)
 . obtain ⟨a, ks, rfl, hR, w, hn, q⟩ := h
   rfl
 . obtain ⟨a, ks, rfl, hR, w, hn, q⟩ := h
   refine ⟨_, (@zad _ _ _ _ _ (@zbs _ _ 1 _ _ _ _ zev.nd rfl (Or.inl rfl) (@zd9 _ _ _ _ zag) (by rfl) (by first | exact .inl rfl | exact .inr rfl | assumption)) (@zad _ _ _ _ _ (@zbs _ _ 2 _ _ _ _ zev.nd rfl (Or.inl rfl) zes (by rfl) (by first | exact .inl rfl | exact .inr rfl | assumption)) (@zad _ _ _ _ _ (zd2 PassesOwn.never rfl (zru rfl T.b_enumerate (@zaa _ _ _ _ _ (pv 0) zag (by rfl))) (zkq rfl (zc9 (za7 (i := 3) zev.nd rfl (Or.inl rfl)) (zc9 (za7 (i := 4) zev.nd rfl (Or.inl rfl)) zh7))) (@zak _ _ _ (@zcd _ _ _ _ _ _ _ _ (@zaw _ _ _ _ _ _ _ _ zhl (@zao _ _ _ _ _ _ _ zap (pv 4) zae (λ _ _ => rfl)) (@zcn _ _ _ _ _ (@zaa _ _ _ _ _ zbh (@zaa _ _ _ _ _ zbh zag (by rfl)) (by rfl))) (by with_unfolding_all rfl)) (@zak _ _ _ (@zct _ _ _ _ (zkg PySem.F.plainAttrs_list PySem.F.slot_list_append PySem.F.type_list_append zdi (pv 1) (@zaa _ _ _ _ _ (pv 3) zag (by rfl))) (by rfl))) (@zak _ _ _ (@zcd _ _ _ _ _ _ _ _ (@zaw _ _ _ _ _ _ _ _ zdw (@zao _ _ _ _ _ _ _ zap (pv 4) zae (λ _ _ => rfl)) zbh (zbb _)) (@zak _ _ _ (zda (u1' hr.units) (pv 2) (pv 3) (@zao _ _ _ _ _ _ _ zat (pv 1) (zsu zmx zae) (λ _ _ => rfl)) (by rfl))) (@zak _ _ _ (@zcd _ _ _ _ _ _ _ _ (@zaw _ _ _ _ _ _ _ _ zdw (@zao _ _ _ _ _ _ _ zap (pv 4) zae (λ _ _ => rfl)) zbh (zbb _)) (@zak _ _ _ (zda (u1' hr.units) (pv 2) (pv 3) (zyc PySem.F.plainAttrs_list PySem.F.slot_list_pop PySem.F.type_list_pop zx6 (pv 1)) (by rfl))) zas))))))) (@zak _ _ _ (@zav _ _ _ _ (pv 2)))))), ?_⟩
   refine ⟨le0, λ ol hol => λ d hd => ?_⟩
   obtain ⟨rs, e1, e2, e3⟩ := hR.ex
   have hdo : d ≠ ol := λ z => by rw [z, zab] at hd; cases hd
   have s0 : zal H (upd (upd H ol (.lst [])) d (.dK [])) := (zal.new hol).trans (zal.new hd)
   have hd0 : H d = none := (zal.new hol).free hd
   refine ⟨_, rfl, a, rfl, ⟨_, s0.tup e1⟩, zom (xs := rs.map V.ref) (λ i σ H2 => i <= ks.length /\ zal H H2 /\ ∃ v3 v4, σ = [some (.ref a), some (.ref ol), some (.ref d), v3, v4] /\ H2 ol = some (.lst (zso ks i)) /\ H2 d = some (.dK (bg ks i))) ⟨Nat.zero_le _, s0, _, _, rfl, by rw [zah hdo.symm]; exact zab, zab⟩ ?_ ?_ ?_⟩
   . rintro i σ H2 hi ⟨_, s2, _⟩
     exact s2.tup e1
   . rintro i x σ H2 b hx ⟨hi', s2, v3, v4, rfl, ho, hg⟩ hb
     have hi : i < rs.length := by
       have := (List.getElem?_eq_some_iff.mp hx).1
       rw [List.length_map] at this
       exact this
     rw [List.getElem?_map] at hx
     have hx : V.ref rs[i] = x := by simpa [hi] using hx
     subst hx
     obtain ⟨rest, hrow⟩ := e3 i rs[i] (by simp [hi])
     have s3 : zal H (upd H2 b (.tup [.int i, .ref rs[i]])) := s2.trans (zal.new hb)
     have ho3 := zal.new (o := .tup [.int i, .ref rs[i]]) hb _ _ ho
     have hg3 := zal.new (o := .tup [.int i, .ref rs[i]]) hb _ _ hg
     have sl := zw6 ks i
     have bl := zup ks i
     refine ⟨b, _, rfl, SqT.of zab, rfl, _, _, rfl, _, _, rfl, rfl, ?_⟩
     refine ⟨_, rfl, rs[i], _, _, _, rfl, rfl, s3.tup hrow, at0, le2, λ tw htw => ⟨tw, [V.str "if", V.str "while"], rfl, .inr (SqT.of zab), rfl, rfl, _, rfl, ?_⟩⟩
     have s4 := s3.trans (zal.new (o := .tup [V.str "if", V.str "while"]) htw)
     have ho4 := zal.new (o := .tup [V.str "if", V.str "while"]) htw _ _ ho3
     have hg4 := zal.new (o := .tup [V.str "if", V.str "while"]) htw _ _ hg3
     by_cases hO : isO (kd ks i) = true
     . refine zfq ((inO _).trans hO) ?_
       refine ⟨_, rfl, .inl ⟨rfl, _, SqL.of ho4⟩, _, rfl, ol, _, _, rfl, rfl, ho4, zee (by omega), ?_⟩
       refine ⟨by omega, s4.upd hol, _, _, rfl, ?_, ?_⟩
       . rw [zab]
         have : stk ks (i + 1) = i :: stk ks i := by rw [zc8]; unfold push; rw [if_pos hO]
         unfold zso
         rw [this, List.reverse_cons, List.map_append]
         rfl
       . rw [zah hdo, zvn (zlo hO)]
         exact hg4
     refine zbw (λ z => hO ((inO _).symm.trans z)) ?_
     refine ⟨_, rfl, rs[i], _, _, _, rfl, rfl, s4.tup hrow, at0, rfl, _, rfl, ?_⟩
     by_cases h1 : kd ks i = "else"
     . refine zfq (decide_eq_true (congrArg V.str h1)) ?_
       have hE : isE (kd ks i) = true := by rw [h1]; decide +kernel
       obtain ⟨t, r, ht⟩ : ∃ t r, stk ks i = t :: r := by
         cases z : stk ks i with
         | nil => exact absurd z (w.open_ i (by omega) hE)
         | cons t r => exact ⟨t, r, rfl⟩
       obtain ⟨q1, q2, q3⟩ := zrk ht
       refine ⟨_, rfl, _, rfl, ol, _, _, _, rfl, rfl, SqL.of ho4, q1, _, rfl, _, rfl, d, _, rfl, zkr.k (k := Sum.inl (i : Int)) hg4 (zee (by omega)), ?_⟩
       refine ⟨by omega, s4.upd hd0, _, _, rfl, ?_, ?_⟩
       . rw [zah hdo.symm]
         have : stk ks (i + 1) = stk ks i := by rw [zc8]; unfold push; rw [if_neg hO, if_neg (by rw [h1]; exact zlz)]
         unfold zso
         rw [this]
         exact ho4
       . rw [zab, zrv ⟨hE, by rw [ht]; rfl⟩]
     refine zbw (λ z => h1 (V.str.inj (zeb z))) ?_
     refine ⟨_, rfl, rs[i], _, _, _, rfl, rfl, s4.tup hrow, at0, rfl, _, rfl, ?_⟩
     by_cases h2 : kd ks i = "end"
     . refine zfq (decide_eq_true (congrArg V.str h2)) ?_
       have hE : isE (kd ks i) = true := by rw [h2]; decide +kernel
       obtain ⟨t, r, ht⟩ : ∃ t r, stk ks i = t :: r := by
         cases z : stk ks i with
         | nil => exact absurd z (w.open_ i (by omega) hE)
         | cons t r => exact ⟨t, r, rfl⟩
       obtain ⟨q1, q2, q3⟩ := zrk ht
       refine ⟨_, rfl, .inl ⟨rfl, _, SqL.of ho4⟩, ol, _, _, rfl, rfl, ho4, q2, _, rfl, _, rfl, d, _, rfl, zkr.k (k := Sum.inl (i : Int)) (by rw [zah hdo]; exact hg4) (zee (by omega)), ?_⟩
       refine ⟨by omega, (s4.upd hol).upd hd0, _, _, rfl, ?_, ?_⟩
       . rw [zah hdo.symm, zab, q3]
         have : stk ks (i + 1) = r := by rw [zc8]; unfold push; rw [if_neg hO, if_pos h2, ht]; rfl
         unfold zso
         rw [this]
       . rw [zab, zrv ⟨hE, by rw [ht]; rfl⟩]
     refine zbw (λ z => h2 (V.str.inj (zeb z))) ?_
     refine ⟨by omega, s4, _, _, rfl, ?_, ?_⟩
     . have : stk ks (i + 1) = stk ks i := by rw [zc8]; unfold push; rw [if_neg hO, if_neg h2]
       unfold zso
       rw [this]
       exact ho4
     . rw [zvn (z1d h1 h2)]
       exact hg4
   . rintro σ H2 ⟨_, s2, v3, v4, rfl, ho, hg⟩
     rw [List.length_map, e2] at hg
     exact ⟨_, rfl, q d H2 s2 hd0 hg⟩
theorem zb9 : FnScope ["rows", "begins", "ends", "k", "begin", "behind", "follower", "kind"] ["rows", "begins"] (zac zcg) := ⟨rfl, rfl, rfl, by decide +kernel, rfl, by decide +kernel, by decide +kernel⟩
theorem zk4 (T : Txt K mg t) : FnOk P w K mg base CX0 1 t.zib t.zie ["rows", "begins"] (K13.sp_firsts_behind K) := by
 refine T.firsts_behind.F.ok zb9 (λ vs H Q E h => ?_) (λ cdv A outer s H vs Q E hr h => ?_)
 . obtain ⟨a, d, ks, rfl, hR, w, hn, hd, q⟩ := h
   rfl
 . obtain ⟨a, d, ks, rfl, hR, w, hn, hd, q⟩ := h
   refine ⟨_, (@zad _ _ _ _ _ (@zbs _ _ 2 _ _ _ _ zb9.nd rfl (Or.inl rfl) zes (by rfl) (by first | exact .inl rfl | exact .inr rfl | assumption)) (@zad _ _ _ _ _ (zd2 PassesOwn.never rfl (zrh (pv 1)) (zkq rfl (zc9 (za7 (i := 3) zb9.nd rfl (Or.inl rfl)) (zc9 (za7 (i := 4) zb9.nd rfl (Or.inl rfl)) zh7))) (@zak _ _ _ (zda (u1' hr.units) (pv 2) (pv 4) (pv 3) (by rfl)))) (@zad _ _ _ _ _ (@zbs _ _ 5 _ _ _ _ zb9.nd rfl (Or.inl rfl) (@zbg _ _ _ _ _ _ _ _ z0u (@zd9 _ _ _ _ (@zaa _ _ _ _ _ zh1 zag (by rfl))) (zb6 zbj (by rfl) T.b_len zfp (@zaa _ _ _ _ _ (pv 0) zag (by rfl)))) (by rfl) (by first | exact .inl rfl | exact .inr rfl | assumption)) (@zad _ _ _ _ _ (zd2 PassesOwn.never rfl (zz7 rfl T.b_range (@zaa _ _ _ _ _ (@zbg _ _ _ _ _ _ _ _ zow (zb6 zbj (by rfl) T.b_len zfp (@zaa _ _ _ _ _ (pv 0) zag (by rfl))) zae) (@zaa _ _ _ _ _ (zsu zmx zae) (@zaa _ _ _ _ _ (zsu zmx zae) zag (by rfl)) (by rfl)) (by rfl))) (za7 (i := 3) zb9.nd rfl (Or.inl rfl)) (@zad _ _ _ _ _ (@zbs _ _ 6 _ _ _ _ zb9.nd rfl (Or.inl rfl) (@zbg _ _ _ _ _ _ _ _ zgn (pv 3) zae) (by rfl) (by first | exact .inl rfl | exact .inr rfl | assumption)) (@zad _ _ _ _ _ (@zbs _ _ 7 _ _ _ _ zb9.nd rfl (Or.inl rfl) (@zao _ _ _ _ _ _ _ zap (@zao _ _ _ _ _ _ _ zap (pv 0) (pv 6) (λ _ _ => rfl)) zae (λ _ _ => rfl)) (by rfl) (by first | exact .inl rfl | exact .inr rfl | assumption)) (@zak _ _ _ (@zcd _ _ _ _ _ _ _ _ (@zaw _ _ _ _ _ _ _ _ zdw (pv 7) zbh (zbb _)) (@zak _ _ _ (zr8 (@zao _ _ _ _ _ _ _ zat (pv 5) (zdl (u1' hr.units) (pv 2) (zdl (u1' hr.units) (pv 1) (pv 6) (λ _ _ => rfl)) (λ _ _ => rfl)) (λ _ _ => rfl)) (zro (pv 5) (pv 3) zld))) (@zak _ _ _ (@zcd _ _ _ _ _ _ _ _ (@PW.pt _ _ _ (@zrr _ _ _ _ _ _ _ (@zaw _ _ _ _ _ _ _ _ zdw (pv 7) zbh (zbb _)) (@znr _ _ _ _ (@zaw _ _ _ _ _ _ _ _ zdw (@zao _ _ _ _ _ _ _ zap (@zao _ _ _ _ _ _ _ zap (pv 0) (zdl (u1' hr.units) (pv 1) (pv 6) (λ _ _ => rfl)) (λ _ _ => rfl)) zae (λ _ _ => rfl)) zbh (zbb _))))) (@zak _ _ _ (zr8 (zdl (u1' hr.units) (pv 1) (pv 6) (λ _ _ => rfl)) (zro (pv 5) (pv 3) zld))) (@zak _ _ _ (@zcd _ _ _ _ _ _ _ _ (@zaw _ _ _ _ _ _ _ _ zdw (pv 7) zbh (zbb _)) (@zak _ _ _ (zr8 (@zao _ _ _ _ _ _ _ zat (pv 5) (pv 6) (λ _ _ => rfl)) (zro (pv 5) (pv 3) zld))) (@zak _ _ _ (zr8 (pv 6) (zro (pv 5) (pv 3) zld)))))))))))) (@zak _ _ _ (@zav _ _ _ _ (pv 5))))))), ?_⟩
   refine λ ed hed => ?_
   have hde : d ≠ ed := λ z => by rw [<- z, hd] at hed; cases hed
   refine ⟨_, rfl, d, bg ks ks.length, rfl, .inl ⟨zal.new hed _ _ hd, λ o => ?_⟩⟩
   have sF : zal (upd H d (.frz o (.dK (bg ks ks.length)))) (upd (upd H ed (.dK [])) d (.frz o (.dK (bg ks ks.length)))) := λ b u h => by
     by_cases hb : b = d
     . subst hb
       rw [zab] at h ⊢
       exact h
     . rw [zah hb] at h ⊢
       rw [zah (λ z => by rw [z, hed] at h; cases h)]
       exact h
   have hF : (upd H d (.frz o (.dK (bg ks ks.length)))) d = some (.frz o (.dK (bg ks ks.length))) := zab
   have hedF : (upd H d (.frz o (.dK (bg ks ks.length)))) ed = none := by rw [zah hde.symm]; exact hed
   have hRF : RowsAt K (upd H d (.frz o (.dK (bg ks ks.length)))) a ks := hR.frz hd
   have qF : ∀ l H', zal (upd H d (.frz o (.dK (bg ks ks.length)))) H' -> (upd H d (.frz o (.dK (bg ks ks.length)))) l = none -> BehL H' l ks -> Q (.ref l) H' := λ l H' h1 h2 h3 => q l o H' h1 (by rw [zah (λ z => by rw [z, hF] at h2; cases h2)] at h2; exact h2) h3
   generalize upd H d (.frz o (.dK (bg ks ks.length))) = HF at sF hF hedF hRF qF
   have bl := zup ks ks.length
   have pl := zqv ks ks.length
   refine zo8 (λ i σ H2 => i <= (bg ks ks.length).length /\ zal HF H2 /\ ∃ v3 v4 eds, σ = [some (.ref a), some (.ref d), some (.ref ed), v3, v4, none, none, none] /\ H2 ed = some (.dK eds) /\ eds.length <= i /\ ∀ b : Nat, zdc eds (Sum.inl (b : Int) : Key) = (zg9 ((prs ks ks.length).take i) b).map λ (m : Nat) => V.int (m : Int)) ⟨Nat.zero_le _, sF, _, _, [], rfl, by rw [zah hde.symm]; exact zab, Nat.le_refl _, λ b => rfl⟩ ?_ ?_ ?_
   . rintro i σ H2 hi ⟨_, s2, _⟩
     exact s2 _ _ hF
   . rintro i kv σ H2 b hkv ⟨hi, s2, v3, v4, eds, rfl, he, hel, hv⟩ hb
     obtain ⟨p, hp, rfl⟩ := zyf hkv
     have hlt := (List.getElem?_eq_some_iff.mp hkv).1
     have he3 := zal.new (o := .tup [V.int (p.1 : Int), V.int (p.2 : Int)]) hb _ _ he
     refine ⟨b, _, rfl, SqT.of zab, rfl, _, _, rfl, _, _, rfl, rfl, ?_⟩
     refine ⟨_, rfl, _, rfl, _, rfl, ed, _, rfl, zkr.k (k := Sum.inl (p.2 : Int)) he3 (zee (by omega)), ?_⟩
     refine ⟨hlt, (s2.trans (zal.new hb)).upd hedF, _, _, _, rfl, zab, ?_, λ b' => ?_⟩
     . exact Nat.le_trans (zau _ _ _) (by omega)
     . rw [zdn, List.take_add_one, hp]
       show _ = (zg9 ((prs ks ks.length).take i ++ [p]) b').map _
       rw [zlu, hv b']
       by_cases h : p.2 = b'
       . rw [if_pos h, if_pos (by rw [h])]
         rfl
       . rw [if_neg h, if_neg (λ z => h (by have : (b' : Int) = (p.2 : Int) := Sum.inl.inj z; omega))]
   . rintro σ H2 ⟨_, s2, v3, v4, eds, rfl, he, hel, hv⟩
     have hv : ∀ b : Nat, zdc eds (Sum.inl (b : Int) : Key) = (zg9 (prs ks ks.length) b).map λ (m : Nat) => V.int (m : Int) := λ b => by
       rw [hv b]
       unfold bg zwe
       rw [List.length_map, List.take_length]
     obtain ⟨rs, r1, r2, r3⟩ := hRF.ex
     have rl : (rs.map V.ref).length = ks.length := by rw [List.length_map, r2]
     refine ⟨le1, λ nl hnl => ⟨_, rfl, a, _, rfl, .inr ((s2.trans (zal.new hnl)).tup r1), nl, _, _, rfl, rfl, zab, by omega, by rw [rl]; omega, by rw [rl]; exact znj (by simp; omega), λ bl hbl => ?_⟩⟩
     have s3 := (s2.trans (zal.new (o := .lst [V.non]) hnl)).trans (zal.new (o := .lst (List.replicate (((rs.map V.ref).length : Int).toNat) [V.non]).flatten) hbl)
     have hbF : HF bl = none := s2.free ((zal.new hnl).free hbl)
     have hbe : bl ≠ ed := λ z => by
       have := (zal.new hnl).free hbl
       rw [z, he] at this
       cases this
     have he3 := (zal.new (o := .lst (List.replicate (((rs.map V.ref).length : Int).toNat) [V.non]).flatten) hbl) _ _ ((zal.new (o := .lst [V.non]) hnl) _ _ he)
     refine ⟨_, rfl, a, _, rfl, .inr (s3.tup r1), _, _, rfl, rfl, _, rfl, _, rfl, (ks.length : Int) - 2, -1, by rw [rl], ⟨by omega, by omega, by omega, by omega⟩, ?_⟩
     have hnn : (((ks.length : Int) - 2) - -1).toNat = ks.length - 1 := by omega
     rw [hnn]
     refine zxd (λ i σ H4 => zal HF H4 /\ ∃ v3 v4 v6 v7 bs, σ = [some (.ref a), some (.ref d), some (.ref ed), v3, v4, some (.ref bl), v6, v7] /\ H4 ed = some (.dK eds) /\ H4 bl = some (.lst bs) /\ bs.length = ks.length /\ ∀ k, k + 1 < ks.length -> ks.length - 1 - i <= k -> ∃ r : Nat, Beh ks k r /\ bs[k]? = some (.int (r : Int))) ⟨s3, _, _, _, _, _, rfl, he3, zab, by rw [rl]; exact ztm _, λ k h1 h2 => by omega⟩ ?_ ?_
     . rintro i σ H4 hi ⟨s4, v3, v4, v6, v7, bs, rfl, e4, b4, l4, hb4⟩
       obtain ⟨k, hk⟩ : ∃ k : Nat, k + 2 + i = ks.length := ⟨ks.length - 2 - i, by omega⟩
       have ek : ((ks.length : Int) - 2) - (i : Int) = (k : Int) := by omega
       rw [ek]
       have hR4 := hRF.mono s4
       have old : ∀ j, j + 1 < ks.length -> k < j -> ∃ r : Nat, Beh ks j r /\ bs[j]? = some (.int (r : Int)) := λ j h1 h2 => hb4 j h1 (by omega)
       have fin : ∀ (r : Nat) (v3 v4 v6 v7 : Option V), Beh ks k r -> zal HF (upd H4 bl (.lst (bs.set k (.int (r : Int))))) /\ ∃ v3' v4' v6' v7' bs', ([some (.ref a), some (.ref d), some (.ref ed), v3, v4, some (.ref bl), v6, v7] : St) = [some (.ref a), some (.ref d), some (.ref ed), v3', v4', some (.ref bl), v6', v7'] /\ (upd H4 bl (.lst (bs.set k (.int (r : Int))))) ed = some (.dK eds) /\ (upd H4 bl (.lst (bs.set k (.int (r : Int))))) bl = some (.lst bs') /\ bs'.length = ks.length /\ ∀ j, j + 1 < ks.length -> ks.length - 1 - (i + 1) <= j -> ∃ r : Nat, Beh ks j r /\ bs'[j]? = some (.int (r : Int)) := λ r v3 v4 v6 v7 hr => by
         refine ⟨s4.upd hbF, _, _, _, _, _, rfl, by rw [zah hbe.symm]; exact e4, zab, by rw [List.length_set]; exact l4, λ j h1 h2 => ?_⟩
         by_cases hj : j = k
         . subst hj
           exact ⟨r, hr, by rw [List.getElem?_set_self (by omega)]⟩
         . obtain ⟨r', q1, q2⟩ := old j h1 (by omega)
           exact ⟨r', q1, by rw [List.getElem?_set_ne (λ z => hj z.symm)]; exact q2⟩
       have hix : ixN bs.length (k : Int) = some k := by
         unfold ixN
         rw [if_pos (by omega), if_pos (by omega), Int.toNat_natCast]
       have at_bs : ∀ j r : Nat, bs[j]? = some (.int (r : Int)) -> atI bs (j : Int) = some (.int (r : Int)) := λ j r h => zft h
       refine ⟨_, rfl, _, _, rfl, rfl, ?_⟩
       show ztw 6 (V.int ((k : Int) + 1)) _ _ _
       rw [show ((k : Int) + 1) = ((k + 1 : Nat) : Int) by omega]
       refine ⟨_, rfl, _, rfl, ixk hR4 (by omega) (by omega) ?_⟩
       refine ⟨_, rfl, rfl, _, rfl, ?_⟩
       have top : isE (kd ks (k + 1)) = true -> ∃ b, (stk ks (k + 1)).head? = some b := λ h => by
         cases z : stk ks (k + 1) with
         | nil => exact absurd z (w.open_ (k + 1) (by omega) h)
         | cons b r => exact ⟨b, rfl⟩
       have fz : Rd H4 d (.dK (bg ks ks.length)) := .inr ⟨o, s4 _ _ hF⟩
       by_cases h1 : kd ks (k + 1) = "else"
       . refine zfq (decide_eq_true (congrArg V.str h1)) ?_
         have hE : isE (kd ks (k + 1)) = true := by rw [h1]; decide +kernel
         obtain ⟨b, hb⟩ := top hE
         have hbo := zut (⟨hE, hb⟩ : Hit ks b (k + 1))
         obtain ⟨e, hEn⟩ := zuv w (by omega) hbo.2
         have h5 : k + 1 <= e := zyg hEn ⟨hE, hb⟩
         have h6 : e + 1 < ks.length := by
           rcases Nat.lt_or_ge (e + 1) ks.length with z | z
           . exact z
           . have := w.last e (by have := hEn.2.1; omega)
             rw [hEn.2.2.1] at this
             exact absurd this.symm zvi.2
         obtain ⟨r, hr1, hr2⟩ := old e h6 (by omega)
         have g1 : zlb H4 d (.int ((k + 1 : Nat) : Int)) (some (.int (b : Int))) := .inl ⟨_, Sum.inl ((k + 1 : Nat) : Int), fz, rfl, (z1j ks.length (by omega) ⟨hE, hb⟩).symm⟩
         have g2 : zlb H4 ed (.int (b : Int)) (some (.int (e : Int))) := .inl ⟨_, Sum.inl (b : Int), .inl e4, rfl, by rw [hv b, zxk hEn]; rfl⟩
         exact ⟨_, rfl, _, rfl, _, rfl, _, rfl, d, _, rfl, g1, ed, _, rfl, g2, bl, _, _, _, rfl, rfl, SqL.of b4, at_bs e r hr2, _, rfl, _, rfl, bl, _, _, _, rfl, rfl, b4, hix, fin r _ _ _ _ (.els h1 hb hEn hr1)⟩
       refine zbw (λ z => h1 (V.str.inj (zeb z))) ?_
       refine ⟨_, rfl, rfl, _, rfl, ?_⟩
       by_cases h2 : kd ks (k + 1) = "end"
       . have hE : isE (kd ks (k + 1)) = true := by rw [h2]; decide +kernel
         obtain ⟨b, hb⟩ := top hE
         have hbo := zut (⟨hE, hb⟩ : Hit ks b (k + 1))
         have g1 : zlb H4 d (.int ((k + 1 : Nat) : Int)) (some (.int (b : Int))) := .inl ⟨_, Sum.inl ((k + 1 : Nat) : Int), fz, rfl, (z1j ks.length (by omega) ⟨hE, hb⟩).symm⟩
         refine zfq (decide_eq_true (congrArg V.str h2)) ?_
         refine ⟨_, rfl, _, rfl, _, rfl, d, _, rfl, g1, ixk hR4 (by omega) (by omega) ⟨rfl, _, rfl, ?_⟩⟩
         by_cases h3 : kd ks b = "while"
         . refine zfq (decide_eq_true (congrArg V.str h3)) ?_
           exact ⟨_, rfl, _, rfl, d, _, rfl, g1, _, rfl, _, rfl, bl, _, _, _, rfl, rfl, b4, hix, fin b _ _ _ _ (.whl h2 hb h3)⟩
         . refine zbw (λ z => h3 (V.str.inj (zeb z))) ?_
           refine ⟨_, rfl, rfl, _, rfl, zfq (decide_eq_true (congrArg V.str h2)) ?_⟩
           have h6 : k + 1 + 1 < ks.length := by
             rcases Nat.lt_or_ge (k + 1 + 1) ks.length with z | z
             . exact z
             . have := w.last (k + 1) (by omega)
               rw [h2] at this
               exact absurd this.symm zvi.2
           obtain ⟨r, hr1, hr2⟩ := old (k + 1) h6 (by omega)
           exact ⟨_, rfl, _, rfl, bl, _, _, _, rfl, rfl, SqL.of b4, at_bs (k + 1) r hr2, _, rfl, _, rfl, bl, _, _, _, rfl, rfl, b4, hix, fin r _ _ _ _ (.fin h2 hb h3 hr1)⟩
       . refine zbw (λ z => h2 (V.str.inj (zeb z))) (z2g ?_)
         refine ⟨_, rfl, rfl, _, rfl, zbw (λ z => h2 (V.str.inj (zeb z))) ?_⟩
         exact ⟨_, rfl, _, rfl, _, rfl, bl, _, _, _, rfl, rfl, b4, hix, fin (k + 1) _ _ _ _ (.oth h1 h2)⟩
     . rintro σ H4 ⟨s4, v3, v4, v6, v7, bs, rfl, e4, b4, l4, hb4⟩
       exact ⟨_, rfl, qF bl H4 s4 hbF ⟨bs, b4, l4, λ k h1 => hb4 k h1 (by omega)⟩⟩
theorem zg5 : FnScope ["rows", "begins", "behind", "turns", "k", "begin", "found", "row"] ["rows"] (zac zkz) := ⟨rfl, rfl, rfl, by decide +kernel, rfl, by decide +kernel, by decide +kernel⟩
theorem zzo (T : Txt K mg t) : FnOk P w K mg base CX0 2 t.zyo t.zyp ["rows"] (K13.sp_ways K) := by
 have G_begins_of := zo9 (P := P) (w := w) (base := base) T
 have G_firsts_behind := zk4 (P := P) (w := w) (base := base) T
 refine T.ways.F.ok zg5 (λ vs H Q E h => ?_) (λ cdv A outer s H vs Q E hr h => ?_)
 . obtain ⟨a, ks, rfl, hR, w, hn, q⟩ := h
   rfl
 . obtain ⟨a, ks, rfl, hR, w, hn, q⟩ := h
   refine ⟨_, (@zad _ _ _ _ _ (@zbs _ _ 1 _ _ _ _ zg5.nd rfl (Or.inl rfl) (zc4 T.begins_of G_begins_of (hr.mono (by decide)) (@zaa _ _ _ _ _ (pv 0) zag (by rfl))) (by rfl) (by first | exact .inl rfl | exact .inr rfl | assumption)) (@zad _ _ _ _ _ (@zbs _ _ 2 _ _ _ _ zg5.nd rfl (Or.inl rfl) (zc4 T.firsts_behind G_firsts_behind (hr.mono (by decide)) (@zaa _ _ _ _ _ (pv 0) (@zaa _ _ _ _ _ (pv 1) zag (by rfl)) (by rfl))) (by rfl) (by first | exact .inl rfl | exact .inr rfl | assumption)) (@zad _ _ _ _ _ (@zbs _ _ 3 _ _ _ _ zg5.nd rfl (Or.inl rfl) zes (by rfl) (by first | exact .inl rfl | exact .inr rfl | assumption)) (@zad _ _ _ _ _ (zd2 PassesOwn.never rfl (zrh (pv 1)) (zkq rfl (zc9 (za7 (i := 4) zg5.nd rfl (Or.inl rfl)) (zc9 (za7 (i := 5) zg5.nd rfl (Or.inl rfl)) zh7))) (@zak _ _ _ (@zct _ _ _ _ (zw5 (pv 3) (pv 5) (pv 4) ⟨rfl, rfl, rfl, rfl⟩) (by rfl)))) (@zad _ _ _ _ _ (@zbs _ _ 6 _ _ _ _ zg5.nd rfl (Or.inl rfl) (@zd9 _ _ _ _ zag) (by rfl) (by first | exact .inl rfl | exact .inr rfl | assumption)) (@zad _ _ _ _ _ (zd2 PassesOwn.never rfl (zru rfl T.b_enumerate (@zaa _ _ _ _ _ (pv 0) zag (by rfl))) (zkq rfl (zc9 (za7 (i := 4) zg5.nd rfl (Or.inl rfl)) (zc9 (za7 (i := 7) zg5.nd rfl (Or.inl rfl)) zh7))) (@zak _ _ _ (@zcd _ _ _ _ _ _ _ _ (@zaw _ _ _ _ _ _ _ _ zhl (@zao _ _ _ _ _ _ _ zap (pv 7) zae (λ _ _ => rfl)) (@zcn _ _ _ _ _ (@zaa _ _ _ _ _ zbh (@zaa _ _ _ _ _ zbh zag (by rfl)) (by rfl))) (by with_unfolding_all rfl)) (@zak _ _ _ (@zct _ _ _ _ (zkg PySem.F.plainAttrs_list PySem.F.slot_list_append PySem.F.type_list_append zdi (pv 6) (@zaa _ _ _ _ _ zh1 zag (by rfl))) (by rfl))) (@zak _ _ _ (@zcd _ _ _ _ _ _ _ _ (@zaw _ _ _ _ _ _ _ _ zdw (@zao _ _ _ _ _ _ _ zap (pv 7) zae (λ _ _ => rfl)) zbh (zbb _)) (@zak _ _ _ (@zct _ _ _ _ (zkg PySem.F.plainAttrs_list PySem.F.slot_list_append PySem.F.type_list_append zdi (pv 6) (@zaa _ _ _ _ _ (@zcn _ _ _ _ _ zag) zag (by rfl))) (by rfl))) (@zak _ _ _ (@zcd _ _ _ _ _ _ _ _ (zpj (z1w (u1' hr.units) (pv 4) (pv 3))) (@zak _ _ _ (@zct _ _ _ _ (zkg PySem.F.plainAttrs_list PySem.F.slot_list_append PySem.F.type_list_append zdi (pv 6) (@zaa _ _ _ _ _ (@zcn _ _ _ _ _ (@zaa _ _ _ _ _ (@zao _ _ _ _ _ _ _ zat (pv 2) (pv 4) (λ _ _ => rfl)) (@zaa _ _ _ _ _ (@zao _ _ _ _ _ _ _ zat (pv 2) (zdl (u1' hr.units) (pv 3) (pv 4) (λ _ _ => rfl)) (λ _ _ => rfl)) zag (by rfl)) (by rfl))) zag (by rfl))) (by rfl))) (@zak _ _ _ (@zct _ _ _ _ (zkg PySem.F.plainAttrs_list PySem.F.slot_list_append PySem.F.type_list_append zdi (pv 6) (@zaa _ _ _ _ _ (@zcn _ _ _ _ _ (@zaa _ _ _ _ _ (@zao _ _ _ _ _ _ _ zat (pv 2) (pv 4) (λ _ _ => rfl)) zag (by rfl))) zag (by rfl))) (by rfl)))))))))) (@zak _ _ _ (@zav _ _ _ _ (pv 6))))))))), ?_⟩
   refine ⟨_, rfl, a, ks, rfl, hR, w, hn, λ d H1 s1 n1 e1 => ?_⟩
   refine ⟨_, rfl, _, rfl, a, d, ks, rfl, hR.mono s1, w, hn, e1, λ l o H2 s2 n2 hB => ?_⟩
   have s02 : zal H H2 := (s1.upd n1).trans s2
   have hdF : H2 d = some (.frz o (.dK (bg ks ks.length))) := s2 _ _ zab
   have hl0 : H l = none := s1.free n2
   refine λ td htd => ?_
   have bl := zup ks ks.length
   obtain ⟨bs, hb1, hb2, hb3⟩ := hB
   refine ⟨_, rfl, d, bg ks ks.length, rfl, .inr ⟨o, zal.new htd _ _ hdF, ?_⟩⟩
   refine zo8 (λ i σ H3 => i <= (bg ks ks.length).length /\ zal H2 H3 /\ ∃ v4 v5 tds, σ = [some (.ref a), some (.ref d), some (.ref l), some (.ref td), v4, v5, none, none] /\ H3 td = some (.dK tds) /\ tds.length <= i /\ ∀ b : Nat, zdc tds (Sum.inl (b : Int) : Key) = (zcr ((prs ks ks.length).take i) b).map λ (m : Nat) => V.int (m : Int)) ⟨Nat.zero_le _, zal.new htd, _, _, [], rfl, zab, Nat.le_refl _, λ b => rfl⟩ ?_ ?_ ?_
   . rintro i σ H3 hi ⟨_, s3, _⟩
     exact s3 _ _ hdF
   . rintro i kv σ H3 b hkv ⟨hi, s3, v4, v5, tds, rfl, he, hel, hv⟩ hb
     obtain ⟨p, hp, rfl⟩ := zyf hkv
     have hlt := (List.getElem?_eq_some_iff.mp hkv).1
     have he3 := zal.new (o := .tup [V.int (p.1 : Int), V.int (p.2 : Int)]) hb _ _ he
     refine ⟨b, _, rfl, SqT.of zab, rfl, _, _, rfl, _, _, rfl, rfl, ?_⟩
     have tk : ∀ b', zcr ((prs ks ks.length).take (i + 1)) b' = if (zcr ((prs ks ks.length).take i) b').isSome = true then zcr ((prs ks ks.length).take i) b' else if p.2 = b' then some p.1 else none := λ b' => by
       rw [List.take_add_one, hp]
       exact zkv _ p b'
     refine ⟨_, rfl, td, rfl, .inl ⟨tds, .inl he3⟩, _, rfl, _, rfl, tds, Sum.inl (p.2 : Int), he3, rfl, zee (by omega), λ v hv' => ?_, λ hv' => ?_⟩
     . refine ⟨hlt, s3.trans (zal.new hb), _, _, tds, rfl, he3, by omega, λ b' => ?_⟩
       rw [hv b', tk b']
       cases z : zcr ((prs ks ks.length).take i) b' with
       | some m => rfl
       | none =>
         rw [if_neg (show ¬ (none : Option Nat).isSome = true by decide), if_neg]
         intro h
         rw [h, hv b', z] at hv'
         cases hv'
     . refine ⟨hlt, (s3.trans (zal.new hb)).upd htd, _, _, _, rfl, zab, Nat.le_trans (zau _ _ _) (by omega), λ b' => ?_⟩
       rw [zdn, tk b']
       by_cases h : p.2 = b'
       . subst h
         have z : zcr ((prs ks ks.length).take i) p.2 = none := by
           rw [hv p.2] at hv'
           cases y : zcr ((prs ks ks.length).take i) p.2 with
           | none => rfl
           | some m => rw [y] at hv'; cases hv'
         rw [if_pos rfl, z, if_neg (show ¬ (none : Option Nat).isSome = true by decide), if_pos rfl]
         rfl
       . rw [if_neg (λ z => h (by have : (b' : Int) = (p.2 : Int) := Sum.inl.inj z; omega)), hv b', if_neg h]
         cases z : zcr ((prs ks ks.length).take i) b' with
         | some m => rfl
         | none => rfl
   . rintro σ H3 ⟨_, s3, v4, v5, tds, rfl, he, hel, hv⟩
     have hv : ∀ b : Nat, zdc tds (Sum.inl (b : Int) : Key) = (zcr (prs ks ks.length) b).map λ (m : Nat) => V.int (m : Int) := λ b => by
       rw [hv b]
       unfold bg zwe
       rw [List.length_map, List.take_length]
     obtain ⟨rs, r1, r2, r3⟩ := hR.ex
     refine ⟨le0, λ fl hfl => ?_⟩
     have s03 := s02.trans s3
     have hf2 : H3 fl = none := hfl
     have htf : td ≠ fl := λ z => by rw [<- z, he] at hfl; cases hfl
     have hf0 : H fl = none := s03.free hfl
     refine ⟨_, rfl, a, rfl, ⟨_, (s03.trans (zal.new hfl)).tup r1⟩, zom (xs := rs.map V.ref) (λ i σ H4 => i <= ks.length /\ zal H3 H4 /\ (∃ v4 v5 v7, σ = [some (.ref a), some (.ref d), some (.ref l), some (.ref td), v4, v5, some (.ref fl), v7]) /\ FoundN H4 fl ks i) ⟨Nat.zero_le _, zal.new hfl, ⟨_, _, _, rfl⟩, ⟨[], zab, rfl, λ k v z => by simp at z⟩⟩ ?_ ?_ ?_⟩
     . rintro i σ H4 hi ⟨_, s4, _⟩
       exact (s03.trans s4).tup r1
     . rintro i x σ H4 b hx ⟨hi', s4, ⟨v4, v5, v7, rfl⟩, hF⟩ hb
       have hi : i < rs.length := by
         have := (List.getElem?_eq_some_iff.mp hx).1
         rw [List.length_map] at this
         exact this
       rw [List.getElem?_map] at hx
       have hx : V.ref rs[i] = x := by simpa [hi] using hx
       subst hx
       obtain ⟨rest, hrow⟩ := r3 i rs[i] (by simp [hi])
       have s5 := s4.trans (zal.new (o := .tup [.int i, .ref rs[i]]) hb)
       have hF5 := hF.mono (zal.new (o := .tup [.int i, .ref rs[i]]) hb)
       refine ⟨b, _, rfl, SqT.of zab, rfl, _, _, rfl, _, _, rfl, rfl, ?_⟩
       refine ⟨_, rfl, rs[i], _, _, _, rfl, rfl, (s03.trans s5).tup hrow, at0, le2, λ tw htw => ⟨tw, [V.str "else", V.str "end"], rfl, .inr (SqT.of zab), rfl, rfl, _, rfl, ?_⟩⟩
       have s6 := s5.trans (zal.new (o := .tup [V.str "else", V.str "end"]) htw)
       obtain ⟨vs, f1, f2, f3⟩ := hF5.mono (zal.new (o := .tup [V.str "else", V.str "end"]) htw)
       generalize upd (upd H4 b (.tup [.int i, .ref rs[i]])) tw (.tup [V.str "else", V.str "end"]) = H6 at s6 f1 f3 ⊢
       have s06 := s03.trans s6
       have fin : ∀ {H7 : Hp} {v : V} {oo : Option (List Nat)} (u4 u5 u7 : Option V), zal H6 H7 -> Due ks i oo -> zwf H7 v oo -> i + 1 <= ks.length /\ zal H3 (upd H7 fl (.lst (vs ++ [v]))) /\ (∃ v4 v5 v7, ([some (.ref a), some (.ref d), some (.ref l), some (.ref td), u4, u5, some (.ref fl), u7] : St) = [some (.ref a), some (.ref d), some (.ref l), some (.ref td), v4, v5, some (.ref fl), v7]) /\ FoundN (upd H7 fl (.lst (vs ++ [v]))) fl ks (i + 1) := λ u4 u5 u7 s7 hd hv => by
         refine ⟨by omega, (s6.trans s7).upd hfl, ⟨_, _, _, rfl⟩, FoundN.push (s7 _ _ f1) f2 (λ k v z => ?_) hd hv⟩
         obtain ⟨o', d', y⟩ := f3 k v z
         exact ⟨o', d', y.mono s7⟩
       by_cases hE : isE (kd ks i) = true
       . refine zfq ((inE _).trans hE) ?_
         exact ⟨_, rfl, .inl ⟨rfl, _, SqL.of f1⟩, fl, _, _, rfl, rfl, f1, zee (by omega), fin _ _ _ (zal.refl _) (.no hE) rfl⟩
       refine zbw (λ z => hE ((inE _).symm.trans z)) ?_
       refine ⟨_, rfl, rs[i], _, _, _, rfl, rfl, s06.tup hrow, at0, rfl, _, rfl, ?_⟩
       by_cases hbk : kd ks i = "back"
       . refine zfq (decide_eq_true (congrArg V.str hbk)) ?_
         exact ⟨_, rfl, .inl ⟨rfl, _, SqL.of f1⟩, le0, λ p hp => ⟨fl, _, _, rfl, rfl, zal.new hp _ _ f1, zee (by omega), fin _ _ _ (zal.new hp) (.back hbk) ⟨p, rfl, zab⟩⟩⟩
       refine zbw (λ z => hbk (V.str.inj (zeb z))) ?_
       have hlast := zr4 w (by omega) hbk
       obtain ⟨r, hr1, hr2⟩ := hb3 i hlast
       have hb6 := (s3.trans s6) _ _ hb1
       have ht6 := s6 _ _ he
       refine ⟨_, rfl, _, rfl, td, _, rfl, zlb.k (k := Sum.inl (i : Int)) ht6, _, rfl, ?_⟩
       by_cases hO : isO (kd ks i) = true
       . obtain ⟨e, hEn⟩ := zuv w (by omega) hO
         obtain ⟨f, hf⟩ := zw8 hEn
         obtain ⟨r', hr3, hr4⟩ := hb3 f (zs5 w hf)
         have hvi : zdc tds (Sum.inl (i : Int) : Key) = some (V.int (f : Int)) := by rw [hv i, zxp hf]; rfl
         refine zfq (by rw [hvi]; rfl) ?_
         have g : zlb H6 td (.int (i : Int)) (some (V.int (f : Int))) := .inl ⟨_, Sum.inl (i : Int), .inl ht6, rfl, hvi.symm⟩
         exact ⟨_, rfl, .inl ⟨rfl, _, SqL.of f1⟩, _, rfl, _, rfl, l, _, _, _, rfl, rfl, SqL.of hb6, zft hr2, _, rfl, _, rfl, _, rfl, td, _, rfl, g, l, _, _, _, rfl, rfl, SqL.of hb6, zft hr4, le2, λ p hp => ⟨fl, _, _, rfl, rfl, zal.new hp _ _ f1, zee (by omega), fin _ _ _ (zal.new hp) (.two hO hf hr1 hr3) ⟨p, rfl, zab⟩⟩⟩
       . have hvi : zdc tds (Sum.inl (i : Int) : Key) = none := by rw [hv i, ztk hO]; rfl
         refine zbw (by rw [hvi]; decide) ?_
         exact ⟨_, rfl, .inl ⟨rfl, _, SqL.of f1⟩, _, rfl, _, rfl, l, _, _, _, rfl, rfl, SqL.of hb6, zft hr2, le1, λ p hp => ⟨fl, _, _, rfl, rfl, zal.new hp _ _ f1, zee (by omega), fin _ _ _ (zal.new hp) (.one hE hbk hO hr1) ⟨p, rfl, zab⟩⟩⟩
     . rintro σ H4 ⟨_, s4, ⟨v4, v5, v7, rfl⟩, hF⟩
       rw [List.length_map, r2] at hF
       exact ⟨_, rfl, q fl H4 (s03.trans s4) hf0 hF⟩
end
end K23
namespace K23
open PySem L2 Gx Fl F2
section
variable {P : Program} {w : World} {K : W.Frag} {mg : Str -> Option Value} {base : Heap} {t : Adr}
theorem zg3 : FnScope ["self", "program", "k", "function"] ["self", "program"] (zac zde) := ⟨rfl, rfl, rfl, by decide +kernel, rfl, by decide +kernel, by decide +kernel⟩
theorem zn0 (T : Txt K mg t) : FnOk P w K mg base CX0 4 t.zk0 t.zk2 ["self", "program"] (znz K t) := by
 have G_names_of := zqu (P := P) (w := w) (base := base) T
 have G_ways := zzo (P := P) (w := w) (base := base) T
 refine T.zna.F.ok zg3 (λ vs H Q E h => ?_) (λ cdv A outer s H vs Q E hr h => ?_)
 . obtain ⟨x, dx, p, fns, rfl, hx, hS, n0, n12, hE, nd, q⟩ := h
   rfl
 . obtain ⟨x, dx, p, fns, rfl, hx, hS, n0, n12, hE, nd, q⟩ := h
   refine ⟨_, (@zad _ _ _ _ _ (zel (pv 0) (@zao _ _ _ _ _ _ _ zap (@zao _ _ _ _ _ _ _ zat (pv 1) (zsu zmx zae) (λ _ _ => rfl)) zae (λ _ _ => rfl)) (by rfl)) (@zad _ _ _ _ _ (zel (pv 0) zes (by rfl)) (@zad _ _ _ _ _ (zel (pv 0) zes (by rfl)) (@zad _ _ _ _ _ (zel (pv 0) zes (by rfl)) (@zad _ _ _ _ _ (zel (pv 0) zes (by rfl)) (@zad _ _ _ _ _ (zel (pv 0) zes (by rfl)) (@znn _ _ _ _ _ (zel (pv 0) zes (by rfl)) (@zak _ _ _ (zd2 PassesOwn.never rfl (zxo rfl T.b_enumerate (@zaa _ _ _ _ _ (pv 1) zag (by rfl))) (zkq rfl (zc9 (za7 (i := 2) zg3.nd rfl (Or.inl rfl)) (zc9 (za7 (i := 3) zg3.nd rfl (Or.inl rfl)) zh7))) (@zad _ _ _ _ _ (zda (u1' hr.units) (zbx (pv 0) (by rfl)) (@zao _ _ _ _ _ _ _ zap (pv 3) zae (λ _ _ => rfl)) (pv 2) (by rfl)) (@zad _ _ _ _ _ (zda (u1' hr.units) (zbx (pv 0) (by rfl)) (@zao _ _ _ _ _ _ _ zap (pv 3) zae (λ _ _ => rfl)) (@zao _ _ _ _ _ _ _ zap (pv 3) zae (λ _ _ => rfl)) (by rfl)) (@zad _ _ _ _ _ (zda (u1' hr.units) (zbx (pv 0) (by rfl)) (@zao _ _ _ _ _ _ _ zap (pv 3) zae (λ _ _ => rfl)) (@zao _ _ _ _ _ _ _ zap (pv 3) zae (λ _ _ => rfl)) (by rfl)) (@zad _ _ _ _ _ (zda (u1' hr.units) (zbx (pv 0) (by rfl)) (@zao _ _ _ _ _ _ _ zap (pv 3) zae (λ _ _ => rfl)) (@zao _ _ _ _ _ _ _ zap (pv 3) zae (λ _ _ => rfl)) (by rfl)) (@zad _ _ _ _ _ (zda (u1' hr.units) (zbx (pv 0) (by rfl)) (@zao _ _ _ _ _ _ _ zap (pv 3) zae (λ _ _ => rfl)) (zc4 T.names_of G_names_of (hr.mono (by decide)) (@zaa _ _ _ _ _ (pv 3) zag (by rfl))) (by rfl)) (@zak _ _ _ (zda (u1' hr.units) (zbx (pv 0) (by rfl)) (@zao _ _ _ _ _ _ _ zap (pv 3) zae (λ _ _ => rfl)) (zc4 T.ways G_ways (hr.mono (by decide)) (@zaa _ _ _ _ _ (@zao _ _ _ _ _ _ _ zap (pv 3) zae (λ _ _ => rfl)) zag (by rfl))) (by rfl))))))))))))))))), ?_⟩
   have fl : (fns.map λ f => V.ref f.fa).length = fns.length := List.length_map _
   have np : 0 < fns.length := List.length_pos_iff.mpr n0
   obtain ⟨fz, hz⟩ : ∃ fz, fns[fns.length - 1]? = some fz := ⟨fns[fns.length - 1], List.getElem?_eq_getElem (by omega)⟩
   have hzT := (hE fz (List.mem_of_getElem? hz)).fn
   have eL : atI (fns.map λ f => V.ref f.fa) (-1) = some (V.ref fz.fa) := by
     unfold atI ixN
     rw [if_neg (by decide), if_pos (by rw [fl]; omega), Option.bind_some]
     have : ((-1 : Int) + ((fns.map λ f => V.ref f.fa).length : Int)).toNat = fns.length - 1 := by rw [fl]; omega
     rw [this, List.getElem?_map, hz]
     rfl
   refine ⟨_, rfl, _, rfl, p, _, _, _, rfl, rfl, zig.seq hS, eL, fz.fa, _, _, _, rfl, rfl, zig.tup hzT, at0, _, rfl, x, t.zay, dx, _, rfl, hx, T.zcj.cl, T.zd8, (by show 0 < 1000; decide), ?_⟩
   have sx : ∀ {b : Addr} {o : HO}, ers x H b = some o -> b ≠ x /\ H b = some o := λ {b o} e => by
     have hb : b ≠ x := λ z => by rw [z] at e; unfold ers at e; rw [if_pos rfl] at e; cases e
     rw [zdf hb] at e
     exact ⟨hb, e⟩
   have l1 := zke "last" (V.str fz.name) [] 0 (Nat.le_refl _)
   intro d0 h0
   refine ⟨_, rfl, x, t.zay, dx, _, rfl, za2 zab (Ne.symm (zby h0).1), T.zcj.cl, T.zcp, (by omega), ?_⟩
   have l2 := zke "number_of" (.ref d0) _ 1 l1
   intro d1 h1
   refine ⟨_, rfl, x, t.zay, dx, _, rfl, za2 zab (Ne.symm (zby h1).1), T.zcj.cl, T.zco, (by omega), ?_⟩
   have l3 := zke "folded_of" (.ref d1) _ 2 l2
   intro d2 h2
   refine ⟨_, rfl, x, t.zay, dx, _, rfl, za2 zab (Ne.symm (zby h2).1), T.zcj.cl, T.zce, (by omega), ?_⟩
   have l4 := zke "params_of" (.ref d2) _ 3 l3
   intro d3 h3
   refine ⟨_, rfl, x, t.zay, dx, _, rfl, za2 zab (Ne.symm (zby h3).1), T.zcj.cl, T.zcv, (by omega), ?_⟩
   have l5 := zke "rows_of" (.ref d3) _ 4 l4
   intro d4 h4
   refine ⟨_, rfl, x, t.zay, dx, _, rfl, za2 zab (Ne.symm (zby h4).1), T.zcj.cl, T.zca, (by omega), ?_⟩
   have l6 := zke "names_in" (.ref d4) _ 5 l5
   refine ⟨λ σ' G => ∃ d : Nat -> Addr, σ' = [some (.ref x), some (.ref p), none, none] /\ FS t.zay G x dx (zov (V.str fz.name) d) d (λ _ => []) /\ (∀ i j, i < 6 -> j < 6 -> d i = d j -> i = j) /\ zal (ers x H) G /\ ∀ k, ers x H (d k) = none, ?_, ?_⟩
   . intro d5 h5
     obtain ⟨nx0, z0⟩ := zby h0
     have q0 : H d0 = none := z0
     obtain ⟨nx1, z1⟩ := zby h1
     obtain ⟨n10, w10⟩ := zby z1
     obtain ⟨_, y10⟩ := zby w10
     have q1 : H d1 = none := y10
     obtain ⟨nx2, z2⟩ := zby h2
     obtain ⟨n21, w21⟩ := zby z2
     obtain ⟨_, y21⟩ := zby w21
     obtain ⟨n20, w20⟩ := zby y21
     obtain ⟨_, y20⟩ := zby w20
     have q2 : H d2 = none := y20
     obtain ⟨nx3, z3⟩ := zby h3
     obtain ⟨n32, w32⟩ := zby z3
     obtain ⟨_, y32⟩ := zby w32
     obtain ⟨n31, w31⟩ := zby y32
     obtain ⟨_, y31⟩ := zby w31
     obtain ⟨n30, w30⟩ := zby y31
     obtain ⟨_, y30⟩ := zby w30
     have q3 : H d3 = none := y30
     obtain ⟨nx4, z4⟩ := zby h4
     obtain ⟨n43, w43⟩ := zby z4
     obtain ⟨_, y43⟩ := zby w43
     obtain ⟨n42, w42⟩ := zby y43
     obtain ⟨_, y42⟩ := zby w42
     obtain ⟨n41, w41⟩ := zby y42
     obtain ⟨_, y41⟩ := zby w41
     obtain ⟨n40, w40⟩ := zby y41
     obtain ⟨_, y40⟩ := zby w40
     have q4 : H d4 = none := y40
     obtain ⟨nx5, z5⟩ := zby h5
     obtain ⟨n54, w54⟩ := zby z5
     obtain ⟨_, y54⟩ := zby w54
     obtain ⟨n53, w53⟩ := zby y54
     obtain ⟨_, y53⟩ := zby w53
     obtain ⟨n52, w52⟩ := zby y53
     obtain ⟨_, y52⟩ := zby w52
     obtain ⟨n51, w51⟩ := zby y52
     obtain ⟨_, y51⟩ := zby w51
     obtain ⟨n50, w50⟩ := zby y51
     obtain ⟨_, y50⟩ := zby w50
     have q5 : H d5 = none := y50
     have inj : ∀ i j, i < 6 -> j < 6 -> dd d0 d1 d2 d3 d4 d5 i = dd d0 d1 d2 d3 d4 d5 j -> i = j := λ i j hi hj e => by
       match i, j, hi, hj with
       | 0, 0, _, _ => rfl
       | 0, 1, _, _ => exact absurd e.symm n10
       | 0, 2, _, _ => exact absurd e.symm n20
       | 0, 3, _, _ => exact absurd e.symm n30
       | 0, 4, _, _ => exact absurd e.symm n40
       | 0, 5, _, _ => exact absurd e.symm n50
       | 1, 0, _, _ => exact absurd e n10
       | 1, 1, _, _ => rfl
       | 1, 2, _, _ => exact absurd e.symm n21
       | 1, 3, _, _ => exact absurd e.symm n31
       | 1, 4, _, _ => exact absurd e.symm n41
       | 1, 5, _, _ => exact absurd e.symm n51
       | 2, 0, _, _ => exact absurd e n20
       | 2, 1, _, _ => exact absurd e n21
       | 2, 2, _, _ => rfl
       | 2, 3, _, _ => exact absurd e.symm n32
       | 2, 4, _, _ => exact absurd e.symm n42
       | 2, 5, _, _ => exact absurd e.symm n52
       | 3, 0, _, _ => exact absurd e n30
       | 3, 1, _, _ => exact absurd e n31
       | 3, 2, _, _ => exact absurd e n32
       | 3, 3, _, _ => rfl
       | 3, 4, _, _ => exact absurd e.symm n43
       | 3, 5, _, _ => exact absurd e.symm n53
       | 4, 0, _, _ => exact absurd e n40
       | 4, 1, _, _ => exact absurd e n41
       | 4, 2, _, _ => exact absurd e n42
       | 4, 3, _, _ => exact absurd e n43
       | 4, 4, _, _ => rfl
       | 4, 5, _, _ => exact absurd e.symm n54
       | 5, 0, _, _ => exact absurd e n50
       | 5, 1, _, _ => exact absurd e n51
       | 5, 2, _, _ => exact absurd e n52
       | 5, 3, _, _ => exact absurd e n53
       | 5, 4, _, _ => exact absurd e n54
       | 5, 5, _, _ => rfl
       | n + 6, _, h, _ => omega
       | _, n + 6, _, h => omega
     refine ⟨_, rfl, x, t.zay, dx, _, rfl, za2 zab (Ne.symm nx5), T.zcj.cl, T.zcw, (by omega), dd d0 d1 d2 d3 d4 d5, rfl, ⟨zab, λ j hj => ?_⟩, inj, λ b o e => za2 (za2 (za2 (za2 (za2 (za2 (za2 (za2 (za2 (za2 (za2 (za2 (za2 (sx e).2 (sx e).1) (zbv (sx e).2 q0)) (sx e).1) (zbv (sx e).2 q1)) (sx e).1) (zbv (sx e).2 q2)) (sx e).1) (zbv (sx e).2 q3)) (sx e).1) (zbv (sx e).2 q4)) (sx e).1) (zbv (sx e).2 q5)) (sx e).1, λ k => ?_⟩
     . match j, hj with
       | 0, _ => exact za2 (za2 (za2 (za2 (za2 (za2 (za2 (za2 (za2 (za2 (za2 zab nx0) (Ne.symm n10)) nx0) (Ne.symm n20)) nx0) (Ne.symm n30)) nx0) (Ne.symm n40)) nx0) (Ne.symm n50)) nx0
       | 1, _ => exact za2 (za2 (za2 (za2 (za2 (za2 (za2 (za2 (za2 zab nx1) (Ne.symm n21)) nx1) (Ne.symm n31)) nx1) (Ne.symm n41)) nx1) (Ne.symm n51)) nx1
       | 2, _ => exact za2 (za2 (za2 (za2 (za2 (za2 (za2 zab nx2) (Ne.symm n32)) nx2) (Ne.symm n42)) nx2) (Ne.symm n52)) nx2
       | 3, _ => exact za2 (za2 (za2 (za2 (za2 zab nx3) (Ne.symm n43)) nx3) (Ne.symm n53)) nx3
       | 4, _ => exact za2 (za2 (za2 zab nx4) (Ne.symm n54)) nx4
       | 5, _ => exact za2 zab nx5
       | n + 6, h => omega
     . match k with
       | 0 => exact (zdf nx0).trans q0
       | 1 => exact (zdf nx1).trans q1
       | 2 => exact (zdf nx2).trans q2
       | 3 => exact (zdf nx3).trans q3
       | 4 => exact (zdf nx4).trans q4
       | n + 5 => exact (zdf nx5).trans q5
   rintro σ' G ⟨d, rfl, hFS, inj, hsm, hfd⟩
   refine ⟨_, rfl, p, rfl, ⟨_, hsm.seq hS⟩, zvt (xs := fns.map λ f => V.ref f.fa) (λ i σ H2 => ∃ (v2 v3 : Option V) (kv : Nat -> List (Key × V)) (nl wl : Nat -> Addr), σ = [some (.ref x), some (.ref p), v2, v3] /\ zal (ers x H) H2 /\ FS t.zay H2 x dx (zov (V.str fz.name) d) d kv /\ kv 0 = kD (λ i _ => .int i) (fns.take i) /\ kv 1 = kD (λ _ f => f.fo) (fns.take i) /\ kv 2 = kD (λ _ f => .ref f.pa) (fns.take i) /\ kv 3 = kD (λ _ f => .ref f.ra) (fns.take i) /\ kv 4 = kD (λ i _ => .ref (nl i)) (fns.take i) /\ kv 5 = kD (λ i _ => .ref (wl i)) (fns.take i) /\ (∀ j g, j < i -> fns[j]? = some g -> hl H2 (nl j) = some (.lst ((nms g).map V.str)) /\ K13.FoundN (hl H2) (wl j) (kds g) (kds g).length) /\ ∀ j, j < 6 -> (kv j).length <= i) ⟨_, _, _, λ _ => 0, λ _ => 0, rfl, hsm, hFS, rfl, rfl, rfl, rfl, rfl, rfl, λ j g h => absurd h (Nat.not_lt_zero _), λ j hj => Nat.le_refl _⟩ ?_ ?_ ?_⟩
   . rintro i σ H2 hi ⟨v2, v3, kv, nlf, wlf, rfl, s2, _⟩
     exact s2.seq hS
   . rintro i y σ H2 b hy ⟨v2, v3, kv, nlf, wlf, rfl, s2, o2, k0, k1, k2, k3, k4, k5, hnw, kl⟩ hb
     obtain ⟨f, hi, hm, rfl⟩ := zl4 hy
     have ilt : i < fns.length := (List.getElem?_eq_some_iff.mp hi).1
     have hT := (hE f hm).fn
     have hfu := (hE f hm).fu
     have fit : ∀ {n : Nat}, n <= i + 1 -> n < sizeLine := λ {n} h => zug (by omega)
     refine ⟨b, _, rfl, SqT.of zab, rfl, _, _, rfl, _, _, rfl, rfl, ?_⟩
     have s3 := s2.trans (zal.new (o := .tup [.int i, .ref f.fa]) hb)
     have o3 := o2.mono (zal.new (o := .tup [.int i, .ref f.fa]) hb)
     refine ⟨_, rfl, _, rfl, x, t.zay, dx, _, _, rfl, o3.ob, T.zcj.cl, T.zcp, zu0 _ _, _, rfl, f.fa, _, _, _, rfl, rfl, s3.tup hT, at0, d 0, _, rfl, zkr.k (k := (Sum.inr f.name : Key)) (show _ = some (HO.dK (kv 0)) from o3.dc 0 (by decide)) (fit (by have := kl 0 (by decide); simpa using (by omega : _ <= i + 1))), ?_⟩
     have s4 := zal.upd (o := .dK (za3 (kv 0) (Sum.inr f.name : Key) (V.int i))) s3 (hfd 0)
     have o4 := o3.put inj 0 (by decide) (za3 (kv 0) (Sum.inr f.name : Key) (V.int i))
     refine ⟨_, rfl, f.fa, _, _, _, rfl, rfl, s4.tup hT, rfl, _, rfl, x, t.zay, dx, _, _, rfl, o4.ob, T.zcj.cl, T.zco, zuz _ _, _, rfl, f.fa, _, _, _, rfl, rfl, s4.tup hT, at0, d 1, _, rfl, zkr.k (k := (Sum.inr f.name : Key)) (show _ = some (HO.dK (kv 1)) from o4.dc 1 (by decide)) (fit (by have := kl 1 (by decide); simpa using (by omega : _ <= i + 1))), ?_⟩
     have s5 := zal.upd (o := .dK (za3 (kv 1) (Sum.inr f.name : Key) f.fo)) s4 (hfd 1)
     have o5 := o4.put inj 1 (by decide) (za3 (kv 1) (Sum.inr f.name : Key) f.fo)
     refine ⟨_, rfl, f.fa, _, _, _, rfl, rfl, s5.tup hT, rfl, _, rfl, x, t.zay, dx, _, _, rfl, o5.ob, T.zcj.cl, T.zce, zps _ _, _, rfl, f.fa, _, _, _, rfl, rfl, s5.tup hT, at0, d 2, _, rfl, zkr.k (k := (Sum.inr f.name : Key)) (show _ = some (HO.dK (kv 2)) from o5.dc 2 (by decide)) (fit (by have := kl 2 (by decide); simpa using (by omega : _ <= i + 1))), ?_⟩
     have s6 := zal.upd (o := .dK (za3 (kv 2) (Sum.inr f.name : Key) (.ref f.pa))) s5 (hfd 2)
     have o6 := o5.put inj 2 (by decide) (za3 (kv 2) (Sum.inr f.name : Key) (.ref f.pa))
     refine ⟨_, rfl, f.fa, _, _, _, rfl, rfl, s6.tup hT, rfl, _, rfl, x, t.zay, dx, _, _, rfl, o6.ob, T.zcj.cl, T.zcv, zun _ _, _, rfl, f.fa, _, _, _, rfl, rfl, s6.tup hT, at0, d 3, _, rfl, zkr.k (k := (Sum.inr f.name : Key)) (show _ = some (HO.dK (kv 3)) from o6.dc 3 (by decide)) (fit (by have := kl 3 (by decide); simpa using (by omega : _ <= i + 1))), ?_⟩
     have s7 := zal.upd (o := .dK (za3 (kv 3) (Sum.inr f.name : Key) (.ref f.ra))) s6 (hfd 3)
     have o7 := o6.put inj 3 (by decide) (za3 (kv 3) (Sum.inr f.name : Key) (.ref f.ra))
     refine ⟨_, rfl, f.fa, f.ps, f.ds, rfl, hfu.mono s7, λ nl H8 e8 hnl hl8 => ?_⟩
     have s8 := s7.trans e8
     have o8 := o7.mono e8
     refine ⟨_, rfl, x, t.zay, dx, _, _, rfl, o8.ob, T.zcj.cl, T.zca, zr7 _ _, _, rfl, f.fa, _, _, _, rfl, rfl, s8.tup hT, at0, d 4, _, rfl, zkr.k (k := (Sum.inr f.name : Key)) (show _ = some (HO.dK (kv 4)) from o8.dc 4 (by decide)) (fit (by have := kl 4 (by decide); simpa using (by omega : _ <= i + 1))), ?_⟩
     have s9 := zal.upd (o := .dK (za3 (kv 4) (Sum.inr f.name : Key) (.ref nl))) s8 (hfd 4)
     have o9 := o8.put inj 4 (by decide) (za3 (kv 4) (Sum.inr f.name : Key) (.ref nl))
     refine ⟨_, rfl, f.fa, _, _, _, rfl, rfl, s9.tup hT, rfl, f.ra, kds f, rfl, ((hE f hm).old.mono s9).rows, (hE f hm).wf, (by unfold kds; rw [List.length_map]; have := (hE f hm).len; omega), λ wl HA eA hwl hfn => ?_⟩
     have sA := s9.trans eA
     have oA := o9.mono eA
     refine ⟨_, rfl, x, t.zay, dx, _, _, rfl, oA.ob, T.zcj.cl, T.zcw, zuf _ _, _, rfl, f.fa, _, _, _, rfl, rfl, sA.tup hT, at0, d 5, _, rfl, zkr.k (k := (Sum.inr f.name : Key)) (show _ = some (HO.dK (kv 5)) from oA.dc 5 (by decide)) (fit (by have := kl 5 (by decide); simpa using (by omega : _ <= i + 1))), ?_⟩
     have sB := zal.upd (o := .dK (za3 (kv 5) (Sum.inr f.name : Key) (.ref wl))) sA (hfd 5)
     have oB := oA.put inj 5 (by decide) (za3 (kv 5) (Sum.inr f.name : Key) (.ref wl))
     have c3 : zal (hl H2) (hl H8) := by
       have z1 : zal (hl H2) (hl (upd H2 b (.tup [.int i, .ref f.fa]))) := (zal.new (o := .tup [.int i, .ref f.fa]) hb).hl
       have z2 := e8.hl
       rw [zs6 (o6.dc 3 (by decide)), zs6 (o5.dc 2 (by decide)), zs6 (o4.dc 1 (by decide)), zs6 (o3.dc 0 (by decide))] at z2
       exact z1.trans z2
     have c4 : zal (hl H8) (hl HA) := by
       have z2 := eA.hl
       rw [zs6 (o8.dc 4 (by decide))] at z2
       exact z2
     have c5 : hl (upd HA (d 5) (.dK (za3 (kv 5) (Sum.inr f.name : Key) (.ref wl)))) = hl HA := zs6 (oA.dc 5 (by decide))
     refine ⟨_, _, _, λ j => if j = i then nl else nlf j, λ j => if j = i then wl else wlf j, rfl, sB, oB, ?_, ?_, ?_, ?_, ?_, ?_, λ j g hj hg => ?_, λ j hj => ?_⟩
     . show za3 (kv 0) (Sum.inr f.name : Key) (V.int i) = _
       rw [k0]
       exact zlp hi nd (λ _ _ _ => rfl) rfl
     . show za3 (kv 1) (Sum.inr f.name : Key) f.fo = _
       rw [k1]
       exact zlp hi nd (λ _ _ _ => rfl) rfl
     . show za3 (kv 2) (Sum.inr f.name : Key) (.ref f.pa) = _
       rw [k2]
       exact zlp hi nd (λ _ _ _ => rfl) rfl
     . show za3 (kv 3) (Sum.inr f.name : Key) (.ref f.ra) = _
       rw [k3]
       exact zlp hi nd (λ _ _ _ => rfl) rfl
     . show za3 (kv 4) (Sum.inr f.name : Key) (.ref nl) = _
       rw [k4]
       exact zlp hi nd (λ j _ hj => by show V.ref (nlf j) = V.ref (if j = i then nl else nlf j); rw [if_neg (by omega)]) (by show V.ref nl = V.ref (if i = i then nl else nlf i); rw [if_pos rfl])
     . show za3 (kv 5) (Sum.inr f.name : Key) (.ref wl) = _
       rw [k5]
       exact zlp hi nd (λ j _ hj => by show V.ref (wlf j) = V.ref (if j = i then wl else wlf j); rw [if_neg (by omega)]) (by show V.ref wl = V.ref (if i = i then wl else wlf i); rw [if_pos rfl])
     . rw [c5]
       by_cases hji : j = i
       . subst hji
         rw [hi] at hg
         cases hg
         refine ⟨?_, ?_⟩
         . show hl HA (if j = j then nl else nlf j) = _
           rw [if_pos rfl]
           exact c4 _ _ (zx5 hl8)
         . show K13.FoundN (hl HA) (if j = j then wl else wlf j) _ _
           rw [if_pos rfl]
           exact hfn.hl
       . obtain ⟨y1, y2⟩ := hnw j g (by omega) hg
         refine ⟨?_, ?_⟩
         . show hl HA (if j = i then nl else nlf j) = _
           rw [if_neg hji]
           exact c4 _ _ (c3 _ _ y1)
         . show K13.FoundN (hl HA) (if j = i then wl else wlf j) _ _
           rw [if_neg hji]
           exact y2.mono (c3.trans c4)
     . have e := kl j hj
       match j, hj with
       | 0, _ => exact Nat.le_trans (zau _ _ _) (by omega)
       | 1, _ => exact Nat.le_trans (zau _ _ _) (by omega)
       | 2, _ => exact Nat.le_trans (zau _ _ _) (by omega)
       | 3, _ => exact Nat.le_trans (zau _ _ _) (by omega)
       | 4, _ => exact Nat.le_trans (zau _ _ _) (by omega)
       | 5, _ => exact Nat.le_trans (zau _ _ _) (by omega)
       | n + 6, h => omega
   . rintro σ H2 ⟨v2, v3, kv, nlf, wlf, rfl, s2, o2, k0, k1, k2, k3, k4, k5, hnw, kl⟩
     rw [fl, List.take_length] at k0 k1 k2 k3 k4 k5
     exact q H2 s2 ⟨λ f hf => (hE f hf).mono s2, nd, dx, fz, d, kv, nlf, wlf, hz, o2, k0, k1, k2, k3, k4, k5, λ i f hi => let ⟨y1, y2⟩ := hnw i f (by rw [fl]; exact (List.getElem?_eq_some_iff.mp hi).1) hi; ⟨zqn _ _ y1, y2.mono zqn⟩⟩
end
end K23
namespace K23
open PySem L2 Gx Fl Wk
section
variable {P : Program} {w : World} {K : W.Frag} {mg : Str -> Option Value} {base : Heap} {t : Adr}
theorem zw4 : FnScope ["sign", "one", "other"] ["sign", "one", "other"] (zac zhz) := ⟨rfl, rfl, rfl, by decide +kernel, rfl, by decide +kernel, by decide +kernel⟩
theorem zw7 (T : Txt K mg t) : FnOk P w K mg base CX0 1 t.zv6 t.zwb ["sign", "one", "other"] (zwt K) := T.value.F.ok zw4 (λ vs H Q E h => h.elim) (λ cdv A outer s H vs Q E hr h => h.elim)
theorem zmr : FnScope ["self", "program"] ["self", "program"] (zac zc1) := ⟨rfl, rfl, rfl, by decide +kernel, rfl, by decide +kernel, by decide +kernel⟩
theorem zmn (T : Txt K mg t) : FnOk P w K mg base CX0 6 t.zj0 t.zj3 ["self", "program"] (zmq K t) := by
 have G_Flows_init := zn0 (P := P) (w := w) (base := base) T
 refine T.zi8.F.ok zmr (λ vs H Q E h => ?_) (λ cdv A outer s H vs Q E hr h => ?_)
 . obtain ⟨x, dx, p, fns, rfl, hx, hp, hne, hlen, hall, hnd, q⟩ := h
   rfl
 . obtain ⟨x, dx, p, fns, rfl, hx, hp, hne, hlen, hall, hnd, q⟩ := h
   refine ⟨_, (@zad _ _ _ _ _ (zel (pv 0) (zz5 T.zcj T.zna G_Flows_init (hr.mono (by decide)) (@zaa _ _ _ _ _ (pv 1) zag (by rfl))) (by rfl)) (@zad _ _ _ _ _ (zel (pv 0) (@zd9 _ _ _ _ zag) (by rfl)) (@zad _ _ _ _ _ (zel (pv 0) zh1 (by rfl)) (@zad _ _ _ _ _ (zel (pv 0) (@zd9 _ _ _ _ zag) (by rfl)) (@zad _ _ _ _ _ (zel (pv 0) znt (by rfl)) (@zak _ _ _ (zel (pv 0) zae (by rfl)))))))), ?_⟩
   refine ⟨_, rfl, λ fl fdx hfl hfdx nfd => ?_⟩
   have nxf : x ≠ fl := λ z => by rw [<- z, hx] at hfl; cases hfl
   have nxd : x ≠ fdx := λ z => by rw [<- z, hx] at hfdx; cases hfdx
   have sE : zal (ers x H) (ers fl (upd (upd H fdx (.own fl)) fl (.ins t.zay fdx []))) := λ b o hb => by
     unfold L2.ers at hb
     split at hb
     . cases hb
     . have n1 : b ≠ fl := λ z => by rw [z, hfl] at hb; cases hb
       have n2 : b ≠ fdx := λ z => by rw [z, hfdx] at hb; cases hb
       rw [zdf n1, zah n1, zah n2]
       exact hb
   refine ⟨fl, fdx, p, fns, rfl, zab, sE.seq hp, hne, hlen, λ f hf => (hall f hf).mono sE, hnd, λ H2 s2 hFl => ⟨rfl, ?_⟩⟩
   have hx2 : H2 x = some (.ins t.zam dx []) := s2 _ _ (by rw [zdf nxf, zah nxf, zah nxd]; exact hx)
   have sb : zal (ers x H) (ers x H2) := λ b o hb => by
     have nb : b ≠ x := λ z => by rw [z] at hb; unfold L2.ers at hb; rw [if_pos rfl] at hb; cases hb
     rw [zdf nb]
     exact s2 _ _ (sE _ _ hb)
   have hFb : F2.FlowsAt K t.zay (ers x H2) fl fns := zxc hFl (λ b o hb hn => by
     have nb : b ≠ x := λ z => by rw [z, hx2] at hb; cases hb; exact hn _ _ _ rfl
     rw [zdf nb]
     exact hb) (λ o ho => by rw [zdf nxf.symm]; exact ho)
   refine ⟨_, rfl, x, _, _, _, rfl, hx2, T.zaf.cl, T.za0, (by decide), le0, λ st hst => ⟨_, rfl, x, _, _, _, rfl, zal.new hst _ _ zab, T.zaf.cl, T.zax, Nat.lt_of_le_of_lt (zp6 _ _ _ 0 (Nat.le_refl 0)) (by decide), _, rfl, x, _, _, _, rfl, zab, T.zaf.cl, T.zbp, Nat.lt_of_le_of_lt (zp6 _ _ _ 1 (zp6 _ _ _ 0 (Nat.le_refl 0))) (by decide), le0, λ sd hsd => ⟨_, rfl, x, _, _, _, rfl, zal.new hsd _ _ zab, T.zaf.cl, T.zci, Nat.lt_of_le_of_lt (zp6 _ _ _ 2 (zp6 _ _ _ 1 (zp6 _ _ _ 0 (Nat.le_refl 0)))) (by decide), λ ct hct => ⟨_, rfl, x, _, _, _, rfl, zal.new hct _ _ zab, T.zaf.cl, T.zbm, Nat.lt_of_le_of_lt (zp6 _ _ _ 3 (zp6 _ _ _ 2 (zp6 _ _ _ 1 (zp6 _ _ _ 0 (Nat.le_refl 0))))) (by decide), _, rfl, x, _, _, _, rfl, zab, T.zaf.cl, T.zbq, Nat.lt_of_le_of_lt (zp6 _ _ _ 4 (zp6 _ _ _ 3 (zp6 _ _ _ 2 (zp6 _ _ _ 1 (zp6 _ _ _ 0 (Nat.le_refl 0)))))) (by decide), ?_⟩⟩⟩⟩
   have nst : st ≠ x := λ z => by rw [z, zab] at hst; cases hst
   have hst2 : H2 st = none := by rwa [zah nst] at hst
   have nsd : sd ≠ x := λ z => by rw [z, zab] at hsd; cases hsd
   rw [zah nsd, zah nsd] at hsd
   have nss : sd ≠ st := λ z => by rw [z, zab] at hsd; cases hsd
   have hsd2 : H2 sd = none := by rwa [zah nss, zah nsd] at hsd
   have nct : ct ≠ x := λ z => by rw [z, zab] at hct; cases hct
   rw [zah nct] at hct
   have ncd : ct ≠ sd := λ z => by rw [z, zab] at hct; cases hct
   rw [zah ncd, zah nct, zah nct] at hct
   have ncs : ct ≠ st := λ z => by rw [z, zab] at hct; cases hct
   have hct2 : H2 ct = none := by rwa [zah ncs, zah nct] at hct
   have hb0 : ∀ {b : Addr}, H2 b = none -> ers x H2 b = none := λ {b} hb => by
     unfold L2.ers
     split
     . rfl
     . exact hb
   have fin : ∀ b o, ers x H2 b = some o -> b ≠ x /\ b ≠ st /\ b ≠ sd /\ b ≠ ct /\ H2 b = some o := λ b o hb => by
     unfold L2.ers at hb
     split at hb
     . cases hb
     . rename_i nb
       exact ⟨nb, (λ z => by rw [z, hst2] at hb; cases hb), (λ z => by rw [z, hsd2] at hb; cases hb), (λ z => by rw [z, hct2] at hb; cases hb), hb⟩
   refine q (ers x H2) ⟨x, dx, st, sd, ct, fl⟩ _ rfl sb ⟨λ b o hb => ?_, zab, ?_, ?_, ?_, (λ f hf => by cases hf), List.nodup_nil, List.nodup_nil, nss.symm, (λ f hf => by cases hf), ⟨ncs, ncd, nct⟩, (λ f hf => by cases hf), ?_, hb0 hst2, hb0 hsd2, hb0 hct2, (λ f hf => by cases hf)⟩ hFb
   . obtain ⟨n1, n2, n3, n4, e⟩ := fin b o hb
     rw [zah n1, zah n1, zah n4, zah n1, zah n3, zah n1, zah n1, zah n2, zah n1]
     exact e
   . show upd _ x _ st = _
     rw [zah nst, zah nst, zah ncs.symm, zah nst, zah nss.symm, zah nst, zah nst, zab]
     rfl
   . show upd _ x _ sd = _
     rw [zah nsd, zah nsd, zah ncd.symm, zah nsd, zab]
   . show upd _ x _ ct = _
     rw [zah nct, zah nct, zab]
   . show ers x H2 x = none
     unfold L2.ers
     rw [if_pos rfl]
theorem zlv : FnScope ["self"] ["self"] (zac zcl) := ⟨rfl, rfl, rfl, by decide +kernel, rfl, by decide +kernel, by decide +kernel⟩
theorem zhr (T : Txt K mg t) : FnOk P w K mg base CX0 1 t.ziw t.ziy ["self"] (zlq K t) := by
 refine T.ze0.F.ok zlv (λ vs H Q E h => ?_) (λ cdv A outer s H vs Q E hr h => ?_)
 . obtain ⟨Hb, w, fs, oc, sent, cn, rfl, h, q⟩ := h
   rfl
 . obtain ⟨Hb, w, fs, oc, sent, cn, rfl, h, q⟩ := h
   refine ⟨_, (@zad _ _ _ _ _ (@zav _ _ _ _ (zns zdw (zb6 zbj (by rfl) T.b_len zfp (@zaa _ _ _ _ _ (zbx (pv 0) (by rfl)) zag (by rfl))) zae (zbb _))) zas), ?_⟩
   refine ⟨_, rfl, w.a, _, _, _, _, rfl, h.o, T.zaf.cl, T.zax, rfl, w.st, _, rfl, .inl (SqL.of h.st), rfl, vq (congrArg V.bl ?_) q⟩
   rw [Bool.eq_iff_iff, decide_eq_true_eq, decide_eq_true_eq]
   cases fs with
   | nil => exact ⟨λ _ => rfl, λ _ => rfl⟩
   | cons f r => exact ⟨(λ z => by have := V.int.inj z; simp at this; omega), λ z => by cases z⟩
theorem zlc : FnScope ["self"] ["self"] (zac zcf) := ⟨rfl, rfl, rfl, by decide +kernel, rfl, by decide +kernel, by decide +kernel⟩
theorem zk8 (T : Txt K mg t) : FnOk P w K mg base CX0 1 t.zia t.zid ["self"] (zk5 K t) := by
 refine T.zg6.F.ok zlc (λ vs H Q E h => ?_) (λ cdv A outer s H vs Q E hr h => ?_)
 . obtain ⟨Hb, w, fs, oc, sent, cn, rfl, h, q⟩ := h
   rfl
 . obtain ⟨Hb, w, fs, oc, sent, cn, rfl, h, q⟩ := h
   refine ⟨_, (@zad _ _ _ _ _ (@zav _ _ _ _ (zbx (pv 0) (by rfl))) zas), ?_⟩
   exact ⟨_, rfl, w.a, _, _, _, _, rfl, h.o, T.zaf.cl, T.zbp, rfl, q⟩
theorem zlj : FnScope ["self", "record", "name"] ["self", "record", "name"] (zac zcm) := ⟨rfl, rfl, rfl, by decide +kernel, rfl, by decide +kernel, by decide +kernel⟩
theorem zfv (T : Txt K mg t) : FnOk P w K mg base CX0 1 t.zix t.ziz ["self", "record", "name"] (zlx K t) := by
 refine T.zc3.F.ok zlj (λ vs H Q E h => ?_) (λ cdv A outer s H vs Q E hr h => ?_)
 . obtain ⟨Hb, w, fs, oc, sent, cn, i, n, rfl, h, q⟩ := h
   rfl
 . obtain ⟨Hb, w, fs, oc, sent, cn, i, n, rfl, h, q⟩ := h
   refine ⟨_, (@zad _ _ _ _ _ (@zav _ _ _ _ (zjv (u1' hr.units) (zbx (pv 0) (by rfl)) (@zcn _ _ _ _ _ (@zaa _ _ _ _ _ (pv 1) (@zaa _ _ _ _ _ (pv 2) zag (by rfl)) (by rfl))) zae ⟨rfl, rfl, rfl, rfl⟩)) zas), ?_⟩
   refine ⟨_, rfl, w.a, _, _, _, _, rfl, h.o, T.zaf.cl, T.zbm, rfl, w.ct, rfl, .inr ⟨_, .inl h.ct⟩, _, rfl, _, rfl, le2, λ p hp => ⟨_, zlb.t (k := fk i n) (zal.new hp _ _ h.ct) zab, q _ (zal.new hp)⟩⟩
theorem zhc : FnScope ["self", "frame"] ["self", "frame"] (zac za6) := ⟨rfl, rfl, rfl, by decide +kernel, rfl, by decide +kernel, by decide +kernel⟩
theorem zhf (T : Txt K mg t) : FnOk P w K mg base CX0 1 t.ze1 t.ze4 ["self", "frame"] (zhh K t) := by
 refine T.zdz.F.ok zhc (λ vs H Q E h => ?_) (λ cdv A outer s H vs Q E hr h => ?_)
 . obtain ⟨x, f, rfl, h, q⟩ := h
   rfl
 . obtain ⟨x, f, rfl, h, q⟩ := h
   refine ⟨_, (@zad _ _ _ _ _ (@zav _ _ _ _ (@zd9 _ _ _ _ (@zaa _ _ _ _ _ (@zcn _ _ _ _ _ (@zaa _ _ _ _ _ (zbx (pv 1) (by rfl)) (@zaa _ _ _ _ _ (zbx (pv 1) (by rfl)) zag (by rfl)) (by rfl))) zag (by rfl)))) zas), ?_⟩
   refine ⟨_, rfl, f.a, _, _, _, _, rfl, h.o, T.zar.cl, T.zbf, rfl, _, rfl, f.a, _, _, _, _, rfl, h.o, T.zar.cl, T.zb7, rfl, le2, λ tp htp => ⟨le1, λ l hl => ?_⟩⟩
   have ne : l ≠ tp := λ z => by rw [z, zab] at hl; cases hl
   exact q tp l htp (by rwa [zah ne] at hl) ne
theorem zhk : FnScope ["self", "level"] ["self", "level"] (zac za5) := ⟨rfl, rfl, rfl, by decide +kernel, rfl, by decide +kernel, by decide +kernel⟩
theorem zek (T : Txt K mg t) : FnOk P w K mg base CX0 2 t.ze2 t.ze5 ["self", "level"] (zhd K t) := by
 have G_TextWalker_chain_of := zhf (P := P) (w := w) (base := base) T
 refine T.zcu.F.ok zhk (λ vs H Q E h => ?_) (λ cdv A outer s H vs Q E hr h => ?_)
 . obtain ⟨Hb, w, fs, oc, sent, cn, i, f, rfl, h, hf, q⟩ := h
   rfl
 . obtain ⟨Hb, w, fs, oc, sent, cn, i, f, rfl, h, hf, q⟩ := h
   refine ⟨_, (@zad _ _ _ _ _ (@zcd _ _ _ _ _ _ _ _ (@PW.pt _ _ _ (zmm (@zaw _ _ _ _ _ _ _ _ zsz (pv 1) zae (zbb _)) (zl6 (@zaw _ _ _ _ _ _ _ _ z2c (pv 1) (zb6 zbj (by rfl) T.b_len zfp (@zaa _ _ _ _ _ (zbx (pv 0) (by rfl)) zag (by rfl))) (zbb _))))) (@zak _ _ _ (@zav _ _ _ _ zh1)) zas) (@zak _ _ _ (@zav _ _ _ _ (@zao _ _ _ _ _ _ _ zat (zbn (pv 0) T.zaf.cl T.zdz.m G_TextWalker_chain_of (hr.mono (by decide)) T.zdz.b .nil zcz (@zaa _ _ _ _ _ (@zao _ _ _ _ _ _ _ zat (zbx (pv 0) (by rfl)) (pv 1) (λ _ _ => rfl)) zag (by rfl))) zae (λ _ _ => rfl))))), ?_⟩
   have hF := h.fr f (List.mem_of_getElem? hf)
   have hi := (List.getElem?_eq_some_iff.mp hf).1
   refine ⟨_, rfl, _, _, rfl, rfl, _, rfl, zbw (λ z => by have := zeb z; omega) ⟨_, rfl, _, rfl, w.a, _, _, _, _, rfl, h.o, T.zaf.cl, T.zax, rfl, w.st, _, rfl, .inl (SqL.of h.st), _, _, rfl, rfl, _, rfl, zbw (λ z => by have := zeb z; rw [List.length_map] at this; omega) ?_⟩⟩
   refine ⟨_, rfl, w.a, _, _, rfl, h.o, rfl, _, rfl, w.a, _, _, _, _, rfl, h.o, T.zaf.cl, T.zax, rfl, _, rfl, w.st, _, _, _, rfl, rfl, SqL.of h.st, zmw (by omega) (by rw [Int.toNat_natCast]; exact hf), .ref w.a, f, rfl, hF, λ tp l htp hl ne => ⟨l, _, _, _, rfl, rfl, SqL.of zab, at0, ?_⟩⟩
   have s1 := zal.new (o := z2h f) htp
   have hl' : upd H tp (z2h f) l = none := by rw [zah ne]; exact hl
   exact q tp _ htp (s1.trans (zal.new hl')) (zal.new hl' _ _ zab)
theorem zgz : FnScope ["self", "level"] ["self", "level"] (zac za1) := ⟨rfl, rfl, rfl, by decide +kernel, rfl, by decide +kernel, by decide +kernel⟩
theorem zg0 (T : Txt K mg t) : FnOk P w K mg base CX0 3 t.zem t.zen ["self", "level"] (zgx K t) := by
 have G_TextWalker_shown_at := zek (P := P) (w := w) (base := base) T
 refine T.zdx.F.ok zgz (λ vs H Q E h => ?_) (λ cdv A outer s H vs Q E hr h => ?_)
 . obtain ⟨Hb, w, fs, oc, sent, cn, i, rfl, h, hi, q⟩ := h
   rfl
 . obtain ⟨Hb, w, fs, oc, sent, cn, i, rfl, h, hi, q⟩ := h
   refine ⟨_, (@zad _ _ _ _ _ (@zcd _ _ _ _ _ _ _ _ (zpj (zvm (zbn (pv 0) T.zaf.cl T.zcu.m G_TextWalker_shown_at (hr.mono (by decide)) T.zcu.b .nil zcz (@zaa _ _ _ _ _ (pv 1) zag (by rfl))))) (@zak _ _ _ zn7) zas) zas), ?_⟩
   have hf : fs[i]? = some fs[i] := List.getElem?_eq_getElem hi
   exact ⟨_, rfl, w.a, _, _, rfl, h.o, rfl, _, rfl, Hb, w, fs, oc, sent, cn, i, fs[i], rfl, h, hf, λ tp H1 htp s1 e1 => ⟨_, rfl, zbw (by simp) (q H1 s1)⟩⟩
theorem zjl : FnScope ["self", "level"] ["self", "level"] (zac zbz) := ⟨rfl, rfl, rfl, by decide +kernel, rfl, by decide +kernel, by decide +kernel⟩
theorem zjh (T : Txt K mg t) : FnOk P w K mg base CX0 3 t.zgq t.zgu ["self", "level"] (zjq K t) := by
 have G_TextWalker_shown_at := zek (P := P) (w := w) (base := base) T
 refine T.zfx.F.ok zjl (λ vs H Q E h => ?_) (λ cdv A outer s H vs Q E hr h => ?_)
 . obtain ⟨Hb, w, fs, oc, sent, cn, i, f, fns, F, rfl, h, hf, hFl, hF, hn, q⟩ := h
   rfl
 . obtain ⟨Hb, w, fs, oc, sent, cn, i, f, fns, F, rfl, h, hf, hFl, hF, hn, q⟩ := h
   refine ⟨_, (@zad _ _ _ _ _ (@zav _ _ _ _ (zjv (u1' hr.units) (zbx (zbx (pv 0) (by rfl)) (by rfl)) (@zao _ _ _ _ _ _ _ zap (zbn (pv 0) T.zaf.cl T.zcu.m G_TextWalker_shown_at (hr.mono (by decide)) T.zcu.b .nil zcz (@zaa _ _ _ _ _ (pv 1) zag (by rfl))) zae (λ _ _ => rfl)) (@zcn _ _ _ _ _ zag) ⟨rfl, rfl, rfl, rfl⟩)) zas), ?_⟩
   have hFl := hFl.mono h.b
   obtain ⟨nl, ⟨dx, gs, d, kvs, e1, e2, e3, e4⟩, e5⟩ := zr6 hFl hF
   rw [hn] at e4
   refine ⟨_, rfl, w.a, _, _, _, _, rfl, h.o, T.zaf.cl, T.za0, rfl, w.fl, _, _, _, _, rfl, e1, T.zcj.cl, T.zca, e2, d, rfl, .inl ⟨_, .inl e3⟩, _, rfl, w.a, _, _, rfl, h.o, rfl, _, rfl, Hb, w, fs, oc, sent, cn, i, f, rfl, h, hf, λ tp H1 htp s1 t1 => ⟨tp, _, _, _, rfl, rfl, SqT.of t1, at0, le0, λ te hte => ⟨_, zep (zal.new hte _ _ (s1 _ _ e3)) e4, ?_⟩⟩⟩
   exact q nl _ (s1.trans (zal.new hte)) (SqL.of (zal.new hte _ _ (s1 _ _ e5)))
theorem zhg : FnScope ["self", "level", "name"] ["self", "level", "name"] (zac za4) := ⟨rfl, rfl, rfl, by decide +kernel, rfl, by decide +kernel, by decide +kernel⟩
theorem zhe (T : Txt K mg t) : FnOk P w K mg base CX0 4 t.ze3 t.ze6 ["self", "level", "name"] (zhj K t) := by
 have G_Walker_ask_for_level := zg0 (P := P) (w := w) (base := base) T
 have G_Walker_names_at := zjh (P := P) (w := w) (base := base) T
 refine T.zd0.F.ok zhg (λ vs H Q E h => ?_) (λ cdv A outer s H vs Q E hr h => ?_)
 . obtain ⟨Hb, w, fs, oc, sent, cn, i, f, n, fns, F, rfl, h, hf, hFl, hF, hn, hm, q⟩ := h
   rfl
 . obtain ⟨Hb, w, fs, oc, sent, cn, i, f, n, fns, F, rfl, h, hf, hFl, hF, hn, hm, q⟩ := h
   refine ⟨_, (@zad _ _ _ _ _ (@zct _ _ _ _ (zbn (pv 0) T.zaf.cl T.zdx.m G_Walker_ask_for_level (hr.mono (by decide)) T.zdx.b .nil zcz (@zaa _ _ _ _ _ (pv 1) zag (by rfl))) (by rfl)) (@zak _ _ _ (@zcd _ _ _ _ _ _ _ _ (@zaw _ _ _ _ _ _ _ _ zh3 (pv 2) (zbn (pv 0) T.zaf.cl T.zfx.m G_Walker_names_at (hr.mono (by decide)) T.zfx.b .nil zcz (@zaa _ _ _ _ _ (pv 1) zag (by rfl))) (by with_unfolding_all rfl)) (@zak _ _ _ zn7) zas))), ?_⟩
   have hi := (List.getElem?_eq_some_iff.mp hf).1
   refine ⟨_, rfl, w.a, _, _, rfl, h.o, rfl, _, rfl, Hb, w, fs, oc, sent, cn, i, rfl, h, hi, λ H1 s1 => ?_⟩
   have h1 := h.grow s1
   have hFl1 := hFl.mono (zb5 (H2 := H1) h.b)
   refine ⟨_, rfl, _, rfl, w.a, _, _, rfl, h1.o, rfl, _, rfl, _, w, fs, oc, sent, cn, i, f, fns, F, rfl, h1, hf, hFl1, hF, hn, λ nl H2 s2 e2 => ⟨nl, _, rfl, .inl e2, rfl, zfl _, _, rfl, zbw ?_ (q H2 (s1.trans s2))⟩⟩
   rw [zwz hm]
   decide
theorem zjr : FnScope ["self", "level", "name"] ["self", "level", "name"] (zac zb2) := ⟨rfl, rfl, rfl, by decide +kernel, rfl, by decide +kernel, by decide +kernel⟩
theorem zjm (T : Txt K mg t) : FnOk P w K mg base CX0 1 t.zgp t.zgt ["self", "level", "name"] (zjo K t) := by
 refine T.zfw.F.ok zjr (λ vs H Q E h => ?_) (λ cdv A outer s H vs Q E hr h => ?_)
 . obtain ⟨Hb, w, fs, oc, sent, cn, i, f, n, v, rfl, h, hf, hv, q⟩ := h
   rfl
 . obtain ⟨Hb, w, fs, oc, sent, cn, i, f, n, v, rfl, h, hf, hv, q⟩ := h
   refine ⟨_, (@zad _ _ _ _ _ (@zav _ _ _ _ (zdl (u1' hr.units) (zbx (@zao _ _ _ _ _ _ _ zat (zbx (pv 0) (by rfl)) (pv 1) (λ _ _ => rfl)) (by rfl)) (pv 2) (λ _ _ => rfl))) zas), ?_⟩
   have hF := h.fr f (List.mem_of_getElem? hf)
   exact ⟨_, rfl, w.a, _, _, _, _, rfl, h.o, T.zaf.cl, T.zax, rfl, _, rfl, w.st, _, _, _, rfl, rfl, SqL.of h.st, zmw (by omega) (by rw [Int.toNat_natCast]; exact hf), f.a, _, _, _, _, rfl, hF.o, T.zar.cl, T.za9, rfl, _, rfl, f.nd, _, rfl, (by have := zlb.k (k := (Sum.inr n : Key)) hF.n; rw [hv] at this; exact this), q⟩
theorem zml : FnScope ["self", "level", "name"] ["self", "level", "name"] (zac zc2) := ⟨rfl, rfl, rfl, by decide +kernel, rfl, by decide +kernel, by decide +kernel⟩
theorem zmj (T : Txt K mg t) : FnOk P w K mg base CX0 5 t.zj2 t.zj5 ["self", "level", "name"] (zmo K t) := by
 have G_Walker_ask_for_name := zhe (P := P) (w := w) (base := base) T
 have G_TextWalker_tell := zjm (P := P) (w := w) (base := base) T
 refine T.zi9.F.ok zml (λ vs H Q E h => ?_) (λ cdv A outer s H vs Q E hr h => ?_)
 . obtain ⟨Hb, w, fs, oc, sent, cn, i, f, n, v, fns, F, rfl, h, hf, hFl, hF, hn, hm, hv, q⟩ := h
   rfl
 . obtain ⟨Hb, w, fs, oc, sent, cn, i, f, n, v, fns, F, rfl, h, hf, hFl, hF, hn, hm, hv, q⟩ := h
   refine ⟨_, (@zad _ _ _ _ _ (@zct _ _ _ _ (zbn (pv 0) T.zaf.cl T.zd0.m G_Walker_ask_for_name (hr.mono (by decide)) T.zd0.b .nil zcz (@zaa _ _ _ _ _ (pv 1) (@zaa _ _ _ _ _ (pv 2) zag (by rfl)) (by rfl))) (by rfl)) (@zak _ _ _ (@zav _ _ _ _ (zbn (pv 0) T.zaf.cl T.zfw.m G_TextWalker_tell (hr.mono (by decide)) T.zfw.b .nil zcz (@zaa _ _ _ _ _ (pv 1) (@zaa _ _ _ _ _ (pv 2) zag (by rfl)) (by rfl)))))), ?_⟩
   refine ⟨_, rfl, w.a, _, _, rfl, h.o, rfl, _, rfl, _, rfl, Hb, w, fs, oc, sent, cn, i, f, n, fns, F, rfl, h, hf, hFl, hF, hn, hm, λ H1 s1 => ?_⟩
   have h1 := h.grow s1
   exact ⟨_, rfl, w.a, _, _, rfl, h1.o, rfl, _, rfl, _, rfl, _, w, fs, oc, sent, cn, i, f, n, v, rfl, h1, hf, hv, q H1 s1⟩
theorem ziq : FnScope ["self", "frame"] ["self", "frame"] (zac zbi) := ⟨rfl, rfl, rfl, by decide +kernel, rfl, by decide +kernel, by decide +kernel⟩
theorem zfb (T : Txt K mg t) : FnOk P w K mg base CX0 1 t.zf1 t.zf3 ["self", "frame"] (zio K t) := by
 refine T.zdb.F.ok ziq (λ vs H Q E h => ?_) (λ cdv A outer s H vs Q E hr h => ?_)
 . obtain ⟨Hb, w, fs, oc, sent, cn, f, fns, F, r, rfl, h, hf, hFl, hF, hn, hr1, q⟩ := h
   rfl
 . obtain ⟨Hb, w, fs, oc, sent, cn, f, fns, F, r, rfl, h, hf, hFl, hF, hn, hr1, q⟩ := h
   refine ⟨_, (@zad _ _ _ _ _ (@zav _ _ _ _ (@zao _ _ _ _ _ _ _ zap (zdl (u1' hr.units) (zbx (zbx (pv 0) (by rfl)) (by rfl)) (zbx (pv 1) (by rfl)) (λ _ _ => rfl)) (zbx (pv 1) (by rfl)) (λ _ _ => rfl))) zas), ?_⟩
   have hf1 := h.fr f hf
   have hFl := hFl.mono h.b
   obtain ⟨dx, gs, d, kvs, e1, e2, e3, e4⟩ := z0c hFl hF
   rw [hn] at e4
   exact ⟨_, rfl, w.a, _, _, _, _, rfl, h.o, T.zaf.cl, T.za0, rfl, w.fl, _, _, _, _, rfl, e1, T.zcj.cl, T.zcv, e2, _, rfl, f.a, _, _, _, _, rfl, hf1.o, T.zar.cl, T.zbf, rfl, d, _, rfl, zep e3 e4, _, rfl, f.a, _, _, _, _, rfl, hf1.o, T.zar.cl, T.zb7, rfl, F.ra, _, _, _, rfl, rfl, (hFl.all F hF).rw_, zmw (by omega) (by rw [Int.toNat_natCast]; exact hr1), q⟩
theorem zh8 : FnScope ["self", "atom"] ["self", "atom"] (zac zbc) := ⟨rfl, rfl, rfl, by decide +kernel, rfl, by decide +kernel, by decide +kernel⟩
theorem zdo (T : Txt K mg t) : FnOk P w K mg base CX0 1 t.zfc t.zfg ["self", "atom"] (zhv K t) := by
 refine T.zan.F.ok zh8 (λ vs H Q E h => ?_) (λ cdv A outer s H vs Q E hr h => ?_)
 . obtain ⟨f, v, y, rfl, h, hv, q⟩ := h
   rfl
 . obtain ⟨f, v, y, rfl, h, hv, q⟩ := h
   refine ⟨_, (@zad _ _ _ _ _ (@zav _ _ _ _ (@znp _ _ _ _ _ _ _ _ (zf6 (zb6 zdu (by rfl) T.b_isinstance zcy (@zaa _ _ _ _ _ (pv 1) (@zaa _ _ _ _ _ (zhy (v := V.ty "str") rfl T.b_str zrj rfl) zag (by rfl)) (by rfl)))) (zdl (u1' hr.units) (zbx (pv 0) (by rfl)) (pv 1) (λ _ _ => rfl)) (pv 1))) zas), ?_⟩
   cases v with
   | str n => exact ⟨_, rfl, _, "str", _, true, rfl, .str _, rfl, _, rfl, z01 ⟨_, rfl, f.a, _, _, _, _, rfl, h.o, T.zar.cl, T.za9, rfl, _, rfl, f.nd, _, rfl, (by have := zlb.k (k := (Sum.inr n : Key)) h.n; rw [show zdc f.kvs (Sum.inr n : Key) = some y from hv] at this; exact this), q⟩⟩
   | int i =>
     cases hv
     exact ⟨_, rfl, _, "str", _, false, rfl, .int _, rfl, _, rfl, z2g ⟨_, rfl, q⟩⟩
   | _ => cases hv
theorem zgl : FnScope ["self", "frame", "row"] ["self", "frame", "row"] (zac zaz) := ⟨rfl, rfl, rfl, by decide +kernel, rfl, by decide +kernel, by decide +kernel⟩
theorem zgj (T : Txt K mg t) : FnOk P w K mg base CX0 2 t.zd6 t.zd7 ["self", "frame", "row"] (zgk K t) := by
 have G_value := zw7 (P := P) (w := w) (base := base) T
 have G_TextFrame_value_of := zdo (P := P) (w := w) (base := base) T
 have G_Walker_field := zfv (P := P) (w := w) (base := base) T
 refine T.zdm.F.ok zgl (λ vs H Q E h => ?_) (λ cdv A outer s H vs Q E hr h => ?_)
 . obtain ⟨Hb, w, fs, oc, sent, cn, f, r, rg, x0, v, rfl, h, hr1, hk, hg, q⟩ := h
   rfl
 . obtain ⟨Hb, w, fs, oc, sent, cn, f, r, rg, x0, v, rfl, h, hr1, hk, hg, q⟩ := h
   refine ⟨_, (@zad _ _ _ _ _ (@zcd _ _ _ _ _ _ _ _ (@zaw _ _ _ _ _ _ _ _ zdw (@zao _ _ _ _ _ _ _ zap (pv 2) zae (λ _ _ => rfl)) zbh (zbb _)) (@zak _ _ _ (@zav _ _ _ _ (zbn (pv 0) T.zaf.cl T.zc3.m G_Walker_field (hr.mono (by decide)) T.zc3.b .nil zcz (@zaa _ _ _ _ _ (zbn (pv 1) T.zar.cl T.zan.m G_TextFrame_value_of (hr.mono (by decide)) T.zan.b .nil zcz (@zaa _ _ _ _ _ (@zao _ _ _ _ _ _ _ zap (pv 2) zae (λ _ _ => rfl)) zag (by rfl))) (@zaa _ _ _ _ _ (@zao _ _ _ _ _ _ _ zap (pv 2) zae (λ _ _ => rfl)) zag (by rfl)) (by rfl))))) zas) (@zad _ _ _ _ _ (@zcd _ _ _ _ _ _ _ _ (@zaw _ _ _ _ _ _ _ _ zdw (@zao _ _ _ _ _ _ _ zap (pv 2) zae (λ _ _ => rfl)) zbh (zbb _)) (@zak _ _ _ (@zav _ _ _ _ (zc4 T.value G_value (hr.mono (by decide)) (@zaa _ _ _ _ _ (@zao _ _ _ _ _ _ _ zap (pv 2) zae (λ _ _ => rfl)) (@zaa _ _ _ _ _ (zbn (pv 1) T.zar.cl T.zan.m G_TextFrame_value_of (hr.mono (by decide)) T.zan.b .nil zcz (@zaa _ _ _ _ _ (@zao _ _ _ _ _ _ _ zap (pv 2) zae (λ _ _ => rfl)) zag (by rfl))) (@zaa _ _ _ _ _ (zbn (pv 1) T.zar.cl T.zan.m G_TextFrame_value_of (hr.mono (by decide)) T.zan.b .nil zcz (@zaa _ _ _ _ _ (@zao _ _ _ _ _ _ _ zap (pv 2) zae (λ _ _ => rfl)) zag (by rfl))) zag (by rfl)) (by rfl)) (by rfl))))) zas) (@zak _ _ _ (@zav _ _ _ _ (zbn (pv 1) T.zar.cl T.zan.m G_TextFrame_value_of (hr.mono (by decide)) T.zan.b .nil zcz (@zaa _ _ _ _ _ (@zao _ _ _ _ _ _ _ zap (pv 2) zae (λ _ _ => rfl)) zag (by rfl))))))), ?_⟩
   have hF := h.fr f (List.mem_append_right _ (List.mem_singleton.mpr rfl))
   rcases hk with ⟨x, a, rfl⟩ | ⟨x, a, fd, rfl⟩
   . obtain ⟨_, hu⟩ := zl1 hg
     exact ⟨_, rfl, r, _, _, _, rfl, rfl, hr1, at0, rfl, _, rfl, zbw (by decide +kernel) ⟨_, rfl, r, _, _, _, rfl, rfl, hr1, at0, rfl, _, rfl, zbw (by decide +kernel) ⟨_, rfl, f.a, _, _, rfl, hF.o, rfl, _, rfl, r, _, _, _, rfl, rfl, hr1, rfl, f, a, v, rfl, hF, hu, q H (zal.refl _)⟩⟩⟩
   . obtain ⟨_, i, ea, rfl⟩ := zm2 hg
     exact ⟨_, rfl, r, _, _, _, rfl, rfl, hr1, at0, rfl, _, rfl, zfq (by decide +kernel) ⟨_, rfl, w.a, _, _, rfl, h.o, rfl, _, rfl, f.a, _, _, rfl, hF.o, rfl, _, rfl, r, _, _, _, rfl, rfl, hr1, rfl, f, a, _, rfl, hF, ea, _, rfl, r, _, _, _, rfl, rfl, hr1, rfl, Hb, w, fs ++ [f], oc, sent, cn, i, fd, rfl, h, λ H1 s1 => q H1 s1⟩⟩
theorem zjj : FnScope ["self", "number"] ["self", "number"] (zac zb1) := ⟨rfl, rfl, rfl, by decide +kernel, rfl, by decide +kernel, by decide +kernel⟩
theorem zjy (T : Txt K mg t) : FnOk P w K mg base CX0 1 t.zgr t.zgv ["self", "number"] (zje K t) := T.zfy.F.ok zjj (λ vs H Q E h => h.elim) (λ cdv A outer s H vs Q E hr h => h.elim)
theorem zi6 : FnScope ["self", "record", "name", "number"] ["self", "record", "name", "number"] (zac zbt) := ⟨rfl, rfl, rfl, by decide +kernel, rfl, by decide +kernel, by decide +kernel⟩
theorem zi1 (T : Txt K mg t) : FnOk P w K mg base CX0 1 t.zge t.zgh ["self", "record", "name", "number"] (zi4 K t) := by
 refine T.ze8.F.ok zi6 (λ vs H Q E h => ?_) (λ cdv A outer s H vs Q E hr h => ?_)
 . obtain ⟨Hb, w, fs, oc, sent, cn, i, n, v, rfl, h, hl, q⟩ := h
   rfl
 . obtain ⟨Hb, w, fs, oc, sent, cn, i, n, v, rfl, h, hl, q⟩ := h
   refine ⟨_, (@zad _ _ _ _ _ (zda (u1' hr.units) (zbx (pv 0) (by rfl)) (@zcn _ _ _ _ _ (@zaa _ _ _ _ _ (pv 1) (@zaa _ _ _ _ _ (pv 2) zag (by rfl)) (by rfl))) (pv 3) (by rfl)) (@zak _ _ _ (@zav _ _ _ _ (@zcn _ _ _ _ _ (@zaa _ _ _ _ _ zbh (@zaa _ _ _ _ _ (pv 1) (@zaa _ _ _ _ _ (pv 2) (@zaa _ _ _ _ _ (pv 3) zag (by rfl)) (by rfl)) (by rfl)) (by rfl)))))), ?_⟩
   refine ⟨_, rfl, _, rfl, w.a, _, _, _, _, rfl, h.o, T.zaf.cl, T.zbm, rfl, _, rfl, _, rfl, le2, λ p hp => ?_⟩
   have s1 := zal.new (o := .tup [V.int i, V.str n]) hp
   have h1 := h.grow s1
   have g1 := zb5 (H2 := upd H p (.tup [V.int i, V.str n])) h.b
   have e1 := zab (H := H) (a := p) (o := .tup [V.int i, V.str n])
   generalize upd H p (.tup [V.int i, V.str n]) = H1 at s1 h1 g1 e1 ⊢
   refine ⟨w.ct, _, rfl, zkr.t (k := fk i n) h1.ct e1 (za8 hl), ?_⟩
   have h2 := h1.cont (kv' := za3 cn.kv (fk i n) v)
   refine ⟨_, rfl, _, rfl, _, rfl, le4, λ tp htp => ?_⟩
   exact q _ _ tp (g1.trans (zb5 h2.b)) (h2.grow (zal.new htp)) (zu8 htp zab)
theorem zh4 : FnScope ["self"] ["self"] (zac zbd) := ⟨rfl, rfl, rfl, by decide +kernel, rfl, by decide +kernel, by decide +kernel⟩
theorem zhu (T : Txt K mg t) : FnOk P w K mg base CX0 1 t.zff t.zfj ["self"] (zhq K t) := by
 refine T.zei.F.ok zh4 (λ vs H Q E h => ?_) (λ cdv A outer s H vs Q E hr h => ?_)
 . obtain ⟨Hb, w, fs, oc, sent, cn, rfl, h, q⟩ := h
   rfl
 . obtain ⟨Hb, w, fs, oc, sent, cn, rfl, h, q⟩ := h
   refine ⟨_, (@zad _ _ _ _ _ (zt7 (pv 0) zae z14) (@zak _ _ _ (@zav _ _ _ _ (@zcn _ _ _ _ _ (@zaa _ _ _ _ _ zbh (@zaa _ _ _ _ _ (zbx (pv 0) (by rfl)) zag (by rfl)) (by rfl)))))), ?_⟩
   have h1 := h.recs (r := cn.rc + 1)
   refine ⟨_, rfl, w.a, _, _, _, _, rfl, h.o, T.zaf.cl, T.zbq, rfl, _, _, rfl, rfl, _, _, h.o, (by show 6 < 1000; decide), ?_⟩
   refine ⟨_, rfl, w.a, _, _, _, _, rfl, h1.o, T.zaf.cl, T.zbq, rfl, le2, λ tp htp => ?_⟩
   exact q _ _ tp (zb5 h1.b) (h1.grow (zal.new htp)) (zu8 htp zab)
theorem ze9 : FnScope ["self", "frame", "row", "deed"] ["self", "frame", "row"] (zac zbk) := ⟨rfl, rfl, rfl, by decide +kernel, rfl, by decide +kernel, by decide +kernel⟩
theorem zin (T : Txt K mg t) : FnOk P w K mg base CX0 3 t.zf0 t.zf2 ["self", "frame", "row"] (zim K t) := by
 have G_TextWalker_value_given := zgj (P := P) (w := w) (base := base) T
 have G_Walker_send_out := zjy (P := P) (w := w) (base := base) T
 have G_Walker_put_field := zi1 (P := P) (w := w) (base := base) T
 have G_Walker_make_record := zhu (P := P) (w := w) (base := base) T
 have G_TextFrame_value_of := zdo (P := P) (w := w) (base := base) T
 refine T.zeq.F.ok ze9 (λ vs H Q E h => ?_) (λ cdv A outer s H vs Q E hr h => ?_)
 . obtain ⟨Hb, w, fs, oc, sent, cn, f, r, rg, rfl, h, hr0, hs, hk, q⟩ := h
   rfl
 . obtain ⟨Hb, w, fs, oc, sent, cn, f, r, rg, rfl, h, hr0, hs, hk, q⟩ := h
   refine ⟨_, (@zad _ _ _ _ _ (@zcd _ _ _ _ _ _ _ _ (@zaw _ _ _ _ _ _ _ _ zdw (@zao _ _ _ _ _ _ _ zap (pv 2) zae (λ _ _ => rfl)) zbh (zbb _)) (@zak _ _ _ (@zav _ _ _ _ (zbn (pv 0) T.zaf.cl T.zfy.m G_Walker_send_out (hr.mono (by decide)) T.zfy.b .nil zcz (@zaa _ _ _ _ _ (zbn (pv 1) T.zar.cl T.zan.m G_TextFrame_value_of (hr.mono (by decide)) T.zan.b .nil zcz (@zaa _ _ _ _ _ (@zao _ _ _ _ _ _ _ zap (pv 2) zae (λ _ _ => rfl)) zag (by rfl))) zag (by rfl))))) zas) (@zad _ _ _ _ _ (@zcd _ _ _ _ _ _ _ _ (@zaw _ _ _ _ _ _ _ _ zdw (@zao _ _ _ _ _ _ _ zap (pv 2) zae (λ _ _ => rfl)) zbh (zbb _)) (@zak _ _ _ (@zav _ _ _ _ (zbn (pv 0) T.zaf.cl T.ze8.m G_Walker_put_field (hr.mono (by decide)) T.ze8.b .nil zcz (@zaa _ _ _ _ _ (zbn (pv 1) T.zar.cl T.zan.m G_TextFrame_value_of (hr.mono (by decide)) T.zan.b .nil zcz (@zaa _ _ _ _ _ (@zao _ _ _ _ _ _ _ zap (pv 2) zae (λ _ _ => rfl)) zag (by rfl))) (@zaa _ _ _ _ _ (@zao _ _ _ _ _ _ _ zap (pv 2) zae (λ _ _ => rfl)) (@zaa _ _ _ _ _ (zbn (pv 1) T.zar.cl T.zan.m G_TextFrame_value_of (hr.mono (by decide)) T.zan.b .nil zcz (@zaa _ _ _ _ _ (@zao _ _ _ _ _ _ _ zap (pv 2) zae (λ _ _ => rfl)) zag (by rfl))) zag (by rfl)) (by rfl)) (by rfl))))) zas) (@zad _ _ _ _ _ (@zcd _ _ _ _ _ _ _ _ (@zaw _ _ _ _ _ _ _ _ zdw (@zao _ _ _ _ _ _ _ zap (pv 2) zae (λ _ _ => rfl)) zbh (zbb _)) (@zad _ _ _ _ _ (@zbs _ _ 3 _ _ _ _ ze9.nd rfl (Or.inl rfl) (zg2 (pv 0) T.zaf.cl T.zei.m G_Walker_make_record (hr.mono (by decide)) T.zei.b .nil zcz) (by rfl) (by first | exact .inl rfl | exact .inr rfl | assumption)) (@zad _ _ _ _ _ (zda (u1' hr.units) (zbx (pv 1) (by rfl)) (@zao _ _ _ _ _ _ _ zap (pv 2) zae (λ _ _ => rfl)) (@zao _ _ _ _ _ _ _ zap (pv 3) zae (λ _ _ => rfl)) (by rfl)) (@zak _ _ _ (@zav _ _ _ _ (pv 3))))) zas) (@zad _ _ _ _ _ (zda (u1' hr.units) (zbx (pv 1) (by rfl)) (@zao _ _ _ _ _ _ _ zap (pv 2) zae (λ _ _ => rfl)) (zbn (pv 0) T.zaf.cl T.zdm.m G_TextWalker_value_given (hr.mono (by decide)) T.zdm.b .nil zcz (@zaa _ _ _ _ _ (pv 1) (@zaa _ _ _ _ _ (pv 2) zag (by rfl)) (by rfl))) (by rfl)) (@zak _ _ _ (@zav _ _ _ _ zh1)))))), ?_⟩
   have hF := h.fr f (List.mem_append_right _ (List.mem_singleton.mpr rfl))
   have hr1 := h.b.tup hr0
   cases rg with
   | put a fd b =>
     obtain ⟨i, v, ha, hv, hl, q⟩ := q
     exact ⟨_, rfl, r, _, _, _, rfl, rfl, hr1, at0, rfl, _, rfl, zbw (by decide +kernel) ⟨_, rfl, r, _, _, _, rfl, rfl, hr1, at0, rfl, _, rfl, zfq (by decide +kernel) ⟨_, rfl, w.a, _, _, rfl, h.o, rfl, _, rfl, f.a, _, _, rfl, hF.o, rfl, _, rfl, r, _, _, _, rfl, rfl, hr1, rfl, f, a, _, rfl, hF, ha, _, rfl, r, _, _, _, rfl, rfl, hr1, rfl, _, rfl, f.a, _, _, rfl, hF.o, rfl, _, rfl, r, _, _, _, rfl, rfl, hr1, rfl, f, b, v, rfl, hF, hv, Hb, w, fs ++ [f], oc, sent, cn, i, fd, v, rfl, h, hl, λ Hb2 H2 tp s1 h1 e1 => q Hb2 H2 tp s1 h1 e1⟩⟩⟩
   | new x =>
     refine ⟨_, rfl, r, _, _, _, rfl, rfl, hr1, at0, rfl, _, rfl, zbw (by decide +kernel) ⟨_, rfl, r, _, _, _, rfl, rfl, hr1, at0, rfl, _, rfl, zbw (by decide +kernel) ⟨_, rfl, r, _, _, _, rfl, rfl, hr1, at0, rfl, _, rfl, zfq (by decide +kernel) ⟨_, rfl, w.a, _, _, rfl, h.o, rfl, Hb, w, fs ++ [f], oc, sent, cn, rfl, h, λ Hb2 H2 tp s1 h1 e1 => ?_⟩⟩⟩⟩
     have hF1 := h1.fr f (List.mem_append_right _ (List.mem_singleton.mpr rfl))
     have h2 := h1.name (ks := za3 f.kvs (Sum.inr x : Key) (.int (cn.rc + 1)))
     refine ⟨_, rfl, tp, _, _, _, rfl, rfl, SqT.of (h1.b _ _ e1), rfl, _, rfl, f.a, _, _, _, _, rfl, hF1.o, T.zar.cl, T.za9, rfl, _, rfl, r, _, _, _, rfl, rfl, h1.b.tup (s1.tup hr0), rfl, f.nd, _, rfl, zkr.k (k := (Sum.inr x : Key)) hF1.n (za8 hk), _, rfl, ?_⟩
     exact q Hb2 _ tp s1 h2 e1
   | get x a fd =>
     obtain ⟨y, v, hg, q⟩ := q
     have hx : (RG.get x a fd).items[1]? = some (.str y) := zly hg
     refine ⟨_, rfl, r, _, _, _, rfl, rfl, hr1, at0, rfl, _, rfl, zbw (by decide +kernel) ⟨_, rfl, r, _, _, _, rfl, rfl, hr1, at0, rfl, _, rfl, zbw (by decide +kernel) ⟨_, rfl, r, _, _, _, rfl, rfl, hr1, at0, rfl, _, rfl, zbw (by decide +kernel) ⟨_, rfl, w.a, _, _, rfl, h.o, rfl, _, rfl, _, rfl, Hb, w, fs, oc, sent, cn, f, r, _, y, v, rfl, h, hr1, .inr (⟨_, _, _, rfl⟩), hg, λ H1 s1 => ?_⟩⟩⟩⟩
     have h1 := h.grow s1
     have hF1 := h1.fr f (List.mem_append_right _ (List.mem_singleton.mpr rfl))
     refine ⟨_, rfl, f.a, _, _, _, _, rfl, hF1.o, T.zar.cl, T.za9, rfl, _, rfl, r, _, _, _, rfl, rfl, s1.tup hr1, zft (j := 1) hx, f.nd, _, rfl, zkr.k (k := (Sum.inr y : Key)) hF1.n (za8 hk), ?_⟩
     exact q _ _ (zb5 h.b) h1.name
   | copy x a =>
     obtain ⟨y, v, hg, q⟩ := q
     have hx : (RG.copy x a).items[1]? = some (.str y) := zly hg
     refine ⟨_, rfl, r, _, _, _, rfl, rfl, hr1, at0, rfl, _, rfl, zbw (by decide +kernel) ⟨_, rfl, r, _, _, _, rfl, rfl, hr1, at0, rfl, _, rfl, zbw (by decide +kernel) ⟨_, rfl, r, _, _, _, rfl, rfl, hr1, at0, rfl, _, rfl, zbw (by decide +kernel) ⟨_, rfl, w.a, _, _, rfl, h.o, rfl, _, rfl, _, rfl, Hb, w, fs, oc, sent, cn, f, r, _, y, v, rfl, h, hr1, .inl ⟨_, _, rfl⟩, hg, λ H1 s1 => ?_⟩⟩⟩⟩
     have h1 := h.grow s1
     have hF1 := h1.fr f (List.mem_append_right _ (List.mem_singleton.mpr rfl))
     refine ⟨_, rfl, f.a, _, _, _, _, rfl, hF1.o, T.zar.cl, T.za9, rfl, _, rfl, r, _, _, _, rfl, rfl, s1.tup hr1, zft (j := 1) hx, f.nd, _, rfl, zkr.k (k := (Sum.inr y : Key)) hF1.n (za8 hk), ?_⟩
     exact q _ _ (zb5 h.b) h1.name
   | out a => exact q.elim
   | op x s a b => exact q.elim
   | back a => exact q.elim
   | call x g p as => exact q.elim
   | ifs a => exact q.elim
   | whl a => exact q.elim
theorem zi5 : FnScope ["self", "frame", "way"] ["self", "frame", "way"] (zac zbr) := ⟨rfl, rfl, rfl, by decide +kernel, rfl, by decide +kernel, by decide +kernel⟩
theorem zfo (T : Txt K mg t) : FnOk P w K mg base CX0 1 t.zgd t.zgg ["self", "frame", "way"] (zi2 K t) := by
 refine T.zck.F.ok zi5 (λ vs H Q E h => ?_) (λ cdv A outer s H vs Q E hr h => ?_)
 . obtain ⟨Hb, w, fs, oc, sent, cn, f, fns, F, j, r, rfl, h, hFl, hF, hn, hk, hw, q⟩ := h
   rfl
 . obtain ⟨Hb, w, fs, oc, sent, cn, f, fns, F, j, r, rfl, h, hFl, hF, hn, hk, hw, q⟩ := h
   refine ⟨_, (@zad _ _ _ _ _ (zel (pv 1) (@zao _ _ _ _ _ _ _ zap (@zao _ _ _ _ _ _ _ zat (zdl (u1' hr.units) (zbx (zbx (pv 0) (by rfl)) (by rfl)) (zbx (pv 1) (by rfl)) (λ _ _ => rfl)) (zbx (pv 1) (by rfl)) (λ _ _ => rfl)) (pv 2) (λ _ _ => rfl)) (by rfl)) zas), ?_⟩
   have hf := h.fr f (List.mem_append_right _ (List.mem_singleton.mpr rfl))
   have hFl := hFl.mono h.b
   obtain ⟨wl, tp, vs, l, ⟨dx, gs, d, kvs, e1, e2, e3, e4⟩, e5, e6, e7, e8⟩ := zy1 hFl hF hk hw
   rw [hn] at e4
   refine ⟨_, rfl, w.a, _, _, _, _, rfl, h.o, T.zaf.cl, T.za0, rfl, w.fl, _, _, _, _, rfl, e1, T.zcj.cl, T.zcw, e2, _, rfl, f.a, _, _, _, _, rfl, hf.o, T.zar.cl, T.zbf, rfl, d, _, rfl, zep e3 e4, _, rfl, f.a, _, _, _, _, rfl, hf.o, T.zar.cl, T.zb7, rfl, wl, _, _, _, rfl, rfl, SqL.of e5, zft e6, _, rfl, tp, _, _, _, rfl, rfl, SqT.of e7, zz1 e8, _, rfl, f.a, _, _, _, rfl, hf.o, T.zar.cl, T.zb7, (by show 3 < 1000; decide), ?_⟩
   exact q _ (h.goto (r := r))
theorem zkj : FnScope ["self", "function", "named"] ["self", "function", "named"] (zac zb8) := ⟨rfl, rfl, rfl, by decide +kernel, rfl, by decide +kernel, by decide +kernel⟩
theorem zkh (T : Txt K mg t) : FnOk P w K mg base CX0 1 t.zha t.zhb ["self", "function", "named"] (zkf K t) := by
 refine T.ziv.F.ok zkj (λ vs H Q E h => ?_) (λ cdv A outer s H vs Q E hr h => ?_)
 . obtain ⟨x, dx, nd, fn, rfl, hx, q⟩ := h
   rfl
 . obtain ⟨x, dx, nd, fn, rfl, hx, q⟩ := h
   refine ⟨_, (@zad _ _ _ _ _ (zel (pv 0) (pv 1) (by rfl)) (@zad _ _ _ _ _ (zel (pv 0) zae (by rfl)) (@zak _ _ _ (zel (pv 0) (pv 2) (by rfl))))), ?_⟩
   refine ⟨_, rfl, _, rfl, x, _, _, _, rfl, hx, T.zar.cl, T.zbf, (by decide), _, rfl, x, _, _, _, rfl, zab, T.zar.cl, T.zb7, put1 _ _, _, rfl, _, rfl, x, _, _, _, rfl, zab, T.zar.cl, T.za9, put2 _ _ _ _, ?_⟩
   rw [zln, zln]
   exact q
theorem zdg : FnScope ["self", "function", "args", "named", "name", "number"] ["self", "function", "args"] (zac zbu) := ⟨rfl, rfl, rfl, by decide +kernel, rfl, by decide +kernel, by decide +kernel⟩
theorem zfu (T : Txt K mg t) : FnOk P w K mg base CX0 3 t.zgc t.zgf ["self", "function", "args"] (zi7 K t) := by
 have G_TextFrame_init := zkh (P := P) (w := w) (base := base) T
 refine T.zdj.F.ok zdg (λ vs H Q E h => ?_) (λ cdv A outer s H vs Q E hr h => ?_)
 . obtain ⟨Hb, w, fs, oc, sent, cn, fns, F, ar, vals, rfl, h, hFl, hF, har, hv, hl, hnn, hps, q⟩ := h
   rfl
 . obtain ⟨Hb, w, fs, oc, sent, cn, fns, F, ar, vals, rfl, h, hFl, hF, har, hv, hl, hnn, hps, q⟩ := h
   refine ⟨_, (@zad _ _ _ _ _ (@zbs _ _ 3 _ _ _ _ zdg.nd rfl (Or.inl rfl) (zdy (zku rfl) (by rfl) T.b_dict zq6 (@zaa _ _ _ _ _ (zh5 (N' := ["name"]) (js := [none]) (by kernel_rfl) rfl (zgi (zdl (u1' hr.units) (zbx (zbx (pv 0) (by rfl)) (by rfl)) (pv 1) (λ _ _ => rfl))) zer (λ _ _ _ _ => (za7 (i := 0) (show (["name"] : List Str).Nodup by decide +kernel) rfl (Or.inl rfl) (.inr rfl))) (λ _ _ _ _ => zhm) (λ _ _ _ _ => (@zcn _ _ _ _ _ (@zaa _ _ _ _ _ (pv 0) (@zaa _ _ _ _ _ zae zag (by rfl)) (by rfl))))) zag (by rfl))) (by rfl) (by first | exact .inl rfl | exact .inr rfl | assumption)) (@zad _ _ _ _ _ (zd2 PassesOwn.never rfl (zt0 true false rfl T.b_zip (@zaa _ _ _ _ _ (zdl (u1' hr.units) (zbx (zbx (pv 0) (by rfl)) (by rfl)) (pv 1) (λ _ _ => rfl)) (@zaa _ _ _ _ _ (pv 2) zag (by rfl)) (by rfl))) (zkq rfl (zc9 (za7 (i := 4) zdg.nd rfl (Or.inl rfl)) (zc9 (za7 (i := 5) zdg.nd rfl (Or.inl rfl)) zh7))) (@zak _ _ _ (zda (u1' hr.units) (pv 3) (pv 4) (pv 5) (by rfl)))) (@zak _ _ _ (@zct _ _ _ _ (zkg PySem.F.plainAttrs_list PySem.F.slot_list_append PySem.F.type_list_append zdi (zbx (pv 0) (by rfl)) (@zaa _ _ _ _ _ (zz5 T.zar T.ziv G_TextFrame_init (hr.mono (by decide)) (@zaa _ _ _ _ _ (pv 1) (@zaa _ _ _ _ _ (pv 3) zag (by rfl)) (by rfl))) zag (by rfl))) (by rfl))))), ?_⟩
   have hFlH := hFl.mono h.b
   obtain ⟨nl, ⟨dx1, gs1, d1, kv1, a1, a2, a3, a4⟩, a5⟩ := zr6 hFlH hF
   obtain ⟨dx2, gs2, d2, kv2, b1, b2, b3, b4⟩ := ztt hFlH hF
   refine ⟨_, rfl, w.a, _, _, _, _, rfl, h.o, T.zaf.cl, T.za0, rfl, w.fl, _, _, _, _, rfl, a1, T.zcj.cl, T.zca, a2, _, rfl, d1, _, rfl, zep a3 a4, nl, rfl, ⟨_, SqL.of a5⟩, λ u hu => zou (K := K) (λ i Hq v => ∃ y tp, (F2.nms F)[i]? = some y /\ v = .ref tp /\ Hq tp = some (.tup [.str y, .int 0])) (λ i v H1 H2 e z => let ⟨y, tp, z1, z2, z3⟩ := z; ⟨y, tp, z1, z2, e _ _ z3⟩) (xs := (F2.nms F).map V.str) (by rw [List.length_map]; omega) (SqL.of a5) hu ?_ ?_⟩
   . rintro i z H2 R' hz s2 ⟨acc, ha⟩ r2
     obtain ⟨y, hy, hym, rfl⟩ := zl4 hz
     refine ⟨_, rfl, le2, λ tp htp => r2 _ _ (zal.new htp) ⟨y, tp, hy, rfl, ?_⟩⟩
     rw [zdf (λ z => by rw [z, ha] at htp; cases htp)]
     exact zab
   intro H3 vs s3 e3 lv tv
   rw [List.length_map] at lv
   obtain ⟨ps, rfl, hps2⟩ := zr1 (K := K) lv tv
   refine ⟨u, ps, (F2.nms F).map λ n => ((Sum.inr n : Key), V.int 0), rfl, SqL.of e3, ?_, by rw [List.length_map]; omega, λ d hd => ?_⟩
   . exact hps2.mono λ a kv z => zig.tup z
   have d0 : H d = none := s3.free hd
   have s4 := s3.trans (zal.new (o := .dK (((F2.nms F).map λ n => ((Sum.inr n : Key), V.int 0)).foldl (λ acc kv => za3 acc kv.1 kv.2) [])) hd)
   have e4 := zab (H := H3) (a := d) (o := .dK (((F2.nms F).map λ n => ((Sum.inr n : Key), V.int 0)).foldl (λ acc kv => za3 acc kv.1 kv.2) []))
   have k0l : (((F2.nms F).map λ n => ((Sum.inr n : Key), V.int 0)).foldl (λ acc kv => za3 acc kv.1 kv.2) []).length <= 1000 := by
     refine Nat.le_trans (zgm (λ kv : Key × V => kv) ((F2.nms F).map λ n => ((Sum.inr n : Key), V.int 0)) []) ?_
     rw [List.length_map]
     show 0 + (F2.nms F).length <= 1000
     omega
   have hbg : zk6 F vals = (F.ps.zip vals).foldl (λ d p => za3 d (Sum.inr p.1 : Key) p.2) (((F2.nms F).map λ n => ((Sum.inr n : Key), V.int 0)).foldl (λ acc kv => za3 acc kv.1 kv.2) []) := rfl
   generalize (((F2.nms F).map λ n => ((Sum.inr n : Key), V.int 0)).foldl (λ acc kv => za3 acc kv.1 kv.2) []) = k0 at s4 e4 k0l hbg ⊢
   generalize upd H3 d (.dK k0) = H4 at s4 e4 ⊢
   have h4 := h.grow s4
   have hpa : SqT K H F.pa (F.ps.map V.str) := (hFlH.all F hF).pr
   have har1 : SqL K H ar vals := h.b.seq har
   refine ⟨_, rfl, w.a, _, _, _, _, rfl, h4.o, T.zaf.cl, T.za0, rfl, w.fl, _, _, _, _, rfl, s4 _ _ b1, T.zcj.cl, T.zce, b2, _, rfl, d2, _, rfl, zep (s4 _ _ b3) b4, _, rfl, F.pa, ar, rfl, ⟨_, s4.tup hpa⟩, ⟨_, s4.seq har1⟩, zp9 (b1 := true) (b2 := false) (xs := F.ps.map V.str) (ys := vals) (λ i σ H' => ∃ v4 v5 : Option V, σ = [some (.ref w.a), some (.str F.name), some (.ref ar), some (.ref d), v4, v5] /\ zal H H' /\ H' d = some (.dK (((F.ps.zip vals).take i).foldl (λ d p => za3 d (Sum.inr p.1 : Key) p.2) k0))) ⟨_, _, rfl, s4, e4⟩ ?_ ?_ ?_⟩
   . rintro i σ H' hi ⟨v4, v5, rfl, s5, e5⟩
     exact ⟨s5.tup hpa, s5.seq har1⟩
   . rintro i x y σ H' b hx hy ⟨v4, v5, rfl, s5, e5⟩ hb
     obtain ⟨n, hn, hnm, rfl⟩ := zl4 hx
     have s6 := zal.new (o := .tup [.str n, y]) hb
     have nb : d ≠ b := λ z => by rw [<- z, e5] at hb; cases hb
     have lz : (((F.ps.zip vals).take i).foldl (λ d p => za3 d (Sum.inr p.1 : Key) p.2) k0).length < 1000000 := by
       refine Nat.lt_of_le_of_lt (zgm (λ p : Str × V => ((Sum.inr p.1 : Key), p.2)) ((F.ps.zip vals).take i) k0) ?_
       have l2 : ((F.ps.zip vals).take i).length <= 1000 := by
         rw [List.length_take, List.length_zip]
         omega
       omega
     refine ⟨b, _, rfl, SqT.of zab, rfl, _, _, rfl, _, _, rfl, rfl, _, rfl, _, rfl, _, rfl, d, _, rfl, zkr.k (k := (Sum.inr n : Key)) (s6 _ _ e5) (za8 lz), _, _, rfl, (s5.trans s6).upd d0, ?_⟩
     rw [zab, List.take_add_one, List.foldl_append]
     have hz : (F.ps.zip vals)[i]? = some (n, y) := List.getElem?_zip_eq_some.mpr ⟨hn, hy⟩
     rw [hz]
     rfl
   . rintro σ H' ⟨v4, v5, rfl, s5, e5⟩
     rw [List.take_of_length_le (by rw [List.length_zip, List.length_map]; exact Nat.le_refl _), <- hbg] at e5
     have h5 := h.grow s5
     refine ⟨_, rfl, w.a, _, _, _, _, rfl, h5.o, T.zaf.cl, T.zax, rfl, .inl ⟨rfl, _, SqL.of h5.st⟩, _, rfl, _, rfl, λ fa fdx hfa hfdx nfd => ⟨fa, fdx, d, F.name, rfl, zab, rfl, ?_⟩⟩
     have n1 : ∀ {b : Addr} {o : HO}, H' b = some o -> b ≠ fa /\ b ≠ fdx := λ hb => ⟨(λ z => by rw [z, hfa] at hb; cases hb), (λ z => by rw [z, hfdx] at hb; cases hb)⟩
     have s6 : zal H' (upd (upd (upd H' fdx (.own fa)) fa (.ins t.zbo fdx [])) fa (.ins t.zbo fdx (fF ⟨fa, fdx, d, F.name, 0, []⟩))) := λ b o hb => by
       rw [zah (n1 hb).1, zah (n1 hb).1, zah (n1 hb).2]
       exact hb
     have hfr : FrAt t.zbo (upd (upd (upd H' fdx (.own fa)) fa (.ins t.zbo fdx [])) fa (.ins t.zbo fdx (fF ⟨fa, fdx, d, F.name, 0, []⟩))) ⟨fa, fdx, d, F.name, 0, zk6 F vals⟩ := ⟨zab, s6 _ _ e5⟩
     obtain ⟨p1, p2⟩ := h.push (s5.trans s6) (s5.free hfa) d0 hfr
     rw [List.map_append] at p1
     refine ⟨w.st, _, _, rfl, rfl, s6 _ _ h5.st, za8 (by rw [List.length_map]; omega), ?_⟩
     exact q _ _ _ p2 p1 rfl rfl rfl
theorem zez : FnScope ["self", "number", "caller"] ["self", "number"] (zac zba) := ⟨rfl, rfl, rfl, by decide +kernel, rfl, by decide +kernel, by decide +kernel⟩
theorem zht (T : Txt K mg t) : FnOk P w K mg base CX0 2 t.zfd t.zfh ["self", "number"] (zh2 K t) := by
 have G_TextWalker_go_on := zfo (P := P) (w := w) (base := base) T
 have G_TextWalker_row_of := zfb (P := P) (w := w) (base := base) T
 refine T.zeg.F.ok zez (λ vs H Q E h => ?_) (λ cdv A outer s H vs Q E hr h => ?_)
 . obtain ⟨Hb, w, fs, oc, sent, cn, f, v, rfl, h, q⟩ := h
   rfl
 . obtain ⟨Hb, w, fs, oc, sent, cn, f, v, rfl, h, q⟩ := h
   refine ⟨_, (@zad _ _ _ _ _ (@zct _ _ _ _ (zyc PySem.F.plainAttrs_list PySem.F.slot_list_pop PySem.F.type_list_pop zx6 (zbx (pv 0) (by rfl))) (by rfl)) (@zak _ _ _ (@zcd _ _ _ _ _ _ _ _ (z04 (K := K) rfl (zbx (pv 0) (by rfl)) (by intro _; rfl)) (@zad _ _ _ _ _ (@zbs _ _ 2 _ _ _ _ zez.nd rfl (Or.inl rfl) (@zao _ _ _ _ _ _ _ zat (zbx (pv 0) (by rfl)) (zsu zmx zae) (λ _ _ => rfl)) (by rfl) (by first | exact .inl rfl | exact .inr rfl | assumption)) (@zad _ _ _ _ _ (zda (u1' hr.units) (zbx (pv 2) (by rfl)) (@zao _ _ _ _ _ _ _ zap (zbn (pv 0) T.zaf.cl T.zdb.m G_TextWalker_row_of (hr.mono (by decide)) T.zdb.b .nil zcz (@zaa _ _ _ _ _ (pv 2) zag (by rfl))) zae (λ _ _ => rfl)) (pv 1) (by rfl)) (@zak _ _ _ (@zct _ _ _ _ (zbn (pv 0) T.zaf.cl T.zck.m G_TextWalker_go_on (hr.mono (by decide)) T.zck.b .nil zcz (@zaa _ _ _ _ _ (pv 2) (@zaa _ _ _ _ _ zae zag (by rfl)) (by rfl))) (by rfl))))) (@zak _ _ _ (zel (pv 0) (pv 1) (by rfl)))))), ?_⟩
   have h1 := WAt.pop h
   refine ⟨_, rfl, w.a, _, _, _, _, rfl, h.o, T.zaf.cl, T.zax, rfl,   .inl ⟨rfl, _, SqL.of h.st⟩, w.st, _, V.ref f.a, rfl, rfl, h.st, by simp, ?_⟩
   rw [show ((fs ++ [f]).map λ f => V.ref f.a).dropLast = fs.map λ f => V.ref f.a by rw [List.map_append]; exact List.dropLast_concat]
   obtain ⟨rfl, q⟩ := q
   refine ⟨_, rfl, w.a, _, _, _, _, rfl, h1.o, T.zaf.cl, T.zax, rfl, false, .inl ⟨[], SqL.of h1.st, rfl⟩, zbw Bool.false_ne_true ?_⟩
   exact ⟨_, rfl, _, rfl, w.a, _, _, _, rfl, h1.o, T.zaf.cl, T.zbp, (by show 6 < 1000; decide), q _ h1.out⟩
theorem zcx : FnScope ["self", "frame", "row", "deed"] ["self"] (zac zbe) := ⟨rfl, rfl, rfl, by decide +kernel, rfl, by decide +kernel, by decide +kernel⟩
theorem zhp (T : Txt K mg t) : FnOk P w K mg base CX0 4 t.zfe t.zfi ["self"] (zex K t) := by
 have G_TextWalker_row_of := zfb (P := P) (w := w) (base := base) T
 have G_TextWalker_do_row := zin (P := P) (w := w) (base := base) T
 have G_TextWalker_go_on := zfo (P := P) (w := w) (base := base) T
 have G_TextWalker_begin := zfu (P := P) (w := w) (base := base) T
 have G_TextWalker_go_back := zht (P := P) (w := w) (base := base) T
 have G_TextFrame_value_of := zdo (P := P) (w := w) (base := base) T
 refine T.zeh.F.ok zcx (λ vs H Q E h => ?_) (λ cdv A outer s H vs Q E hr h => ?_)
 . obtain ⟨Hb, w, fs, f, sent, cn, fns, F, r, rg, rfl, h, hFl, hF, hn, hr1, hq, hs, hk, q⟩ := h
   rfl
 . obtain ⟨Hb, w, fs, f, sent, cn, fns, F, r, rg, rfl, h, hFl, hF, hn, hr1, hq, hs, hk, q⟩ := h
   refine ⟨_, (@zad _ _ _ _ _ (@zbs _ _ 1 _ _ _ _ zcx.nd rfl (Or.inr rfl) (@zao _ _ _ _ _ _ _ zat (zbx (pv 0) (by rfl)) (zsu zmx zae) (λ _ _ => rfl)) (by rfl) (by first | exact .inl rfl | exact .inr rfl | assumption)) (@zad _ _ _ _ _ (@zbs _ _ 2 _ _ _ _ zcx.nd rfl (Or.inl rfl) (zbn (pv 0) T.zaf.cl T.zdb.m G_TextWalker_row_of (hr.mono (by decide)) T.zdb.b .nil zcz (@zaa _ _ _ _ _ (pv 1) zag (by rfl))) (by rfl) (by first | exact .inl rfl | exact .inr rfl | assumption)) (@zad _ _ _ _ _ (@zcd _ _ _ _ _ _ _ _ (@zaw _ _ _ _ _ _ _ _ zdw (@zao _ _ _ _ _ _ _ zap (pv 2) zae (λ _ _ => rfl)) zbh (zbb _)) (@zad _ _ _ _ _ (@zct _ _ _ _ (zbn (pv 0) T.zaf.cl T.zdj.m G_TextWalker_begin (hr.mono (by decide)) T.zdj.b .nil zcz (@zaa _ _ _ _ _ (@zao _ _ _ _ _ _ _ zap (pv 2) zae (λ _ _ => rfl)) (@zaa _ _ _ _ _ (zh5 (N' := ["atom", "frame"]) (js := [none, some 1]) (by kernel_rfl) rfl (zu6 (@zao _ _ _ _ _ _ _ zap (pv 2) zae (λ _ _ => rfl))) zer (λ _ _ _ _ => (za7 (i := 0) (show (["atom", "frame"] : List Str).Nodup by decide +kernel) rfl (Or.inl rfl) (.inr rfl))) (λ _ _ _ _ => zhm) (λ _ _ _ _ => (zbn (pv 1) T.zar.cl T.zan.m G_TextFrame_value_of (hr.mono (by decide)) T.zan.b .nil zcz (@zaa _ _ _ _ _ (pv 0) zag (by rfl))))) zag (by rfl)) (by rfl))) (by rfl)) (@zak _ _ _ (@zav _ _ _ _ zh1))) zas) (@zad _ _ _ _ _ (@zcd _ _ _ _ _ _ _ _ (@zaw _ _ _ _ _ _ _ _ zdw (@zao _ _ _ _ _ _ _ zap (pv 2) zae (λ _ _ => rfl)) zbh (zbb _)) (@zad _ _ _ _ _ (@zct _ _ _ _ (zbn (pv 0) T.zaf.cl T.zeg.m G_TextWalker_go_back (hr.mono (by decide)) T.zeg.b .nil zcz (@zaa _ _ _ _ _ (zbn (pv 1) T.zar.cl T.zan.m G_TextFrame_value_of (hr.mono (by decide)) T.zan.b .nil zcz (@zaa _ _ _ _ _ (@zao _ _ _ _ _ _ _ zap (pv 2) zae (λ _ _ => rfl)) zag (by rfl))) zag (by rfl))) (by rfl)) (@zak _ _ _ (@zav _ _ _ _ zh1))) zas) (@zad _ _ _ _ _ (@zcd _ _ _ _ _ _ _ _ (@zaw _ _ _ _ _ _ _ _ zhl (@zao _ _ _ _ _ _ _ zap (pv 2) zae (λ _ _ => rfl)) (@zcn _ _ _ _ _ (@zaa _ _ _ _ _ zbh (@zaa _ _ _ _ _ zbh zag (by rfl)) (by rfl))) (by with_unfolding_all rfl)) (@zad _ _ _ _ _ (@zct _ _ _ _ (zbn (pv 0) T.zaf.cl T.zck.m G_TextWalker_go_on (hr.mono (by decide)) T.zck.b .nil zcz (@zaa _ _ _ _ _ (pv 1) (@zaa _ _ _ _ _ (@znp _ _ _ _ _ _ _ _ (@zaw _ _ _ _ _ _ _ _ zot (zbn (pv 1) T.zar.cl T.zan.m G_TextFrame_value_of (hr.mono (by decide)) T.zan.b .nil zcz (@zaa _ _ _ _ _ (@zao _ _ _ _ _ _ _ zap (pv 2) zae (λ _ _ => rfl)) zag (by rfl))) zae (zbb _)) zae zae) zag (by rfl)) (by rfl))) (by rfl)) (@zak _ _ _ (@zav _ _ _ _ zh1))) zas) (@zad _ _ _ _ _ (@zbs _ _ 3 _ _ _ _ zcx.nd rfl (Or.inl rfl) (zbn (pv 0) T.zaf.cl T.zeq.m G_TextWalker_do_row (hr.mono (by decide)) T.zeq.b .nil zcz (@zaa _ _ _ _ _ (pv 1) (@zaa _ _ _ _ _ (pv 2) zag (by rfl)) (by rfl))) (by rfl) (by first | exact .inl rfl | exact .inr rfl | assumption)) (@zad _ _ _ _ _ (@zct _ _ _ _ (zbn (pv 0) T.zaf.cl T.zck.m G_TextWalker_go_on (hr.mono (by decide)) T.zck.b .nil zcz (@zaa _ _ _ _ _ (pv 1) (@zaa _ _ _ _ _ zae zag (by rfl)) (by rfl))) (by rfl)) (@zak _ _ _ (@zav _ _ _ _ (pv 3)))))))))), ?_⟩
   have hfm : f ∈ fs ++ [f] := List.mem_append_right _ (List.mem_singleton.mpr rfl)
   have hf := h.fr f hfm
   have hqH := h.b.tup hq
   have hrow : f.row < F.rs.length := (List.getElem?_eq_some_iff.mp hr1).1
   refine ⟨_, rfl, w.a, _, _, _, _, rfl, h.o, T.zaf.cl, T.zax, rfl, _, rfl, w.st, _, _, _, rfl, rfl, SqL.of h.st, zuc _ _, ?_⟩
   refine ⟨_, rfl, w.a, _, _, rfl, h.o, rfl, _, rfl, Hb, w, fs ++ [f], .non, sent, cn, f, fns, F, r, rfl, h, hfm, hFl, hF, hn, hr1, ?_⟩
   cases rg with
   | back a =>
     obtain ⟨v, hv, q⟩ := q
     exact ⟨_, rfl, r.r, _, _, _, rfl, rfl, hqH, at0, rfl, _, rfl, zbw (by decide +kernel) ⟨_, rfl, r.r, _, _, _, rfl, rfl, hqH, at0, rfl, _, rfl, zfq (by decide +kernel) ⟨_, rfl, w.a, _, _, rfl, h.o, rfl, _, rfl, f.a, _, _, rfl, hf.o, rfl, _, rfl, r.r, _, _, _, rfl, rfl, hqH, rfl, f, a, v, rfl, hf, hv, Hb, w, fs, .non, sent, cn, f, v, rfl, h, q⟩⟩⟩
   | put a fd b =>
     refine ⟨_, rfl, r.r, _, _, _, rfl, rfl, hqH, at0, rfl, _, rfl, zbw (by decide +kernel) ⟨_, rfl, r.r, _, _, _, rfl, rfl, hqH, at0, rfl, _, rfl, zbw (by decide +kernel) ⟨_, rfl, r.r, _, _, _, rfl, rfl, hqH, at0, le2, λ tp htp => ⟨tp, _, rfl, .inr (SqT.of zab), rfl, (by decide +kernel), _, rfl, zbw (by decide +kernel) ?_⟩⟩⟩⟩
     have s1 := zal.new (o := .tup [.str (Str.ofString "if"), .str (Str.ofString "while")]) htp
     have h1 := h.grow s1
     have g1 := zb5 (H2 := upd H tp (.tup [.str (Str.ofString "if"), .str (Str.ofString "while")])) h.b
     obtain ⟨r2, hw, i, v, ha, hv, hl, q⟩ := q
     refine ⟨_, rfl, w.a, _, _, rfl, h1.o, rfl, _, rfl, _, rfl, _, w, fs, .non, sent, cn, f, r.r, .put a fd b, rfl, h1, g1.tup hq, hs, hk, i, v, ha, hv, hl, λ Hb2 H2 tq s2 h2 e2 => ?_⟩
     exact ⟨_, rfl, w.a, _, _, rfl, h2.o, rfl, _, rfl, Hb2, w, fs, .non, sent, ⟨za3 cn.kv (fk i fd) v, cn.rc⟩, f, fns, F, 0, r2, rfl, h2, (hFl.mono g1).mono s2, hF, hn, hrow, hw, λ H3 h3 => ⟨_, rfl, q Hb2 H3 tq (g1.trans s2) h3 e2⟩⟩
   | new x =>
     refine ⟨_, rfl, r.r, _, _, _, rfl, rfl, hqH, at0, rfl, _, rfl, zbw (by decide +kernel) ⟨_, rfl, r.r, _, _, _, rfl, rfl, hqH, at0, rfl, _, rfl, zbw (by decide +kernel) ⟨_, rfl, r.r, _, _, _, rfl, rfl, hqH, at0, le2, λ tp htp => ⟨tp, _, rfl, .inr (SqT.of zab), rfl, (by decide +kernel), _, rfl, zbw (by decide +kernel) ?_⟩⟩⟩⟩
     have s1 := zal.new (o := .tup [.str (Str.ofString "if"), .str (Str.ofString "while")]) htp
     have h1 := h.grow s1
     have g1 := zb5 (H2 := upd H tp (.tup [.str (Str.ofString "if"), .str (Str.ofString "while")])) h.b
     obtain ⟨r2, hw, q⟩ := q
     refine ⟨_, rfl, w.a, _, _, rfl, h1.o, rfl, _, rfl, _, rfl, _, w, fs, .non, sent, cn, f, r.r, .new x, rfl, h1, g1.tup hq, hs, hk, λ Hb2 H2 tq s2 h2 e2 => ?_⟩
     exact ⟨_, rfl, w.a, _, _, rfl, h2.o, rfl, _, rfl, Hb2, w, fs, .non, sent, ⟨cn.kv, cn.rc + 1⟩, { f with kvs := za3 f.kvs (Sum.inr x : Key) (.int (cn.rc + 1)) }, fns, F, 0, r2, rfl, h2, (hFl.mono g1).mono s2, hF, hn, hrow, hw, λ H3 h3 => ⟨_, rfl, q Hb2 H3 tq (g1.trans s2) h3 e2⟩⟩
   | get x a fd =>
     refine ⟨_, rfl, r.r, _, _, _, rfl, rfl, hqH, at0, rfl, _, rfl, zbw (by decide +kernel) ⟨_, rfl, r.r, _, _, _, rfl, rfl, hqH, at0, rfl, _, rfl, zbw (by decide +kernel) ⟨_, rfl, r.r, _, _, _, rfl, rfl, hqH, at0, le2, λ tp htp => ⟨tp, _, rfl, .inr (SqT.of zab), rfl, (by decide +kernel), _, rfl, zbw (by decide +kernel) ?_⟩⟩⟩⟩
     have s1 := zal.new (o := .tup [.str (Str.ofString "if"), .str (Str.ofString "while")]) htp
     have h1 := h.grow s1
     have g1 := zb5 (H2 := upd H tp (.tup [.str (Str.ofString "if"), .str (Str.ofString "while")])) h.b
     obtain ⟨r2, hw, y, v, hg, q⟩ := q
     refine ⟨_, rfl, w.a, _, _, rfl, h1.o, rfl, _, rfl, _, rfl, _, w, fs, .non, sent, cn, f, r.r, .get x a fd, rfl, h1, g1.tup hq, hs, hk, y, v, hg, λ Hb2 H2 s2 h2 => ?_⟩
     exact ⟨_, rfl, w.a, _, _, rfl, h2.o, rfl, _, rfl, Hb2, w, fs, .non, sent, cn, { f with kvs := za3 f.kvs (Sum.inr y : Key) v }, fns, F, 0, r2, rfl, h2, (hFl.mono g1).mono s2, hF, hn, hrow, hw, λ H3 h3 => ⟨_, rfl, q Hb2 H3 (g1.trans s2) h3⟩⟩
   | copy x a =>
     refine ⟨_, rfl, r.r, _, _, _, rfl, rfl, hqH, at0, rfl, _, rfl, zbw (by decide +kernel) ⟨_, rfl, r.r, _, _, _, rfl, rfl, hqH, at0, rfl, _, rfl, zbw (by decide +kernel) ⟨_, rfl, r.r, _, _, _, rfl, rfl, hqH, at0, le2, λ tp htp => ⟨tp, _, rfl, .inr (SqT.of zab), rfl, (by decide +kernel), _, rfl, zbw (by decide +kernel) ?_⟩⟩⟩⟩
     have s1 := zal.new (o := .tup [.str (Str.ofString "if"), .str (Str.ofString "while")]) htp
     have h1 := h.grow s1
     have g1 := zb5 (H2 := upd H tp (.tup [.str (Str.ofString "if"), .str (Str.ofString "while")])) h.b
     obtain ⟨r2, hw, y, v, hg, q⟩ := q
     refine ⟨_, rfl, w.a, _, _, rfl, h1.o, rfl, _, rfl, _, rfl, _, w, fs, .non, sent, cn, f, r.r, .copy x a, rfl, h1, g1.tup hq, hs, hk, y, v, hg, λ Hb2 H2 s2 h2 => ?_⟩
     exact ⟨_, rfl, w.a, _, _, rfl, h2.o, rfl, _, rfl, Hb2, w, fs, .non, sent, cn, { f with kvs := za3 f.kvs (Sum.inr y : Key) v }, fns, F, 0, r2, rfl, h2, (hFl.mono g1).mono s2, hF, hn, hrow, hw, λ H3 h3 => ⟨_, rfl, q Hb2 H3 (g1.trans s2) h3⟩⟩
   | out a => exact q.elim
   | op x s a b => exact q.elim
   | call x g p as => exact q.elim
   | ifs a => exact q.elim
   | whl a => exact q.elim
theorem zms : FnScope ["self"] ["self"] (zac zc0) := ⟨rfl, rfl, rfl, by decide +kernel, rfl, by decide +kernel, by decide +kernel⟩
theorem zis (T : Txt K mg t) : FnOk P w K mg base CX0 5 t.zj1 t.zj4 ["self"] (zmk K t) := by
 have G_Walker_ended := zhr (P := P) (w := w) (base := base) T
 have G_TextWalker_walk_on := zhp (P := P) (w := w) (base := base) T
 refine T.zfz.F.ok zms (λ vs H Q E h => ?_) (λ cdv A outer s H vs Q E hr h => ?_)
 . obtain ⟨Hb, w, fs, f, sent, cn, fns, F, r, rg, rfl, h, hFl, hF, hn, hr1, hq, hs, hk, q⟩ := h
   rfl
 . obtain ⟨Hb, w, fs, f, sent, cn, fns, F, r, rg, rfl, h, hFl, hF, hn, hr1, hq, hs, hk, q⟩ := h
   refine ⟨_, (@zad _ _ _ _ _ (@zcd _ _ _ _ _ _ _ _ (zf6 (zg2 (pv 0) T.zaf.cl T.ze0.m G_Walker_ended (hr.mono (by decide)) T.ze0.b .nil zcz)) (@zak _ _ _ zn7) zas) (@zak _ _ _ (@zav _ _ _ _ (zg2 (pv 0) T.zaf.cl T.zeh.m G_TextWalker_walk_on (hr.mono (by decide)) T.zeh.b .nil zcz)))), ?_⟩
   exact ⟨_, rfl, w.a, _, _, rfl, h.o, rfl, Hb, w, fs ++ [f], .non, sent, cn, rfl, h, _, rfl, zbw (by simp) ⟨_, rfl, w.a, _, _, rfl, h.o, rfl, Hb, w, fs, f, sent, cn, fns, F, r, rg, rfl, h, hFl, hF, hn, hr1, hq, hs, hk, q⟩⟩
theorem zjd : FnScope ["self", "program", "args"] ["self", "program", "args"] (zac zb0) := ⟨rfl, rfl, rfl, by decide +kernel, rfl, by decide +kernel, by decide +kernel⟩
theorem zjp (T : Txt K mg t) : FnOk P w K mg base CX0 7 t.zgo t.zgs ["self", "program", "args"] (zji K t) := by
 have G_Walker_init := zmn (P := P) (w := w) (base := base) T
 have G_TextWalker_begin := zfu (P := P) (w := w) (base := base) T
 refine T.zh9.F.ok zjd (λ vs H Q E h => ?_) (λ cdv A outer s H vs Q E hr h => ?_)
 . obtain ⟨x, dx, p, ar, fns, F, vals, rfl, hx, hp, hne, hlen, hall, hnd, hF, har, hv, hnn, hps, q⟩ := h
   rfl
 . obtain ⟨x, dx, p, ar, fns, F, vals, rfl, hx, hp, hne, hlen, hall, hnd, hF, har, hv, hnn, hps, q⟩ := h
   refine ⟨_, (@zad _ _ _ _ _ (@zct _ _ _ _ (zz4 (zum rfl T.zv7.g rfl) T.zi8.B G_Walker_init (hr.mono (by decide)) T.zi8.b .nil zcz (@zaa _ _ _ _ _ (pv 0) (@zaa _ _ _ _ _ (pv 1) zag (by rfl)) (by rfl))) (by rfl)) (@zak _ _ _ (@zct _ _ _ _ (zbn (pv 0) T.zaf.cl T.zdj.m G_TextWalker_begin (hr.mono (by decide)) T.zdj.b .nil zcz (@zaa _ _ _ _ _ (zbx (zbx (pv 0) (by rfl)) (by rfl)) (@zaa _ _ _ _ _ (pv 2) zag (by rfl)) (by rfl))) (by rfl)))), ?_⟩
   refine ⟨_, rfl, _, rfl, x, dx, p, fns, rfl, hx, hp, hne, hlen, hall, hnd, λ Hb w H1 ew s1 h1 hFl => ?_⟩
   subst ew
   obtain ⟨dx3, gs3, fz, c1, c2, c3⟩ := zy2 (hFl.mono h1.b)
   rw [hF] at c2
   cases c2
   have hFm : F ∈ fns := List.mem_of_getElem? hF
   refine ⟨_, rfl, w.a, _, _, rfl, h1.o, rfl, _, rfl, w.a, _, _, _, _, rfl, h1.o, T.zaf.cl, T.za0, rfl, w.fl, _, _, _, _, rfl, c1, T.zcj.cl, T.zd8, c3, _, rfl, Hb, w, [], .non, [], ⟨[], 0⟩, fns, F, ar, vals, rfl, h1, hFl, hFm, s1.seq har, hv, by decide, hnn, hps, λ Hb2 H2 f s2 h2 e1 e2 e3 => ?_⟩
   exact q Hb2 w f H2 rfl (s1.trans s2) h2 (hFl.mono s2) e1 e2 e3
theorem zpe : FnScope ["_law_script", "_law_k"] ["_law_script", "_law_k"] (zac zds) := ⟨rfl, rfl, rfl, by decide +kernel, rfl, by decide +kernel, by decide +kernel⟩
theorem zpi (T : Txt K mg t) : FnOk P w K mg base CX0 1 t.zmb t.zmg ["_law_script", "_law_k"] (zoi K) := by
 refine T.zj6.F.ok zpe (λ vs H Q E h => ?_) (λ cdv A outer s H vs Q E hr h => ?_)
 . obtain ⟨a, ns, k, rfl, hS, hl, h0, q⟩ := h
   rfl
 . obtain ⟨a, ns, k, rfl, hS, hl, h0, q⟩ := h
   refine ⟨_, (@zad _ _ _ _ _ (@zcd _ _ _ _ _ _ _ _ (@zaw _ _ _ _ _ _ _ _ zsz (pv 1) (zb6 zbj (by rfl) T.b_len zfp (@zaa _ _ _ _ _ (pv 0) zag (by rfl))) (zbb _)) (@zak _ _ _ (@zav _ _ _ _ (@zao _ _ _ _ _ _ _ zat (pv 0) (pv 1) (λ _ _ => rfl)))) zas) (@zak _ _ _ (@zav _ _ _ _ zae))), ?_⟩
   have hlen : (ns.map V.int).length = ns.length := List.length_map _
   refine ⟨_, rfl, _, rfl, a, _, rfl, .inl hS, _, _, rfl, rfl, _, rfl, ?_⟩
   refine zno (λ c => ?_) (λ c => ?_)
   . have c := zeb c
     rw [hlen] at c
     obtain ⟨z, hz⟩ := z0b h0 c
     exact ⟨_, rfl, _, rfl, a, _, _, _, rfl, rfl, hS, hz, q _⟩
   . exact q _
theorem zfr : FnScope ["_law_cell", "_law_many", "_law_found", "_law_number", "_law_k"] ["_law_cell", "_law_many"] (zac zd3) := ⟨rfl, rfl, rfl, by decide +kernel, rfl, by decide +kernel, by decide +kernel⟩
theorem zlt (T : Txt K mg t) : FnOk P w K mg base CX0 1 t.znd t.znh ["_law_cell", "_law_many"] (zqq K) := by
 refine T.zoe.F.ok zfr (λ vs H Q E h => ?_) (λ cdv A outer s H vs Q E hr h => ?_)
 . obtain ⟨c, m, rfl, hm, q⟩ := h
   rfl
 . obtain ⟨c, m, rfl, hm, q⟩ := h
   refine ⟨_, (@zad _ _ _ _ _ (@zbs _ _ 2 _ _ _ _ zfr.nd rfl (Or.inl rfl) (@zd9 _ _ _ _ zag) (by rfl) (by first | exact .inl rfl | exact .inr rfl | assumption)) (@zad _ _ _ _ _ (@zbs _ _ 3 _ _ _ _ zfr.nd rfl (Or.inl rfl) (@zbg _ _ _ _ _ _ _ _ zgn (@zbg _ _ _ _ _ _ _ _ zc7 (pv 0) zae) zae) (by rfl) (by first | exact .inl rfl | exact .inr rfl | assumption)) (@zad _ _ _ _ _ (zd2 PassesOwn.never rfl (zho rfl T.b_range (@zaa _ _ _ _ _ (@zbg _ _ _ _ _ _ _ _ zgn (pv 1) zae) zag (by rfl))) (za7 (i := 4) zfr.nd rfl (Or.inl rfl)) (@zad _ _ _ _ _ (@zbs _ _ 3 _ _ _ _ zfr.nd rfl (Or.inl rfl) (@zbg _ _ _ _ _ _ _ _ zc7 (@zbg _ _ _ _ _ _ _ _ zgn (@zbg _ _ _ _ _ _ _ _ zgn (@zbg _ _ _ _ _ _ _ _ zoj (pv 3) (pv 3)) (@zbg _ _ _ _ _ _ _ _ zoj zae (pv 3))) (pv 4)) zae) (by rfl) (by first | exact .inl rfl | exact .inr rfl | assumption)) (@zak _ _ _ (@zct _ _ _ _ (zkg PySem.F.plainAttrs_list PySem.F.slot_list_append PySem.F.type_list_append zdi (pv 2) (@zaa _ _ _ _ _ (pv 3) zag (by rfl))) (by rfl))))) (@zak _ _ _ (@zav _ _ _ _ (@zga _ _ _ _ _ _ _ _ _ _ zki (pv 2) (zg1 zae) zi3)))))), ?_⟩
   have bM : ∀ z : Int, 0 <= z % 2147483647 /\ z % 2147483647 < 2147483647 := λ z => zea z 2147483647 (by decide)
   refine ⟨le0, λ l hl => ?_⟩
   have s1 := zal.new (o := .lst []) hl
   have e1 := zab (H := H) (a := l) (o := .lst [])
   generalize upd H l (.lst []) = H1 at s1 e1 ⊢
   refine ⟨_, rfl, _, _, rfl, rfl, (show (0 : Int) < 2147483647 by decide), _, _, rfl, rfl, ?_⟩
   have b0 := bM c
   refine ⟨_, rfl, _, _, rfl, rfl, _, rfl, by omega, by omega, zjf (lo := 0) (n := ((m : Int) + 1).toNat) (λ i σ H' => ∃ (k : Int) (v4 : Option V) (ns : List Int), σ = [some (.int c), some (.int m), some (.ref l), some (.int k), v4] /\ 0 <= k /\ k < 2 ^ 40 /\ zal H H' /\ H' l = some (.lst (ns.map V.int)) /\ ns.length = i /\ ∀ n ∈ ns, 0 <= n) ⟨c % 2147483647 + 48271, _, [], rfl, by omega, by omega, s1, e1, rfl, λ n h => by cases h⟩ ?_ ?_⟩
   . rintro i σ H' hi ⟨k, v4, ns, rfl, k0, k1, s2, e2, hlen, hns⟩
     have b := bM (k * k + 48271 * k + (0 + (i : Int)))
     refine ⟨_, rfl, _, rfl, _, _, rfl, rfl, .inl ⟨by omega, by omega⟩, _, rfl, _, _, rfl, rfl, .inl ⟨by decide, by decide⟩, _, _, rfl, rfl, _, rfl, _, _, rfl, rfl, _, _, rfl, rfl, (show (0 : Int) < 2147483647 by decide), _, rfl, .inl ⟨rfl, _, SqL.of e2⟩, _, rfl, l, _, _, rfl, rfl, e2, za8 (by rw [List.length_map]; omega), (k * k + 48271 * k + (0 + (i : Int))) % 2147483647, _, ns ++ [(k * k + 48271 * k + (0 + (i : Int))) % 2147483647], rfl, b.1, by omega, s2.upd hl, ?_, by rw [List.length_append, hlen]; rfl, λ n hn => ?_⟩
     . rw [List.map_append]; exact zab
     . rcases List.mem_append.mp hn with hn | hn
       . exact hns n hn
       . rw [List.mem_singleton.mp hn]; exact b.1
   . rintro σ H' ⟨k, v4, ns, rfl, k0, k1, s2, e2, hlen, hns⟩
     refine ⟨_, rfl, _, rfl, l, _, rfl, SqL.of e2, λ p hp => ?_⟩
     have hc : zog (ns.map V.int) (some 1) none = (ns.drop 1).map V.int := by rw [zv1, List.map_drop]
     rw [hc]
     exact q p _ (ns.drop 1) (s2.free hp) (s2.trans (zal.new hp)) zab (by rw [List.length_drop, hlen]; omega) λ n hn => hns n (List.mem_of_mem_drop hn)
theorem zdv : FnScope ["_law_cell", "_law_many", "_law_letters", "_law_size", "_law_at", "_law_common", "_law_found", "_law_k", "_law_name"] ["_law_cell", "_law_many"] (zac zey) := ⟨rfl, rfl, rfl, by decide +kernel, rfl, by decide +kernel, by decide +kernel⟩
theorem zsw (T : Txt K mg t) : FnOk P w K mg base CX0 1 t.zpz t.zp3 ["_law_cell", "_law_many"] (ztj K) := by
 refine T.zwd.F.ok zdv (λ vs H Q E h => ?_) (λ cdv A outer s H vs Q E hr h => ?_)
 . obtain ⟨c, m, rfl, hm, q⟩ := h
   rfl
 . obtain ⟨c, m, rfl, hm, q⟩ := h
   refine ⟨_, (@zad _ _ _ _ _ (@zbs _ _ 2 _ _ _ _ zdv.nd rfl (Or.inr rfl) zbh (by rfl) (by first | exact .inl rfl | exact .inr rfl | assumption)) (@zad _ _ _ _ _ (@zcd _ _ _ _ _ _ _ _ (@zaw _ _ _ _ _ _ _ _ zdw (@zbg _ _ _ _ _ _ _ _ zc7 (pv 0) zae) zae (zbb _)) (@zak _ _ _ (@zav _ _ _ _ (zh5 (N' := ["_law_k", "_law_letters", "_law_cell"]) (js := [none, some 2, some 0]) (by kernel_rfl) rfl (zho rfl T.b_range (@zaa _ _ _ _ _ (pv 1) zag (by rfl))) zer (λ _ _ _ _ => (za7 (i := 0) (show (["_law_k", "_law_letters", "_law_cell"] : List Str).Nodup by decide +kernel) rfl (Or.inl rfl) (.inr rfl))) (λ _ _ _ _ => zhm) (λ _ _ _ _ => (@zbg _ _ _ _ _ _ _ _ zy6 (@zao _ _ _ _ _ _ _ zvy (pv 1) (@zbg _ _ _ _ _ _ _ _ zc7 (@zbg _ _ _ _ _ _ _ _ zfs (pv 2) zae) zae) (λ _ _ => rfl)) (@zbg _ _ _ _ _ _ _ _ zgn (pv 0) zae)))))) zas) (@zad _ _ _ _ _ (@zbs _ _ 3 _ _ _ _ zdv.nd rfl (Or.inl rfl) (@zbg _ _ _ _ _ _ _ _ zc7 (@zbg _ _ _ _ _ _ _ _ zfs (pv 0) zae) zae) (by rfl) (by first | exact .inl rfl | exact .inr rfl | assumption)) (@zad _ _ _ _ _ (@zbs _ _ 4 _ _ _ _ zdv.nd rfl (Or.inl rfl) (@zbg _ _ _ _ _ _ _ _ zc7 (@zbg _ _ _ _ _ _ _ _ zfs (pv 0) zae) (@zbg _ _ _ _ _ _ _ _ zgn (pv 3) zae)) (by rfl) (by first | exact .inl rfl | exact .inr rfl | assumption)) (@zad _ _ _ _ _ (@zbs _ _ 5 _ _ _ _ zdv.nd rfl (Or.inl rfl) (zkg PySem.F.plainAttrs_str PySem.F.slot_str_join PySem.F.type_str_join zzp zbh (@zaa _ _ _ _ _ (zh5 (N' := ["_law_k", "_law_letters", "_law_cell"]) (js := [none, some 2, some 0]) (by kernel_rfl) rfl (zho rfl T.b_range (@zaa _ _ _ _ _ (pv 3) zag (by rfl))) zer (λ _ _ _ _ => (za7 (i := 0) (show (["_law_k", "_law_letters", "_law_cell"] : List Str).Nodup by decide +kernel) rfl (Or.inl rfl) (.inr rfl))) (λ _ _ _ _ => zhm) (λ _ _ _ _ => (@zao _ _ _ _ _ _ _ zvy (pv 1) (@zbg _ _ _ _ _ _ _ _ zc7 (@zbg _ _ _ _ _ _ _ _ zfs (pv 2) (@zbg _ _ _ _ _ _ _ _ zgn zae (@zbg _ _ _ _ _ _ _ _ zoj (pv 0) (@zbg _ _ _ _ _ _ _ _ zc7 (pv 2) zae)))) zae) (λ _ _ => rfl)))) zag (by rfl))) (by rfl) (by first | exact .inl rfl | exact .inr rfl | assumption)) (@zad _ _ _ _ _ (@zbs _ _ 6 _ _ _ _ zdv.nd rfl (Or.inl rfl) (@zd9 _ _ _ _ zag) (by rfl) (by first | exact .inl rfl | exact .inr rfl | assumption)) (@zad _ _ _ _ _ (zd2 PassesOwn.never rfl (zho rfl T.b_range (@zaa _ _ _ _ _ (pv 1) zag (by rfl))) (za7 (i := 7) zdv.nd rfl (Or.inl rfl)) (@zad _ _ _ _ _ (@zbs _ _ 8 _ _ _ _ zdv.nd rfl (Or.inl rfl) (@zbg _ _ _ _ _ _ _ _ zkc (@zbg _ _ _ _ _ _ _ _ zkc (@zga _ _ _ _ _ _ _ _ _ _ zx9 (pv 5) zi3 (zg1 (pv 4))) (@zao _ _ _ _ _ _ _ zvy (pv 2) (@zbg _ _ _ _ _ _ _ _ zc7 (@zbg _ _ _ _ _ _ _ _ zgn (@zbg _ _ _ _ _ _ _ _ zfs (pv 0) zae) (@zbg _ _ _ _ _ _ _ _ zoj zae (pv 7))) zae) (λ _ _ => rfl))) (@zga _ _ _ _ _ _ _ _ _ _ zx9 (pv 5) (zg1 (pv 4)) zi3)) (by rfl) (by first | exact .inl rfl | exact .inr rfl | assumption)) (@zad _ _ _ _ _ (@zcd _ _ _ _ _ _ _ _ (@zaw _ _ _ _ _ _ _ _ zhl (pv 8) (@zzf _ _ [V.str "fn", V.str "in", V.str "new", V.str "get", V.str "put", V.str "call", V.str "out", V.str "if", V.str "while", V.str "else", V.str "end", V.str "back"] (by kernel_rfl)) (by with_unfolding_all rfl)) (@zak _ _ _ (@zbs _ _ 8 _ _ _ _ zdv.nd rfl (Or.inl rfl) (@zbg _ _ _ _ _ _ _ _ zkc (pv 8) zbh) (by rfl) (by first | exact .inl rfl | exact .inr rfl | assumption))) zas) (@zak _ _ _ (@zct _ _ _ _ (zkg PySem.F.plainAttrs_list PySem.F.slot_list_append PySem.F.type_list_append zdi (pv 6) (@zaa _ _ _ _ _ (pv 8) zag (by rfl))) (by rfl)))))) (@zak _ _ _ (@zav _ _ _ _ (pv 6)))))))))), ?_⟩
   have lf : ("abcdefghijklmnopqrstuvwxyz" : Str).length <= sizeLine := by decide +kernel
   refine ⟨_, rfl, _, _, rfl, rfl, (show (0 : Int) < 5 by decide), rfl, _, rfl, ?_⟩
   refine zno (λ _ => ?_) (λ _ => ?_)
   . have b := zea (c / 5) 26 (by decide)
     refine ⟨_, rfl, _, rfl, by omega, by omega, λ u hu => zpo (lo := 0) (n := (m : Int).toNat) (λ i _ v => v = .str (tx (List.replicate (i + 1) (97 + (c / 5 % 26).toNat)))) (λ _ _ _ _ _ h => h) (by omega) hu ?_ ?_⟩
     . rintro i H2 R' hi s2 _ r2
       refine ⟨_, rfl, _, rfl, _, _, rfl, rfl, zul _ _ (by decide), _, _, rfl, rfl, (show (0 : Int) < 26 by decide), _, _, _, rfl, rfl, lf, K14.let_at b.1 b.2, _, rfl, _, _, rfl, rfl, _, _, rfl, rfl, by omega, by omega, r2 _ H2 (zal.refl _) ?_⟩
       rw [show (0 + (i : Int) + 1).toNat = i + 1 by omega]
       rfl
     . intro H2 vs s2 e2 lv tv
       have ev := zxi (m := m) (by omega) tv
       subst ev
       refine q u H2 ((List.range m).map λ k => tx (List.replicate (k + 1) (97 + (c / 5 % 26).toNat))) hu s2 (by rw [List.map_map]; exact e2) (by simp) ⟨nodup_range λ j k hj hk z => ?_, λ n hn => ?_⟩
       . have := congrArg (λ y : Str => y.length) z
         simp only [zit, List.length_replicate] at this
         omega
       . obtain ⟨k, hk, rfl⟩ := List.mem_map.mp hn
         have := List.mem_range.mp hk
         refine ⟨_, rfl, λ x hx => ?_, by simp, by simp; omega⟩
         rw [(List.mem_replicate.mp hx).2]
         omega
   . have b7 := zea (c / 5) 7 (by decide)
     refine ⟨_, rfl, _, _, rfl, rfl, zul _ _ (by decide), _, _, rfl, rfl, (show (0 : Int) < 7 by decide), ?_⟩
     refine ⟨_, rfl, _, _, rfl, rfl, zul _ _ (by decide), _, rfl, _, _, rfl, rfl, _, _, rfl, rfl, (show (0 : Int) < c / 5 % 7 + 1 by omega), ?_⟩
     have ba := zea (c / 35) (c / 5 % 7 + 1) (by omega)
     obtain ⟨at', hat'⟩ : ∃ a : Nat, c / 35 % (c / 5 % 7 + 1) = (a : Int) := ⟨(c / 35 % (c / 5 % 7 + 1)).toNat, by omega⟩
     refine ⟨rfl, _, rfl, _, rfl, by omega, by omega, λ u hu => zpo (lo := 0) (n := (c / 5 % 7).toNat) (λ _ _ v => ∃ ch, (97 <= ch /\ ch <= 122) /\ v = .str (tx [ch])) (λ _ _ _ _ _ h => h) (by omega) hu ?_ ?_⟩
     . rintro i H2 R' hi s2 _ r2
       have b2 := zea c 2 (by decide)
       have den : 0 < 9 + (0 + (i : Int)) * (c % 2) /\ 9 + (0 + (i : Int)) * (c % 2) < 1073741824 := by
         have : c % 2 = 0 \/ c % 2 = 1 := by omega
         rcases this with z | z <;> rw [z] <;> omega
       have b := zea (c / (9 + (0 + (i : Int)) * (c % 2))) 26 (by decide)
       exact ⟨_, rfl, _, rfl, _, rfl, _, rfl, _, _, rfl, rfl, (show (0 : Int) < 2 by decide), _, _, rfl, rfl, .inr ⟨by omega, by omega⟩, _, _, rfl, rfl, _, _, rfl, rfl, den, _, _, rfl, rfl, (show (0 : Int) < 26 by decide), _, _, _, rfl, rfl, lf, K14.let_at b.1 b.2, r2 _ H2 (zal.refl _) ⟨_, by omega, rfl⟩⟩
     intro H2 vs s2 e2 lv tv
     obtain ⟨cs, rfl, hcs, hcl⟩ := zvk tv
     have hcl2 : cs.length <= 6 := by omega
     refine ⟨_, u, cs.map λ c => tx [c], rfl, rfl, SqL.of e2, K14.one_fit (by omega), ?_⟩
     rw [K14.one_join]
     refine ⟨le0, λ l hl => ?_⟩
     have s3 := s2.trans (zal.new (o := .lst []) hl)
     have e3 := zab (H := H2) (a := l) (o := .lst [])
     have l0 : H l = none := s2.free hl
     generalize upd H2 l (.lst []) = H3 at s3 e3 ⊢
     have tcl : (tx cs).length <= sizeLine := Nat.le_of_lt (za8 (by rw [zit]; omega))
     refine ⟨_, rfl, _, rfl, by omega, by omega, zjf (lo := 0) (n := (m : Int).toNat) (λ i σ H' => ∃ v7 v8 : Option V, σ = [some (.int c), some (.int m), some (.str "abcdefghijklmnopqrstuvwxyz"), some (.int (c / 5 % 7)), some (.int (c / 35 % (c / 5 % 7 + 1))), some (.str (tx cs)), some (.ref l), v7, v8] /\ zal H H' /\ H' l = some (.lst (((List.range i).map λ k => tx (nmF WN cs at' (c / 3) k)).map V.str))) ?_ ?_ ?_⟩
     . exact ⟨_, _, rfl, s3, e3⟩
     . rintro i σ H' hi ⟨v7, v8, rfl, s4, e4⟩
       have b := zea (c / 3 + 7 * (0 + (i : Int))) 26 (by decide)
       have hb1 : (Txt.slice (tx cs) none (some (c / 35 % (c / 5 % 7 + 1)))) = tx (cs.take at') := by rw [hat']; exact K15.sl_to cs at'
       have hb2 : (Txt.slice (tx cs) (some (c / 35 % (c / 5 % 7 + 1))) none) = tx (cs.drop at') := by rw [hat']; exact K15.sl_from cs at'
       have l1 : (tx (cs.take at')).length <= 6 := by rw [zit, List.length_take]; omega
       have l2 : (tx (cs.drop at')).length <= 6 := by rw [zit, List.length_drop]; omega
       refine ⟨_, rfl, _, rfl, _, rfl, _, rfl, tcl, _, rfl, _, rfl, _, _, rfl, rfl, zul _ _ (by decide), _, rfl, _, _, rfl, rfl, .inl ⟨by decide, by decide⟩, _, _, rfl, rfl, _, _, rfl, rfl, (show (0 : Int) < 26 by decide), _, _, _, rfl, rfl, lf, K14.let_at b.1 b.2, _, _, rfl, rfl, (by rw [hb1]; exact Nat.le_of_lt (za8 (by show (tx (cs.take at')).length + 1 < 1000000; omega))), _, rfl, _, rfl, _, rfl, _, rfl, tcl, _, _, rfl, rfl, ?_, ?_⟩
       . rw [hb1, hb2, Str.length_append]
         exact Nat.le_of_lt (za8 (by show (tx (cs.take at')).length + 1 + (tx (cs.drop at')).length < 1000000; omega))
       rw [hb1, hb2]
       have enm : tx (cs.take at') ++ (⟨#[97 + ((c / 3 + 7 * (0 + (i : Int))) % 26).toNat]⟩ : Str) ++ tx (cs.drop at') = tx (nmB cs at' (c / 3) i) := by
         refine K14.str_ext ?_
         rw [Int.zero_add]
         show ((tx (cs.take at')).cps ++ #[chr (c / 3) i] ++ (tx (cs.drop at')).cps).toList = _
         unfold nmB
         rw [zjg]
         simp [tx]
       rw [enm]
       refine ⟨_, rfl, (by show 12 <= sizeLine; decide), λ tp htp => ⟨tp, zm4.map V.str, rfl, .inr (SqT.of zab), rfl, (by decide +kernel), _, rfl, ?_⟩⟩
       have sT := zal.new (o := .tup (zm4.map V.str)) htp
       have e5 := sT _ _ e4
       have s5 := s4.trans sT
       rw [show (if false = true then !inV (.str (tx (nmB cs at' (c / 3) i))) (zm4.map V.str) else inV (.str (tx (nmB cs at' (c / 3) i))) (zm4.map V.str)) = decide (nmB cs at' (c / 3) i ∈ WN) from inW _]
       have ll : (nmB cs at' (c / 3) i).length <= 7 := by rw [znm]; omega
       have push : ∀ y, y = tx (nmF WN cs at' (c / 3) i) -> ((List.range i).map λ k => tx (nmF WN cs at' (c / 3) k)).map V.str ++ [V.str y] = ((List.range (i + 1)).map λ k => tx (nmF WN cs at' (c / 3) k)).map V.str := λ y hy => by rw [List.range_succ, List.map_append, List.map_append, hy]; rfl
       by_cases hW : nmB cs at' (c / 3) i ∈ WN
       . refine zfq (decide_eq_true hW) ⟨_, rfl, _, _, rfl, rfl, Nat.le_of_lt (za8 (by rw [zit]; show (nmB cs at' (c / 3) i).length + 1 < 1000000; omega)), _, rfl, .inl ⟨rfl, _, SqL.of e5⟩, _, rfl, l, _, _, rfl, rfl, e5, za8 (by rw [List.length_map, List.length_map, List.length_range]; omega), _, _, rfl, s5.upd l0, ?_⟩
         rw [zab, push]
         unfold nmF
         rw [if_pos hW]
         refine K14.str_ext ?_
         rw [zjg]
         show ((tx (nmB cs at' (c / 3) i)).cps ++ _).toList = _
         simp [tx]
         decide +kernel
       . refine zbw (λ z => hW (of_decide_eq_true z)) ⟨_, rfl, .inl ⟨rfl, _, SqL.of e5⟩, _, rfl, l, _, _, rfl, rfl, e5, za8 (by rw [List.length_map, List.length_map, List.length_range]; omega), _, _, rfl, s5.upd l0, ?_⟩
         rw [zab, push]
         unfold nmF
         rw [if_neg hW]
     . rintro σ H' ⟨v7, v8, rfl, s4, e4⟩
       rw [Int.toNat_natCast] at e4
       refine ⟨_, rfl, q l H' _ l0 s4 e4 (by simp) ⟨nodup_range λ j k hj hk z => zzq (by omega) (by omega) (z1s z), λ n hn => ?_⟩⟩
       obtain ⟨k, hk, rfl⟩ := List.mem_map.mp hn
       have hB := znm cs at' (c / 3) k
       have hL : Let (nmB cs at' (c / 3) k) := λ x hx => by
         unfold nmB at hx
         rcases List.mem_append.mp hx with hx | hx
         . exact hcs x (List.mem_of_mem_take hx)
         rcases List.mem_cons.mp hx with rfl | hx
         . exact z1m _ _
         . exact hcs x (List.mem_of_mem_drop hx)
       refine ⟨_, rfl, ?_⟩
       unfold nmF
       split
       . refine ⟨λ x hx => ?_, by simp, by rw [List.length_append]; show _ + 1 <= 9; omega⟩
         rcases List.mem_append.mp hx with hx | hx
         . exact hL x hx
         . rw [List.mem_singleton.mp hx]; decide
       . exact ⟨hL, by omega, by omega⟩
theorem znq : FnScope ["_law_number"] ["_law_number"] (zac zdd) := ⟨rfl, rfl, rfl, by decide +kernel, rfl, by decide +kernel, by decide +kernel⟩
theorem zjk (T : Txt K mg t) : FnOk P w K mg base CX0 1 t.zk1 t.zk3 ["_law_number"] (zn5 K) := by
 refine T.zil.F.ok znq (λ vs H Q E h => ?_) (λ cdv A outer s H vs Q E hr h => ?_)
 . obtain ⟨n, rfl, q⟩ := h
   rfl
 . obtain ⟨n, rfl, q⟩ := h
   refine ⟨_, (@zad _ _ _ _ _ (@zcd _ _ _ _ _ _ _ _ (@zaw _ _ _ _ _ _ _ _ zdw (@zbg _ _ _ _ _ _ _ _ zc7 (pv 0) zae) zae (zbb _)) (@zak _ _ _ (@zav _ _ _ _ (@zbg _ _ _ _ _ _ _ _ zc7 (@zbg _ _ _ _ _ _ _ _ zfs (pv 0) zae) zae))) zas) (@zad _ _ _ _ _ (@zcd _ _ _ _ _ _ _ _ (@zaw _ _ _ _ _ _ _ _ zdw (@zbg _ _ _ _ _ _ _ _ zc7 (pv 0) zae) zae (zbb _)) (@zak _ _ _ (@zav _ _ _ _ (@zbg _ _ _ _ _ _ _ _ zow (@zbg _ _ _ _ _ _ _ _ zow (@zbg _ _ _ _ _ _ _ _ zt4 zae zae) zae) (@zbg _ _ _ _ _ _ _ _ zc7 (@zbg _ _ _ _ _ _ _ _ zfs (pv 0) zae) zae)))) zas) (@zak _ _ _ (@zav _ _ _ _ (@zbg _ _ _ _ _ _ _ _ zc7 (@zbg _ _ _ _ _ _ _ _ zoj (@zbg _ _ _ _ _ _ _ _ zfs (pv 0) zae) zae) (@zbg _ _ _ _ _ _ _ _ zt4 zae zae)))))), ?_⟩
   have x1 : (2 : Int) ^ (48 : Int).toNat = 281474976710656 := by decide
   have w1 : K21.wide = 281474976710656 := by decide
   have b5 := zea (n / 3) 5 (by decide)
   refine ⟨_, rfl, _, _, rfl, rfl, (show (0 : Int) < 3 by decide), rfl, _, rfl, ?_⟩
   refine zno (λ _ => ?_) (λ _ => ?_)
   . exact ⟨_, rfl, _, _, rfl, rfl, ztq _, _, _, rfl, rfl, (show (0 : Int) < 5 by decide), q _ ⟨b5.1, by rw [w1]; omega⟩⟩
   refine ⟨_, rfl, _, _, rfl, rfl, (show (0 : Int) < 3 by decide), rfl, _, rfl, ?_⟩
   refine zno (λ _ => ?_) (λ _ => ?_)
   . refine ⟨_, _, rfl, rfl, ⟨by decide, by decide, by decide⟩, _, _, rfl, rfl, _, rfl, _, _, rfl, rfl, ztq _, _, _, rfl, rfl, (show (0 : Int) < 5 by decide), _, _, rfl, rfl, q _ ⟨?_, ?_⟩⟩
     . rw [x1]; omega
     . rw [x1, w1]; omega
   . refine ⟨_, rfl, _, _, rfl, rfl, ztq _, _, _, rfl, rfl, .inr ⟨by decide, by decide⟩, _, _, rfl, rfl, ⟨by decide, by decide, by decide⟩, _, _, rfl, rfl, (show (0 : Int) < 2 ^ (48 : Int).toNat by decide), q _ ?_⟩
     rw [x1]
     have b := zea (n / 3 * 160481183) 281474976710656 (by decide)
     exact ⟨b.1, by rw [w1]; exact b.2⟩
theorem zsn : FnScope ["_law_number", "_law_names_here"] ["_law_number", "_law_names_here"] (zac zeu) := ⟨rfl, rfl, rfl, by decide +kernel, rfl, by decide +kernel, by decide +kernel⟩
theorem zm5 (T : Txt K mg t) : FnOk P w K mg base CX0 2 t.zp0 t.zp4 ["_law_number", "_law_names_here"] (zth K) := by
 have G_l_value_by := zjk (P := P) (w := w) (base := base) T
 refine T.zkl.F.ok zsn (λ vs H Q E h => ?_) (λ cdv A outer s H vs Q E hr h => ?_)
 . obtain ⟨n, a, ns, rfl, ha, hn, q⟩ := h
   rfl
 . obtain ⟨n, a, ns, rfl, ha, hn, q⟩ := h
   refine ⟨_, (@zad _ _ _ _ _ (@zcd _ _ _ _ _ _ _ _ (@zaw _ _ _ _ _ _ _ _ zdw (@zbg _ _ _ _ _ _ _ _ zc7 (pv 0) zae) zae (zbb _)) (@zak _ _ _ (@zav _ _ _ _ (zc4 T.zil G_l_value_by (hr.mono (by decide)) (@zaa _ _ _ _ _ (@zbg _ _ _ _ _ _ _ _ zfs (pv 0) zae) zag (by rfl))))) zas) (@zad _ _ _ _ _ (@zcd _ _ _ _ _ _ _ _ (@zaw _ _ _ _ _ _ _ _ zdw (@zbg _ _ _ _ _ _ _ _ zc7 (pv 0) zae) zae (zbb _)) (@zak _ _ _ (@zav _ _ _ _ (@zbg _ _ _ _ _ _ _ _ zc7 (@zbg _ _ _ _ _ _ _ _ zfs (pv 0) zae) zae))) zas) (@zak _ _ _ (@zav _ _ _ _ (@zao _ _ _ _ _ _ _ zat (pv 1) (@zbg _ _ _ _ _ _ _ _ zc7 (@zbg _ _ _ _ _ _ _ _ zfs (pv 0) zae) (zb6 zbj (by rfl) T.b_len zfp (@zaa _ _ _ _ _ (pv 1) zag (by rfl)))) (λ _ _ => rfl)))))), ?_⟩
   have w1 : K21.wide = 281474976710656 := by decide
   have hl : (0 : Int) < ((ns.map V.str).length : Nat) := by rw [List.length_map]; omega
   have b5 := zea (n / 3) 5 (by decide)
   refine ⟨_, rfl, _, _, rfl, rfl, (show (0 : Int) < 9 by decide), rfl, _, rfl, ?_⟩
   refine zno (λ _ => ?_) (λ _ => ?_)
   . exact ⟨_, rfl, _, _, rfl, rfl, zul _ 9 ⟨by decide, by decide⟩, n / 9, rfl, λ v hv => q _ (.inl ⟨v, rfl, hv⟩)⟩
   refine ⟨_, rfl, _, _, rfl, rfl, (show (0 : Int) < 3 by decide), rfl, _, rfl, ?_⟩
   refine zno (λ _ => ?_) (λ _ => ?_)
   . exact ⟨_, rfl, _, _, rfl, rfl, ztq _, _, _, rfl, rfl, (show (0 : Int) < 5 by decide), q _ (.inl ⟨_, rfl, b5.1, by rw [w1]; omega⟩)⟩
   have b := zea (n / 3) _ hl
   obtain ⟨v, hv, hm⟩ := zlf (xs := ns.map V.str) b.1 b.2
   obtain ⟨x, hxm, rfl⟩ := List.mem_map.mp hm
   exact ⟨_, rfl, _, rfl, _, _, rfl, rfl, ztq _, _, rfl, a, _, rfl, .inl ha, _, _, rfl, rfl, hl, a, _, _, _, rfl, rfl, ha, hv, q _ (.inr ⟨x, rfl, hxm⟩)⟩
theorem znu : FnScope ["_law_cell", "_law_names_here", "_law_fields", "_law_xs", "_law_field"] ["_law_cell", "_law_names_here", "_law_fields"] (zac zhw) := ⟨rfl, rfl, rfl, by decide +kernel, rfl, by decide +kernel, by decide +kernel⟩
theorem zxj (T : Txt K mg t) : FnOk P w K mg base CX0 3 t.zv4 t.zv9 ["_law_cell", "_law_names_here", "_law_fields"] (zw3 K) := by
 have G_l_stream := zlt (P := P) (w := w) (base := base) T
 have G_l_small := zm5 (P := P) (w := w) (base := base) T
 refine T.z2e.F.ok znu (λ vs H Q E h => ?_) (λ cdv A outer s H vs Q E hr h => ?_)
 . obtain ⟨c, a, b, ns, fds, rfl, ha, hb, hn, h3, q⟩ := h
   rfl
 . obtain ⟨c, a, b, ns, fds, rfl, ha, hb, hn, h3, q⟩ := h
   refine ⟨_, (@zad _ _ _ _ _ (@zbs _ _ 3 _ _ _ _ znu.nd rfl (Or.inl rfl) (zc4 T.zoe G_l_stream (hr.mono (by decide)) (@zaa _ _ _ _ _ (pv 0) (@zaa _ _ _ _ _ zae zag (by rfl)) (by rfl))) (by rfl) (by first | exact .inl rfl | exact .inr rfl | assumption)) (@zad _ _ _ _ _ (@zbs _ _ 4 _ _ _ _ znu.nd rfl (Or.inl rfl) (@zao _ _ _ _ _ _ _ zat (pv 2) (@zbg _ _ _ _ _ _ _ _ zc7 (@zao _ _ _ _ _ _ _ zat (pv 3) zae (λ _ _ => rfl)) zae) (λ _ _ => rfl)) (by rfl) (by first | exact .inl rfl | exact .inr rfl | assumption)) (@zad _ _ _ _ _ (@zcd _ _ _ _ _ _ _ _ (@zaw _ _ _ _ _ _ _ _ zsz (@zbg _ _ _ _ _ _ _ _ zc7 (@zao _ _ _ _ _ _ _ zat (pv 3) zae (λ _ _ => rfl)) zae) zae (zbb _)) (@zak _ _ _ (@zav _ _ _ _ (@zcn _ _ _ _ _ (@zaa _ _ _ _ _ zbh (@zaa _ _ _ _ _ (@zao _ _ _ _ _ _ _ zat (pv 1) (@zbg _ _ _ _ _ _ _ _ zc7 (@zao _ _ _ _ _ _ _ zat (pv 3) zae (λ _ _ => rfl)) (zb6 zbj (by rfl) T.b_len zfp (@zaa _ _ _ _ _ (pv 1) zag (by rfl)))) (λ _ _ => rfl)) zag (by rfl)) (by rfl))))) zas) (@zad _ _ _ _ _ (@zcd _ _ _ _ _ _ _ _ (@zaw _ _ _ _ _ _ _ _ zsz (@zbg _ _ _ _ _ _ _ _ zc7 (@zao _ _ _ _ _ _ _ zat (pv 3) zae (λ _ _ => rfl)) zae) zae (zbb _)) (@zak _ _ _ (@zav _ _ _ _ (@zcn _ _ _ _ _ (@zaa _ _ _ _ _ zbh (@zaa _ _ _ _ _ (@zao _ _ _ _ _ _ _ zat (pv 1) (@zbg _ _ _ _ _ _ _ _ zc7 (@zao _ _ _ _ _ _ _ zat (pv 3) zae (λ _ _ => rfl)) (zb6 zbj (by rfl) T.b_len zfp (@zaa _ _ _ _ _ (pv 1) zag (by rfl)))) (λ _ _ => rfl)) (@zaa _ _ _ _ _ (zc4 T.zkl G_l_small (hr.mono (by decide)) (@zaa _ _ _ _ _ (@zao _ _ _ _ _ _ _ zat (pv 3) zae (λ _ _ => rfl)) (@zaa _ _ _ _ _ (pv 1) zag (by rfl)) (by rfl))) (@zaa _ _ _ _ _ (pv 4) zag (by rfl)) (by rfl)) (by rfl)) (by rfl))))) zas) (@zad _ _ _ _ _ (@zcd _ _ _ _ _ _ _ _ (@zaw _ _ _ _ _ _ _ _ zsz (@zbg _ _ _ _ _ _ _ _ zc7 (@zao _ _ _ _ _ _ _ zat (pv 3) zae (λ _ _ => rfl)) zae) zae (zbb _)) (@zak _ _ _ (@zav _ _ _ _ (@zcn _ _ _ _ _ (@zaa _ _ _ _ _ zbh (@zaa _ _ _ _ _ (zc4 T.zkl G_l_small (hr.mono (by decide)) (@zaa _ _ _ _ _ (@zao _ _ _ _ _ _ _ zat (pv 3) zae (λ _ _ => rfl)) (@zaa _ _ _ _ _ (pv 1) zag (by rfl)) (by rfl))) (@zaa _ _ _ _ _ (pv 4) (@zaa _ _ _ _ _ (zc4 T.zkl G_l_small (hr.mono (by decide)) (@zaa _ _ _ _ _ (@zao _ _ _ _ _ _ _ zat (pv 3) zae (λ _ _ => rfl)) (@zaa _ _ _ _ _ (pv 1) zag (by rfl)) (by rfl))) zag (by rfl)) (by rfl)) (by rfl)) (by rfl))))) zas) (@zak _ _ _ (@zav _ _ _ _ (@zcn _ _ _ _ _ (@zaa _ _ _ _ _ zbh (@zaa _ _ _ _ _ (@zao _ _ _ _ _ _ _ zat (pv 1) (@zbg _ _ _ _ _ _ _ _ zc7 (@zao _ _ _ _ _ _ _ zat (pv 3) zae (λ _ _ => rfl)) (zb6 zbj (by rfl) T.b_len zfp (@zaa _ _ _ _ _ (pv 1) zag (by rfl)))) (λ _ _ => rfl)) (@zaa _ _ _ _ _ (zc4 T.zkl G_l_small (hr.mono (by decide)) (@zaa _ _ _ _ _ (@zao _ _ _ _ _ _ _ zat (pv 3) zae (λ _ _ => rfl)) (@zaa _ _ _ _ _ (pv 1) zag (by rfl)) (by rfl))) zag (by rfl)) (by rfl)) (by rfl)))))))))), ?_⟩
   refine ⟨_, rfl, c, 4, rfl, by decide, λ l H1 xs hl0 s1 e1 hx hx0 => ?_⟩
   match xs, hx with
   | [n0, n1, n2, n3], _ =>
   have hl : (0 : Int) < ((ns.map V.str).length : Nat) := by rw [List.length_map]; omega
   have bb := zea n1 _ hl
   obtain ⟨v, hv, hm⟩ := zlf (xs := ns.map V.str) bb.1 bb.2
   obtain ⟨x, hxm, rfl⟩ := List.mem_map.mp hm
   have b3 := zea n3 3 (by decide)
   obtain ⟨v, hf, hm⟩ := zlf (xs := fds.map V.str) (i := n3 % 3) b3.1 (by rw [List.length_map, h3]; exact b3.2)
   obtain ⟨fd, hfm, rfl⟩ := List.mem_map.mp hm
   have sa := s1.seq ha
   have sb := s1.seq hb
   refine ⟨_, rfl, _, rfl, l, _, _, _, rfl, rfl, SqL.of e1, rfl, _, _, rfl, rfl, (show (0 : Int) < 3 by decide), b, _, _, _, rfl, rfl, sb, hf, ?_⟩
   refine ⟨_, rfl, l, _, _, _, rfl, rfl, SqL.of e1, rfl, _, _, rfl, rfl, (show (0 : Int) < 9 by decide), _, _, rfl, rfl, _, rfl, ?_⟩
   refine zno (λ _ => ?_) (λ _ => ?_)
   . exact ⟨_, rfl, _, rfl, l, _, _, _, rfl, rfl, SqL.of e1, rfl, _, rfl, a, _, rfl, .inl sa, _, _, rfl, rfl, hl, a, _, _, _, rfl, rfl, sa, hv, le2, λ tp htp => q tp _ (.new x) (s1.free htp) (s1.trans (zal.new htp)) zab hxm⟩
   refine ⟨_, rfl, l, _, _, _, rfl, rfl, SqL.of e1, rfl, _, _, rfl, rfl, (show (0 : Int) < 9 by decide), _, _, rfl, rfl, _, rfl, ?_⟩
   refine zno (λ _ => ?_) (λ _ => ?_)
   . exact ⟨_, rfl, _, rfl, l, _, _, _, rfl, rfl, SqL.of e1, rfl, _, rfl, a, _, rfl, .inl sa, _, _, rfl, rfl, hl, a, _, _, _, rfl, rfl, sa, hv, _, rfl, l, _, _, _, rfl, rfl, SqL.of e1, rfl, _, rfl, n2, a, ns, rfl, sa, hn, λ u hu => ⟨_, rfl, le4, λ tp htp => q tp _ (.get x u fd) (s1.free htp) (s1.trans (zal.new htp)) zab ⟨hxm, hu, hfm⟩⟩⟩
   refine ⟨_, rfl, l, _, _, _, rfl, rfl, SqL.of e1, rfl, _, _, rfl, rfl, (show (0 : Int) < 9 by decide), _, _, rfl, rfl, _, rfl, ?_⟩
   refine zno (λ _ => ?_) (λ _ => ?_)
   . exact ⟨_, rfl, l, _, _, _, rfl, rfl, SqL.of e1, rfl, _, rfl, n1, a, ns, rfl, sa, hn, λ u hu => ⟨_, rfl, _, rfl, l, _, _, _, rfl, rfl, SqL.of e1, rfl, _, rfl, n2, a, ns, rfl, sa, hn, λ v hv => ⟨le4, λ tp htp => q tp _ (.put u fd v) (s1.free htp) (s1.trans (zal.new htp)) zab ⟨hu, hfm, hv⟩⟩⟩⟩
   exact ⟨_, rfl, _, rfl, l, _, _, _, rfl, rfl, SqL.of e1, rfl, _, rfl, a, _, rfl, .inl sa, _, _, rfl, rfl, hl, a, _, _, _, rfl, rfl, sa, hv, _, rfl, l, _, _, _, rfl, rfl, SqL.of e1, rfl, _, rfl, n2, a, ns, rfl, sa, hn, λ u hu => ⟨le3, λ tp htp => q tp _ (.copy x u) (s1.free htp) (s1.trans (zal.new htp)) zab ⟨hxm, hu⟩⟩⟩
theorem zs9 : FnScope ["_law_atom_here", "_law_now"] ["_law_atom_here", "_law_now"] (zac zew) := ⟨rfl, rfl, rfl, by decide +kernel, rfl, by decide +kernel, by decide +kernel⟩
theorem zka (T : Txt K mg t) : FnOk P w K mg base CX0 1 t.zp1 t.zp5 ["_law_atom_here", "_law_now"] (zs3 K) := by
 refine T.zg8.F.ok zs9 (λ vs H Q E h => ?_) (λ cdv A outer s H vs Q E hr h => ?_)
 . obtain ⟨v, y, d, kvs, rfl, hd, hv, q⟩ := h
   rfl
 . obtain ⟨v, y, d, kvs, rfl, hd, hv, q⟩ := h
   refine ⟨_, (@zad _ _ _ _ _ (@zcd _ _ _ _ _ _ _ _ (zf6 (zb6 zdu (by rfl) T.b_isinstance zcy (@zaa _ _ _ _ _ (pv 0) (@zaa _ _ _ _ _ (zhy (v := V.ty "str") rfl T.b_str zrj rfl) zag (by rfl)) (by rfl)))) (@zak _ _ _ (@zav _ _ _ _ (zdl (u1' hr.units) (pv 1) (pv 0) (λ _ _ => rfl)))) zas) (@zak _ _ _ (@zav _ _ _ _ (pv 0)))), ?_⟩
   cases v with
   | str n => exact ⟨_, rfl, _, "str", _, true, rfl, .str _, rfl, _, rfl, z01 ⟨_, rfl, _, rfl, d, _, rfl, zep hd hv, q⟩⟩
   | int i =>
     cases hv
     exact ⟨_, rfl, _, "str", _, false, rfl, .int _, rfl, _, rfl, z2g ⟨_, rfl, q⟩⟩
   | _ => cases hv
theorem zus : FnScope ["_law_now", "_law_store", "_law_row_here"] ["_law_now", "_law_store", "_law_row_here"] (zac zf5) := ⟨rfl, rfl, rfl, by decide +kernel, rfl, by decide +kernel, by decide +kernel⟩
theorem zuy (T : Txt K mg t) : FnOk P w K mg base CX0 2 t.zsg t.zsk ["_law_now", "_law_store", "_law_row_here"] (zvj K) := by
 have G_l_worth := zka (P := P) (w := w) (base := base) T
 refine T.zyq.F.ok zus (λ vs H Q E h => ?_) (λ cdv A outer s H vs Q E hr h => ?_)
 . obtain ⟨d, s, r, kvs, st, rg, rfl, hd, hs, hr1, hk, hl, sh, q⟩ := h
   rfl
 . obtain ⟨d, s, r, kvs, st, rg, rfl, hd, hs, hr1, hk, hl, sh, q⟩ := h
   refine ⟨_, (@zad _ _ _ _ _ (@zcd _ _ _ _ _ _ _ _ (@zaw _ _ _ _ _ _ _ _ zdw (@zao _ _ _ _ _ _ _ zap (pv 2) zae (λ _ _ => rfl)) zbh (zbb _)) (@zad _ _ _ _ _ (zrg (zda (u1' hr.units) (pv 0) (@zao _ _ _ _ _ _ _ zap (pv 2) zae (λ _ _ => rfl)) (@zbg _ _ _ _ _ _ _ _ zgn zae (zb6 zbj (by rfl) T.b_len zfp (@zaa _ _ _ _ _ (zh5 (N' := ["_law_key"]) (js := [none]) (by kernel_rfl) rfl (z1n (pv 1)) zer (λ _ _ _ _ => (za7 (i := 0) (show (["_law_key"] : List Str).Nodup by decide +kernel) rfl (Or.inl rfl) (.inr rfl))) (λ _ _ _ _ => (zu1 (@zaw _ _ _ _ _ _ _ _ zdw (@zao _ _ _ _ _ _ _ (show IxR _ (z2b K) from zap) (pv 0) zae (λ _ _ => rfl)) zbh (zbb _)))) (λ _ _ _ _ => (pv 0))) zag (by rfl)))) (by rfl))) (@zad _ _ _ _ _ (zda (u1' hr.units) (pv 1) (@zcn _ _ _ _ _ (@zaa _ _ _ _ _ (zdl (u1' hr.units) (pv 0) (@zao _ _ _ _ _ _ _ zap (pv 2) zae (λ _ _ => rfl)) (λ _ _ => rfl)) (@zaa _ _ _ _ _ zbh zag (by rfl)) (by rfl))) zae (by rfl)) (@zak _ _ _ (@zav _ _ _ _ (@zcn _ _ _ _ _ (@zaa _ _ _ _ _ zbh (@zaa _ _ _ _ _ (zdl (u1' hr.units) (pv 0) (@zao _ _ _ _ _ _ _ zap (pv 2) zae (λ _ _ => rfl)) (λ _ _ => rfl)) zag (by rfl)) (by rfl))))))) zas) (@zad _ _ _ _ _ (@zcd _ _ _ _ _ _ _ _ (@zaw _ _ _ _ _ _ _ _ zdw (@zao _ _ _ _ _ _ _ zap (pv 2) zae (λ _ _ => rfl)) zbh (zbb _)) (@zad _ _ _ _ _ (zda (u1' hr.units) (pv 1) (@zcn _ _ _ _ _ (@zaa _ _ _ _ _ (zc4 T.zg8 G_l_worth (hr.mono (by decide)) (@zaa _ _ _ _ _ (@zao _ _ _ _ _ _ _ zap (pv 2) zae (λ _ _ => rfl)) (@zaa _ _ _ _ _ (pv 0) zag (by rfl)) (by rfl))) (@zaa _ _ _ _ _ (@zao _ _ _ _ _ _ _ zap (pv 2) zae (λ _ _ => rfl)) zag (by rfl)) (by rfl))) (zc4 T.zg8 G_l_worth (hr.mono (by decide)) (@zaa _ _ _ _ _ (@zao _ _ _ _ _ _ _ zap (pv 2) zae (λ _ _ => rfl)) (@zaa _ _ _ _ _ (pv 0) zag (by rfl)) (by rfl))) (by rfl)) (@zak _ _ _ (@zav _ _ _ _ (@zcn _ _ _ _ _ (@zaa _ _ _ _ _ zbh (@zaa _ _ _ _ _ (zc4 T.zg8 G_l_worth (hr.mono (by decide)) (@zaa _ _ _ _ _ (@zao _ _ _ _ _ _ _ zap (pv 2) zae (λ _ _ => rfl)) (@zaa _ _ _ _ _ (pv 0) zag (by rfl)) (by rfl))) (@zaa _ _ _ _ _ (@zao _ _ _ _ _ _ _ zap (pv 2) zae (λ _ _ => rfl)) (@zaa _ _ _ _ _ (zc4 T.zg8 G_l_worth (hr.mono (by decide)) (@zaa _ _ _ _ _ (@zao _ _ _ _ _ _ _ zap (pv 2) zae (λ _ _ => rfl)) (@zaa _ _ _ _ _ (pv 0) zag (by rfl)) (by rfl))) zag (by rfl)) (by rfl)) (by rfl)) (by rfl)))))) zas) (@zad _ _ _ _ _ (@zcd _ _ _ _ _ _ _ _ (@zaw _ _ _ _ _ _ _ _ zdw (@zao _ _ _ _ _ _ _ zap (pv 2) zae (λ _ _ => rfl)) zbh (zbb _)) (@zak _ _ _ (zda (u1' hr.units) (pv 0) (@zao _ _ _ _ _ _ _ zap (pv 2) zae (λ _ _ => rfl)) (zjv (u1' hr.units) (pv 1) (@zcn _ _ _ _ _ (@zaa _ _ _ _ _ (zc4 T.zg8 G_l_worth (hr.mono (by decide)) (@zaa _ _ _ _ _ (@zao _ _ _ _ _ _ _ zap (pv 2) zae (λ _ _ => rfl)) (@zaa _ _ _ _ _ (pv 0) zag (by rfl)) (by rfl))) (@zaa _ _ _ _ _ (@zao _ _ _ _ _ _ _ zap (pv 2) zae (λ _ _ => rfl)) zag (by rfl)) (by rfl))) zae ⟨rfl, rfl, rfl, rfl⟩) (by rfl))) zas) (@zad _ _ _ _ _ (@zcd _ _ _ _ _ _ _ _ (@zaw _ _ _ _ _ _ _ _ zdw (@zao _ _ _ _ _ _ _ zap (pv 2) zae (λ _ _ => rfl)) zbh (zbb _)) (@zak _ _ _ (zda (u1' hr.units) (pv 0) (@zao _ _ _ _ _ _ _ zap (pv 2) zae (λ _ _ => rfl)) (zc4 T.zg8 G_l_worth (hr.mono (by decide)) (@zaa _ _ _ _ _ (@zao _ _ _ _ _ _ _ zap (pv 2) zae (λ _ _ => rfl)) (@zaa _ _ _ _ _ (pv 0) zag (by rfl)) (by rfl))) (by rfl))) zas) (@zak _ _ _ (@zav _ _ _ _ zh1)))))), ?_⟩
   have E0 := zte d s H
   have E1 := zsx d s H
   have sE : zal (er2 d s H) H := zgb
   have rE := zzr hd hs hr1
   have nds : d ≠ s := λ z => by rw [z, hs] at hd; cases hd
   cases rg with
   | new x =>
     refine ⟨_, rfl, r, _, _, _, rfl, rfl, hr1, at0, rfl, _, rfl, zfq (by decide +kernel) ⟨s, st, hs, _, rfl, s, st, rfl, hs, λ o p hp => zzm (by omega) (λ i acc H2 => zal (upd H s (.frz o (.dT st))) H2 /\ H2 p = some (.lst acc) /\ acc.length = zfk (st.take i)) ⟨zal.new hp, zab, rfl⟩ ?_ ?_ ?_⟩⟩
     . rintro i acc H2 hi ⟨s2, e2, l2⟩
       refine ⟨e2, ?_, s2 _ _ zab⟩
       rw [l2]
       refine Nat.le_trans (z0e _) ?_
       rw [List.length_take]
       omega
     . rintro i kv b acc H2 hkv hb ⟨s2, e2, l2⟩
       obtain ⟨i', f', z, e3, e4⟩ := sh kv (List.mem_of_getElem? hkv)
       rw [e3] at hb
       have hb : H2 b = some (.tup [V.int i', V.str f']) := hb
       have hc : zfk (st.take (i + 1)) = zfk (st.take i) + (if isN kv = true then 1 else 0) := by rw [List.take_add_one, hkv]; exact zls _ _
       have hN : isN kv = decide (V.str f' = V.str "") := by
         rw [show kv = (fk i' f', kv.2) from Prod.ext e3 rfl]
         exact zv0 _ _ _
       refine ⟨_, rfl, b, _, _, _, rfl, rfl, SqT.of hb, rfl, rfl, _, rfl, zno (λ hT => ?_) (λ hT => ?_)⟩
       . refine ⟨_, rfl, e2, s2.upd hp, zab, ?_⟩
         rw [List.length_append, hc, hN, if_pos hT, l2]
         rfl
       . refine ⟨s2, e2, ?_⟩
         rw [hc, hN, if_neg hT, l2]
         rfl
     rintro acc H2 ⟨s2, e2, l2⟩
     rw [List.take_of_length_le (Nat.le_refl _)] at l2
     have e3 : zal (er2 d s H) H2 := (sE.upd E1).trans s2
     have hd2 : H2 d = some (.dK kvs) := s2 _ _ (by rw [zah nds]; exact hd)
     have hs2 : H2 s = some (.frz o (.dT st)) := s2 _ _ zab
     refine ⟨p, _, rfl, .inl (SqL.of e2), _, _, rfl, rfl, _, rfl, _, rfl, r, _, _, _, rfl, rfl, e3.tup rE, rfl, d, _, rfl, zkr.k (k := (Sum.inr x : Key)) hd2 (za8 (by omega)), o, by rw [zah nds.symm]; exact hs2, ?_⟩
     rw [l2]
     have hd3 : upd (upd H2 d (.dK (za3 kvs (Sum.inr x : Key) (.int (1 + (zfk st : Int)))))) s (.dT st) d = some (.dK (za3 kvs (Sum.inr x : Key) (.int (1 + (zfk st : Int))))) := by rw [zah nds, zab]
     have hs3 := zab (H := upd H2 d (.dK (za3 kvs (Sum.inr x : Key) (.int (1 + (zfk st : Int)))))) (a := s) (o := .dT st)
     have e4 : zal (er2 d s H) (upd (upd H2 d (.dK (za3 kvs (Sum.inr x : Key) (.int (1 + (zfk st : Int)))))) s (.dT st)) := (e3.upd E0).upd E1
     have gx : zdc (za3 kvs (Sum.inr x : Key) (.int (1 + (zfk st : Int)))) (Sum.inr x : Key) = some (.int (1 + (zfk st : Int))) := by rw [zdn, if_pos rfl]
     generalize upd (upd H2 d (.dK (za3 kvs (Sum.inr x : Key) (.int (1 + (zfk st : Int)))))) s (.dT st) = H3 at hd3 hs3 e4 ⊢
     refine ⟨_, rfl, _, rfl, _, rfl, r, _, _, _, rfl, rfl, e4.tup rE, rfl, d, _, rfl, zep hd3 gx, le2, λ kp hkp => ?_⟩
     have s5 := zal.new (o := .tup [V.int (1 + (zfk st : Int)), V.str ""]) hkp
     have e5 := zab (H := H3) (a := kp) (o := .tup [V.int (1 + (zfk st : Int)), V.str ""])
     generalize upd H3 kp (.tup [V.int (1 + (zfk st : Int)), V.str ""]) = H4 at s5 e5 ⊢
     refine ⟨s, _, rfl, zkr.t (k := fk (1 + (zfk st : Int)) "") (s5 _ _ hs3) e5 (za8 (by omega)), ?_⟩
     have e6 : zal (er2 d s H) (upd H4 s (.dT (za3 st (fk (1 + (zfk st : Int)) "") (.int 0)))) := (e4.trans s5).upd E1
     have hd6 : upd H4 s (.dT (za3 st (fk (1 + (zfk st : Int)) "") (.int 0))) d = some (.dK (za3 kvs (Sum.inr x : Key) (.int (1 + (zfk st : Int))))) := by rw [zah nds]; exact s5 _ _ hd3
     have hs6 := zab (H := H4) (a := s) (o := .dT (za3 st (fk (1 + (zfk st : Int)) "") (.int 0)))
     generalize upd H4 s (.dT (za3 st (fk (1 + (zfk st : Int)) "") (.int 0))) = H5 at e6 hd6 hs6 ⊢
     refine ⟨_, rfl, _, rfl, r, _, _, _, rfl, rfl, e6.tup rE, rfl, d, _, rfl, zep hd6 gx, le2, λ tp htp => ?_⟩
     exact q _ tp (zrf e6 hd6 hs6 htp) (e6.trans (zal.new htp)) (zal.new htp _ _ hd6) (zal.new htp _ _ hs6) zab
   | put a f b =>
     obtain ⟨i, v, ha, hv, q⟩ := q
     refine ⟨_, rfl, r, _, _, _, rfl, rfl, hr1, at0, rfl, _, rfl, zbw (by decide +kernel) ⟨_, rfl, r, _, _, _, rfl, rfl, hr1, at0, rfl, _, rfl, zfq (by decide +kernel) ⟨_, rfl, r, _, _, _, rfl, rfl, hr1, rfl, _, rfl, b, v, d, kvs, rfl, hd, hv, _, rfl, _, rfl, r, _, _, _, rfl, rfl, hr1, rfl, _, rfl, a, _, d, kvs, rfl, hd, ha, _, rfl, r, _, _, _, rfl, rfl, hr1, rfl, le2, λ kp hkp => ?_⟩⟩⟩
     have s5 := zal.new (o := .tup [V.int i, V.str f]) hkp
     have e5 := zab (H := H) (a := kp) (o := .tup [V.int i, V.str f])
     generalize upd H kp (.tup [V.int i, V.str f]) = H4 at s5 e5 ⊢
     refine ⟨s, _, rfl, zkr.t (k := fk i f) (s5 _ _ hs) e5 (za8 (by omega)), ?_⟩
     have e6 : zal (er2 d s H) (upd H4 s (.dT (za3 st (fk i f) v))) := (sE.trans s5).upd E1
     have hd6 : upd H4 s (.dT (za3 st (fk i f) v)) d = some (.dK kvs) := by rw [zah nds]; exact s5 _ _ hd
     have hs6 := zab (H := H4) (a := s) (o := .dT (za3 st (fk i f) v))
     generalize upd H4 s (.dT (za3 st (fk i f) v)) = H5 at e6 hd6 hs6 ⊢
     refine ⟨_, rfl, r, _, _, _, rfl, rfl, e6.tup rE, rfl, _, rfl, a, _, d, kvs, rfl, hd6, ha, _, rfl, r, _, _, _, rfl, rfl, e6.tup rE, rfl, _, rfl, r, _, _, _, rfl, rfl, e6.tup rE, rfl, _, rfl, b, v, d, kvs, rfl, hd6, hv, le4, λ tp htp => ?_⟩
     exact q _ tp (zrf e6 hd6 hs6 htp) (e6.trans (zal.new htp)) (zal.new htp _ _ hd6) (zal.new htp _ _ hs6) zab
   | get x a f =>
     obtain ⟨i, ha, q⟩ := q
     refine ⟨_, rfl, r, _, _, _, rfl, rfl, hr1, at0, rfl, _, rfl, zbw (by decide +kernel) ⟨_, rfl, r, _, _, _, rfl, rfl, hr1, at0, rfl, _, rfl, zbw (by decide +kernel) ⟨_, rfl, r, _, _, _, rfl, rfl, hr1, at0, rfl, _, rfl, zfq (by decide +kernel) ⟨_, rfl, s, rfl, .inr ⟨_, .inl hs⟩, _, rfl, r, _, _, _, rfl, rfl, hr1, rfl, _, rfl, a, _, d, kvs, rfl, hd, ha, _, rfl, r, _, _, _, rfl, rfl, hr1, rfl, le2, λ kp hkp => ?_⟩⟩⟩⟩
     have s5 := zal.new (o := .tup [V.int i, V.str f]) hkp
     have e5 := zab (H := H) (a := kp) (o := .tup [V.int i, V.str f])
     generalize upd H kp (.tup [V.int i, V.str f]) = H4 at s5 e5 ⊢
     refine ⟨_, zlb.t (k := fk i f) (s5 _ _ hs) e5, _, rfl, _, rfl, r, _, _, _, rfl, rfl, s5.tup hr1, rfl, d, _, rfl, zkr.k (k := (Sum.inr x : Key)) (s5 _ _ hd) (za8 (by omega)), ?_⟩
     have e6 : zal (er2 d s H) (upd H4 d (.dK (za3 kvs (Sum.inr x : Key) ((zdc st (fk i f)).getD (.int 0))))) := (sE.trans s5).upd E0
     refine ⟨_, rfl, r, _, _, _, rfl, rfl, e6.tup rE, at0, rfl, _, rfl, zbw (by decide +kernel) ?_⟩
     exact q _ e6 zab (by rw [zah nds.symm]; exact s5 _ _ hs)
   | copy x a =>
     obtain ⟨v, ha, q⟩ := q
     refine ⟨_, rfl, r, _, _, _, rfl, rfl, hr1, at0, rfl, _, rfl, zbw (by decide +kernel) ⟨_, rfl, r, _, _, _, rfl, rfl, hr1, at0, rfl, _, rfl, zbw (by decide +kernel) ⟨_, rfl, r, _, _, _, rfl, rfl, hr1, at0, rfl, _, rfl, zbw (by decide +kernel) ⟨_, rfl, r, _, _, _, rfl, rfl, hr1, at0, rfl, _, rfl, zfq (by decide +kernel) ⟨_, rfl, r, _, _, _, rfl, rfl, hr1, rfl, _, rfl, a, v, d, kvs, rfl, hd, ha, _, rfl, _, rfl, r, _, _, _, rfl, rfl, hr1, rfl, d, _, rfl, zkr.k (k := (Sum.inr x : Key)) hd (za8 (by omega)), ?_⟩⟩⟩⟩⟩
     exact q _ (sE.upd E0) zab (by rw [zah nds.symm]; exact hs)
   | out a => exact q.elim
   | op x s a b => exact q.elim
   | back a => exact q.elim
   | call x g p as => exact q.elim
   | ifs a => exact q.elim
   | whl a => exact q.elim
theorem zkb : FnScope ["_law_found", "_law_due", "_law_one", "_law_other"] ["_law_found", "_law_due"] (zac zet) := ⟨rfl, rfl, rfl, by decide +kernel, rfl, by decide +kernel, by decide +kernel⟩
theorem zss (T : Txt K mg t) : FnOk P w K mg base CX0 1 t.zpy t.zp2 ["_law_found", "_law_due"] (zst K) := by
 refine T.zwc.F.ok zkb (λ vs H Q E h => ?_) (λ cdv A outer s H vs Q E hr h => ?_)
 . obtain ⟨x, y, rfl, hxy, q⟩ := h
   rfl
 . obtain ⟨x, y, rfl, hxy, q⟩ := h
   refine ⟨_, (@zad _ _ _ _ _ (@zcd _ _ _ _ _ _ _ _ (zpj (zvm (pv 1))) (@zak _ _ _ (@zav _ _ _ _ (z1v (zvm (pv 0))))) zas) (@zad _ _ _ _ _ (@zcd _ _ _ _ _ _ _ _ (@PW.pt _ _ _ (zmm (zkw (zf6 (zb6 zdu (by rfl) T.b_isinstance zcy (@zaa _ _ _ _ _ (pv 0) (@zaa _ _ _ _ _ (zhy (v := V.ty "tuple") rfl T.b_tuple zsb rfl) zag (by rfl)) (by rfl))))) (zl6 (@zaw _ _ _ _ _ _ _ _ zot (zb6 zbj (by rfl) T.b_len zfp (@zaa _ _ _ _ _ (pv 0) zag (by rfl))) (zb6 zbj (by rfl) T.b_len zfp (@zaa _ _ _ _ _ (pv 1) zag (by rfl))) (zbb _))))) (@zak _ _ _ (@zav _ _ _ _ zhi)) zas) (@zad _ _ _ _ _ (zd2 PassesOwn.never rfl (zt0 true true rfl T.b_zip (@zaa _ _ _ _ _ (pv 0) (@zaa _ _ _ _ _ (pv 1) zag (by rfl)) (by rfl))) (zkq rfl (zc9 (za7 (i := 2) zkb.nd rfl (Or.inl rfl)) (zc9 (za7 (i := 3) zkb.nd rfl (Or.inl rfl)) zh7))) (@zak _ _ _ (@zcd _ _ _ _ _ _ _ _ (@PW.pt _ _ _ (zmm (zf6 (zb6 zdu (by rfl) T.b_isinstance zcy (@zaa _ _ _ _ _ (pv 2) (@zaa _ _ _ _ _ (zhy (v := V.ty "bool") rfl T.b_bool zto rfl) zag (by rfl)) (by rfl)))) (zl6 (@zaw _ _ _ _ _ _ _ _ zot (pv 2) (pv 3) (zbb _))))) (@zak _ _ _ (@zav _ _ _ _ zhi)) zas))) (@zak _ _ _ (@zav _ _ _ _ zhi))))), ?_⟩
   rcases hxy with ⟨rfl, rfl⟩ | ⟨p, p2, xs, rfl, rfl, e1, e2, h10, hat⟩
   . exact ⟨_, rfl, _, rfl, zfq rfl ⟨_, rfl, q H (zal.refl _)⟩⟩
   refine ⟨_, rfl, _, rfl, zbw (by simp) ?_⟩
   refine ⟨_, rfl, _, "tuple", _, true, rfl, .tup e1, rfl, _, rfl, zbw (by decide) ⟨_, rfl, p, _, rfl, .inr (SqT.of e1), _, rfl, p2, _, rfl, .inr (SqT.of e2), rfl, _, rfl, zbw (by rw [decide_eq_true rfl]; decide) ?_⟩⟩
   refine ⟨_, rfl, _, rfl, p, p2, rfl, ⟨_, SqT.of e1⟩, ⟨_, SqT.of e2⟩, zp9 (b1 := true) (b2 := true) (xs := xs) (ys := xs) (λ k σ H' => ∃ v2 v3 : Option V, σ = [some (.ref p), some (.ref p2), v2, v3] /\ zal H H') ⟨_, _, rfl, zal.refl _⟩ ?_ ?_ ?_⟩
   . rintro k σ H' hk ⟨v2, v3, rfl, s1⟩
     exact ⟨SqT.of (s1 _ _ e1), SqT.of (s1 _ _ e2)⟩
   . rintro k u v σ H' b hu hv ⟨v2, v3, rfl, s1⟩ hb
     rw [hu] at hv
     cases hv
     refine ⟨b, _, rfl, SqT.of zab, rfl, _, _, rfl, _, _, rfl, rfl, ?_⟩
     have fin : ∃ v2 v3 : Option V, [some (V.ref p), some (V.ref p2), some u, some u] = [some (.ref p), some (.ref p2), v2, v3] /\ zal H (upd H' b (.tup [u, u])) := ⟨_, _, rfl, s1.trans (zal.new hb)⟩
     rcases hat u (List.mem_of_getElem? hu) with ⟨i, rfl⟩ | ⟨n, rfl⟩
     . exact ⟨_, rfl, _, "bool", _, false, rfl, .int _, rfl, _, rfl, zbw (by decide) ⟨_, rfl, _, rfl, rfl, _, rfl, zbw (by rw [decide_eq_true rfl]; decide) fin⟩⟩
     . exact ⟨_, rfl, _, "bool", _, false, rfl, .str _, rfl, _, rfl, zbw (by decide) ⟨_, rfl, _, rfl, rfl, _, rfl, zbw (by rw [decide_eq_true rfl]; decide) fin⟩⟩
   . rintro σ H' ⟨v2, v3, rfl, s1⟩
     exact q H' s1
theorem ze7 : FnScope ["_law_walker", "_law_row_here", "_law_now", "_law_store", "_law_record", "_law_field"] ["_law_walker", "_law_row_here", "_law_now", "_law_store"] (zac zch) := ⟨rfl, rfl, rfl, by decide +kernel, rfl, by decide +kernel, by decide +kernel⟩
theorem zla (T : Txt K mg t) : FnOk P w K mg base CX0 2 t.zic t.zif ["_law_walker", "_law_row_here", "_law_now", "_law_store"] (zk9 K t) := by
 have G_l_worth := zka (P := P) (w := w) (base := base) T
 have G_Walker_field := zfv (P := P) (w := w) (base := base) T
 refine T.zg7.F.ok ze7 (λ vs H Q E h => ?_) (λ cdv A outer s H vs Q E hr h => ?_)
 . obtain ⟨Hb, w, fs, oc, cn, r, d, s, kvs, st, rg, rfl, h, hr1, hd, hs, hm, q⟩ := h
   rfl
 . obtain ⟨Hb, w, fs, oc, cn, r, d, s, kvs, st, rg, rfl, h, hr1, hd, hs, hm, q⟩ := h
   refine ⟨_, (@zad _ _ _ _ _ (@zcd _ _ _ _ _ _ _ _ (@zaw _ _ _ _ _ _ _ _ zh3 (@zao _ _ _ _ _ _ _ zap (pv 1) zae (λ _ _ => rfl)) (@zcn _ _ _ _ _ (@zaa _ _ _ _ _ zbh (@zaa _ _ _ _ _ zbh zag (by rfl)) (by rfl))) (by with_unfolding_all rfl)) (@zak _ _ _ (@zav _ _ _ _ zhi)) zas) (@zad _ _ _ _ _ (@zbs _ _ 4 _ _ _ _ ze7.nd rfl (Or.inl rfl) (zc4 T.zg8 G_l_worth (hr.mono (by decide)) (@zaa _ _ _ _ _ (@zao _ _ _ _ _ _ _ zap (pv 1) (@zbg _ _ _ _ _ _ _ _ zgn zae (zdy zox (by rfl) T.b_int zu2 (@zaa _ _ _ _ _ (zns zdw (@zao _ _ _ _ _ _ _ zap (pv 1) zae (λ _ _ => rfl)) zbh (zbb _)) zag (by rfl)))) (λ _ _ => rfl)) (@zaa _ _ _ _ _ (pv 2) zag (by rfl)) (by rfl))) (by rfl) (by first | exact .inl rfl | exact .inr rfl | assumption)) (@zad _ _ _ _ _ (@zbs _ _ 5 _ _ _ _ ze7.nd rfl (Or.inl rfl) (@zao _ _ _ _ _ _ _ zap (pv 1) (@zbg _ _ _ _ _ _ _ _ zgn zae (zdy zox (by rfl) T.b_int zu2 (@zaa _ _ _ _ _ (zns zdw (@zao _ _ _ _ _ _ _ zap (pv 1) zae (λ _ _ => rfl)) zbh (zbb _)) zag (by rfl)))) (λ _ _ => rfl)) (by rfl) (by first | exact .inl rfl | exact .inr rfl | assumption)) (@zak _ _ _ (@zav _ _ _ _ (zns zdw (zbn (pv 0) T.zaf.cl T.zc3.m G_Walker_field (hr.mono (by decide)) T.zc3.b .nil zcz (@zaa _ _ _ _ _ (pv 4) (@zaa _ _ _ _ _ (pv 5) zag (by rfl)) (by rfl))) (zjv (u1' hr.units) (pv 3) (@zcn _ _ _ _ _ (@zaa _ _ _ _ _ (pv 4) (@zaa _ _ _ _ _ (pv 5) zag (by rfl)) (by rfl))) zae ⟨rfl, rfl, rfl, rfl⟩) (zbb _))))))), ?_⟩
   cases rg with
   | new x => exact ⟨_, rfl, r, _, _, _, rfl, rfl, hr1, at0, le2, λ tp htp => ⟨tp, _, rfl, .inr (SqT.of zab), rfl, (by decide +kernel), _, rfl, zfq (by decide +kernel) (q _ (zal.new htp))⟩⟩
   | copy x a => exact ⟨_, rfl, r, _, _, _, rfl, rfl, hr1, at0, le2, λ tp htp => ⟨tp, _, rfl, .inr (SqT.of zab), rfl, (by decide +kernel), _, rfl, zfq (by decide +kernel) (q _ (zal.new htp))⟩⟩
   | get x a fd =>
     obtain ⟨i, z, hv, e1, e2⟩ := hm
     refine ⟨_, rfl, r, _, _, _, rfl, rfl, hr1, at0, le2, λ tp htp => ⟨tp, _, rfl, .inr (SqT.of zab), rfl, (by decide +kernel), _, rfl, zbw (by decide +kernel) ?_⟩⟩
     have s1 := zal.new (o := .tup [V.str "get", V.str "put"]) htp
     generalize upd H tp (.tup [V.str "get", V.str "put"]) = H1 at s1 ⊢
     have hr2 := s1.tup hr1
     have h1 := h.grow s1
     refine ⟨_, rfl, _, rfl, r, _, _, _, rfl, rfl, hr2, at0, rfl, .inr ⟨_, rfl, _, _, rfl, rfl, r, _, _, _, rfl, rfl, hr2, (by rw [if_pos (by decide +kernel)]; rfl), _, rfl, a, .int i, d, kvs, rfl, s1 _ _ hd, hv, ?_⟩⟩
     refine ⟨_, rfl, _, rfl, r, _, _, _, rfl, rfl, hr2, at0, rfl, .inr ⟨_, rfl, _, _, rfl, rfl, r, _, _, _, rfl, rfl, hr2, (by rw [if_pos (by decide +kernel)]; rfl), ?_⟩⟩
     refine ⟨_, rfl, w.a, _, _, rfl, h1.o, rfl, _, rfl, _, rfl, _, w, fs, oc, [], cn, i, fd, rfl, h1, λ H2 s2 => ?_⟩
     refine ⟨_, rfl, s, rfl, .inr ⟨_, .inl (s2 _ _ (s1 _ _ hs))⟩, _, rfl, _, rfl, le2, λ p hp => ⟨_, zlb.t (k := fk i fd) (zal.new hp _ _ (s2 _ _ (s1 _ _ hs))) zab, ?_⟩⟩
     rw [e1, e2]
     exact ⟨rfl, vq (by rw [decide_eq_true rfl]) (q _ ((s1.trans s2).trans (zal.new hp)))⟩
   | put a fd b =>
     obtain ⟨i, z, hv, e1, e2⟩ := hm
     refine ⟨_, rfl, r, _, _, _, rfl, rfl, hr1, at0, le2, λ tp htp => ⟨tp, _, rfl, .inr (SqT.of zab), rfl, (by decide +kernel), _, rfl, zbw (by decide +kernel) ?_⟩⟩
     have s1 := zal.new (o := .tup [V.str "get", V.str "put"]) htp
     generalize upd H tp (.tup [V.str "get", V.str "put"]) = H1 at s1 ⊢
     have hr2 := s1.tup hr1
     have h1 := h.grow s1
     refine ⟨_, rfl, _, rfl, r, _, _, _, rfl, rfl, hr2, at0, rfl, .inr ⟨_, rfl, _, _, rfl, rfl, r, _, _, _, rfl, rfl, hr2, (by rw [if_neg (by decide +kernel)]; rfl), _, rfl, a, .int i, d, kvs, rfl, s1 _ _ hd, hv, ?_⟩⟩
     refine ⟨_, rfl, _, rfl, r, _, _, _, rfl, rfl, hr2, at0, rfl, .inr ⟨_, rfl, _, _, rfl, rfl, r, _, _, _, rfl, rfl, hr2, (by rw [if_neg (by decide +kernel)]; rfl), ?_⟩⟩
     refine ⟨_, rfl, w.a, _, _, rfl, h1.o, rfl, _, rfl, _, rfl, _, w, fs, oc, [], cn, i, fd, rfl, h1, λ H2 s2 => ?_⟩
     refine ⟨_, rfl, s, rfl, .inr ⟨_, .inl (s2 _ _ (s1 _ _ hs))⟩, _, rfl, _, rfl, le2, λ p hp => ⟨_, zlb.t (k := fk i fd) (zal.new hp _ _ (s2 _ _ (s1 _ _ hs))) zab, ?_⟩⟩
     rw [e1, e2]
     exact ⟨rfl, vq (by rw [decide_eq_true rfl]) (q _ ((s1.trans s2).trans (zal.new hp)))⟩
   | out a => exact hm.elim
   | op x s a b => exact hm.elim
   | back a => exact hm.elim
   | call x g p as => exact hm.elim
   | ifs a => exact hm.elim
   | whl a => exact hm.elim
theorem zlk : FnScope ["_law_walker", "_law_used_here", "_law_now", "_law_name", "_law_told_here"] ["_law_walker", "_law_used_here", "_law_now"] (zac zf9) := ⟨rfl, rfl, rfl, by decide +kernel, rfl, by decide +kernel, by decide +kernel⟩
theorem zvl (T : Txt K mg t) : FnOk P w K mg base CX0 6 t.zsh t.zsl ["_law_walker", "_law_used_here", "_law_now"] (zvr K t) := by
 have G_Walker_told := zmj (P := P) (w := w) (base := base) T
 refine T.zyr.F.ok zlk (λ vs H Q E h => ?_) (λ cdv A outer s H vs Q E hr h => ?_)
 . obtain ⟨Hb, w, f, cn, fns, F, u, d, us, kvs, rfl, h, hFl, hF, hn, hu, hd, hm, q⟩ := h
   rfl
 . obtain ⟨Hb, w, f, cn, fns, F, u, d, us, kvs, rfl, h, hFl, hF, hn, hu, hd, hm, q⟩ := h
   refine ⟨_, (@zad _ _ _ _ _ (zd2 PassesOwn.never rfl (zgi (pv 1)) (za7 (i := 3) zlk.nd rfl (Or.inl rfl)) (@zad _ _ _ _ _ (@zbs _ _ 4 _ _ _ _ zlk.nd rfl (Or.inl rfl) (zbn (pv 0) T.zaf.cl T.zi9.m G_Walker_told (hr.mono (by decide)) T.zi9.b .nil zcz (@zaa _ _ _ _ _ zae (@zaa _ _ _ _ _ (pv 3) zag (by rfl)) (by rfl))) (by rfl) (by first | exact .inl rfl | exact .inr rfl | assumption)) (@zak _ _ _ (@zcd _ _ _ _ _ _ _ _ (@PW.pt _ _ _ (zmm (zkw (zf6 (zb6 zdu (by rfl) T.b_isinstance zcy (@zaa _ _ _ _ _ (pv 4) (@zaa _ _ _ _ _ (zhy (v := V.ty "int") rfl T.b_int zu2 rfl) zag (by rfl)) (by rfl))))) (zmm (zf6 (zb6 zdu (by rfl) T.b_isinstance zcy (@zaa _ _ _ _ _ (pv 4) (@zaa _ _ _ _ _ (zhy (v := V.ty "bool") rfl T.b_bool zto rfl) zag (by rfl)) (by rfl)))) (zl6 (@zaw _ _ _ _ _ _ _ _ zot (pv 4) (zdl (u1' hr.units) (pv 2) (pv 3) (λ _ _ => rfl)) (zbb _)))))) (@zak _ _ _ (@zav _ _ _ _ zhi)) zas)))) (@zak _ _ _ (@zav _ _ _ _ zhi))), ?_⟩
   refine ⟨_, rfl, u, rfl, ⟨_, hu⟩, zjz (xs := us.map V.str) (λ i σ H' => ∃ v3 v4 : Option V, σ = [some (.ref w.a), some (.ref u), some (.ref d), v3, v4] /\ zal H H') ⟨_, _, rfl, zal.refl _⟩ ?_ ?_ ?_⟩
   . rintro i σ H' hi ⟨v3, v4, rfl, s1⟩
     exact s1.seq hu
   . rintro i x σ H' hx ⟨v3, v4, rfl, s1⟩
     obtain ⟨n, hn', hnm, rfl⟩ := zl4 hx
     obtain ⟨hm1, z, z1, z2⟩ := hm n hnm
     have h1 := h.grow s1
     refine ⟨_, rfl, w.a, _, _, rfl, h1.o, rfl, _, rfl, _, w, [f], .non, [], cn, 0, f, n, .int z, fns, F, rfl, h1, rfl, hFl.mono (zb5 h.b), hF, hn, hm1, z1, λ H2 s2 => ?_⟩
     refine ⟨_, rfl, _, "int", _, true, rfl, .int _, rfl, _, rfl, zbw (by decide) ⟨_, rfl, _, "bool", _, false, rfl, .int _, rfl, _, rfl, zbw (by decide) ⟨_, rfl, _, rfl, _, rfl, d, _, rfl, zep (s2 _ _ (s1 _ _ hd)) z2, rfl, _, rfl, zbw (by rw [decide_eq_true rfl]; decide) ?_⟩⟩⟩
     exact ⟨_, _, rfl, s1.trans s2⟩
   . rintro σ H' ⟨v3, v4, rfl, s1⟩
     exact q H' s1
theorem zkm : FnScope ["_law_walker", "_law_row_here", "_law_used_here", "_law_now", "_law_store", "_law_due"] ["_law_walker", "_law_row_here", "_law_used_here", "_law_now", "_law_store"] (zac zdt) := ⟨rfl, rfl, rfl, by decide +kernel, rfl, by decide +kernel, by decide +kernel⟩
theorem zo6 (T : Txt K mg t) : FnOk P w K mg base CX0 7 t.zmc t.zmh ["_law_walker", "_law_row_here", "_law_used_here", "_law_now", "_law_store"] (zpb K t) := by
 have G_l_done := zuy (P := P) (w := w) (base := base) T
 have G_l_alike := zss (P := P) (w := w) (base := base) T
 have G_l_fields_told := zla (P := P) (w := w) (base := base) T
 have G_l_told := zvl (P := P) (w := w) (base := base) T
 have G_Walker_step := zis (P := P) (w := w) (base := base) T
 refine T.zmi.F.ok zkm (λ vs H Q E h => ?_) (λ cdv A outer s H vs Q E hr h => ?_)
 . obtain ⟨H0, Hb, w, f, cn, fns, F, u, d, s, r, us, kvs, st, rg, rfl, G, rwo, hw, hrow, hu, hus, q⟩ := h
   rfl
 . obtain ⟨H0, Hb, w, f, cn, fns, F, u, d, s, r, us, kvs, st, rg, rfl, G, rwo, hw, hrow, hu, hus, q⟩ := h
   refine ⟨_, (@zad _ _ _ _ _ (@zcd _ _ _ _ _ _ _ _ (@PW.pt _ _ _ (zmm (zkw (zf6 (zc4 T.zyr G_l_told (hr.mono (by decide)) (@zaa _ _ _ _ _ (pv 0) (@zaa _ _ _ _ _ (pv 2) (@zaa _ _ _ _ _ (pv 3) zag (by rfl)) (by rfl)) (by rfl))))) (zl6 (zkw (zf6 (zc4 T.zg7 G_l_fields_told (hr.mono (by decide)) (@zaa _ _ _ _ _ (pv 0) (@zaa _ _ _ _ _ (pv 1) (@zaa _ _ _ _ _ (pv 3) (@zaa _ _ _ _ _ (pv 4) zag (by rfl)) (by rfl)) (by rfl)) (by rfl)))))))) (@zak _ _ _ (@zav _ _ _ _ zhi)) zas) (@zad _ _ _ _ _ (@zbs _ _ 5 _ _ _ _ zkm.nd rfl (Or.inl rfl) (zc4 T.zyq G_l_done (hr.mono (by decide)) (@zaa _ _ _ _ _ (pv 3) (@zaa _ _ _ _ _ (pv 4) (@zaa _ _ _ _ _ (pv 1) zag (by rfl)) (by rfl)) (by rfl))) (by rfl) (by first | exact .inl rfl | exact .inr rfl | assumption)) (@zak _ _ _ (@zav _ _ _ _ (z1g (zc4 T.zwc G_l_alike (hr.mono (by decide)) (@zaa _ _ _ _ _ (zg2 (pv 0) T.zaf.cl T.zfz.m G_Walker_step (hr.mono (by decide)) T.zfz.b .nil zcz) (@zaa _ _ _ _ _ (pv 5) zag (by rfl)) (by rfl))) (z1u (zc4 T.zg7 G_l_fields_told (hr.mono (by decide)) (@zaa _ _ _ _ _ (pv 0) (@zaa _ _ _ _ _ (pv 1) (@zaa _ _ _ _ _ (zdy zok (by rfl) T.b_dict zq6 (@zaa _ _ _ _ _ (pv 3) zag (by rfl))) (@zaa _ _ _ _ _ (pv 4) zag (by rfl)) (by rfl)) (by rfl)) (by rfl))))))))), ?_⟩
   have flB := G.fl.mono G.s0
   have uH := G.wa.b.seq (G.s0.seq hu)
   have dH := G.wa.b _ _ G.db
   have sH := G.wa.b _ _ G.sb
   have rH := G.wa.b.tup (G.s0.tup rwo.it)
   have lk0 := G.lk
   refine ⟨_, rfl, _, rfl, _, rfl, Hb, w, f, cn, fns, F, u, d, us, kvs, rfl, G.wa, flB, G.mem, G.nm, uH, dH, λ n hn => ⟨hus n hn, G.cpl n (hus n hn)⟩, λ H1 s1 => ⟨_, rfl, zbw (by decide) ?_⟩⟩
   refine ⟨_, rfl, _, rfl, _, rfl, _, rfl, _, w, [f], .non, cn, r, d, s, kvs, st, rg, rfl, G.wa.grow s1, s1.tup rH, s1 _ _ dH, s1 _ _ sH, zpn rwo G.cpl G.rel, λ H2 s2 => ⟨_, rfl, zbw (by decide) ?_⟩⟩
   have s12 := s1.trans s2
   have h2 := G.wa.grow s12
   have g2 := zb5 (H2 := H2) G.wa.b
   generalize gr Hb H H2 = B2 at h2 g2
   have dB := g2 _ _ G.db
   have sB := g2 _ _ G.sb
   rcases rwo.kd with ⟨x, rfl⟩ | ⟨x, a, fd, rfl⟩ | ⟨a, fd, b, rfl⟩ | ⟨x, a, rfl⟩
   . have hrc : cn.rc + 1 = 1 + (zfk st : Int) := by rw [G.rel.cnt]; omega
     refine ⟨_, rfl, _, rfl, _, rfl, d, s, r, kvs, st, .new x, rfl, s12 _ _ dH, s12 _ _ sH, s12.tup rH, by omega, by omega, G.rel.sh, λ H3 tp htp hS hd3 hs3 e3 => ?_⟩
     obtain ⟨B3, h3, d3, s3, sB3, s03, nw⟩ := after h2 g2 G.s0 G.d0 G.t0 dB sB hS hd3 hs3
     obtain ⟨rwx, hr1, hr2⟩ := rwo.rs
     refine ⟨_, rfl, w.a, _, _, rfl, h3.o, rfl, B3, w, [], f, [], cn, fns, F, rwx, .new x, rfl, h3, G.fl.mono s03, G.mem, G.nm, hr1, (by rw [hr2]; exact s03.tup rwo.it), by decide, by omega, f.row + 1, hw, λ B4 H4 tq s4 h4 e4 => ?_⟩
     have rl := G.rel.new
     rw [hrc] at h4 e4 rl
     refine ⟨_, rfl, .ref tq, .ref tp, rfl, .inr ⟨tq, tp, [.str "new", .int (1 + (zfk st : Int))], rfl, rfl, h4.b _ _ e4, h4.b _ _ (s4 _ _ (nw tp _ htp e3)), by simp, (λ v hv => by simp only [List.mem_cons, List.not_mem_nil, or_false] at hv; rcases hv with rfl | rfl; exact .inr ⟨_, rfl⟩; exact .inl ⟨_, rfl⟩)⟩, λ H5 s5 => ⟨_, rfl, zfq rfl ?_⟩⟩
     have G4 : Goes K t H0 B4 H4 w { f with kvs := za3 f.kvs (Sum.inr x : Key) (.int (1 + (zfk st : Int))), row := f.row + 1 } ⟨cn.kv, 1 + (zfk st : Int)⟩ fns F d s (za3 kvs (Sum.inr x : Key) (.int (1 + (zfk st : Int)))) (za3 st (fk (1 + (zfk st : Int)) "") (.int 0)) := ⟨h4, G.fl, s03.trans s4, G.d0, G.t0, s4 _ _ d3, s4 _ _ s3, G.mem, G.nm, zq8 x _ G.cpl, rl, by
       have l1 := zau kvs (Sum.inr x : Key) (.int (1 + (zfk st : Int)))
       have l2 := zau f.kvs (Sum.inr x : Key) (.int (1 + (zfk st : Int)))
       have l3 := zau st (fk (1 + (zfk st : Int)) "") (.int 0)
       dsimp only
       omega⟩
     have G5 := G4.grow s5
     have g5 := (sB3.trans s4).trans (zb5 (H2 := H5) h4.b)
     refine ⟨_, rfl, _, rfl, _, rfl, d, _, rfl, G5.wa.b _ _ G5.db, λ d2 hd2 => ⟨_, rfl, ?_⟩⟩
     have s6 := zal.new (o := .dK (za3 kvs (Sum.inr x : Key) (.int (1 + (zfk st : Int))))) hd2
     refine ⟨_, w, [_], .non, _, r, d2, s, _, _, .new x, rfl, G5.wa.grow s6, s6.tup (G5.wa.b.tup (G5.s0.tup rwo.it)), zab, s6 _ _ (G5.wa.b _ _ G5.sb), zpn (f := { f with kvs := za3 f.kvs (Sum.inr x : Key) (.int (1 + (zfk st : Int))), row := f.row + 1 }) rwo G5.cpl G5.rel, λ H7 s7 => ?_⟩
     have G7 := G5.grow (s6.trans s7)
     exact q _ _ _ _ _ _ (g5.trans (zb5 G5.wa.b)) G7 rfl
   . obtain ⟨i, a1, a2⟩ := zg4 G.cpl (rwo.at_ a (by simp [RG.parts, RG.as, RG.gx]))
     obtain ⟨z, z1, z2⟩ := G.rel.val i (rwo.fd.1 _ _ _ rfl)
     refine ⟨_, rfl, _, rfl, _, rfl, d, s, r, kvs, st, .get x a fd, rfl, s12 _ _ dH, s12 _ _ sH, s12.tup rH, by omega, by omega, G.rel.sh, i, a2, λ H3 hS hd3 hs3 => ?_⟩
     rw [z2] at hd3
     obtain ⟨B3, h3, d3, s3, sB3, s03, nw⟩ := after h2 g2 G.s0 G.d0 G.t0 dB sB hS hd3 hs3
     obtain ⟨rwx, hr1, hr2⟩ := rwo.rs
     refine ⟨_, rfl, w.a, _, _, rfl, h3.o, rfl, B3, w, [], f, [], cn, fns, F, rwx, .get x a fd, rfl, h3, G.fl.mono s03, G.mem, G.nm, hr1, (by rw [hr2]; exact s03.tup rwo.it), by decide, by omega, f.row + 1, hw, x, .int z, (by show (match av f.kvs a with | some (.int i) => some (x, zws cn i fd) | _ => none) = _; rw [a1]; show some (x, zws cn i fd) = _; rw [z1]), λ B4 H4 s4 h4 => ?_⟩
     refine ⟨_, rfl, .non, .non, rfl, .inl ⟨rfl, rfl⟩, λ H5 s5 => ⟨_, rfl, zfq rfl ?_⟩⟩
     have G4 : Goes K t H0 B4 H4 w { f with kvs := za3 f.kvs (Sum.inr x : Key) (.int z), row := f.row + 1 } cn fns F d s (za3 kvs (Sum.inr x : Key) (.int z)) st := ⟨h4, G.fl, s03.trans s4, G.d0, G.t0, s4 _ _ d3, s4 _ _ s3, G.mem, G.nm, zq8 x _ G.cpl, G.rel, by
       have l1 := zau kvs (Sum.inr x : Key) (.int z)
       have l2 := zau f.kvs (Sum.inr x : Key) (.int z)
       dsimp only
       omega⟩
     have G5 := G4.grow s5
     have g5 := (sB3.trans s4).trans (zb5 (H2 := H5) h4.b)
     refine ⟨_, rfl, _, rfl, _, rfl, d, _, rfl, G5.wa.b _ _ G5.db, λ d2 hd2 => ⟨_, rfl, ?_⟩⟩
     have s6 := zal.new (o := .dK (za3 kvs (Sum.inr x : Key) (.int z))) hd2
     refine ⟨_, w, [_], .non, _, r, d2, s, _, _, .get x a fd, rfl, G5.wa.grow s6, s6.tup (G5.wa.b.tup (G5.s0.tup rwo.it)), zab, s6 _ _ (G5.wa.b _ _ G5.sb), zpn (f := { f with kvs := za3 f.kvs (Sum.inr x : Key) (.int z), row := f.row + 1 }) rwo G5.cpl G5.rel, λ H7 s7 => ?_⟩
     have G7 := G5.grow (s6.trans s7)
     exact q _ _ _ _ _ _ (g5.trans (zb5 G5.wa.b)) G7 rfl
   . obtain ⟨i, a1, a2⟩ := zg4 G.cpl (rwo.at_ a (by simp [RG.parts, RG.as, RG.gx]))
     obtain ⟨z, b1, b2⟩ := zg4 G.cpl (rwo.at_ b (by simp [RG.parts, RG.as, RG.gx]))
     refine ⟨_, rfl, _, rfl, _, rfl, d, s, r, kvs, st, .put a fd b, rfl, s12 _ _ dH, s12 _ _ sH, s12.tup rH, by omega, by omega, G.rel.sh, i, .int z, a2, b2, λ H3 tp htp hS hd3 hs3 e3 => ?_⟩
     obtain ⟨B3, h3, d3, s3, sB3, s03, nw⟩ := after h2 g2 G.s0 G.d0 G.t0 dB sB hS hd3 hs3
     obtain ⟨rwx, hr1, hr2⟩ := rwo.rs
     refine ⟨_, rfl, w.a, _, _, rfl, h3.o, rfl, B3, w, [], f, [], cn, fns, F, rwx, .put a fd b, rfl, h3, G.fl.mono s03, G.mem, G.nm, hr1, (by rw [hr2]; exact s03.tup rwo.it), by decide, by omega, f.row + 1, hw, i, .int z, a1, b1, by omega, λ B4 H4 tq s4 h4 e4 => ?_⟩
     refine ⟨_, rfl, .ref tq, .ref tp, rfl, .inr ⟨tq, tp, [.str "put", .int i, .str fd, .int z], rfl, rfl, h4.b _ _ e4, h4.b _ _ (s4 _ _ (nw tp _ htp e3)), by simp, (λ v hv => by simp only [List.mem_cons, List.not_mem_nil, or_false] at hv; rcases hv with rfl | rfl | rfl | rfl; exact .inr ⟨_, rfl⟩; exact .inl ⟨_, rfl⟩; exact .inr ⟨_, rfl⟩; exact .inl ⟨_, rfl⟩)⟩, λ H5 s5 => ⟨_, rfl, zfq rfl ?_⟩⟩
     have G4 : Goes K t H0 B4 H4 w { f with row := f.row + 1 } ⟨za3 cn.kv (fk i fd) (.int z), cn.rc⟩ fns F d s kvs (za3 st (fk i fd) (.int z)) := ⟨h4, G.fl, s03.trans s4, G.d0, G.t0, s4 _ _ d3, s4 _ _ s3, G.mem, G.nm, G.cpl, G.rel.put (rwo.fd.2 _ _ _ rfl), by
       have l3 := zau st (fk i fd) (.int z)
       have l4 := zau cn.kv (fk i fd) (.int z)
       dsimp only
       omega⟩
     have G5 := G4.grow s5
     have g5 := (sB3.trans s4).trans (zb5 (H2 := H5) h4.b)
     refine ⟨_, rfl, _, rfl, _, rfl, d, _, rfl, G5.wa.b _ _ G5.db, λ d2 hd2 => ⟨_, rfl, ?_⟩⟩
     have s6 := zal.new (o := .dK kvs) hd2
     refine ⟨_, w, [_], .non, _, r, d2, s, _, _, .put a fd b, rfl, G5.wa.grow s6, s6.tup (G5.wa.b.tup (G5.s0.tup rwo.it)), zab, s6 _ _ (G5.wa.b _ _ G5.sb), zpn (f := { f with row := f.row + 1 }) rwo G5.cpl G5.rel, λ H7 s7 => ?_⟩
     have G7 := G5.grow (s6.trans s7)
     exact q _ _ _ _ _ _ (g5.trans (zb5 G5.wa.b)) G7 rfl
   . obtain ⟨z, a1, a2⟩ := zg4 G.cpl (rwo.at_ a (by simp [RG.parts, RG.as, RG.gx]))
     refine ⟨_, rfl, _, rfl, _, rfl, d, s, r, kvs, st, .copy x a, rfl, s12 _ _ dH, s12 _ _ sH, s12.tup rH, by omega, by omega, G.rel.sh, .int z, a2, λ H3 hS hd3 hs3 => ?_⟩
     obtain ⟨B3, h3, d3, s3, sB3, s03, nw⟩ := after h2 g2 G.s0 G.d0 G.t0 dB sB hS hd3 hs3
     obtain ⟨rwx, hr1, hr2⟩ := rwo.rs
     refine ⟨_, rfl, w.a, _, _, rfl, h3.o, rfl, B3, w, [], f, [], cn, fns, F, rwx, .copy x a, rfl, h3, G.fl.mono s03, G.mem, G.nm, hr1, (by rw [hr2]; exact s03.tup rwo.it), by decide, by omega, f.row + 1, hw, x, .int z, (by show (av f.kvs a).map _ = _; rw [a1]; rfl), λ B4 H4 s4 h4 => ?_⟩
     refine ⟨_, rfl, .non, .non, rfl, .inl ⟨rfl, rfl⟩, λ H5 s5 => ⟨_, rfl, zfq rfl ?_⟩⟩
     have G4 : Goes K t H0 B4 H4 w { f with kvs := za3 f.kvs (Sum.inr x : Key) (.int z), row := f.row + 1 } cn fns F d s (za3 kvs (Sum.inr x : Key) (.int z)) st := ⟨h4, G.fl, s03.trans s4, G.d0, G.t0, s4 _ _ d3, s4 _ _ s3, G.mem, G.nm, zq8 x _ G.cpl, G.rel, by
       have l1 := zau kvs (Sum.inr x : Key) (.int z)
       have l2 := zau f.kvs (Sum.inr x : Key) (.int z)
       dsimp only
       omega⟩
     have G5 := G4.grow s5
     have g5 := (sB3.trans s4).trans (zb5 (H2 := H5) h4.b)
     refine ⟨_, rfl, _, rfl, _, rfl, d, _, rfl, G5.wa.b _ _ G5.db, λ d2 hd2 => ⟨_, rfl, ?_⟩⟩
     have s6 := zal.new (o := .dK (za3 kvs (Sum.inr x : Key) (.int z))) hd2
     refine ⟨_, w, [_], .non, _, r, d2, s, _, _, .copy x a, rfl, G5.wa.grow s6, s6.tup (G5.wa.b.tup (G5.s0.tup rwo.it)), zab, s6 _ _ (G5.wa.b _ _ G5.sb), zpn (f := { f with kvs := za3 f.kvs (Sum.inr x : Key) (.int z), row := f.row + 1 }) rwo G5.cpl G5.rel, λ H7 s7 => ?_⟩
     have G7 := G5.grow (s6.trans s7)
     exact q _ _ _ _ _ _ (g5.trans (zb5 G5.wa.b)) G7 rfl
theorem zjn : FnScope ["_law_params", "_law_rows", "_law_found", "_law_row_here", "_law_k"] ["_law_params", "_law_rows"] (zac zf7) := ⟨rfl, rfl, rfl, by decide +kernel, rfl, by decide +kernel, by decide +kernel⟩
theorem ztz (T : Txt K mg t) : FnOk P w K mg base CX0 1 t.zsi t.zsm ["_law_params", "_law_rows"] (zvd K) := by
 refine T.zys.F.ok zjn (λ vs H Q E h => ?_) (λ cdv A outer s H vs Q E hr h => ?_)
 . obtain ⟨pa, ra, ps, rs, rgs, rfl, hpa, hra, hl, hrw, h100, hp100, q⟩ := h
   rfl
 . obtain ⟨pa, ra, ps, rs, rgs, rfl, hpa, hra, hl, hrw, h100, hp100, q⟩ := h
   refine ⟨_, (@zad _ _ _ _ _ (@zbs _ _ 2 _ _ _ _ zjn.nd rfl (Or.inl rfl) (zdy zh0 (by rfl) T.b_list zn3 (@zaa _ _ _ _ _ (pv 0) zag (by rfl))) (by rfl) (by first | exact .inl rfl | exact .inr rfl | assumption)) (@zad _ _ _ _ _ (zd2 PassesOwn.never rfl (zgi (pv 1)) (za7 (i := 3) zjn.nd rfl (Or.inl rfl)) (@zak _ _ _ (zd2 PassesOwn.never rfl (zt8 rfl T.b_range (@zaa _ _ _ _ _ zae (@zaa _ _ _ _ _ (zb6 zbj (by rfl) T.b_len zfp (@zaa _ _ _ _ _ (pv 3) zag (by rfl))) zag (by rfl)) (by rfl))) (za7 (i := 4) zjn.nd rfl (Or.inl rfl)) (@zad _ _ _ _ _ (@zcd _ _ _ _ _ _ _ _ (@PW.pt _ _ _ (zmm (@PW.pt _ _ _ (@zrr _ _ _ _ _ _ _ (@zaw _ _ _ _ _ _ _ _ zdw (@zao _ _ _ _ _ _ _ zap (pv 3) zae (λ _ _ => rfl)) zbh (zbb _)) (@znr _ _ _ _ (@zaw _ _ _ _ _ _ _ _ zdw (pv 4) zae (zbb _))))) (zmm (@PW.pt _ _ _ (@zrr _ _ _ _ _ _ _ (@zaw _ _ _ _ _ _ _ _ zdw (@zao _ _ _ _ _ _ _ zap (pv 3) zae (λ _ _ => rfl)) zbh (zbb _)) (@znr _ _ _ _ (@zaw _ _ _ _ _ _ _ _ zdw (pv 4) zae (zbb _))))) (zl6 (zkw (zf6 (zb6 zdu (by rfl) T.b_isinstance zcy (@zaa _ _ _ _ _ (@zao _ _ _ _ _ _ _ zap (pv 3) (pv 4) (λ _ _ => rfl)) (@zaa _ _ _ _ _ (zhy (v := V.ty "str") rfl T.b_str zrj rfl) zag (by rfl)) (by rfl))))))))) (@zak _ _ _ zp8) zas) (@zak _ _ _ (@zcd _ _ _ _ _ _ _ _ (@zaw _ _ _ _ _ _ _ _ zh3 (@zao _ _ _ _ _ _ _ zap (pv 3) (pv 4) (λ _ _ => rfl)) (pv 2) (by with_unfolding_all rfl)) (@zak _ _ _ (@zct _ _ _ _ (zkg PySem.F.plainAttrs_list PySem.F.slot_list_append PySem.F.type_list_append zdi (pv 2) (@zaa _ _ _ _ _ (@zao _ _ _ _ _ _ _ zap (pv 3) (pv 4) (λ _ _ => rfl)) zag (by rfl))) (by rfl))) zas)))))) (@zak _ _ _ (@zav _ _ _ _ (pv 2))))), ?_⟩
   refine ⟨_, rfl, pa, _, rfl, .inl hpa, λ l hl0 => ?_⟩
   have s1 := zal.new (o := .lst (ps.map V.str)) hl0
   have e1 := zab (H := H) (a := l) (o := .lst (ps.map V.str))
   generalize upd H l (.lst (ps.map V.str)) = H1 at s1 e1 ⊢
   refine ⟨_, rfl, ra, rfl, ⟨_, s1.seq hra⟩, zjz (xs := rs.map V.ref) (λ i σ H' => ∃ v3 v4 : Option V, σ = [some (.ref pa), some (.ref ra), some (.ref l), v3, v4] /\ zal H H' /\ ∃ us : List Str, H' l = some (.lst (us.map V.str)) /\ us.length <= 100 + 4 * i /\ ∀ n ∈ us, n ∈ ps \/ n ∈ zqj rgs) ?_ ?_ ?_ ?_⟩
   . exact ⟨_, _, rfl, s1, ps, e1, by omega, λ n hn => .inl hn⟩
   . rintro i σ H2 hi ⟨v3, v4, rfl, s2, _⟩
     exact s2.seq hra
   . rintro i x0 σ H2 hx ⟨v3, v4, rfl, s2, us0, e2, lu, hus0⟩
     obtain ⟨r, hr, hrm, rfl⟩ := zl4 hx
     have hi : i < rs.length := (List.getElem?_eq_some_iff.mp hr).1
     obtain ⟨rg, hrg⟩ : ∃ rg, rgs[i]? = some rg := ⟨_, List.getElem?_eq_getElem (by omega)⟩
     obtain ⟨hq0, hat, hk⟩ := hrw i r rg hr hrg
     have sub : ∀ {n : Str}, n ∈ K12.strsOf rg.parts -> n ∈ zqj rgs := λ {n} h => by
       unfold zqj
       rw [List.mem_flatMap]
       exact ⟨rg, List.mem_of_getElem? hrg, h⟩
     have l4 : rg.items.length <= 4 := by rcases hk with ⟨x, rfl⟩ | ⟨x, a, f, rfl⟩ | ⟨a, f, b, rfl⟩ | ⟨x, a, rfl⟩ | ⟨a, rfl⟩ <;> simp [RG.items]
     refine ⟨_, rfl, r, _, rfl, .inr (s2.tup hq0), _, _, rfl, ⟨by omega, by omega, by omega, by omega⟩, zjf (lo := 1) (n := ((rg.items.length : Int) - 1).toNat) (λ j σ H' => ∃ v4 : Option V, σ = [some (.ref pa), some (.ref ra), some (.ref l), some (.ref r), v4] /\ zal H H' /\ ∃ us : List Str, H' l = some (.lst (us.map V.str)) /\ us.length <= 100 + 4 * i + j /\ ∀ n ∈ us, n ∈ ps \/ n ∈ zqj rgs) ?_ ?_ ?_⟩
     . exact ⟨_, rfl, s2, us0, e2, by omega, hus0⟩
     . rintro j σ H3 hj ⟨v4, rfl, s3, us, e3, lu3, hus⟩
       have hq := s3.tup hq0
       have hj : j + 1 < rg.items.length := by omega
       have lus : us.length < 1000 := by omega
       rcases hk with ⟨x, rfl⟩ | ⟨x, a, f, rfl⟩ | ⟨a, f, b, rfl⟩ | ⟨x, a, rfl⟩ | ⟨a, rfl⟩
       . match j, hj, lu3 with
         | 0, _, lu3 =>
           refine ⟨_, rfl, r, _, _, _, rfl, rfl, hq, at0, rfl, _, rfl, zbw (by decide +kernel) (zbw (by decide) ⟨_, rfl, r, _, _, _, rfl, rfl, hq, at0, rfl, _, rfl, zbw (by decide +kernel) (zbw (by decide) ⟨_, rfl, _, rfl, r, _, _, _, rfl, rfl, hq, rfl, _, "str", _, true, rfl, .str _, rfl, _, rfl, zbw (by decide) ?_⟩)⟩)⟩
           refine ⟨_, rfl, _, rfl, r, _, _, _, rfl, rfl, hq, rfl, _, rfl, l, _, rfl, .inl (SqL.of e3), rfl, zfl _, _, rfl, zno (λ _ => ?_) (λ _ => ⟨some (.int (1 + ((0 : Nat) : Int))), rfl, s3, us, e3, by omega, hus⟩)⟩
           refine ⟨_, rfl, .inl ⟨rfl, _, SqL.of e3⟩, _, rfl, _, rfl, r, _, _, _, rfl, rfl, hq, rfl, l, _, _, rfl, rfl, e3, za8 (by rw [List.length_map]; omega), ?_⟩
           refine ⟨_, rfl, s3.upd hl0, us ++ [x], by rw [zab, List.map_append]; rfl, by rw [List.length_append]; show us.length + 1 <= _; omega, λ n hn => ?_⟩
           rcases List.mem_append.mp hn with hn | hn
           . exact hus n hn
           . rw [List.mem_singleton.mp hn]; exact .inr (sub (zua.mpr (by simp [RG.parts, RG.as, RG.gx])))
         | (j + 1), hj, _ => exact absurd hj (by simp [RG.items])
       . match j, hj, lu3 with
         | 0, _, lu3 =>
           refine ⟨_, rfl, r, _, _, _, rfl, rfl, hq, at0, rfl, _, rfl, zbw (by decide +kernel) (zbw (by decide) ⟨_, rfl, r, _, _, _, rfl, rfl, hq, at0, rfl, _, rfl, zfq (by decide +kernel) ⟨_, rfl, rfl, _, rfl, zbw (by decide) ⟨_, rfl, _, rfl, r, _, _, _, rfl, rfl, hq, rfl, _, "str", _, true, rfl, .str _, rfl, _, rfl, zbw (by decide) ?_⟩⟩⟩)⟩
           refine ⟨_, rfl, _, rfl, r, _, _, _, rfl, rfl, hq, rfl, _, rfl, l, _, rfl, .inl (SqL.of e3), rfl, zfl _, _, rfl, zno (λ _ => ?_) (λ _ => ⟨some (.int (1 + ((0 : Nat) : Int))), rfl, s3, us, e3, by omega, hus⟩)⟩
           refine ⟨_, rfl, .inl ⟨rfl, _, SqL.of e3⟩, _, rfl, _, rfl, r, _, _, _, rfl, rfl, hq, rfl, l, _, _, rfl, rfl, e3, za8 (by rw [List.length_map]; omega), ?_⟩
           refine ⟨_, rfl, s3.upd hl0, us ++ [x], by rw [zab, List.map_append]; rfl, by rw [List.length_append]; show us.length + 1 <= _; omega, λ n hn => ?_⟩
           rcases List.mem_append.mp hn with hn | hn
           . exact hus n hn
           . rw [List.mem_singleton.mp hn]; exact .inr (sub (zua.mpr (by simp [RG.parts, RG.as, RG.gx])))
         | 1, _, lu3 =>
           rcases hat a (by simp [RG.parts, RG.as, RG.gx]) with ⟨z, rfl⟩ | ⟨y, rfl⟩
           . exact ⟨_, rfl, r, _, _, _, rfl, rfl, hq, at0, rfl, _, rfl, zbw (by decide +kernel) (zbw (by decide) ⟨_, rfl, r, _, _, _, rfl, rfl, hq, at0, rfl, _, rfl, zfq (by decide +kernel) ⟨_, rfl, rfl, _, rfl, zbw (by decide) ⟨_, rfl, _, rfl, r, _, _, _, rfl, rfl, hq, rfl, _, "str", _, false, rfl, .int _, rfl, _, rfl, zfq (by decide) ⟨some (.int (1 + ((1 : Nat) : Int))), rfl, s3, us, e3, by omega, hus⟩⟩⟩⟩)⟩
           . refine ⟨_, rfl, r, _, _, _, rfl, rfl, hq, at0, rfl, _, rfl, zbw (by decide +kernel) (zbw (by decide) ⟨_, rfl, r, _, _, _, rfl, rfl, hq, at0, rfl, _, rfl, zfq (by decide +kernel) ⟨_, rfl, rfl, _, rfl, zbw (by decide) ⟨_, rfl, _, rfl, r, _, _, _, rfl, rfl, hq, rfl, _, "str", _, true, rfl, .str _, rfl, _, rfl, zbw (by decide) ?_⟩⟩⟩)⟩
             refine ⟨_, rfl, _, rfl, r, _, _, _, rfl, rfl, hq, rfl, _, rfl, l, _, rfl, .inl (SqL.of e3), rfl, zfl _, _, rfl, zno (λ _ => ?_) (λ _ => ⟨some (.int (1 + ((1 : Nat) : Int))), rfl, s3, us, e3, by omega, hus⟩)⟩
             refine ⟨_, rfl, .inl ⟨rfl, _, SqL.of e3⟩, _, rfl, _, rfl, r, _, _, _, rfl, rfl, hq, rfl, l, _, _, rfl, rfl, e3, za8 (by rw [List.length_map]; omega), ?_⟩
             refine ⟨_, rfl, s3.upd hl0, us ++ [y], by rw [zab, List.map_append]; rfl, by rw [List.length_append]; show us.length + 1 <= _; omega, λ n hn => ?_⟩
             rcases List.mem_append.mp hn with hn | hn
             . exact hus n hn
             . rw [List.mem_singleton.mp hn]; exact .inr (sub (zua.mpr (by simp [RG.parts, RG.as, RG.gx])))
         | 2, _, lu3 =>
           exact ⟨_, rfl, r, _, _, _, rfl, rfl, hq, at0, rfl, _, rfl, zbw (by decide +kernel) (zbw (by decide) ⟨_, rfl, r, _, _, _, rfl, rfl, hq, at0, rfl, _, rfl, zfq (by decide +kernel) ⟨_, rfl, rfl, _, rfl, zfq (by decide) (z01 ⟨some (.int (1 + ((2 : Nat) : Int))), rfl, s3, us, e3, by omega, hus⟩)⟩⟩)⟩
         | (j + 3), hj, _ => exact absurd hj (by simp [RG.items])
       . match j, hj, lu3 with
         | 0, _, lu3 =>
           rcases hat a (by simp [RG.parts, RG.as, RG.gx]) with ⟨z, rfl⟩ | ⟨y, rfl⟩
           . exact ⟨_, rfl, r, _, _, _, rfl, rfl, hq, at0, rfl, _, rfl, zfq (by decide +kernel) ⟨_, rfl, rfl, _, rfl, zbw (by decide) ⟨_, rfl, r, _, _, _, rfl, rfl, hq, at0, rfl, _, rfl, zbw (by decide +kernel) (zbw (by decide) ⟨_, rfl, _, rfl, r, _, _, _, rfl, rfl, hq, rfl, _, "str", _, false, rfl, .int _, rfl, _, rfl, zfq (by decide) ⟨some (.int (1 + ((0 : Nat) : Int))), rfl, s3, us, e3, by omega, hus⟩⟩)⟩⟩⟩
           . refine ⟨_, rfl, r, _, _, _, rfl, rfl, hq, at0, rfl, _, rfl, zfq (by decide +kernel) ⟨_, rfl, rfl, _, rfl, zbw (by decide) ⟨_, rfl, r, _, _, _, rfl, rfl, hq, at0, rfl, _, rfl, zbw (by decide +kernel) (zbw (by decide) ⟨_, rfl, _, rfl, r, _, _, _, rfl, rfl, hq, rfl, _, "str", _, true, rfl, .str _, rfl, _, rfl, zbw (by decide) ?_⟩)⟩⟩⟩
             refine ⟨_, rfl, _, rfl, r, _, _, _, rfl, rfl, hq, rfl, _, rfl, l, _, rfl, .inl (SqL.of e3), rfl, zfl _, _, rfl, zno (λ _ => ?_) (λ _ => ⟨some (.int (1 + ((0 : Nat) : Int))), rfl, s3, us, e3, by omega, hus⟩)⟩
             refine ⟨_, rfl, .inl ⟨rfl, _, SqL.of e3⟩, _, rfl, _, rfl, r, _, _, _, rfl, rfl, hq, rfl, l, _, _, rfl, rfl, e3, za8 (by rw [List.length_map]; omega), ?_⟩
             refine ⟨_, rfl, s3.upd hl0, us ++ [y], by rw [zab, List.map_append]; rfl, by rw [List.length_append]; show us.length + 1 <= _; omega, λ n hn => ?_⟩
             rcases List.mem_append.mp hn with hn | hn
             . exact hus n hn
             . rw [List.mem_singleton.mp hn]; exact .inr (sub (zua.mpr (by simp [RG.parts, RG.as, RG.gx])))
         | 1, _, lu3 =>
           exact ⟨_, rfl, r, _, _, _, rfl, rfl, hq, at0, rfl, _, rfl, zfq (by decide +kernel) ⟨_, rfl, rfl, _, rfl, zfq (by decide) (z01 ⟨some (.int (1 + ((1 : Nat) : Int))), rfl, s3, us, e3, by omega, hus⟩)⟩⟩
         | 2, _, lu3 =>
           rcases hat b (by simp [RG.parts, RG.as, RG.gx]) with ⟨z, rfl⟩ | ⟨y, rfl⟩
           . exact ⟨_, rfl, r, _, _, _, rfl, rfl, hq, at0, rfl, _, rfl, zfq (by decide +kernel) ⟨_, rfl, rfl, _, rfl, zbw (by decide) ⟨_, rfl, r, _, _, _, rfl, rfl, hq, at0, rfl, _, rfl, zbw (by decide +kernel) (zbw (by decide) ⟨_, rfl, _, rfl, r, _, _, _, rfl, rfl, hq, rfl, _, "str", _, false, rfl, .int _, rfl, _, rfl, zfq (by decide) ⟨some (.int (1 + ((2 : Nat) : Int))), rfl, s3, us, e3, by omega, hus⟩⟩)⟩⟩⟩
           . refine ⟨_, rfl, r, _, _, _, rfl, rfl, hq, at0, rfl, _, rfl, zfq (by decide +kernel) ⟨_, rfl, rfl, _, rfl, zbw (by decide) ⟨_, rfl, r, _, _, _, rfl, rfl, hq, at0, rfl, _, rfl, zbw (by decide +kernel) (zbw (by decide) ⟨_, rfl, _, rfl, r, _, _, _, rfl, rfl, hq, rfl, _, "str", _, true, rfl, .str _, rfl, _, rfl, zbw (by decide) ?_⟩)⟩⟩⟩
             refine ⟨_, rfl, _, rfl, r, _, _, _, rfl, rfl, hq, rfl, _, rfl, l, _, rfl, .inl (SqL.of e3), rfl, zfl _, _, rfl, zno (λ _ => ?_) (λ _ => ⟨some (.int (1 + ((2 : Nat) : Int))), rfl, s3, us, e3, by omega, hus⟩)⟩
             refine ⟨_, rfl, .inl ⟨rfl, _, SqL.of e3⟩, _, rfl, _, rfl, r, _, _, _, rfl, rfl, hq, rfl, l, _, _, rfl, rfl, e3, za8 (by rw [List.length_map]; omega), ?_⟩
             refine ⟨_, rfl, s3.upd hl0, us ++ [y], by rw [zab, List.map_append]; rfl, by rw [List.length_append]; show us.length + 1 <= _; omega, λ n hn => ?_⟩
             rcases List.mem_append.mp hn with hn | hn
             . exact hus n hn
             . rw [List.mem_singleton.mp hn]; exact .inr (sub (zua.mpr (by simp [RG.parts, RG.as, RG.gx])))
         | (j + 3), hj, _ => exact absurd hj (by simp [RG.items])
       . match j, hj, lu3 with
         | 0, _, lu3 =>
           refine ⟨_, rfl, r, _, _, _, rfl, rfl, hq, at0, rfl, _, rfl, zbw (by decide +kernel) (zbw (by decide) ⟨_, rfl, r, _, _, _, rfl, rfl, hq, at0, rfl, _, rfl, zbw (by decide +kernel) (zbw (by decide) ⟨_, rfl, _, rfl, r, _, _, _, rfl, rfl, hq, rfl, _, "str", _, true, rfl, .str _, rfl, _, rfl, zbw (by decide) ?_⟩)⟩)⟩
           refine ⟨_, rfl, _, rfl, r, _, _, _, rfl, rfl, hq, rfl, _, rfl, l, _, rfl, .inl (SqL.of e3), rfl, zfl _, _, rfl, zno (λ _ => ?_) (λ _ => ⟨some (.int (1 + ((0 : Nat) : Int))), rfl, s3, us, e3, by omega, hus⟩)⟩
           refine ⟨_, rfl, .inl ⟨rfl, _, SqL.of e3⟩, _, rfl, _, rfl, r, _, _, _, rfl, rfl, hq, rfl, l, _, _, rfl, rfl, e3, za8 (by rw [List.length_map]; omega), ?_⟩
           refine ⟨_, rfl, s3.upd hl0, us ++ [x], by rw [zab, List.map_append]; rfl, by rw [List.length_append]; show us.length + 1 <= _; omega, λ n hn => ?_⟩
           rcases List.mem_append.mp hn with hn | hn
           . exact hus n hn
           . rw [List.mem_singleton.mp hn]; exact .inr (sub (zua.mpr (by simp [RG.parts, RG.as, RG.gx])))
         | 1, _, lu3 =>
           rcases hat a (by simp [RG.parts, RG.as, RG.gx]) with ⟨z, rfl⟩ | ⟨y, rfl⟩
           . exact ⟨_, rfl, r, _, _, _, rfl, rfl, hq, at0, rfl, _, rfl, zbw (by decide +kernel) (zbw (by decide) ⟨_, rfl, r, _, _, _, rfl, rfl, hq, at0, rfl, _, rfl, zbw (by decide +kernel) (zbw (by decide) ⟨_, rfl, _, rfl, r, _, _, _, rfl, rfl, hq, rfl, _, "str", _, false, rfl, .int _, rfl, _, rfl, zfq (by decide) ⟨some (.int (1 + ((1 : Nat) : Int))), rfl, s3, us, e3, by omega, hus⟩⟩)⟩)⟩
           . refine ⟨_, rfl, r, _, _, _, rfl, rfl, hq, at0, rfl, _, rfl, zbw (by decide +kernel) (zbw (by decide) ⟨_, rfl, r, _, _, _, rfl, rfl, hq, at0, rfl, _, rfl, zbw (by decide +kernel) (zbw (by decide) ⟨_, rfl, _, rfl, r, _, _, _, rfl, rfl, hq, rfl, _, "str", _, true, rfl, .str _, rfl, _, rfl, zbw (by decide) ?_⟩)⟩)⟩
             refine ⟨_, rfl, _, rfl, r, _, _, _, rfl, rfl, hq, rfl, _, rfl, l, _, rfl, .inl (SqL.of e3), rfl, zfl _, _, rfl, zno (λ _ => ?_) (λ _ => ⟨some (.int (1 + ((1 : Nat) : Int))), rfl, s3, us, e3, by omega, hus⟩)⟩
             refine ⟨_, rfl, .inl ⟨rfl, _, SqL.of e3⟩, _, rfl, _, rfl, r, _, _, _, rfl, rfl, hq, rfl, l, _, _, rfl, rfl, e3, za8 (by rw [List.length_map]; omega), ?_⟩
             refine ⟨_, rfl, s3.upd hl0, us ++ [y], by rw [zab, List.map_append]; rfl, by rw [List.length_append]; show us.length + 1 <= _; omega, λ n hn => ?_⟩
             rcases List.mem_append.mp hn with hn | hn
             . exact hus n hn
             . rw [List.mem_singleton.mp hn]; exact .inr (sub (zua.mpr (by simp [RG.parts, RG.as, RG.gx])))
         | (j + 2), hj, _ => exact absurd hj (by simp [RG.items])
       . match j, hj, lu3 with
         | 0, _, lu3 =>
           rcases hat a (by simp [RG.parts, RG.as, RG.gx]) with ⟨z, rfl⟩ | ⟨y, rfl⟩
           . exact ⟨_, rfl, r, _, _, _, rfl, rfl, hq, at0, rfl, _, rfl, zbw (by decide +kernel) (zbw (by decide) ⟨_, rfl, r, _, _, _, rfl, rfl, hq, at0, rfl, _, rfl, zbw (by decide +kernel) (zbw (by decide) ⟨_, rfl, _, rfl, r, _, _, _, rfl, rfl, hq, rfl, _, "str", _, false, rfl, .int _, rfl, _, rfl, zfq (by decide) ⟨some (.int (1 + ((0 : Nat) : Int))), rfl, s3, us, e3, by omega, hus⟩⟩)⟩)⟩
           . refine ⟨_, rfl, r, _, _, _, rfl, rfl, hq, at0, rfl, _, rfl, zbw (by decide +kernel) (zbw (by decide) ⟨_, rfl, r, _, _, _, rfl, rfl, hq, at0, rfl, _, rfl, zbw (by decide +kernel) (zbw (by decide) ⟨_, rfl, _, rfl, r, _, _, _, rfl, rfl, hq, rfl, _, "str", _, true, rfl, .str _, rfl, _, rfl, zbw (by decide) ?_⟩)⟩)⟩
             refine ⟨_, rfl, _, rfl, r, _, _, _, rfl, rfl, hq, rfl, _, rfl, l, _, rfl, .inl (SqL.of e3), rfl, zfl _, _, rfl, zno (λ _ => ?_) (λ _ => ⟨some (.int (1 + ((0 : Nat) : Int))), rfl, s3, us, e3, by omega, hus⟩)⟩
             refine ⟨_, rfl, .inl ⟨rfl, _, SqL.of e3⟩, _, rfl, _, rfl, r, _, _, _, rfl, rfl, hq, rfl, l, _, _, rfl, rfl, e3, za8 (by rw [List.length_map]; omega), ?_⟩
             refine ⟨_, rfl, s3.upd hl0, us ++ [y], by rw [zab, List.map_append]; rfl, by rw [List.length_append]; show us.length + 1 <= _; omega, λ n hn => ?_⟩
             rcases List.mem_append.mp hn with hn | hn
             . exact hus n hn
             . rw [List.mem_singleton.mp hn]; exact .inr (sub (zua.mpr (by simp [RG.parts, RG.as, RG.gx])))
         | (j + 1), hj, _ => exact absurd hj (by simp [RG.items])
     . rintro σ H3 ⟨v4, rfl, s3, us, e3, lu3, hus⟩
       exact ⟨_, _, rfl, s3, us, e3, by omega, hus⟩
   . rintro σ H2 ⟨v3, v4, rfl, s2, us, e2, lu, hus⟩
     exact ⟨_, rfl, q l H2 us hl0 s2 e2 hus⟩
theorem zgy : FnScope ["_law_walker", "_law_now", "_law_store", "_law_last", "_law_fields", "_law_record", "_law_field", "_law_key"] ["_law_walker", "_law_now", "_law_store", "_law_last", "_law_fields"] (zac zd4) := ⟨rfl, rfl, rfl, by decide +kernel, rfl, by decide +kernel, by decide +kernel⟩
theorem zqo (T : Txt K mg t) : FnOk P w K mg base CX0 6 t.znc t.zng ["_law_walker", "_law_now", "_law_store", "_law_last", "_law_fields"] (zqy K t) := by
 have G_l_worth := zka (P := P) (w := w) (base := base) T
 have G_Walker_step := zis (P := P) (w := w) (base := base) T
 have G_Walker_ended := zhr (P := P) (w := w) (base := base) T
 have G_Walker_answer := zk8 (P := P) (w := w) (base := base) T
 have G_Walker_field := zfv (P := P) (w := w) (base := base) T
 refine T.zod.F.ok zgy (λ vs H Q E h => ?_) (λ cdv A outer s H vs Q E hr h => ?_)
 . obtain ⟨H0, Hb, w, f, cn, fns, F, d, s, fl, kvs, st, rwo, a, fds, rfl, G, hrw, hq, hrow, ha, hfl, h3, hne, q⟩ := h
   rfl
 . obtain ⟨H0, Hb, w, f, cn, fns, F, d, s, fl, kvs, st, rwo, a, fds, rfl, G, hrw, hq, hrow, ha, hfl, h3, hne, q⟩ := h
   refine ⟨_, (@zad _ _ _ _ _ (@zcd _ _ _ _ _ _ _ _ (@PW.pt _ _ _ (zmm (zpj (zui (zg2 (pv 0) T.zaf.cl T.zfz.m G_Walker_step (hr.mono (by decide)) T.zfz.b .nil zcz))) (zmm (@zaw _ _ _ _ _ _ _ _ zzw (zg2 (pv 0) T.zaf.cl T.ze0.m G_Walker_ended (hr.mono (by decide)) T.ze0.b .nil zcz) zhi (zbb _)) (zl6 (@zaw _ _ _ _ _ _ _ _ zot (zg2 (pv 0) T.zaf.cl T.zg6.m G_Walker_answer (hr.mono (by decide)) T.zg6.b .nil zcz) (zc4 T.zg8 G_l_worth (hr.mono (by decide)) (@zaa _ _ _ _ _ (pv 3) (@zaa _ _ _ _ _ (pv 1) zag (by rfl)) (by rfl))) (zbb _)))))) (@zak _ _ _ (@zav _ _ _ _ zhi)) zas) (@zad _ _ _ _ _ (zd2 PassesOwn.never rfl (zgi (@zd9 _ _ _ _ (@zaa _ _ _ _ _ zae (@zaa _ _ _ _ _ zae (@zaa _ _ _ _ _ zae (@zaa _ _ _ _ _ zae (@zaa _ _ _ _ _ (@zbg _ _ _ _ _ _ _ _ zow (@zbg _ _ _ _ _ _ _ _ zt4 zae zae) zae) zag (by rfl)) (by rfl)) (by rfl)) (by rfl)) (by rfl)))) (za7 (i := 5) zgy.nd rfl (Or.inl rfl)) (@zak _ _ _ (zd2 PassesOwn.never rfl (zgi (pv 4)) (za7 (i := 6) zgy.nd rfl (Or.inl rfl)) (@zak _ _ _ (@zcd _ _ _ _ _ _ _ _ (@zaw _ _ _ _ _ _ _ _ zot (zbn (pv 0) T.zaf.cl T.zc3.m G_Walker_field (hr.mono (by decide)) T.zc3.b .nil zcz (@zaa _ _ _ _ _ (pv 5) (@zaa _ _ _ _ _ (pv 6) zag (by rfl)) (by rfl))) (zjv (u1' hr.units) (pv 2) (@zcn _ _ _ _ _ (@zaa _ _ _ _ _ (pv 5) (@zaa _ _ _ _ _ (pv 6) zag (by rfl)) (by rfl))) zae ⟨rfl, rfl, rfl, rfl⟩) (zbb _)) (@zak _ _ _ (@zav _ _ _ _ zhi)) zas))))) (@zad _ _ _ _ _ (zrg (zd2 PassesOwn.never rfl (z1n (pv 2)) (za7 (i := 7) zgy.nd rfl (Or.inl rfl)) (@zak _ _ _ (@zcd _ _ _ _ _ _ _ _ (@PW.pt _ _ _ (@zrr _ _ _ _ _ _ _ (@zaw _ _ _ _ _ _ _ _ zot (@zao _ _ _ _ _ _ _ zap (pv 7) zae (λ _ _ => rfl)) zbh (zbb _)) (@znr _ _ _ _ (@zaw _ _ _ _ _ _ _ _ zot (zbn (pv 0) T.zaf.cl T.zc3.m G_Walker_field (hr.mono (by decide)) T.zc3.b .nil zcz (@zaa _ _ _ _ _ (@zao _ _ _ _ _ _ _ zap (pv 7) zae (λ _ _ => rfl)) (@zaa _ _ _ _ _ (@zao _ _ _ _ _ _ _ zap (pv 7) zae (λ _ _ => rfl)) zag (by rfl)) (by rfl))) (zdl (u1' hr.units) (pv 2) (pv 7) (λ _ _ => rfl)) (zbb _))))) (@zak _ _ _ (@zav _ _ _ _ zhi)) zas)))) (@zak _ _ _ (@zav _ _ _ _ zhi))))), ?_⟩
   obtain ⟨z, a1, a2⟩ := zg4 G.cpl ha
   have lk0 := G.lk
   refine ⟨_, rfl, w.a, _, _, rfl, G.wa.o, rfl, Hb, w, [], f, [], cn, fns, F, rwo, .back a, rfl, G.wa, G.fl.mono G.s0, G.mem, G.nm, hrw, G.s0.tup hq, by decide, by omega, .int z, a1, rfl, λ H1 h1 => ⟨_, rfl, zbw (by simp) ?_⟩⟩
   refine ⟨_, rfl, w.a, _, _, rfl, h1.o, rfl, Hb, w, [], .int z, [], cn, rfl, h1, _, _, rfl, rfl, _, rfl, zbw (by simp) ?_⟩
   refine ⟨_, rfl, w.a, _, _, rfl, h1.o, rfl, Hb, w, [], .int z, [], cn, rfl, h1, _, rfl, _, rfl, a, .int z, d, kvs, rfl, h1.b _ _ G.db, a2, rfl, _, rfl, zbw (by rw [decide_eq_true rfl]; decide) ?_⟩
   have x1 : (2 : Int) ^ (48 : Int).toNat = 281474976710656 := by decide
   refine ⟨_, _, rfl, rfl, ⟨by decide, by decide, by decide⟩, _, _, rfl, rfl, (by decide), λ ll hll => ?_⟩
   have s2 := zal.new (o := .lst [V.int 0, V.int 1, V.int 2, V.int 5, V.int (2 ^ (48 : Int).toNat - 1)]) hll
   have e2 := zab (H := H1) (a := ll) (o := .lst [V.int 0, V.int 1, V.int 2, V.int 5, V.int (2 ^ (48 : Int).toNat - 1)])
   have allI : ∀ x ∈ [V.int 0, V.int 1, V.int 2, V.int 5, V.int (2 ^ (48 : Int).toNat - 1)], ∃ i, x = V.int i := λ x hx => by
     simp only [List.mem_cons, List.not_mem_nil, or_false] at hx
     rcases hx with rfl | rfl | rfl | rfl | rfl <;> exact ⟨_, rfl⟩
   generalize [V.int 0, V.int 1, V.int 2, V.int 5, V.int (2 ^ (48 : Int).toNat - 1)] = xs at s2 e2 allI ⊢
   generalize upd H1 ll (.lst xs) = H2 at s2 e2 ⊢
   have h2 := h1.grow s2
   have g2 := zb5 (H2 := H2) h1.b
   generalize gr Hb H1 H2 = B2 at h2 g2
   have flH := h2.b.seq (g2.seq (G.s0.seq hfl))
   have sB := g2 _ _ G.sb
   refine ⟨ll, rfl, ⟨_, SqL.of e2⟩, zjz (xs := xs) (λ k σ H' => ∃ v5 v6 : Option V, σ = [some (.ref w.a), some (.ref d), some (.ref s), some a, some (.ref fl), v5, v6, none] /\ zal H2 H') ⟨_, _, rfl, zal.refl _⟩ ?_ ?_ ?_⟩
   . rintro k σ H' hk ⟨v5, v6, rfl, s3⟩
     exact SqL.of (s3 _ _ e2)
   . rintro k x σ H' hx ⟨v5, v6, rfl, s3⟩
     obtain ⟨i, rfl⟩ := allI x (List.mem_of_getElem? hx)
     refine ⟨_, rfl, fl, rfl, ⟨_, s3.seq flH⟩, zjz (xs := fds.map V.str) (λ j σ H' => ∃ v6 : Option V, σ = [some (.ref w.a), some (.ref d), some (.ref s), some a, some (.ref fl), some (.int i), v6, none] /\ zal H2 H') ⟨_, rfl, s3⟩ ?_ ?_ ?_⟩
     . rintro j σ H3 hj ⟨v6, rfl, s4⟩
       exact s4.seq flH
     . rintro j y σ H3 hy ⟨v6, rfl, s4⟩
       obtain ⟨n, hn, hnm, rfl⟩ := zl4 hy
       obtain ⟨v, z1, z2⟩ := G.rel.val i (hne n hnm)
       have h4 := h2.grow s4
       refine ⟨_, rfl, w.a, _, _, rfl, h4.o, rfl, _, rfl, _, rfl, _, w, [], .int z, [], cn, i, n, rfl, h4, λ H5 s5 => ?_⟩
       have s6 := s4.trans s5
       have sH := s6 _ _ (h2.b _ _ sB)
       refine ⟨_, rfl, s, rfl, .inr ⟨_, .inl sH⟩, _, rfl, _, rfl, le2, λ p hp => ⟨_, zlb.t (k := fk i n) (zal.new hp _ _ sH) zab, ?_⟩⟩
       rw [z1, z2]
       exact ⟨rfl, _, rfl, zbw (by rw [decide_eq_true rfl]; decide) ⟨_, rfl, s6.trans (zal.new hp)⟩⟩
     . rintro σ H3 ⟨v6, rfl, s4⟩
       exact ⟨_, _, rfl, s4⟩
   rintro σ H3 ⟨v5, v6, rfl, s3⟩
   have h3' := h2.grow s3
   have g3 := zb5 (H2 := H3) h2.b
   generalize gr B2 H2 H3 = B3 at h3' g3
   have sB3 := g3 _ _ sB
   refine ⟨s, st, h3'.b _ _ sB3, _, rfl, s, st, rfl, h3'.b _ _ sB3, λ o => ?_⟩
   have h4 := h3'.put (o' := .frz o (.dT st)) sB3
   have e4 := zab (H := upd B3 s (.frz o (.dT st))) (a := s) (o := .dT st)
   have fz := zab (H := H3) (a := s) (o := .frz o (.dT st))
   have keep : ∀ b u, Hb b = some u -> b ≠ s -> upd B3 s (.frz o (.dT st)) b = some u := λ b u hb hn => by rw [zah hn]; exact g3 _ _ (g2 _ _ hb)
   have fzB := zab (H := B3) (a := s) (o := .frz o (.dT st))
   generalize upd B3 s (.frz o (.dT st)) = B4 at h4 keep fzB
   generalize upd H3 s (.frz o (.dT st)) = H4 at h4 fz ⊢
   refine z11 (λ k σ H' => ∃ v7 : Option V, σ = [some (.ref w.a), some (.ref d), some (.ref s), some a, some (.ref fl), v5, v6, v7] /\ zal H4 H') ⟨_, rfl, zal.refl _⟩ ?_ ?_ ?_
   . rintro k σ H' hk ⟨v7, rfl, s5⟩
     exact s5 _ _ fz
   . rintro k kv b σ H' hkv hb ⟨v7, rfl, s5⟩
     have hm := List.mem_of_getElem? hkv
     obtain ⟨i, n, v, k1, k2⟩ := G.rel.sh kv hm
     have hb' : H' b = some (.tup ((fk i n).map kV)) := by rw [<- k1]; exact hb
     have hT : SqT K H' b [V.int i, V.str n] := SqT.of hb'
     refine ⟨_, rfl, b, _, _, _, rfl, rfl, hT, rfl, rfl, _, rfl, zno (λ hc => ?_) (λ _ => zbw (by decide) ⟨_, rfl, s5⟩)⟩
     have hn : n ≠ ("" : Str) := λ z => by rw [z, decide_eq_true rfl] at hc; cases hc
     obtain ⟨u, hu⟩ := zy3 (k := kv.1) (u := kv.2) hm
     rw [k1] at hu
     obtain ⟨v2, z1, z2⟩ := G.rel.val i hn
     rw [hu] at z2
     have z2 : u = .int v2 := z2
     have h5 := h4.grow s5
     refine ⟨_, rfl, w.a, _, _, rfl, h5.o, rfl, _, rfl, b, _, _, _, rfl, rfl, hT, at0, _, rfl, b, _, _, _, rfl, rfl, hT, rfl, _, w, [], .int z, [], cn, i, n, rfl, h5, λ H6 s6 => ?_⟩
     refine ⟨_, rfl, _, rfl, s, _, rfl, .inr ⟨st, fk i n, b, .inr ⟨o, s6 _ _ (s5 _ _ fz)⟩, rfl, s6 _ _ hb', hu.symm⟩, ?_⟩
     rw [z1, z2]
     exact ⟨rfl, _, rfl, zbw (by rw [decide_eq_true rfl]; decide) ⟨_, rfl, s5.trans s6⟩⟩
   rintro σ H' ⟨v7, rfl, s5⟩
   have h5 := h4.grow s5
   have g5 := zb5 (H2 := H') h4.b
   have h6 := h5.put (o' := .dT st) (g5 _ _ fzB)
   refine ⟨o, s5 _ _ fz, q _ _ _ (λ b u hb => ?_) h6⟩
   by_cases hn : b = s
   . subst hn
     rw [G.sb] at hb
     rw [zab]
     exact hb
   . rw [zah hn]
     exact g5 _ _ (keep b u hb hn)
theorem zfa : FnScope ["_law_script", "_law_names_here", "_law_fields", "_law_rows", "_law_last", "_law_program", "_law_xs", "_law_nows", "_law_args", "_law_now", "_law_name", "_law_number", "_law_stores", "_law_walkers", "_law_used_here", "_law_k"] ["_law_script"] (zac zl0) := ⟨rfl, rfl, rfl, by decide +kernel, rfl, by decide +kernel, by decide +kernel⟩
theorem ok_law (T : Txt K mg t) : FnOk P w K mg base CX0 9 t.z2d t.zx0 ["_law_script"] (sp_law K) := by
 have G_l_names := zsw (P := P) (w := w) (base := base) T
 have G_l_small := zm5 (P := P) (w := w) (base := base) T
 have G_l_stream := zlt (P := P) (w := w) (base := base) T
 have G_l_used := ztz (P := P) (w := w) (base := base) T
 have G_l_at_end := zqo (P := P) (w := w) (base := base) T
 have G_l_cell_at := zpi (P := P) (w := w) (base := base) T
 have G_l_row := zxj (P := P) (w := w) (base := base) T
 have G_TextWalker_init := zjp (P := P) (w := w) (base := base) T
 have G_l_value_by := zjk (P := P) (w := w) (base := base) T
 have G_l_stepped := zo6 (P := P) (w := w) (base := base) T
 refine T.law.F.ok zfa (λ vs H Q E h => ?_) (λ cdv A outer s H vs Q E hr h => ?_)
 . obtain ⟨a, sc, rfl, ha, hn, q⟩ := h
   rfl
 . obtain ⟨a, sc, rfl, ha, hn, q⟩ := h
   refine ⟨_, (@zad _ _ _ _ _ (@zbs _ _ 1 _ _ _ _ zfa.nd rfl (Or.inr rfl) (zc4 T.zwd G_l_names (hr.mono (by decide)) (@zaa _ _ _ _ _ (zc4 T.zj6 G_l_cell_at (hr.mono (by decide)) (@zaa _ _ _ _ _ (pv 0) (@zaa _ _ _ _ _ zae zag (by rfl)) (by rfl))) (@zaa _ _ _ _ _ zae zag (by rfl)) (by rfl))) (by rfl) (by first | exact .inl rfl | exact .inr rfl | assumption)) (@zad _ _ _ _ _ (@zbs _ _ 2 _ _ _ _ zfa.nd rfl (Or.inr rfl) (@zd9 _ _ _ _ (@zaa _ _ _ _ _ (@zao _ _ _ _ _ _ _ zat (pv 1) zae (λ _ _ => rfl)) (@zaa _ _ _ _ _ (@zao _ _ _ _ _ _ _ zat (pv 1) zae (λ _ _ => rfl)) (@zaa _ _ _ _ _ (@zao _ _ _ _ _ _ _ zat (pv 1) zae (λ _ _ => rfl)) zag (by rfl)) (by rfl)) (by rfl))) (by rfl) (by first | exact .inl rfl | exact .inr rfl | assumption)) (@zad _ _ _ _ _ (zvw (i := 3) zfa.nd rfl (Or.inl rfl) (N' := ["_law_cell", "_law_fields", "_law_names_here"]) (js := [none, some 2, some 1]) (by kernel_rfl) rfl (zgi (@zga _ _ _ _ _ _ _ _ _ _ zki (pv 0) (zg1 zae) (zg1 zae))) zer (λ _ _ _ _ => (za7 (i := 0) (show (["_law_cell", "_law_fields", "_law_names_here"] : List Str).Nodup by decide +kernel) rfl (Or.inl rfl) (.inr rfl))) (λ _ _ _ _ => zhm) (λ _ _ _ _ => (zc4 T.z2e G_l_row (hr.mono (by decide)) (@zaa _ _ _ _ _ (pv 0) (@zaa _ _ _ _ _ (@zga _ _ _ _ _ _ _ _ _ _ (show SlR _ (rSlL K) from zki) (pv 2) zi3 (zg1 zae)) (@zaa _ _ _ _ _ (pv 1) zag (by rfl)) (by rfl)) (by rfl)))) (by rfl)) (@zad _ _ _ _ _ (@zbs _ _ 4 _ _ _ _ zfa.nd rfl (Or.inl rfl) (zc4 T.zkl G_l_small (hr.mono (by decide)) (@zaa _ _ _ _ _ (@zbg _ _ _ _ _ _ _ _ zc7 (zc4 T.zj6 G_l_cell_at (hr.mono (by decide)) (@zaa _ _ _ _ _ (pv 0) (@zaa _ _ _ _ _ zae zag (by rfl)) (by rfl))) zae) (@zaa _ _ _ _ _ (@zga _ _ _ _ _ _ _ _ _ _ zki (pv 1) zi3 (zg1 zae)) zag (by rfl)) (by rfl))) (by rfl) (by first | exact .inl rfl | exact .inr rfl | assumption)) (@znn _ _ _ _ _ (@zbs _ _ 5 _ _ _ _ zfa.nd rfl (Or.inr rfl) (@zd9 _ _ _ _ (@zaa _ _ _ _ _ (@zcn _ _ _ _ _ (@zaa _ _ _ _ _ (@zao _ _ _ _ _ _ _ zat (pv 1) zae (λ _ _ => rfl)) (@zaa _ _ _ _ _ zhi (@zaa _ _ _ _ _ (@zcn _ _ _ _ _ (@zaa _ _ _ _ _ (@zao _ _ _ _ _ _ _ zat (pv 1) zae (λ _ _ => rfl)) (@zaa _ _ _ _ _ (@zao _ _ _ _ _ _ _ zat (pv 1) zae (λ _ _ => rfl)) zag (by rfl)) (by rfl))) (@zaa _ _ _ _ _ (@zbg _ _ _ _ _ _ _ _ z0d (zdy znk (by rfl) T.b_tuple zsb (@zaa _ _ _ _ _ (pv 3) zag (by rfl))) (@zcn _ _ _ _ _ (@zaa _ _ _ _ _ (@zcn _ _ _ _ _ (@zaa _ _ _ _ _ zbh (@zaa _ _ _ _ _ (pv 4) zag (by rfl)) (by rfl))) zag (by rfl)))) zag (by rfl)) (by rfl)) (by rfl)) (by rfl))) zag (by rfl))) (by rfl) (by first | exact .inl rfl | exact .inr rfl | assumption)) (@zad _ _ _ _ _ (@zbs _ _ 6 _ _ _ _ zfa.nd rfl (Or.inl rfl) (zc4 T.zoe G_l_stream (hr.mono (by decide)) (@zaa _ _ _ _ _ (zc4 T.zj6 G_l_cell_at (hr.mono (by decide)) (@zaa _ _ _ _ _ (pv 0) (@zaa _ _ _ _ _ zae zag (by rfl)) (by rfl))) (@zaa _ _ _ _ _ zae zag (by rfl)) (by rfl))) (by rfl) (by first | exact .inl rfl | exact .inr rfl | assumption)) (@zad _ _ _ _ _ (@zbs _ _ 7 _ _ _ _ zfa.nd rfl (Or.inl rfl) (@zd9 _ _ _ _ zag) (by rfl) (by first | exact .inl rfl | exact .inr rfl | assumption)) (@znn _ _ _ _ _ (zd2 PassesOwn.never rfl (zgi (@zd9 _ _ _ _ (@zaa _ _ _ _ _ (@zd9 _ _ _ _ (@zaa _ _ _ _ _ (@zbg _ _ _ _ _ _ _ _ zc7 (@zao _ _ _ _ _ _ _ zat (pv 6) zae (λ _ _ => rfl)) zae) (@zaa _ _ _ _ _ (@zbg _ _ _ _ _ _ _ _ zc7 (@zao _ _ _ _ _ _ _ zat (pv 6) zae (λ _ _ => rfl)) zae) zag (by rfl)) (by rfl))) (@zaa _ _ _ _ _ (@zd9 _ _ _ _ (@zaa _ _ _ _ _ (zc4 T.zil G_l_value_by (hr.mono (by decide)) (@zaa _ _ _ _ _ (@zao _ _ _ _ _ _ _ zat (pv 6) zae (λ _ _ => rfl)) zag (by rfl))) (@zaa _ _ _ _ _ (zc4 T.zil G_l_value_by (hr.mono (by decide)) (@zaa _ _ _ _ _ (@zao _ _ _ _ _ _ _ zat (pv 6) zae (λ _ _ => rfl)) zag (by rfl))) zag (by rfl)) (by rfl))) zag (by rfl)) (by rfl)))) (za7 (i := 8) zfa.nd rfl (Or.inl rfl)) (@zad _ _ _ _ _ (@zbs _ _ 9 _ _ _ _ zfa.nd rfl (Or.inl rfl) zes (by rfl) (by first | exact .inl rfl | exact .inr rfl | assumption)) (@zad _ _ _ _ _ (zd2 PassesOwn.never rfl (zt0 false false rfl T.b_zip (@zaa _ _ _ _ _ (@zga _ _ _ _ _ _ _ _ _ _ zki (pv 1) zi3 (zg1 zae)) (@zaa _ _ _ _ _ (@zbg _ _ _ _ _ _ _ _ zye (pv 8) (@zd9 _ _ _ _ (@zaa _ _ _ _ _ zae (@zaa _ _ _ _ _ zae (@zaa _ _ _ _ _ zae zag (by rfl)) (by rfl)) (by rfl)))) zag (by rfl)) (by rfl))) (zkq rfl (zc9 (za7 (i := 10) zfa.nd rfl (Or.inl rfl)) (zc9 (za7 (i := 11) zfa.nd rfl (Or.inl rfl)) zh7))) (@zak _ _ _ (zda (u1' hr.units) (pv 9) (pv 10) (pv 11) (by rfl)))) (@zak _ _ _ (@zct _ _ _ _ (zkg PySem.F.plainAttrs_list PySem.F.slot_list_append PySem.F.type_list_append zdi (pv 7) (@zaa _ _ _ _ _ (pv 9) zag (by rfl))) (by rfl)))))) (@zad _ _ _ _ _ (@zbs _ _ 12 _ _ _ _ zfa.nd rfl (Or.inl rfl) (@zd9 _ _ _ _ (@zaa _ _ _ _ _ znt (@zaa _ _ _ _ _ znt zag (by rfl)) (by rfl))) (by rfl) (by first | exact .inl rfl | exact .inr rfl | assumption)) (@zad _ _ _ _ _ (zvw (i := 13) zfa.nd rfl (Or.inl rfl) (N' := ["_law_now", "_law_program", "_law_names_here"]) (js := [none, some 5, some 1]) (by kernel_rfl) rfl (zgi (pv 7)) zer (λ _ _ _ _ => (za7 (i := 0) (show (["_law_now", "_law_program", "_law_names_here"] : List Str).Nodup by decide +kernel) rfl (Or.inl rfl) (.inr rfl))) (λ _ _ _ _ => zhm) (λ _ _ _ _ => (zz5 T.zaf T.zh9 G_TextWalker_init (hr.mono (by decide)) (@zaa _ _ _ _ _ (pv 1) (@zaa _ _ _ _ _ (@zd9 _ _ _ _ (@zaa _ _ _ _ _ (zdl (u1' hr.units) (pv 0) (@zao _ _ _ _ _ _ _ (show IxR _ (z20 K) from zat) (pv 2) zae (λ _ _ => rfl)) (λ _ _ => rfl)) (@zaa _ _ _ _ _ (zdl (u1' hr.units) (pv 0) (@zao _ _ _ _ _ _ _ (show IxR _ (z20 K) from zat) (pv 2) zae (λ _ _ => rfl)) (λ _ _ => rfl)) zag (by rfl)) (by rfl))) zag (by rfl)) (by rfl)))) (by rfl)) (@znn _ _ _ _ _ (@zbs _ _ 14 _ _ _ _ zfa.nd rfl (Or.inl rfl) (zc4 T.zys G_l_used (hr.mono (by decide)) (@zaa _ _ _ _ _ (@zga _ _ _ _ _ _ _ _ _ _ zki (pv 1) zi3 (zg1 zae)) (@zaa _ _ _ _ _ (@zbg _ _ _ _ _ _ _ _ zye (pv 3) (@zd9 _ _ _ _ (@zaa _ _ _ _ _ (@zcn _ _ _ _ _ (@zaa _ _ _ _ _ zbh (@zaa _ _ _ _ _ (pv 4) zag (by rfl)) (by rfl))) zag (by rfl)))) zag (by rfl)) (by rfl))) (by rfl) (by first | exact .inl rfl | exact .inr rfl | assumption)) (@zad _ _ _ _ _ (zd2 PassesOwn.never rfl (zho rfl T.b_range (@zaa _ _ _ _ _ (@zbg _ _ _ _ _ _ _ _ zgn (zb6 zbj (by rfl) T.b_len zfp (@zaa _ _ _ _ _ (pv 3) zag (by rfl))) zae) zag (by rfl))) (za7 (i := 15) zfa.nd rfl (Or.inl rfl)) (@zad _ _ _ _ _ (@zcd _ _ _ _ _ _ _ _ (@zaw _ _ _ _ _ _ _ _ zsz (pv 15) (zb6 zbj (by rfl) T.b_len zfp (@zaa _ _ _ _ _ (pv 3) zag (by rfl))) (zbb _)) (@zak _ _ _ (@zcd _ _ _ _ _ _ _ _ (zkw (zf6 (zc4 T.zmi G_l_stepped (hr.mono (by decide)) (@zaa _ _ _ _ _ (@zao _ _ _ _ _ _ _ zat (pv 13) zae (λ _ _ => rfl)) (@zaa _ _ _ _ _ (@zao _ _ _ _ _ _ _ zat (pv 3) (pv 15) (λ _ _ => rfl)) (@zaa _ _ _ _ _ (pv 14) (@zaa _ _ _ _ _ (@zao _ _ _ _ _ _ _ zat (pv 7) zae (λ _ _ => rfl)) (@zaa _ _ _ _ _ (@zao _ _ _ _ _ _ _ zat (pv 12) zae (λ _ _ => rfl)) zag (by rfl)) (by rfl)) (by rfl)) (by rfl)) (by rfl))))) (@zak _ _ _ (@zav _ _ _ _ zhi)) zas)) zas) (@zak _ _ _ (@zcd _ _ _ _ _ _ _ _ (@zaw _ _ _ _ _ _ _ _ z2c (pv 15) zae (zbb _)) (@zak _ _ _ (@zcd _ _ _ _ _ _ _ _ (zkw (zf6 (zc4 T.zmi G_l_stepped (hr.mono (by decide)) (@zaa _ _ _ _ _ (@zao _ _ _ _ _ _ _ zat (pv 13) zae (λ _ _ => rfl)) (@zaa _ _ _ _ _ (@zao _ _ _ _ _ _ _ zat (pv 3) (@zbg _ _ _ _ _ _ _ _ zow (pv 15) zae) (λ _ _ => rfl)) (@zaa _ _ _ _ _ (pv 14) (@zaa _ _ _ _ _ (@zao _ _ _ _ _ _ _ zat (pv 7) zae (λ _ _ => rfl)) (@zaa _ _ _ _ _ (@zao _ _ _ _ _ _ _ zat (pv 12) zae (λ _ _ => rfl)) zag (by rfl)) (by rfl)) (by rfl)) (by rfl)) (by rfl))))) (@zak _ _ _ (@zav _ _ _ _ zhi)) zas)) zas)))) (@zad _ _ _ _ _ (@zcd _ _ _ _ _ _ _ _ (zkw (zf6 (zc4 T.zod G_l_at_end (hr.mono (by decide)) (@zaa _ _ _ _ _ (@zao _ _ _ _ _ _ _ zat (pv 13) zae (λ _ _ => rfl)) (@zaa _ _ _ _ _ (@zao _ _ _ _ _ _ _ zat (pv 7) zae (λ _ _ => rfl)) (@zaa _ _ _ _ _ (@zao _ _ _ _ _ _ _ zat (pv 12) zae (λ _ _ => rfl)) (@zaa _ _ _ _ _ (pv 4) (@zaa _ _ _ _ _ (pv 2) zag (by rfl)) (by rfl)) (by rfl)) (by rfl)) (by rfl))))) (@zak _ _ _ (@zav _ _ _ _ zhi)) zas) (@zak _ _ _ (@zav _ _ _ _ (zc4 T.zod G_l_at_end (hr.mono (by decide)) (@zaa _ _ _ _ _ (@zao _ _ _ _ _ _ _ zat (pv 13) zae (λ _ _ => rfl)) (@zaa _ _ _ _ _ (@zao _ _ _ _ _ _ _ zat (pv 7) zae (λ _ _ => rfl)) (@zaa _ _ _ _ _ (@zao _ _ _ _ _ _ _ zat (pv 12) zae (λ _ _ => rfl)) (@zaa _ _ _ _ _ (pv 4) (@zaa _ _ _ _ _ (pv 2) zag (by rfl)) (by rfl)) (by rfl)) (by rfl)) (by rfl)))))))))))))))))), ?_⟩
   refine ⟨_, rfl, a, sc, 0, rfl, ha, hn, by decide, λ c0 => ⟨c0, 8, rfl, by decide, λ nl H1 ns hnl s1 e1 n8 nok => ?_⟩⟩
   match ns, n8, nok, e1 with
   | [n0, n1, n2, n3, n4, n5, n6, n7], _, nok, e1 =>
   have nN := zn4 nok
   refine ⟨_, rfl, nl, _, _, _, rfl, rfl, SqL.of e1, at0, _, rfl, nl, _, _, _, rfl, rfl, SqL.of e1, rfl, _, rfl, nl, _, _, _, rfl, rfl, SqL.of e1, rfl, le3, λ fl hfl => ?_⟩
   have s2 := zal.new (o := .lst [V.str n0, V.str n5, V.str n6]) hfl
   have e2 := zab (H := H1) (a := fl) (o := .lst [V.str n0, V.str n5, V.str n6])
   have en2 := s2 _ _ e1
   generalize upd H1 fl (.lst [V.str n0, V.str n5, V.str n6]) = H2 at s2 e2 en2 ⊢
   have s02 := s1.trans s2
   have c5 : zog ([n0, n1, n2, n3, n4, n5, n6, n7].map V.str) none (some 5) = [n0, n1, n2, n3, n4].map V.str := zsa [n0, n1, n2, n3, n4, n5, n6, n7] 5 (by simp)
   refine ⟨_, rfl, _, rfl, _, rfl, a, _, rfl, s02.seq ha, λ sl hsl => ⟨sl, rfl, ⟨_, SqL.of zab⟩, ?_⟩⟩
   have s3 := zal.new (o := .lst (zog (sc.map V.int) (some 2) (some 25))) hsl
   have e3 := zab (H := H2) (a := sl) (o := .lst (zog (sc.map V.int) (some 2) (some 25)))
   generalize upd H2 sl (.lst (zog (sc.map V.int) (some 2) (some 25))) = H3 at s3 e3 ⊢
   have lc := zze (sc.map V.int) (some 2) (some 25)
   rw [List.length_map] at lc
   refine λ rl hrl => zou (K := K) (λ i G v => ∃ tp rg, v = .ref tp /\ G tp = some (.tup (RG.items rg)) /\ zy7 [n0, n1, n2, n3, n4] [n0, n5, n6] rg) (λ i v G G' s h => let ⟨tp, rg, h1, h2, h3⟩ := h; ⟨tp, rg, h1, s _ _ h2, h3⟩) (xs := zog (sc.map V.int) (some 2) (some 25)) (by omega) (SqL.of e3) hrl ?_ ?_
   . intro i x G R hx sG ⟨acc, hacc⟩ hR
     obtain ⟨z, hz, rfl⟩ := List.mem_map.mp (zyw (List.mem_of_getElem? hx))
     refine ⟨_, rfl, _, rfl, _, rfl, nl, _, rfl, SqL.of (sG _ _ (s3 _ _ en2)), λ p hp => ?_⟩
     rw [c5]
     have s4 := zal.new (o := .lst ([n0, n1, n2, n3, n4].map V.str)) hp
     refine ⟨_, rfl, z, p, fl, [n0, n1, n2, n3, n4], [n0, n5, n6], rfl, SqL.of zab, SqL.of (s4 _ _ (sG _ _ (s3 _ _ e2))), by simp, rfl, λ tp G' rg htp sG' etp ok => ?_⟩
     have ntp : tp ≠ rl := λ z => by
       have := s4 _ _ hacc
       rw [<- z, htp] at this
       cases this
     exact hR (.ref tp) G' (s4.trans sG') ⟨tp, rg, rfl, by rw [zdf ntp]; exact etp, ok⟩
   rintro H4 vs s4 e4 lvs hvs
   obtain ⟨rs, rgs, rfl, lrs, okr, itr⟩ := zsf hvs
   rw [List.length_map] at lvs
   have s24 := s3.trans s4
   have s04 := s02.trans s24
   refine ⟨_, rfl, a, sc, 1, rfl, s04.seq ha, hn, by decide, λ c1 => ⟨_, _, rfl, rfl, (show (0 : Int) < 2147483647 by decide), _, rfl, _, rfl, nl, _, rfl, SqL.of (s24 _ _ en2), λ p hp => ?_⟩⟩
   rw [c5]
   have s5 := zal.new (o := .lst ([n0, n1, n2, n3, n4].map V.str)) hp
   refine ⟨_, p, [n0, n1, n2, n3, n4], rfl, SqL.of zab, by simp, λ last ola => ?_⟩
   generalize upd H4 p (.lst ([n0, n1, n2, n3, n4].map V.str)) = H5 at s5 ⊢
   have s25 := s24.trans s5
   have en5 := s25 _ _ en2
   have er5 := s5 _ _ e4
   refine ⟨λ σ G => ∃ (pr bk fa qC tr : Addr), σ = [some (.ref a), some (.ref nl), some (.ref fl), some (.ref rl), some last, some (.ref pr), none, none, none, none, none, none, none, none, none, none] /\ SqL K G a (sc.map V.int) /\ Made K G nl fl rl pr n0 n1 n2 n3 n4 n5 n6 n7 rs rgs last bk fa qC tr, ?_, ?_⟩
   . refine ⟨_, rfl, nl, _, _, _, rfl, rfl, SqL.of en5, rfl, _, rfl, nl, _, _, _, rfl, rfl, SqL.of en5, at0, _, rfl, nl, _, _, _, rfl, rfl, SqL.of en5, rfl, le2, λ qC hqC => ?_⟩
     have w1 := zal.new (o := .tup [V.str n0, V.str n1]) hqC
     have k1 := zab (H := H5) (a := qC) (o := .tup [V.str n0, V.str n1])
     generalize upd H5 qC (.tup [V.str n0, V.str n1]) = G1 at w1 k1 ⊢
     refine ⟨_, rfl, rl, _, rfl, .inl ⟨SqL.of (w1 _ _ er5), λ t0 ht0 => ?_⟩⟩
     have w2 := zal.new (o := .tup (rs.map V.ref)) ht0
     have k2 := zab (H := G1) (a := t0) (o := .tup (rs.map V.ref))
     generalize upd G1 t0 (.tup (rs.map V.ref)) = G2 at w2 k2 ⊢
     refine ⟨_, rfl, le2, λ bk hbk => ⟨le1, λ t1 ht1 => ?_⟩⟩
     have w3 := zal.new (o := .tup [V.str "back", last]) hbk
     have w4 := zal.new (o := .tup [V.ref bk]) ht1
     have k3 := w4 _ _ (zab (H := G2) (a := bk) (o := .tup [V.str "back", last]))
     have k4 := zab (H := upd G2 bk (.tup [V.str "back", last])) (a := t1) (o := .tup [V.ref bk])
     have w34 := w3.trans w4
     generalize upd (upd G2 bk (.tup [V.str "back", last])) t1 (.tup [V.ref bk]) = G4 at w4 w34 k3 k4 ⊢
     refine zw1 (SqT.of (w34 _ _ k2)) k4 (by simp) (by rw [List.length_map]; show rs.length + 1 <= sizeLine; exact Nat.le_of_lt (za8 (by omega))) λ tr G5 w5 k5 => ⟨le4, λ fa hfa => ⟨le1, λ pr hpr => ?_⟩⟩
     have w6 := zal.new (o := .tup [V.str n7, V.bl false, V.ref qC, V.ref tr]) hfa
     have w7 := zal.new (o := .lst [V.ref fa]) hpr
     have w47 := (w5.trans w6).trans w7
     have w17 := ((w1.trans w2).trans w34).trans w47
     have s57 := s5.trans w17
     exact ⟨pr, bk, fa, qC, tr, rfl, ((s04.trans s57).seq ha), nok, w17 _ _ en5, (s25.trans w17) _ _ e2, w17 _ _ er5, lrs, by omega, λ i r rg h1 h2 => s57 _ _ (zig _ _ (itr i r rg h1 h2)), okr, ola, w47 _ _ k3, zab, w7 _ _ zab, (w2.trans (w34.trans w47)) _ _ k1, by rw [List.map_append]; exact (w6.trans w7) _ _ k5⟩
   clear s1 e1 hnl hfl s2 e2 en2 s02 hsl s3 e3 lc hrl s4 e4 lvs hvs okr itr lrs s24 s04 s5 s25 en5 er5 hp ola
   rintro σ G ⟨pr, bk, fa, qC, tr, rfl, ha, M⟩
   refine ⟨_, rfl, a, sc, 1, rfl, ha, hn, by decide, λ c2 => ⟨c2, 3, rfl, by decide, λ xl H1 xs hxl s1 e1 lx nn => ?_⟩⟩
   match xs, lx, e1 with
   | [x0, x1, x2], _, e1 =>
   refine ⟨le0, λ nw hnw => ?_⟩
   have s2 := zal.new (o := .lst []) hnw
   have k2 := zab (H := H1) (a := nw) (o := .lst [])
   have Gnw : G nw = none := s1.free hnw
   have e2 := s2 _ _ e1
   have s12 := s1.trans s2
   generalize upd H1 nw (.lst []) = H2 at s2 k2 e2 s12 ⊢
   refine ⟨λ σ G => ∃ (v8 v9 v10 v11 : Option V) (d1 d2 : Addr) (a1 b1 a2 b2 : Int), σ = [some (.ref a), some (.ref nl), some (.ref fl), some (.ref rl), some last, some (.ref pr), some (.ref xl), some (.ref nw), v8, v9, v10, v11, none, none, none, none] /\ Made K G nl fl rl pr n0 n1 n2 n3 n4 n5 n6 n7 rs rgs last bk fa qC tr /\ G nw = some (.lst [V.ref d1, V.ref d2]) /\ G d1 = some (.dK (zqp n0 n1 n2 n3 n4 a1 b1)) /\ G d2 = some (.dK (zqp n0 n1 n2 n3 n4 a2 b2)) /\ d1 ≠ d2, ?_, ?_⟩
   . refine ⟨_, rfl, xl, _, _, _, rfl, rfl, SqL.of e2, at0, _, _, rfl, rfl, (show (0 : Int) < 5 by decide), _, rfl, xl, _, _, _, rfl, rfl, SqL.of e2, rfl, _, _, rfl, rfl, (show (0 : Int) < 5 by decide), le2, λ l1 hl1 => ?_⟩
     have s3 := zal.new (o := .lst [V.int (x0 % 5), V.int (x1 % 5)]) hl1
     have k3 := zab (H := H2) (a := l1) (o := .lst [V.int (x0 % 5), V.int (x1 % 5)])
     generalize upd H2 l1 (.lst [V.int (x0 % 5), V.int (x1 % 5)]) = H3 at s3 k3 ⊢
     refine ⟨_, rfl, xl, _, _, _, rfl, rfl, SqL.of (s3 _ _ e2), rfl, x2, rfl, λ v1 hv1 => ⟨_, rfl, xl, _, _, _, rfl, rfl, SqL.of (s3 _ _ e2), at0, x0, rfl, λ v2 hv2 => ⟨le2, λ l2 hl2 => ⟨le2, λ ll hll => ?_⟩⟩⟩⟩
     have s4 := zal.new (o := .lst [V.int v1, V.int v2]) hl2
     have s5 := zal.new (o := .lst [V.ref l1, V.ref l2]) hll
     have k4 := s5 _ _ (zab (H := H3) (a := l2) (o := .lst [V.int v1, V.int v2]))
     have k5 := zab (H := upd H3 l2 (.lst [V.int v1, V.int v2])) (a := ll) (o := .lst [V.ref l1, V.ref l2])
     have nll : ll ≠ nw := λ z => by
       have := s4 _ _ (s3 _ _ k2)
       rw [<- z, hll] at this
       cases this
     have nl2 : l2 ≠ nw := λ z => by
       have := s3 _ _ k2
       rw [<- z, hl2] at this
       cases this
     have nl1 : l1 ≠ nw := λ z => by rw [z, k2] at hl1; cases hl1
     have s25 := (s3.trans s4).trans s5
     have k3' := (s4.trans s5) _ _ k3
     have k2' := s25 _ _ k2
     generalize upd (upd H3 l2 (.lst [V.int v1, V.int v2])) ll (.lst [V.ref l1, V.ref l2]) = H5 at s5 k4 k5 s25 k3' k2' ⊢
     have sGE : zal G (ers nw H5) := λ b o hb => by
       have nb : b ≠ nw := λ z => by rw [z, Gnw] at hb; cases hb
       rw [zdf nb]
       exact s25 _ _ (s12 _ _ hb)
     have ME := M.mono sGE
     have E0 : ers nw H5 nw = none := by unfold L2.ers; rw [if_pos rfl]
     have kl1 : ers nw H5 l1 = some (.lst [V.int (x0 % 5), V.int (x1 % 5)]) := by rw [zdf nl1]; exact k3'
     have kl2 : ers nw H5 l2 = some (.lst [V.int v1, V.int v2]) := by rw [zdf nl2]; exact k4
     have kll : ers nw H5 ll = some (.lst [V.ref l1, V.ref l2]) := by rw [zdf nll]; exact k5
     refine ⟨ll, rfl, ⟨_, SqL.of k5⟩, zjz (xs := [V.ref l1, V.ref l2]) (λ k σ H' => ∃ (v8 v9 v10 v11 : Option V) (ds : List Addr), σ = [some (.ref a), some (.ref nl), some (.ref fl), some (.ref rl), some last, some (.ref pr), some (.ref xl), some (.ref nw), v8, v9, v10, v11, none, none, none, none] /\ zal (ers nw H5) H' /\ H' nw = some (.lst (ds.map V.ref)) /\ ds.length = k /\ ds.Nodup /\ ∀ d ∈ ds, ∃ a b, H' d = some (.dK (zqp n0 n1 n2 n3 n4 a b))) ⟨_, _, _, _, [], rfl, zig, k2', rfl, List.nodup_nil, λ d hd => by cases hd⟩ ?_ ?_ ?_⟩
     . rintro k σ H' hk ⟨v8, v9, v10, v11, ds, rfl, sE, _⟩
       exact SqL.of (sE _ _ kll)
     . rintro k x σ H' hx ⟨v8, v9, v10, v11, ds, rfl, sE, enw, lds, nds, hds⟩
       obtain ⟨l, aI, bI, rfl, hl⟩ : ∃ l aI bI, x = V.ref l /\ ers nw H5 l = some (.lst [V.int aI, V.int bI]) := by
         match k, hx with
         | 0, hx => cases hx; exact ⟨l1, _, _, rfl, kl1⟩
         | 1, hx => cases hx; exact ⟨l2, _, _, rfl, kl2⟩
         | k + 2, hx => cases hx
       have k2l : k < 2 := (List.getElem?_eq_some_iff.mp hx).1
       intro d hd
       have s6 := zal.new (o := .dK []) hd
       have k6 := zab (H := H') (a := d) (o := .dK [])
       generalize upd H' d (.dK []) = H6 at s6 k6 ⊢
       refine ⟨_, rfl, _, rfl, nl, _, rfl, SqL.of (s6 _ _ (sE _ _ ME.en)), λ p hp => ?_⟩
       rw [c5]
       have s7 := zal.new (o := .lst ([n0, n1, n2, n3, n4].map V.str)) hp
       have k7 := zab (H := H6) (a := p) (o := .lst ([n0, n1, n2, n3, n4].map V.str))
       generalize upd H6 p (.lst ([n0, n1, n2, n3, n4].map V.str)) = H7 at s7 k7 ⊢
       refine ⟨_, rfl, le3, λ zl hzl => ⟨l, zl, _, _, rfl, rfl, zal.new hzl _ _ (s7 _ _ (s6 _ _ (sE _ _ hl))), zab, (by show 2 + 3 <= sizeLine; decide), λ cl hcl => ?_⟩⟩
       have s8 := zal.new (o := .lst [V.int 0, V.int 0, V.int 0]) hzl
       have s9 := zal.new (o := .lst ([V.int aI, V.int bI] ++ [V.int 0, V.int 0, V.int 0])) hcl
       have k9 : upd (upd H7 zl (.lst [V.int 0, V.int 0, V.int 0])) cl (.lst ([V.int aI, V.int bI] ++ [V.int 0, V.int 0, V.int 0])) cl = some (.lst [V.int aI, V.int bI, V.int 0, V.int 0, V.int 0]) := zab
       have s69 := (s7.trans s8).trans s9
       have k79 := (s8.trans s9) _ _ k7
       generalize upd (upd H7 zl (.lst [V.int 0, V.int 0, V.int 0])) cl (.lst ([V.int aI, V.int bI] ++ [V.int 0, V.int 0, V.int 0])) = H9 at s9 k9 s69 k79 ⊢
       have kd9 := s69 _ _ k6
       have npd : p ≠ d := λ z => by rw [z, k6] at hp; cases hp
       have ncd : cl ≠ d := λ z => by rw [z, kd9] at k9; cases k9
       have eD : ers d H9 d = none := by unfold L2.ers; rw [if_pos rfl]
       have sD : zal H' (ers d H9) := λ b o hb => by
         have nb : b ≠ d := λ z => by rw [z, hd] at hb; cases hb
         rw [zdf nb]
         exact s69 _ _ (s6 _ _ hb)
       have kp : ers d H9 p = some (.lst ([n0, n1, n2, n3, n4].map V.str)) := by rw [zdf npd]; exact k79
       have kc : ers d H9 cl = some (.lst [V.int aI, V.int bI, V.int 0, V.int 0, V.int 0]) := by rw [zdf ncd]; exact k9
       refine ⟨p, cl, rfl, ⟨_, SqL.of k79⟩, ⟨_, SqL.of k9⟩, zp9 (b1 := false) (b2 := false) (xs := [n0, n1, n2, n3, n4].map V.str) (ys := [V.int aI, V.int bI, V.int 0, V.int 0, V.int 0]) (λ j σ H8 => ∃ v10 v11 : Option V, σ = [some (.ref a), some (.ref nl), some (.ref fl), some (.ref rl), some last, some (.ref pr), some (.ref xl), some (.ref nw), some (.ref l), some (.ref d), v10, v11, none, none, none, none] /\ zal (ers d H9) H8 /\ H8 d = some (.dK ((([n0, n1, n2, n3, n4].zip [V.int aI, V.int bI, V.int 0, V.int 0, V.int 0]).take j).foldl (λ d p => za3 d (Sum.inr p.1 : Key) p.2) []))) ⟨_, _, rfl, zig, kd9⟩ ?_ ?_ ?_⟩
       . rintro j σ H8 hj ⟨v10, v11, rfl, sj, ej⟩
         exact ⟨SqL.of (sj _ _ kp), SqL.of (sj _ _ kc)⟩
       . rintro j x y σ H8 b hx hy ⟨v10, v11, rfl, sj, ej⟩ hb
         obtain ⟨n, hn', hnm, rfl⟩ := zl4 hx
         have sb := zal.new (o := .tup [.str n, y]) hb
         have lz : ((([n0, n1, n2, n3, n4].zip [V.int aI, V.int bI, V.int 0, V.int 0, V.int 0]).take j).foldl (λ d p => za3 d (Sum.inr p.1 : Key) p.2) []).length < 1000000 := by
           refine Nat.lt_of_le_of_lt (zgm (λ p : Str × V => ((Sum.inr p.1 : Key), p.2)) _ []) ?_
           rw [List.length_take]
           show 0 + min j 5 < 1000000
           omega
         refine ⟨b, _, rfl, SqT.of zab, rfl, _, _, rfl, _, _, rfl, rfl, _, rfl, _, rfl, _, rfl, d, _, rfl, zkr.k (k := (Sum.inr n : Key)) (sb _ _ ej) (za8 lz), _, _, rfl, (sj.trans sb).upd eD, ?_⟩
         have hz : ([n0, n1, n2, n3, n4].zip [V.int aI, V.int bI, V.int 0, V.int 0, V.int 0])[j]? = some (n, y) := List.getElem?_zip_eq_some.mpr ⟨hn', hy⟩
         rw [zab, List.take_add_one, List.foldl_append, hz]
         rfl
       . rintro σ H8 ⟨v10, v11, rfl, sj, ej⟩
         have ej : H8 d = some (.dK (zqp n0 n1 n2 n3 n4 aI bI)) := ej
         have s8' := sD.trans sj
         have enw8 := s8' _ _ enw
         have ndn : d ≠ nw := λ z => by rw [z, enw] at hd; cases hd
         refine ⟨_, rfl, .inl ⟨rfl, _, SqL.of enw8⟩, _, rfl, nw, _, _, rfl, rfl, enw8, za8 (by rw [List.length_map]; omega), ?_⟩
         refine ⟨_, _, _, _, ds ++ [d], rfl, (sE.trans s8').upd E0, by rw [zab, List.map_append]; rfl, by rw [List.length_append, lds]; rfl, ?_, λ d' hd' => ?_⟩
         . rw [List.nodup_append]
           refine ⟨nds, (by simp), λ x hx y hy z => ?_⟩
           rw [List.mem_singleton.mp hy] at z
           obtain ⟨_, _, e⟩ := hds x hx
           rw [z, hd] at e
           cases e
         . rcases List.mem_append.mp hd' with h | h
           . obtain ⟨a', b', e⟩ := hds d' h
             have n1 : d' ≠ nw := λ z => by rw [z, enw] at e; cases e
             exact ⟨a', b', by rw [zah n1]; exact s8' _ _ e⟩
           . rw [List.mem_singleton.mp h]
             exact ⟨aI, bI, by rw [zah ndn]; exact ej⟩
     . rintro σ H' ⟨v8, v9, v10, v11, ds, rfl, sE, enw, lds, nds, hds⟩
       match ds, lds, nds, hds, enw with
       | [d1, d2], _, nds, hds, enw =>
       obtain ⟨a1, b1, h1⟩ := hds d1 (by simp)
       obtain ⟨a2, b2, h2⟩ := hds d2 (by simp)
       exact ⟨_, _, _, _, d1, d2, a1, b1, a2, b2, rfl, ME.mono sE, enw, h1, h2, by simpa using nds⟩
   clear s1 e1 hxl s2 k2 Gnw e2 s12 hnw
   rintro σ G ⟨v8, v9, v10, v11, d1, d2, a1, b1, a2, b2, rfl, M, enw, ed1, ed2, nd12⟩
   intro t1 ht1 t2 ht2
   refine ⟨le2, λ sl hsl => ?_⟩
   have s1 := zal.new (o := .dT []) ht1
   have s2 := zal.new (o := .dT []) ht2
   have s3 := zal.new (o := .lst [V.ref t1, V.ref t2]) hsl
   have k1 := s3 _ _ (s2 _ _ (zab (H := G) (a := t1) (o := .dT [])))
   have k2 := s3 _ _ (zab (H := upd G t1 (.dT [])) (a := t2) (o := .dT []))
   have k3 := zab (H := upd (upd G t1 (.dT [])) t2 (.dT [])) (a := sl) (o := .lst [V.ref t1, V.ref t2])
   have nt12 : t2 ≠ t1 := λ z => by rw [z, zab] at ht2; cases ht2
   have s13 := (s1.trans s2).trans s3
   generalize upd (upd (upd G t1 (.dT [])) t2 (.dT [])) sl (.lst [V.ref t1, V.ref t2]) = H3 at s3 k1 k2 k3 s13 ⊢
   have M3 := M.mono s13
   have e1 := s13 _ _ ed1
   have e2 := s13 _ _ ed2
   have ew := s13 _ _ enw
   clear s1 s2 s3 ht1 ht2 hsl s13 M ed1 ed2 enw
   have nd5 : [n0, n1, n2, n3, n4].Nodup := (List.nodup_append.mp (show ([n0, n1, n2, n3, n4] ++ [n5, n6, n7]).Nodup from M3.nok.nd)).1
   have n01 : n0 ≠ n1 := λ z => by simp [z] at nd5
   have hFn := M3.nms
   have hnm0 : n0 ∈ F2.nms (zf4 n0 n1 n7 fa qC tr bk rs rgs last) := (hFn n0).mpr (.inl (by simp))
   have hne : ∀ f ∈ [zf4 n0 n1 n7 fa qC tr bk rs rgs last], F2.nms f ≠ [] := λ f hf z => by rw [List.mem_singleton.mp hf] at z; rw [z] at hnm0; cases hnm0
   have hps : (zf4 n0 n1 n7 fa qC tr bk rs rgs last).ps = [n0, n1] := rfl
   have now0 : ∀ a b, zdc (zqp n0 n1 n2 n3 n4 a b) (Sum.inr n0 : Key) = some (.int a) /\ zdc (zqp n0 n1 n2 n3 n4 a b) (Sum.inr n1 : Key) = some (.int b) := λ a b => by
     have inj : ∀ {x y : Str}, (Sum.inr x : Key) = Sum.inr y <-> x = y := λ {x y} => ⟨λ h => Sum.inr.inj h, λ h => by rw [h]⟩
     simp only [List.nodup_cons, List.mem_cons, List.not_mem_nil, or_false, not_or] at nd5
     obtain ⟨⟨q1, q2, q3, q4⟩, ⟨p2, p3, p4⟩, _⟩ := nd5
     unfold zqp
     simp only [zdn, inj]
     constructor
     . simp [q1, q2, q3, q4]
     . simp [p2, p3, p4]
   have kvl : ∀ {f : Fm} {a b : Int}, f.kvs = zk6 (zf4 n0 n1 n7 fa qC tr bk rs rgs last) [.int a, .int b] -> f.kvs.length ≠ 1 := λ {f a b} hf => by
     have c := zq1 nd5 hps hf (λ x hx => M3.sub hx)
     obtain ⟨i, h1, _⟩ := c n0 hnm0
     obtain ⟨j, h2, _⟩ := c n1 ((hFn n1).mpr (.inl (by simp)))
     exact zqw h1 h2 n01
   refine ⟨_, rfl, nw, rfl, ⟨_, SqL.of ew⟩, λ u hu => zjs (K := K) (xs := [V.ref d1, V.ref d2]) (by simp) (λ i acc H2 => match i with
     | 0 => acc = [] /\ zal H3 H2 /\ H2 u = some (.lst [])
     | 1 => ∃ (wA : Wr) (fA : Fm) (HA : Hp), acc = [V.ref wA.a] /\ WA t HA H2 wA [fA] .non [] ⟨[], 0⟩ /\ F2.FlowsAt K t.zay HA wA.fl [zf4 n0 n1 n7 fa qC tr bk rs rgs last] /\ zal H3 HA /\ HA u = some (.lst [V.ref wA.a]) /\ fA.fn = n7 /\ fA.row = 0 /\ fA.kvs = zk6 (zf4 n0 n1 n7 fa qC tr bk rs rgs last) [.int a1, .int b1]
     | _ => ∃ (wA wB : Wr) (fA fB : Fm) (Hx HB : Hp), acc = [V.ref wA.a, V.ref wB.a] /\ WA t HB H2 wB [fB] .non [] ⟨[], 0⟩ /\ WA t Hx HB wA [fA] .non [] ⟨[], 0⟩ /\ F2.FlowsAt K t.zay Hx wA.fl [zf4 n0 n1 n7 fa qC tr bk rs rgs last] /\ F2.FlowsAt K t.zay Hx wB.fl [zf4 n0 n1 n7 fa qC tr bk rs rgs last] /\ zal H3 Hx /\ Hx u = some (.lst [V.ref wA.a, V.ref wB.a]) /\ (fA.fn = n7 /\ fA.row = 0 /\ fA.kvs = zk6 (zf4 n0 n1 n7 fa qC tr bk rs rgs last) [.int a1, .int b1]) /\ fB.fn = n7 /\ fB.row = 0 /\ fB.kvs = zk6 (zf4 n0 n1 n7 fa qC tr bk rs rgs last) [.int a2, .int b2]) ⟨rfl, zal.new hu, zab⟩ ?_ ?_ ?_⟩
   . intro i acc H2 hi h
     match i, h with
     | 0, h =>
       obtain ⟨rfl, s2, e⟩ := h
       exact ⟨e, Nat.le_refl _, SqL.of (s2 _ _ ew)⟩
     | 1, h =>
       obtain ⟨wA, fA, HA, rfl, h1, _, s2, e, _⟩ := h
       exact ⟨h1.b _ _ e, Nat.le_refl _, SqL.of (h1.b _ _ (s2 _ _ ew))⟩
     | i + 2, h =>
       obtain ⟨wA, wB, fA, fB, Hx, HB, rfl, h1, h2, _, _, s2, e, _⟩ := h
       exact ⟨h1.b _ _ (h2.b _ _ e), Nat.le_add_left _ _, SqL.of (h1.b _ _ (h2.b _ _ (s2 _ _ ew)))⟩
   . intro i x acc H2 hx h
     match i, hx, h with
     | 0, hx, h =>
       obtain ⟨rfl, s2, eu⟩ := h
       cases hx
       have hd := s2 _ _ e1
       have en := s2 _ _ M3.en
       refine ⟨_, rfl, _, rfl, _, rfl, nl, _, _, _, rfl, rfl, SqL.of en, at0, d1, _, rfl, zep hd (now0 a1 b1).1, _, rfl, _, rfl, nl, _, _, _, rfl, rfl, SqL.of en, rfl, d1, _, rfl, zep hd (now0 a1 b1).2, le2, λ al hal => λ x dx hx hdx ndx => ?_⟩
       have s4 := zal.new (o := .lst [V.int a1, V.int b1]) hal
       have k4 := zab (H := H2) (a := al) (o := .lst [V.int a1, V.int b1])
       generalize upd H2 al (.lst [V.int a1, V.int b1]) = H4 at s4 k4 hx hdx ⊢
       have sX := zo4 (o1 := HO.own x) (o2 := HO.ins t.zam dx []) hx hdx
       have s3X := (s2.trans s4).trans sX
       refine ⟨x, dx, pr, al, [zf4 n0 n1 n7 fa qC tr bk rs rgs last], zf4 n0 n1 n7 fa qC tr bk rs rgs last, [.int a1, .int b1], rfl, zab, SqL.of (s3X _ _ M3.eg), by simp, by simp, λ f hf => ?_, by simp, rfl, SqL.of (sX _ _ k4), by simp, Nat.le_trans M3.nlen (by decide), by show 2 <= 1000; decide, λ Hb w f H' hw sb wa fl fn row kv => ⟨rfl, ?_⟩⟩
       . rw [List.mem_singleton.mp hf]
         exact M3.fn.mono s3X
       have eub := sb _ _ (sX _ _ (s4 _ _ eu))
       subst hw
       have h5 := wa.put (o' := .lst [V.ref w.a]) eub
       have uH3 : H3 u = none := hu
       refine ⟨wa.b _ _ eub, w, f, _, rfl, h5, zlg fl hne (λ b o hb hf => ?_), (s3X.trans sb).upd uH3, zab, fn, row, kv⟩
       rw [zah (λ z => by rw [z, eub] at hb; cases hb; exact hf.1 rfl)]
       exact hb
     | 1, hx, h =>
       obtain ⟨wA, fA, HA, rfl, hA, flA, s2, eu, bg⟩ := h
       cases hx
       have hd := hA.b _ _ (s2 _ _ e2)
       have en := hA.b _ _ (s2 _ _ M3.en)
       refine ⟨_, rfl, _, rfl, _, rfl, nl, _, _, _, rfl, rfl, SqL.of en, at0, d2, _, rfl, zep hd (now0 a2 b2).1, _, rfl, _, rfl, nl, _, _, _, rfl, rfl, SqL.of en, rfl, d2, _, rfl, zep hd (now0 a2 b2).2, le2, λ al hal => λ x dx hx hdx ndx => ?_⟩
       have s4 := zal.new (o := .lst [V.int a2, V.int b2]) hal
       have k4 := zab (H := H2) (a := al) (o := .lst [V.int a2, V.int b2])
       generalize upd H2 al (.lst [V.int a2, V.int b2]) = H4 at s4 k4 hx hdx ⊢
       have sX := zo4 (o1 := HO.own x) (o2 := HO.ins t.zam dx []) hx hdx
       have s3X := ((s2.trans hA.b).trans s4).trans sX
       refine ⟨x, dx, pr, al, [zf4 n0 n1 n7 fa qC tr bk rs rgs last], zf4 n0 n1 n7 fa qC tr bk rs rgs last, [.int a2, .int b2], rfl, zab, SqL.of (s3X _ _ M3.eg), by simp, by simp, λ f hf => ?_, by simp, rfl, SqL.of (sX _ _ k4), by simp, Nat.le_trans M3.nlen (by decide), by show 2 <= 1000; decide, λ HB w f H' hw sb wa fl fn row kv => ⟨rfl, ?_⟩⟩
       . rw [List.mem_singleton.mp hf]
         exact M3.fn.mono s3X
       subst hw
       have s2B : zal H2 HB := (s4.trans sX).trans sb
       have hA2 := cutO hA s2B
       have sAx : zal HA (erO (zq0 wA fA) HB) := λ b o hb => by
         rw [zyi (λ z => by rw [zxe hA z] at hb; cases hb)]
         exact s2B _ _ (hA.b _ _ hb)
       have eux := sAx _ _ eu
       have eub := hA2.b _ _ eux
       have flA2 := flA.mono sAx
       have flB : F2.FlowsAt K t.zay (erO (zq0 wA fA) HB) w.fl [zf4 n0 n1 n7 fa qC tr bk rs rgs last] := zlg fl hne (λ b o hb hf => by
         rw [zyi (z1t hA (kvl bg.2.2) s2B b o hb hf)]
         exact hb)
       have h5 := wa.put (o' := .lst [V.ref wA.a, V.ref w.a]) eub
       have h6 := hA2.put (o' := .lst [V.ref wA.a, V.ref w.a]) eux
       have uno : ∀ {fx : Addr}, F2.FlowsAt K t.zay (erO (zq0 wA fA) HB) fx [zf4 n0 n1 n7 fa qC tr bk rs rgs last] -> F2.FlowsAt K t.zay (upd (erO (zq0 wA fA) HB) u (.lst [V.ref wA.a, V.ref w.a])) fx [zf4 n0 n1 n7 fa qC tr bk rs rgs last] := λ {fx} hfl => zlg hfl hne (λ b o hb hf => by
         rw [zah (λ z => by
           rw [z, eux] at hb
           cases hb
           rcases hf.2 (.ref wA.a) (by simp) with ⟨s, y⟩ | y | ⟨p, ns, y, e⟩
           . cases y
           . cases y
           . cases y
             rw [hA2.fa] at e
             cases e)]
         exact hb)
       have uH3 : H3 u = none := hu
       exact ⟨wa.b _ _ eub, wA, w, fA, f, _, _, rfl, h5, h6, uno flA2, uno flB, (s2.trans sAx).upd uH3, zab, bg, fn, row, kv⟩
     | i + 2, hx, _ => cases hx
   rintro acc H2 ⟨wA, wB, fA, fB, Hx, HB, rfl, hB, hA, flA, flB, s3x, eu, bgA, bgB⟩
   have fo4 : ∀ {fx : Addr}, F2.FlowsAt K t.zay Hx fx [zf4 n0 n1 n7 fa qC tr bk rs rgs last] -> F2.FlowsAt K t.zay (er2 d2 t2 (er2 d1 t1 Hx)) fx [zf4 n0 n1 n7 fa qC tr bk rs rgs last] := λ {fx} hfl => zlg hfl hne (λ b o hb hf => by
     have q1 : b ≠ d1 := λ z => by
       rw [z, s3x _ _ e1] at hb
       cases hb
       exact absurd hf (zqw (now0 a1 b1).1 (now0 a1 b1).2 n01)
     have q2 : b ≠ d2 := λ z => by
       rw [z, s3x _ _ e2] at hb
       cases hb
       exact absurd hf (zqw (now0 a2 b2).1 (now0 a2 b2).2 n01)
     have q3 : b ≠ t1 := λ z => by rw [z, s3x _ _ k1] at hb; cases hb; exact hf
     have q4 : b ≠ t2 := λ z => by rw [z, s3x _ _ k2] at hb; cases hb; exact hf
     rw [zf8 q2 q4, zf8 q1 q3]
     exact hb)
   have no1 : ∀ b, er2 d1 t1 Hx b = none -> er2 d2 t2 (er2 d1 t1 Hx) b = none := λ b hb => by
     cases e : er2 d2 t2 (er2 d1 t1 Hx) b with
     | none => rfl
     | some o => rw [zgb _ _ e] at hb; cases hb
   have sb4 : zal (er2 d2 t2 (er2 d1 t1 Hx)) Hx := zgb.trans zgb
   have rel0 : Rel [] ⟨[], 0⟩ := ⟨λ kv h => (by cases h), λ _ _ _ => rfl, rfl, λ kv h => (by cases h)⟩
   have lnow : ∀ a b, (zqp n0 n1 n2 n3 n4 a b).length <= 5 := λ a b => by
     unfold zqp
     have g1 := zau ([] : List (Key × V)) (Sum.inr n0 : Key) (V.int a)
     have g2 := zau (za3 [] (Sum.inr n0 : Key) (V.int a)) (Sum.inr n1 : Key) (V.int b)
     have g3 := zau (za3 (za3 [] (Sum.inr n0 : Key) (V.int a)) (Sum.inr n1 : Key) (V.int b)) (Sum.inr n2 : Key) (V.int 0)
     have g4 := zau (za3 (za3 (za3 [] (Sum.inr n0 : Key) (V.int a)) (Sum.inr n1 : Key) (V.int b)) (Sum.inr n2 : Key) (V.int 0)) (Sum.inr n3 : Key) (V.int 0)
     have g5 := zau (za3 (za3 (za3 (za3 [] (Sum.inr n0 : Key) (V.int a)) (Sum.inr n1 : Key) (V.int b)) (Sum.inr n2 : Key) (V.int 0)) (Sum.inr n3 : Key) (V.int 0)) (Sum.inr n4 : Key) (V.int 0)
     simp only [List.length_nil] at g1
     omega
   have lbeg : ∀ {f : Fm} {a b : Int}, f.kvs = zk6 (zf4 n0 n1 n7 fa qC tr bk rs rgs last) [.int a, .int b] -> f.kvs.length <= 802 := λ {f a b} hf => by
     rw [hf]
     unfold zk6
     refine Nat.le_trans (zgm (λ p : Str × V => ((Sum.inr p.1 : Key), p.2)) _ _) ?_
     have l1 : (((F2.nms (zf4 n0 n1 n7 fa qC tr bk rs rgs last)).map λ n => ((Sum.inr n : Key), V.int 0)).foldl (λ acc kv => za3 acc kv.1 kv.2) []).length <= ([] : List (Key × V)).length + ((F2.nms (zf4 n0 n1 n7 fa qC tr bk rs rgs last)).map λ n => ((Sum.inr n : Key), V.int 0)).length := zgm (λ kv : Key × V => kv) ((F2.nms (zf4 n0 n1 n7 fa qC tr bk rs rgs last)).map λ n => ((Sum.inr n : Key), V.int 0)) []
     refine Nat.le_trans (Nat.add_le_add_right l1 _) ?_
     have l2 := M3.nlen
     rw [List.length_map]
     show 0 + (F2.nms (zf4 n0 n1 n7 fa qC tr bk rs rgs last)).length + 2 <= 802
     omega
   have NB : Nest K t (er2 d2 t2 (er2 d1 t1 Hx)) Hx HB H2 [zf4 n0 n1 n7 fa qC tr bk rs rgs last] (zf4 n0 n1 n7 fa qC tr bk rs rgs last) wB fB ⟨[], 0⟩ d2 t2 (zqp n0 n1 n2 n3 n4 a2 b2) [] wA fA ⟨[], 0⟩ d1 t1 (zqp n0 n1 n2 n3 n4 a1 b1) [] :=
     ⟨⟨hB, fo4 flB, sb4.trans hA.b, zte _ _ _, zsx _ _ _, hA.b _ _ (s3x _ _ e2), hA.b _ _ (s3x _ _ k2), List.mem_singleton.mpr rfl, bgB.1.symm, zq1 nd5 hps bgB.2.2 (λ x hx => M3.sub hx), rel0, by have := lnow a2 b2; have := lbeg bgB.2.2; simp only [List.length_nil]; omega⟩,
      ⟨hA, fo4 flA, sb4, no1 _ (zte _ _ _), no1 _ (zsx _ _ _), s3x _ _ e1, s3x _ _ k1, List.mem_singleton.mpr rfl, bgA.1.symm, zq1 nd5 hps bgA.2.2 (λ x hx => M3.sub hx), rel0, by have := lnow a1 b1; have := lbeg bgA.2.2; simp only [List.length_nil]; omega⟩, s3x _ _ e2, s3x _ _ k2, nd12, nt12.symm⟩
   have rowA := bgA.2.1
   have rowB := bgB.2.1
   have N1 := NB.swap
   have c2 : zog ([n0, n1, n2, n3, n4, n5, n6, n7].map V.str) none (some 2) = [n0, n1].map V.str := zsa [n0, n1, n2, n3, n4, n5, n6, n7] 2 (by simp)
   have MH := M3.mono ((s3x.trans hA.b).trans hB.b)
   refine ⟨λ σ G => ∃ (us : Addr) (uses : List Str) (H0 Hx HT : Hp), σ = [some (.ref a), some (.ref nl), some (.ref fl), some (.ref rl), some last, some (.ref pr), some (.ref xl), some (.ref nw), v8, v9, v10, v11, some (.ref sl), some (.ref u), some (.ref us), none] /\ Nest K t H0 Hx HT G [zf4 n0 n1 n7 fa qC tr bk rs rgs last] (zf4 n0 n1 n7 fa qC tr bk rs rgs last) wA fA ⟨[], 0⟩ d1 t1 (zqp n0 n1 n2 n3 n4 a1 b1) [] wB fB ⟨[], 0⟩ d2 t2 (zqp n0 n1 n2 n3 n4 a2 b2) [] /\ Made K H0 nl fl rl pr n0 n1 n2 n3 n4 n5 n6 n7 rs rgs last bk fa qC tr /\ H0 nw = some (.lst [V.ref d1, V.ref d2]) /\ H0 u = some (.lst [V.ref wA.a, V.ref wB.a]) /\ H0 sl = some (.lst [V.ref t1, V.ref t2]) /\ H0 us = some (.lst (uses.map V.str)) /\ ∀ n ∈ uses, n ∈ F2.nms (zf4 n0 n1 n7 fa qC tr bk rs rgs last), ?_, ?_⟩
   . refine ⟨_, rfl, _, rfl, nl, _, rfl, SqL.of MH.en, λ p hp => ?_⟩
     rw [c2]
     have s5 := zal.new (o := .lst ([n0, n1].map V.str)) hp
     have k5 := zab (H := H2) (a := p) (o := .lst ([n0, n1].map V.str))
     generalize upd H2 p (.lst ([n0, n1].map V.str)) = H5 at s5 k5 ⊢
     refine ⟨_, rfl, _, rfl, le2, λ b2' hb2 => ⟨le1, λ l2 hl2 => ⟨rl, l2, _, _, rfl, rfl, zal.new hl2 _ _ (zal.new hb2 _ _ (s5 _ _ MH.er)), zab, (by rw [List.length_map]; have := M3.lr; have := M3.l63; show rs.length + 1 <= sizeLine; exact Nat.le_of_lt (za8 (by omega))), λ cl hcl => ?_⟩⟩⟩
     have s6 := zal.new (o := .tup [V.str "back", last]) hb2
     have s7 := zal.new (o := .lst [V.ref b2']) hl2
     have s8 := zal.new (o := .lst (rs.map V.ref ++ [V.ref b2'])) hcl
     have k6 := (s7.trans s8) _ _ (zab (H := H5) (a := b2') (o := .tup [V.str "back", last]))
     have k8 := zab (H := upd (upd H5 b2' (.tup [V.str "back", last])) l2 (.lst [V.ref b2'])) (a := cl) (o := .lst (rs.map V.ref ++ [V.ref b2']))
     have s58 := (s6.trans s7).trans s8
     generalize upd (upd (upd H5 b2' (.tup [V.str "back", last])) l2 (.lst [V.ref b2'])) cl (.lst (rs.map V.ref ++ [V.ref b2'])) = H8 at s8 k6 k8 s58 ⊢
     have s28 := s5.trans s58
     have M8 := MH.mono s28
     have l63 := M3.l63
     have lr := M3.lr
     refine ⟨p, cl, [n0, n1], rs ++ [b2'], rgs ++ [RG.back last], rfl, SqL.of (s58 _ _ k5), by rw [List.map_append]; exact SqL.of k8, by rw [List.length_append, List.length_append, lr]; rfl, λ i r rg h1 h2 => ?_, by rw [List.length_append]; show rs.length + 1 <= 100; omega, by show 2 <= 100; decide, λ us H9 uses hus s9 e9 huses => ?_⟩
     . have ok := (M8.pl i rg h2).1
       refine ⟨?_, λ v hv => ?_, ?_⟩
       . by_cases hi : i < rs.length
         . rw [List.getElem?_append_left hi] at h1
           rw [List.getElem?_append_left (by omega)] at h2
           exact SqT.of (M8.it i r rg h1 h2)
         . have hi2 : i = rs.length := by
             have := (List.getElem?_eq_some_iff.mp h1).1
             rw [List.length_append] at this
             have : i < rs.length + 1 := this
             omega
           rw [hi2, List.getElem?_append_right (Nat.le_refl _), Nat.sub_self] at h1
           rw [hi2, lr, List.getElem?_append_right (Nat.le_refl _), Nat.sub_self] at h2
           cases h1
           cases h2
           exact SqT.of k6
       . rcases ok.at_ v hv with ⟨s, e, _⟩ | ⟨z, e⟩
         . exact .inr ⟨s, e⟩
         . exact .inl ⟨z, e⟩
       . rcases List.mem_append.mp (List.mem_of_getElem? h2) with h | h
         . rcases z0p (M8.ok rg h) with h | h | h | h
           . exact .inl h
           . exact .inr (.inl h)
           . exact .inr (.inr (.inl h))
           . exact .inr (.inr (.inr (.inl h)))
         . exact .inr (.inr (.inr (.inr ⟨last, List.mem_singleton.mp h⟩)))
     have s29 := s28.trans s9
     have N2 := N1.grow s29
     have sxx : zal Hx (reb Hx (reb Hx HB H2) (gr (reb Hx HB H2) H2 H9)) := λ b o hb => zhn hb (zb5 N1.top.wa.b _ _ (N1.und.wa.b _ _ hb))
     have us0 : H2 us = none := s28.free hus
     have eus : reb Hx (reb Hx HB H2) (gr (reb Hx HB H2) H2 H9) us = some (.lst (uses.map V.str)) := zqm (N1.top.wa.b.free us0) (zu8 us0 e9)
     generalize gr (reb Hx HB H2) H2 H9 = HT2 at N2 sxx eus
     generalize reb Hx (reb Hx HB H2) HT2 = Hx2 at N2 sxx eus
     have kp : ∀ b o, Hx2 b = some o -> (∀ kv, o ≠ .dK kv) -> (∀ kv, o ≠ .dT kv) -> er2 d1 t1 (er2 d2 t2 Hx2) b = some o := λ b o hb q1 q2 => by
       rw [zf8 (λ z => by rw [z, N2.dx] at hb; cases hb; exact q1 _ rfl) (λ z => by rw [z, N2.sx] at hb; cases hb; exact q2 _ rfl), zf8 (λ z => by rw [z, N2.und.db] at hb; cases hb; exact q1 _ rfl) (λ z => by rw [z, N2.und.sb] at hb; cases hb; exact q2 _ rfl)]
       exact hb
     have kpl : ∀ {b : Addr} {xs : List V}, Hx2 b = some (.lst xs) -> er2 d1 t1 (er2 d2 t2 Hx2) b = some (.lst xs) := λ h => kp _ _ h (λ _ z => by cases z) (λ _ z => by cases z)
     have s3xx := s3x.trans sxx
     exact ⟨us, uses, _, Hx2, HT2, rfl, N2.ground, M3.keep (λ b o hb q1 q2 => kp b o (s3xx _ _ hb) q1 q2), kpl (s3xx _ _ ew), kpl (sxx _ _ eu), kpl (s3xx _ _ k3), kpl eus, λ n hn => (hFn n).mpr (huses n hn)⟩
   clear N1 NB fo4 no1 sb4 rel0 lnow lbeg hB hA flA flB s3x eu hu MH kvl now0 e1 e2 ew k1 k2 k3 nd5 n01 hnm0 hne hps hFn c2 c5
   have l63 := M3.l63
   have lr := M3.lr
   rintro σ G ⟨us, uses, H0, Hx, HT, rfl, N, M0, o1, o2, o3, o4, hus⟩
   have S := N.top.s0.trans N.top.wa.b
   refine ⟨_, rfl, rl, _, rfl, .inl (SqL.of (S _ _ M0.er)), _, _, rfl, rfl, _, rfl, by rw [List.length_map]; omega, by rw [List.length_map]; omega, zjf (lo := 0) (n := (((rs.map V.ref).length : Int) + 3).toNat) (λ k σ H' => ∃ (v15 : Option V) (Hx HT : Hp) (fA fB : Fm) (cnA cnB : Cn) (kvA kvB : List (Key × V)) (stA stB : List (List Key × V)), σ = [some (.ref a), some (.ref nl), some (.ref fl), some (.ref rl), some last, some (.ref pr), some (.ref xl), some (.ref nw), v8, v9, v10, v11, some (.ref sl), some (.ref u), some (.ref us), v15] /\ Nest K t H0 Hx HT H' [zf4 n0 n1 n7 fa qC tr bk rs rgs last] (zf4 n0 n1 n7 fa qC tr bk rs rgs last) wA fA cnA d1 t1 kvA stA wB fB cnB d2 t2 kvB stB /\ fA.row = min k rgs.length /\ fB.row = k - 3) ⟨_, Hx, HT, fA, fB, _, _, _, _, _, _, rfl, N, by rw [rowA]; omega, by rw [rowB]⟩ ?_ ?_⟩
   . rintro k σ H' hk ⟨v15, Hx, HT, fA, fB, cnA, cnB, kvA, kvB, stA, stB, rfl, N, rA, rB⟩
     rw [List.length_map] at hk
     have S := N.top.s0.trans N.top.wa.b
     by_cases hkn : k < rgs.length
     . have kl : k < rs.length := by omega
       have rA0 : fA.row = k := by omega
       refine ⟨_, rfl, _, rfl, rl, _, rfl, .inl (SqL.of (S _ _ M0.er)), _, _, rfl, rfl, _, rfl, zfq (decide_eq_true (by rw [List.length_map]; omega)) ⟨_, rfl, u, _, _, _, rfl, rfl, SqL.of (S _ _ o2), at0, _, rfl, _, rfl, rl, _, _, _, rfl, rfl, SqL.of (S _ _ M0.er), zmw (by omega) (by rw [show (0 + (k : Int)).toNat = k by omega]; exact List.getElem?_eq_getElem kl), _, rfl, _, rfl, nw, _, _, _, rfl, rfl, SqL.of (S _ _ o1), at0, _, rfl, sl, _, _, _, rfl, rfl, SqL.of (S _ _ o3), at0, H0, _, wA, fA, cnA, [zf4 n0 n1 n7 fa qC tr bk rs rgs last], zf4 n0 n1 n7 fa qC tr bk rs rgs last, us, d1, t1, rs[k], uses, kvA, stA, rgs[k], rfl, N.top, by rw [rA0]; exact M0.row (List.getElem?_eq_getElem kl) (List.getElem?_eq_getElem hkn), by rw [rA0]; exact M0.way hkn, by omega, SqL.of o4, hus, λ Hb1 H2 f1 c1 kv1 st1 hS1 G1 hr1 => ⟨_, rfl, zbw (by decide) ?_⟩⟩⟩
       have N1 := N.step hS1 G1
       by_cases h3 : 3 <= k
       . have N2 := N1.swap
         have S2 := N2.top.s0.trans N2.top.wa.b
         have kl : k - 3 < rs.length := by omega
         have kg : k - 3 < rgs.length := by omega
         refine ⟨_, rfl, _, _, rfl, rfl, _, rfl, zfq (decide_eq_true (by omega)) ⟨_, rfl, u, _, _, _, rfl, rfl, SqL.of (S2 _ _ o2), rfl, _, rfl, _, rfl, _, _, rfl, rfl, rl, _, _, _, rfl, rfl, SqL.of (S2 _ _ M0.er), zmw (by omega) (by rw [show (0 + (k : Int) - 3).toNat = k - 3 by omega]; exact List.getElem?_eq_getElem kl), _, rfl, _, rfl, nw, _, _, _, rfl, rfl, SqL.of (S2 _ _ o1), rfl, _, rfl, sl, _, _, _, rfl, rfl, SqL.of (S2 _ _ o3), rfl, H0, _, wB, fB, cnB, [zf4 n0 n1 n7 fa qC tr bk rs rgs last], zf4 n0 n1 n7 fa qC tr bk rs rgs last, us, d2, t2, rs[k - 3], uses, kvB, stB, rgs[k - 3], rfl, N2.top, by rw [rB]; exact M0.row (List.getElem?_eq_getElem kl) (List.getElem?_eq_getElem kg), by rw [rB]; exact M0.way kg, by omega, SqL.of o4, hus, λ Hb2 H3 f2 c2 kv2 st2 hS2 G2 hr2 => ⟨_, rfl, zbw (by decide) ?_⟩⟩⟩
         exact ⟨_, _, _, _, f2, _, c2, _, kv2, _, st2, rfl, (N2.step hS2 G2).swap, by rw [hr1, rA0]; omega, by rw [hr2, rB]; omega⟩
       . exact ⟨_, rfl, _, _, rfl, rfl, _, rfl, zbw (by rw [decide_eq_true_eq]; omega) ⟨_, _, _, _, _, _, _, _, _, _, _, rfl, N1, by rw [hr1, rA0]; omega, by rw [rB]; omega⟩⟩
     . refine ⟨_, rfl, _, rfl, rl, _, rfl, .inl (SqL.of (S _ _ M0.er)), _, _, rfl, rfl, _, rfl, zbw (by rw [decide_eq_true_eq, List.length_map]; omega) ?_⟩
       by_cases h3 : 3 <= k
       . have N2 := N.swap
         have S2 := N2.top.s0.trans N2.top.wa.b
         have kl : k - 3 < rs.length := by omega
         have kg : k - 3 < rgs.length := by omega
         refine ⟨_, rfl, _, _, rfl, rfl, _, rfl, zfq (decide_eq_true (by omega)) ⟨_, rfl, u, _, _, _, rfl, rfl, SqL.of (S2 _ _ o2), rfl, _, rfl, _, rfl, _, _, rfl, rfl, rl, _, _, _, rfl, rfl, SqL.of (S2 _ _ M0.er), zmw (by omega) (by rw [show (0 + (k : Int) - 3).toNat = k - 3 by omega]; exact List.getElem?_eq_getElem kl), _, rfl, _, rfl, nw, _, _, _, rfl, rfl, SqL.of (S2 _ _ o1), rfl, _, rfl, sl, _, _, _, rfl, rfl, SqL.of (S2 _ _ o3), rfl, H0, _, wB, fB, cnB, [zf4 n0 n1 n7 fa qC tr bk rs rgs last], zf4 n0 n1 n7 fa qC tr bk rs rgs last, us, d2, t2, rs[k - 3], uses, kvB, stB, rgs[k - 3], rfl, N2.top, by rw [rB]; exact M0.row (List.getElem?_eq_getElem kl) (List.getElem?_eq_getElem kg), by rw [rB]; exact M0.way kg, by omega, SqL.of o4, hus, λ Hb2 H3 f2 c2 kv2 st2 hS2 G2 hr2 => ⟨_, rfl, zbw (by decide) ?_⟩⟩⟩
         exact ⟨_, _, _, _, f2, _, c2, _, kv2, _, st2, rfl, (N2.step hS2 G2).swap, by rw [rA]; omega, by rw [hr2, rB]; omega⟩
       . exact ⟨_, rfl, _, _, rfl, rfl, _, rfl, zbw (by rw [decide_eq_true_eq]; omega) ⟨_, _, _, _, _, _, _, _, _, _, _, rfl, N, by rw [rA]; omega, by rw [rB]; omega⟩⟩
   . rintro σ H' ⟨v15, Hx, HT, fA, fB, cnA, cnB, kvA, kvB, stA, stB, rfl, N, rA, rB⟩
     rw [List.length_map] at rA rB
     have rA0 : fA.row = rgs.length := by omega
     have rB0 : fB.row = rgs.length := by omega
     have S := N.top.s0.trans N.top.wa.b
     obtain ⟨⟨rw_, hr1, hr2⟩, hla⟩ := M0.lastRow
     have nf : ∀ n ∈ [n0, n5, n6], n ≠ ("" : Str) := λ n hn => z1o M0.nok (z2q hn)
     refine ⟨_, rfl, u, _, _, _, rfl, rfl, SqL.of (S _ _ o2), at0, _, rfl, nw, _, _, _, rfl, rfl, SqL.of (S _ _ o1), at0, _, rfl, sl, _, _, _, rfl, rfl, SqL.of (S _ _ o3), at0, _, rfl, _, rfl, H0, _, wA, fA, cnA, _, _, d1, t1, fl, kvA, stA, rw_, last, [n0, n5, n6], rfl, N.top, by rw [rA0]; exact hr1, hr2, by omega, hla, SqL.of M0.ef, rfl, nf, λ Hb2 H3 v hS hw => ⟨_, rfl, zbw (by decide) ?_⟩⟩
     have GB := N.rest (hS.trans hw.b)
     have S3 := GB.s0.trans GB.wa.b
     exact ⟨_, rfl, u, _, _, _, rfl, rfl, SqL.of (S3 _ _ o2), rfl, _, rfl, nw, _, _, _, rfl, rfl, SqL.of (S3 _ _ o1), rfl, _, rfl, sl, _, _, _, rfl, rfl, SqL.of (S3 _ _ o3), rfl, _, rfl, _, rfl, H0, _, wB, fB, cnB, _, _, d2, t2, fl, kvB, stB, rw_, last, [n0, n5, n6], rfl, GB, by rw [rB0]; exact hr1, hr2, by omega, hla, SqL.of M0.ef, rfl, nf, λ _ H4 _ _ _ => q H4⟩
end
end K23
namespace K23
open PySem L2
set_option maxHeartbeats 4000000 in
theorem txt_mk {K : W.Frag} {h : Heap} {mg : Str -> Option Value} (X : K.In h) (G : h.Ns mainGlobals mg)
   {C_Flows : Addr} (aC_Flows : W.nsIn K mainGlobals "Flows" = some (some (.ref C_Flows))) (pg_Flows : W.plainGet K C_Flows Str.empty = true) (hd_Flows : W.hasDictIn K C_Flows = true) (po_Flows : W.plainOver K C_Flows = true) (sa_Flows : W.findIn K (.ref C_Flows) "__setattr__" = some (some (.builtin "object.__setattr__"))) (mk_Flows : W.makesIn K C_Flows = true) (kc_Flows : W.keepIn K (.ref C_Flows) = true)
   (zd8 : W.findIn K (.ref C_Flows) "last" = some none)
   (zcp : W.findIn K (.ref C_Flows) "number_of" = some none)
   (zco : W.findIn K (.ref C_Flows) "folded_of" = some none)
   (zce : W.findIn K (.ref C_Flows) "params_of" = some none)
   (zcv : W.findIn K (.ref C_Flows) "rows_of" = some none)
   (zca : W.findIn K (.ref C_Flows) "names_in" = some none)
   (zcw : W.findIn K (.ref C_Flows) "ways_in" = some none)
   {C_Walker : Addr} (aC_Walker : W.nsIn K mainGlobals "Walker" = some (some (.ref C_Walker))) (pg_Walker : W.plainGet K C_Walker Str.empty = true) (hd_Walker : W.hasDictIn K C_Walker = true) (po_Walker : W.plainOver K C_Walker = true) (sa_Walker : W.findIn K (.ref C_Walker) "__setattr__" = some (some (.builtin "object.__setattr__"))) (mk_Walker : W.makesIn K C_Walker = true) (kc_Walker : W.keepIn K (.ref C_Walker) = true)
   {C_TextWalker : Addr} (aC_TextWalker : W.nsIn K mainGlobals "TextWalker" = some (some (.ref C_TextWalker))) (pg_TextWalker : W.plainGet K C_TextWalker Str.empty = true) (hd_TextWalker : W.hasDictIn K C_TextWalker = true) (po_TextWalker : W.plainOver K C_TextWalker = true) (sa_TextWalker : W.findIn K (.ref C_TextWalker) "__setattr__" = some (some (.builtin "object.__setattr__"))) (mk_TextWalker : W.makesIn K C_TextWalker = true) (kc_TextWalker : W.keepIn K (.ref C_TextWalker) = true)
   (za0 : W.findIn K (.ref C_TextWalker) "flows" = some none)
   (zax : W.findIn K (.ref C_TextWalker) "stack" = some none)
   (zbp : W.findIn K (.ref C_TextWalker) "outcome" = some none)
   (zci : W.findIn K (.ref C_TextWalker) "sendings" = some none)
   (zbm : W.findIn K (.ref C_TextWalker) "contents" = some none)
   (zbq : W.findIn K (.ref C_TextWalker) "records" = some none)
   {C_TextFrame : Addr} (aC_TextFrame : W.nsIn K mainGlobals "TextFrame" = some (some (.ref C_TextFrame))) (pg_TextFrame : W.plainGet K C_TextFrame Str.empty = true) (hd_TextFrame : W.hasDictIn K C_TextFrame = true) (po_TextFrame : W.plainOver K C_TextFrame = true) (sa_TextFrame : W.findIn K (.ref C_TextFrame) "__setattr__" = some (some (.builtin "object.__setattr__"))) (mk_TextFrame : W.makesIn K C_TextFrame = true) (kc_TextFrame : W.keepIn K (.ref C_TextFrame) = true)
   (zbf : W.findIn K (.ref C_TextFrame) "function" = some none)
   (zb7 : W.findIn K (.ref C_TextFrame) "row" = some none)
   (za9 : W.findIn K (.ref C_TextFrame) "named" = some none)
   {f0 : Addr} {oc0 kV0 dc0 pm0 cd0 ct0 : Value} {od0 an0 : Option Addr} {sl0 : Array (Option Value)} (a0 : W.nsIn K mainGlobals "names_of" = some (some (.ref f0))) (l0 : K.lookup f0 = some ⟨oc0, od0, .func (W.fnOf "names_of" "names_of" (zaj zd1) (zai zd1) (zac zd1) .none kV0 dc0 pm0 an0 cd0 ct0), sl0⟩) (c0 : W.codeIn K cd0 "names_of" = true) (k0 : W.keepIn K (.ref f0) = true)
   {f1 : Addr} {oc1 kV1 dc1 pm1 cd1 ct1 : Value} {od1 an1 : Option Addr} {sl1 : Array (Option Value)} (a1 : W.nsIn K mainGlobals "reads" = some (some (.ref f1))) (l1 : K.lookup f1 = some ⟨oc1, od1, .func (W.fnOf "reads" "reads" (zaj zhx) (zai zhx) (zac zhx) .none kV1 dc1 pm1 an1 cd1 ct1), sl1⟩) (c1 : W.codeIn K cd1 "reads" = true) (k1 : W.keepIn K (.ref f1) = true)
   {f2 : Addr} {oc2 kV2 dc2 pm2 cd2 ct2 : Value} {od2 an2 : Option Addr} {sl2 : Array (Option Value)} (a2 : W.nsIn K mainGlobals "gives" = some (some (.ref f2))) (l2 : K.lookup f2 = some ⟨oc2, od2, .func (W.fnOf "gives" "gives" (zaj zhs) (zai zhs) (zac zhs) .none kV2 dc2 pm2 an2 cd2 ct2), sl2⟩) (c2 : W.codeIn K cd2 "gives" = true) (k2 : W.keepIn K (.ref f2) = true)
   {f3 : Addr} {oc3 kV3 dc3 pm3 cd3 ct3 : Value} {od3 an3 : Option Addr} {sl3 : Array (Option Value)} (a3 : W.nsIn K mainGlobals "atoms_of" = some (some (.ref f3))) (l3 : K.lookup f3 = some ⟨oc3, od3, .func (W.fnOf "atoms_of" "atoms_of" (zaj zd5) (zai zd5) (zac zd5) .none kV3 dc3 pm3 an3 cd3 ct3), sl3⟩) (c3 : W.codeIn K cd3 "atoms_of" = true) (k3 : W.keepIn K (.ref f3) = true)
   {f4 : Addr} {oc4 kV4 dc4 pm4 cd4 ct4 : Value} {od4 an4 : Option Addr} {sl4 : Array (Option Value)} (a4 : W.nsIn K mainGlobals "each_once" = some (some (.ref f4))) (l4 : K.lookup f4 = some ⟨oc4, od4, .func (W.fnOf "each_once" "each_once" (zaj zdr) (zai zdr) (zac zdr) .none kV4 dc4 pm4 an4 cd4 ct4), sl4⟩) (c4 : W.codeIn K cd4 "each_once" = true) (k4 : W.keepIn K (.ref f4) = true)
   {f5 : Addr} {oc5 kV5 dc5 pm5 cd5 ct5 : Value} {od5 an5 : Option Addr} {sl5 : Array (Option Value)} (a5 : W.nsIn K mainGlobals "ways" = some (some (.ref f5))) (l5 : K.lookup f5 = some ⟨oc5, od5, .func (W.fnOf "ways" "ways" (zaj zkz) (zai zkz) (zac zkz) .none kV5 dc5 pm5 an5 cd5 ct5), sl5⟩) (c5 : W.codeIn K cd5 "ways" = true) (k5 : W.keepIn K (.ref f5) = true)
   {f6 : Addr} {oc6 kV6 dc6 pm6 cd6 ct6 : Value} {od6 an6 : Option Addr} {sl6 : Array (Option Value)} (a6 : W.nsIn K mainGlobals "begins_of" = some (some (.ref f6))) (l6 : K.lookup f6 = some ⟨oc6, od6, .func (W.fnOf "begins_of" "begins_of" (zaj zdq) (zai zdq) (zac zdq) .none kV6 dc6 pm6 an6 cd6 ct6), sl6⟩) (c6 : W.codeIn K cd6 "begins_of" = true) (k6 : W.keepIn K (.ref f6) = true)
   {f7 : Addr} {oc7 kV7 dc7 pm7 cd7 ct7 : Value} {od7 an7 : Option Addr} {sl7 : Array (Option Value)} (a7 : W.nsIn K mainGlobals "firsts_behind" = some (some (.ref f7))) (l7 : K.lookup f7 = some ⟨oc7, od7, .func (W.fnOf "firsts_behind" "firsts_behind" (zaj zcg) (zai zcg) (zac zcg) .none kV7 dc7 pm7 an7 cd7 ct7), sl7⟩) (c7 : W.codeIn K cd7 "firsts_behind" = true) (k7 : W.keepIn K (.ref f7) = true)
   {f8 : Addr} {oc8 kV8 dc8 pm8 cd8 ct8 : Value} {od8 an8 : Option Addr} {sl8 : Array (Option Value)} (a8 : W.findIn K (.ref C_Flows) "__init__" = some (some (.ref f8))) (i8 : W.isFn K (.ref f8) = true) (l8 : K.lookup f8 = some ⟨oc8, od8, .func (W.fnOf "__init__" "Flows.__init__" (zaj zde) (zai zde) (zac zde) .none kV8 dc8 pm8 an8 cd8 ct8), sl8⟩) (c8 : W.codeIn K cd8 "Flows.__init__" = true) (k8 : W.keepIn K (.ref f8) = true)
   {f9 : Addr} {oc9 kV9 dc9 pm9 cd9 ct9 : Value} {od9 an9 : Option Addr} {sl9 : Array (Option Value)} (a9 : W.nsIn K mainGlobals "value" = some (some (.ref f9))) (l9 : K.lookup f9 = some ⟨oc9, od9, .func (W.fnOf "value" "value" (zaj zhz) (zai zhz) (zac zhz) .none kV9 dc9 pm9 an9 cd9 ct9), sl9⟩) (c9 : W.codeIn K cd9 "value" = true) (k9 : W.keepIn K (.ref f9) = true)
   (ga10 : W.specialIn K (.ref C_Walker) "__getattribute__" = some (some (.builtin "type.__getattribute__"))) (rd10 : W.readsIn K C_Walker (.type "type") = true)
   {f10 : Addr} {oc10 kV10 dc10 pm10 cd10 ct10 : Value} {od10 an10 : Option Addr} {sl10 : Array (Option Value)} (a10 : W.findIn K (.ref C_Walker) "__init__" = some (some (.ref f10))) (i10 : W.isFn K (.ref f10) = true) (l10 : K.lookup f10 = some ⟨oc10, od10, .func (W.fnOf "__init__" "Walker.__init__" (zaj zc1) (zai zc1) (zac zc1) .none kV10 dc10 pm10 an10 cd10 ct10), sl10⟩) (c10 : W.codeIn K cd10 "Walker.__init__" = true) (k10 : W.keepIn K (.ref f10) = true)
   (fc10 : W.findCls K (.ref C_Walker) (.type "type") "__init__" = some (.val (.ref f10)))
   {f11 : Addr} {oc11 kV11 dc11 pm11 cd11 ct11 : Value} {od11 an11 : Option Addr} {sl11 : Array (Option Value)} (a11 : W.findIn K (.ref C_TextWalker) "ended" = some (some (.ref f11))) (i11 : W.isFn K (.ref f11) = true) (l11 : K.lookup f11 = some ⟨oc11, od11, .func (W.fnOf "ended" "Walker.ended" (zaj zcl) (zai zcl) (zac zcl) .none kV11 dc11 pm11 an11 cd11 ct11), sl11⟩) (c11 : W.codeIn K cd11 "Walker.ended" = true) (k11 : W.keepIn K (.ref f11) = true)
   {f12 : Addr} {oc12 kV12 dc12 pm12 cd12 ct12 : Value} {od12 an12 : Option Addr} {sl12 : Array (Option Value)} (a12 : W.findIn K (.ref C_TextWalker) "answer" = some (some (.ref f12))) (i12 : W.isFn K (.ref f12) = true) (l12 : K.lookup f12 = some ⟨oc12, od12, .func (W.fnOf "answer" "Walker.answer" (zaj zcf) (zai zcf) (zac zcf) .none kV12 dc12 pm12 an12 cd12 ct12), sl12⟩) (c12 : W.codeIn K cd12 "Walker.answer" = true) (k12 : W.keepIn K (.ref f12) = true)
   {f13 : Addr} {oc13 kV13 dc13 pm13 cd13 ct13 : Value} {od13 an13 : Option Addr} {sl13 : Array (Option Value)} (a13 : W.findIn K (.ref C_TextWalker) "sent" = some (some (.ref f13))) (i13 : W.isFn K (.ref f13) = true) (l13 : K.lookup f13 = some ⟨oc13, od13, .func (W.fnOf "sent" "Walker.sent" (zaj zdh) (zai zdh) (zac zdh) .none kV13 dc13 pm13 an13 cd13 ct13), sl13⟩) (c13 : W.codeIn K cd13 "Walker.sent" = true) (k13 : W.keepIn K (.ref f13) = true)
   {f14 : Addr} {oc14 kV14 dc14 pm14 cd14 ct14 : Value} {od14 an14 : Option Addr} {sl14 : Array (Option Value)} (a14 : W.findIn K (.ref C_TextWalker) "field" = some (some (.ref f14))) (i14 : W.isFn K (.ref f14) = true) (l14 : K.lookup f14 = some ⟨oc14, od14, .func (W.fnOf "field" "Walker.field" (zaj zcm) (zai zcm) (zac zcm) .none kV14 dc14 pm14 an14 cd14 ct14), sl14⟩) (c14 : W.codeIn K cd14 "Walker.field" = true) (k14 : W.keepIn K (.ref f14) = true)
   {f15 : Addr} {oc15 kV15 dc15 pm15 cd15 ct15 : Value} {od15 an15 : Option Addr} {sl15 : Array (Option Value)} (a15 : W.findIn K (.ref C_TextWalker) "frames" = some (some (.ref f15))) (i15 : W.isFn K (.ref f15) = true) (l15 : K.lookup f15 = some ⟨oc15, od15, .func (W.fnOf "frames" "Walker.frames" (zaj zcq) (zai zcq) (zac zcq) .none kV15 dc15 pm15 an15 cd15 ct15), sl15⟩) (c15 : W.codeIn K cd15 "Walker.frames" = true) (k15 : W.keepIn K (.ref f15) = true)
   {f16 : Addr} {oc16 kV16 dc16 pm16 cd16 ct16 : Value} {od16 an16 : Option Addr} {sl16 : Array (Option Value)} (a16 : W.findIn K (.ref C_TextWalker) "told" = some (some (.ref f16))) (i16 : W.isFn K (.ref f16) = true) (l16 : K.lookup f16 = some ⟨oc16, od16, .func (W.fnOf "told" "Walker.told" (zaj zc2) (zai zc2) (zac zc2) .none kV16 dc16 pm16 an16 cd16 ct16), sl16⟩) (c16 : W.codeIn K cd16 "Walker.told" = true) (k16 : W.keepIn K (.ref f16) = true)
   {f17 : Addr} {oc17 kV17 dc17 pm17 cd17 ct17 : Value} {od17 an17 : Option Addr} {sl17 : Array (Option Value)} (a17 : W.findIn K (.ref C_TextWalker) "step" = some (some (.ref f17))) (i17 : W.isFn K (.ref f17) = true) (l17 : K.lookup f17 = some ⟨oc17, od17, .func (W.fnOf "step" "Walker.step" (zaj zc0) (zai zc0) (zac zc0) .none kV17 dc17 pm17 an17 cd17 ct17), sl17⟩) (c17 : W.codeIn K cd17 "Walker.step" = true) (k17 : W.keepIn K (.ref f17) = true)
   {f18 : Addr} {oc18 kV18 dc18 pm18 cd18 ct18 : Value} {od18 an18 : Option Addr} {sl18 : Array (Option Value)} (a18 : W.findIn K (.ref C_TextWalker) "ask_for_level" = some (some (.ref f18))) (i18 : W.isFn K (.ref f18) = true) (l18 : K.lookup f18 = some ⟨oc18, od18, .func (W.fnOf "ask_for_level" "Walker.ask_for_level" (zaj za1) (zai za1) (zac za1) .none kV18 dc18 pm18 an18 cd18 ct18), sl18⟩) (c18 : W.codeIn K cd18 "Walker.ask_for_level" = true) (k18 : W.keepIn K (.ref f18) = true)
   {f19 : Addr} {oc19 kV19 dc19 pm19 cd19 ct19 : Value} {od19 an19 : Option Addr} {sl19 : Array (Option Value)} (a19 : W.findIn K (.ref C_TextWalker) "ask_for_name" = some (some (.ref f19))) (i19 : W.isFn K (.ref f19) = true) (l19 : K.lookup f19 = some ⟨oc19, od19, .func (W.fnOf "ask_for_name" "Walker.ask_for_name" (zaj za4) (zai za4) (zac za4) .none kV19 dc19 pm19 an19 cd19 ct19), sl19⟩) (c19 : W.codeIn K cd19 "Walker.ask_for_name" = true) (k19 : W.keepIn K (.ref f19) = true)
   {f20 : Addr} {oc20 kV20 dc20 pm20 cd20 ct20 : Value} {od20 an20 : Option Addr} {sl20 : Array (Option Value)} (a20 : W.findIn K (.ref C_TextWalker) "names_at" = some (some (.ref f20))) (i20 : W.isFn K (.ref f20) = true) (l20 : K.lookup f20 = some ⟨oc20, od20, .func (W.fnOf "names_at" "Walker.names_at" (zaj zbz) (zai zbz) (zac zbz) .none kV20 dc20 pm20 an20 cd20 ct20), sl20⟩) (c20 : W.codeIn K cd20 "Walker.names_at" = true) (k20 : W.keepIn K (.ref f20) = true)
   {f21 : Addr} {oc21 kV21 dc21 pm21 cd21 ct21 : Value} {od21 an21 : Option Addr} {sl21 : Array (Option Value)} (a21 : W.findIn K (.ref C_TextWalker) "send_out" = some (some (.ref f21))) (i21 : W.isFn K (.ref f21) = true) (l21 : K.lookup f21 = some ⟨oc21, od21, .func (W.fnOf "send_out" "Walker.send_out" (zaj zb1) (zai zb1) (zac zb1) .none kV21 dc21 pm21 an21 cd21 ct21), sl21⟩) (c21 : W.codeIn K cd21 "Walker.send_out" = true) (k21 : W.keepIn K (.ref f21) = true)
   {f22 : Addr} {oc22 kV22 dc22 pm22 cd22 ct22 : Value} {od22 an22 : Option Addr} {sl22 : Array (Option Value)} (a22 : W.findIn K (.ref C_TextWalker) "put_field" = some (some (.ref f22))) (i22 : W.isFn K (.ref f22) = true) (l22 : K.lookup f22 = some ⟨oc22, od22, .func (W.fnOf "put_field" "Walker.put_field" (zaj zbt) (zai zbt) (zac zbt) .none kV22 dc22 pm22 an22 cd22 ct22), sl22⟩) (c22 : W.codeIn K cd22 "Walker.put_field" = true) (k22 : W.keepIn K (.ref f22) = true)
   {f23 : Addr} {oc23 kV23 dc23 pm23 cd23 ct23 : Value} {od23 an23 : Option Addr} {sl23 : Array (Option Value)} (a23 : W.findIn K (.ref C_TextWalker) "make_record" = some (some (.ref f23))) (i23 : W.isFn K (.ref f23) = true) (l23 : K.lookup f23 = some ⟨oc23, od23, .func (W.fnOf "make_record" "Walker.make_record" (zaj zbd) (zai zbd) (zac zbd) .none kV23 dc23 pm23 an23 cd23 ct23), sl23⟩) (c23 : W.codeIn K cd23 "Walker.make_record" = true) (k23 : W.keepIn K (.ref f23) = true)
   {f24 : Addr} {oc24 kV24 dc24 pm24 cd24 ct24 : Value} {od24 an24 : Option Addr} {sl24 : Array (Option Value)} (a24 : W.findIn K (.ref C_TextFrame) "__init__" = some (some (.ref f24))) (i24 : W.isFn K (.ref f24) = true) (l24 : K.lookup f24 = some ⟨oc24, od24, .func (W.fnOf "__init__" "TextFrame.__init__" (zaj zb8) (zai zb8) (zac zb8) .none kV24 dc24 pm24 an24 cd24 ct24), sl24⟩) (c24 : W.codeIn K cd24 "TextFrame.__init__" = true) (k24 : W.keepIn K (.ref f24) = true)
   {f25 : Addr} {oc25 kV25 dc25 pm25 cd25 ct25 : Value} {od25 an25 : Option Addr} {sl25 : Array (Option Value)} (a25 : W.findIn K (.ref C_TextFrame) "value_of" = some (some (.ref f25))) (i25 : W.isFn K (.ref f25) = true) (l25 : K.lookup f25 = some ⟨oc25, od25, .func (W.fnOf "value_of" "TextFrame.value_of" (zaj zbc) (zai zbc) (zac zbc) .none kV25 dc25 pm25 an25 cd25 ct25), sl25⟩) (c25 : W.codeIn K cd25 "TextFrame.value_of" = true) (k25 : W.keepIn K (.ref f25) = true)
   {f26 : Addr} {oc26 kV26 dc26 pm26 cd26 ct26 : Value} {od26 an26 : Option Addr} {sl26 : Array (Option Value)} (a26 : W.findIn K (.ref C_TextWalker) "__init__" = some (some (.ref f26))) (i26 : W.isFn K (.ref f26) = true) (l26 : K.lookup f26 = some ⟨oc26, od26, .func (W.fnOf "__init__" "TextWalker.__init__" (zaj zb0) (zai zb0) (zac zb0) .none kV26 dc26 pm26 an26 cd26 ct26), sl26⟩) (c26 : W.codeIn K cd26 "TextWalker.__init__" = true) (k26 : W.keepIn K (.ref f26) = true)
   {f27 : Addr} {oc27 kV27 dc27 pm27 cd27 ct27 : Value} {od27 an27 : Option Addr} {sl27 : Array (Option Value)} (a27 : W.findIn K (.ref C_TextWalker) "chain_of" = some (some (.ref f27))) (i27 : W.isFn K (.ref f27) = true) (l27 : K.lookup f27 = some ⟨oc27, od27, .func (W.fnOf "chain_of" "TextWalker.chain_of" (zaj za6) (zai za6) (zac za6) .none kV27 dc27 pm27 an27 cd27 ct27), sl27⟩) (c27 : W.codeIn K cd27 "TextWalker.chain_of" = true) (k27 : W.keepIn K (.ref f27) = true)
   {f28 : Addr} {oc28 kV28 dc28 pm28 cd28 ct28 : Value} {od28 an28 : Option Addr} {sl28 : Array (Option Value)} (a28 : W.findIn K (.ref C_TextWalker) "shown_at" = some (some (.ref f28))) (i28 : W.isFn K (.ref f28) = true) (l28 : K.lookup f28 = some ⟨oc28, od28, .func (W.fnOf "shown_at" "TextWalker.shown_at" (zaj za5) (zai za5) (zac za5) .none kV28 dc28 pm28 an28 cd28 ct28), sl28⟩) (c28 : W.codeIn K cd28 "TextWalker.shown_at" = true) (k28 : W.keepIn K (.ref f28) = true)
   {f29 : Addr} {oc29 kV29 dc29 pm29 cd29 ct29 : Value} {od29 an29 : Option Addr} {sl29 : Array (Option Value)} (a29 : W.findIn K (.ref C_TextWalker) "tell" = some (some (.ref f29))) (i29 : W.isFn K (.ref f29) = true) (l29 : K.lookup f29 = some ⟨oc29, od29, .func (W.fnOf "tell" "TextWalker.tell" (zaj zb2) (zai zb2) (zac zb2) .none kV29 dc29 pm29 an29 cd29 ct29), sl29⟩) (c29 : W.codeIn K cd29 "TextWalker.tell" = true) (k29 : W.keepIn K (.ref f29) = true)
   {f30 : Addr} {oc30 kV30 dc30 pm30 cd30 ct30 : Value} {od30 an30 : Option Addr} {sl30 : Array (Option Value)} (a30 : W.findIn K (.ref C_TextWalker) "walk_on" = some (some (.ref f30))) (i30 : W.isFn K (.ref f30) = true) (l30 : K.lookup f30 = some ⟨oc30, od30, .func (W.fnOf "walk_on" "TextWalker.walk_on" (zaj zbe) (zai zbe) (zac zbe) .none kV30 dc30 pm30 an30 cd30 ct30), sl30⟩) (c30 : W.codeIn K cd30 "TextWalker.walk_on" = true) (k30 : W.keepIn K (.ref f30) = true)
   {f31 : Addr} {oc31 kV31 dc31 pm31 cd31 ct31 : Value} {od31 an31 : Option Addr} {sl31 : Array (Option Value)} (a31 : W.findIn K (.ref C_TextWalker) "begin" = some (some (.ref f31))) (i31 : W.isFn K (.ref f31) = true) (l31 : K.lookup f31 = some ⟨oc31, od31, .func (W.fnOf "begin" "TextWalker.begin" (zaj zbu) (zai zbu) (zac zbu) .none kV31 dc31 pm31 an31 cd31 ct31), sl31⟩) (c31 : W.codeIn K cd31 "TextWalker.begin" = true) (k31 : W.keepIn K (.ref f31) = true)
   {f32 : Addr} {oc32 kV32 dc32 pm32 cd32 ct32 : Value} {od32 an32 : Option Addr} {sl32 : Array (Option Value)} (a32 : W.findIn K (.ref C_TextWalker) "row_of" = some (some (.ref f32))) (i32 : W.isFn K (.ref f32) = true) (l32 : K.lookup f32 = some ⟨oc32, od32, .func (W.fnOf "row_of" "TextWalker.row_of" (zaj zbi) (zai zbi) (zac zbi) .none kV32 dc32 pm32 an32 cd32 ct32), sl32⟩) (c32 : W.codeIn K cd32 "TextWalker.row_of" = true) (k32 : W.keepIn K (.ref f32) = true)
   {f33 : Addr} {oc33 kV33 dc33 pm33 cd33 ct33 : Value} {od33 an33 : Option Addr} {sl33 : Array (Option Value)} (a33 : W.findIn K (.ref C_TextWalker) "go_on" = some (some (.ref f33))) (i33 : W.isFn K (.ref f33) = true) (l33 : K.lookup f33 = some ⟨oc33, od33, .func (W.fnOf "go_on" "TextWalker.go_on" (zaj zbr) (zai zbr) (zac zbr) .none kV33 dc33 pm33 an33 cd33 ct33), sl33⟩) (c33 : W.codeIn K cd33 "TextWalker.go_on" = true) (k33 : W.keepIn K (.ref f33) = true)
   {f34 : Addr} {oc34 kV34 dc34 pm34 cd34 ct34 : Value} {od34 an34 : Option Addr} {sl34 : Array (Option Value)} (a34 : W.findIn K (.ref C_TextWalker) "go_back" = some (some (.ref f34))) (i34 : W.isFn K (.ref f34) = true) (l34 : K.lookup f34 = some ⟨oc34, od34, .func (W.fnOf "go_back" "TextWalker.go_back" (zaj zba) (zai zba) (zac zba) .none kV34 dc34 pm34 an34 cd34 ct34), sl34⟩) (c34 : W.codeIn K cd34 "TextWalker.go_back" = true) (k34 : W.keepIn K (.ref f34) = true)
   {f35 : Addr} {oc35 kV35 dc35 pm35 cd35 ct35 : Value} {od35 an35 : Option Addr} {sl35 : Array (Option Value)} (a35 : W.findIn K (.ref C_TextWalker) "do_row" = some (some (.ref f35))) (i35 : W.isFn K (.ref f35) = true) (l35 : K.lookup f35 = some ⟨oc35, od35, .func (W.fnOf "do_row" "TextWalker.do_row" (zaj zbk) (zai zbk) (zac zbk) .none kV35 dc35 pm35 an35 cd35 ct35), sl35⟩) (c35 : W.codeIn K cd35 "TextWalker.do_row" = true) (k35 : W.keepIn K (.ref f35) = true)
   {f36 : Addr} {oc36 kV36 dc36 pm36 cd36 ct36 : Value} {od36 an36 : Option Addr} {sl36 : Array (Option Value)} (a36 : W.findIn K (.ref C_TextWalker) "value_given" = some (some (.ref f36))) (i36 : W.isFn K (.ref f36) = true) (l36 : K.lookup f36 = some ⟨oc36, od36, .func (W.fnOf "value_given" "TextWalker.value_given" (zaj zaz) (zai zaz) (zac zaz) .none kV36 dc36 pm36 an36 cd36 ct36), sl36⟩) (c36 : W.codeIn K cd36 "TextWalker.value_given" = true) (k36 : W.keepIn K (.ref f36) = true)
   {f37 : Addr} {oc37 kV37 dc37 pm37 cd37 ct37 : Value} {od37 an37 : Option Addr} {sl37 : Array (Option Value)} (a37 : W.nsIn K mainGlobals "_law_cell_at" = some (some (.ref f37))) (l37 : K.lookup f37 = some ⟨oc37, od37, .func (W.fnOf "_law_cell_at" "_law_cell_at" (zaj zds) (zai zds) (zac zds) .none kV37 dc37 pm37 an37 cd37 ct37), sl37⟩) (c37 : W.codeIn K cd37 "_law_cell_at" = true) (k37 : W.keepIn K (.ref f37) = true)
   {f38 : Addr} {oc38 kV38 dc38 pm38 cd38 ct38 : Value} {od38 an38 : Option Addr} {sl38 : Array (Option Value)} (a38 : W.nsIn K mainGlobals "_law_stream" = some (some (.ref f38))) (l38 : K.lookup f38 = some ⟨oc38, od38, .func (W.fnOf "_law_stream" "_law_stream" (zaj zd3) (zai zd3) (zac zd3) .none kV38 dc38 pm38 an38 cd38 ct38), sl38⟩) (c38 : W.codeIn K cd38 "_law_stream" = true) (k38 : W.keepIn K (.ref f38) = true)
   {f39 : Addr} {oc39 kV39 dc39 pm39 cd39 ct39 : Value} {od39 an39 : Option Addr} {sl39 : Array (Option Value)} (a39 : W.nsIn K mainGlobals "_law_names" = some (some (.ref f39))) (l39 : K.lookup f39 = some ⟨oc39, od39, .func (W.fnOf "_law_names" "_law_names" (zaj zey) (zai zey) (zac zey) .none kV39 dc39 pm39 an39 cd39 ct39), sl39⟩) (c39 : W.codeIn K cd39 "_law_names" = true) (k39 : W.keepIn K (.ref f39) = true)
   {f40 : Addr} {oc40 kV40 dc40 pm40 cd40 ct40 : Value} {od40 an40 : Option Addr} {sl40 : Array (Option Value)} (a40 : W.nsIn K mainGlobals "_law_value_by" = some (some (.ref f40))) (l40 : K.lookup f40 = some ⟨oc40, od40, .func (W.fnOf "_law_value_by" "_law_value_by" (zaj zdd) (zai zdd) (zac zdd) .none kV40 dc40 pm40 an40 cd40 ct40), sl40⟩) (c40 : W.codeIn K cd40 "_law_value_by" = true) (k40 : W.keepIn K (.ref f40) = true)
   {f41 : Addr} {oc41 kV41 dc41 pm41 cd41 ct41 : Value} {od41 an41 : Option Addr} {sl41 : Array (Option Value)} (a41 : W.nsIn K mainGlobals "_law_small" = some (some (.ref f41))) (l41 : K.lookup f41 = some ⟨oc41, od41, .func (W.fnOf "_law_small" "_law_small" (zaj zeu) (zai zeu) (zac zeu) .none kV41 dc41 pm41 an41 cd41 ct41), sl41⟩) (c41 : W.codeIn K cd41 "_law_small" = true) (k41 : W.keepIn K (.ref f41) = true)
   {f42 : Addr} {oc42 kV42 dc42 pm42 cd42 ct42 : Value} {od42 an42 : Option Addr} {sl42 : Array (Option Value)} (a42 : W.nsIn K mainGlobals "_law_row" = some (some (.ref f42))) (l42 : K.lookup f42 = some ⟨oc42, od42, .func (W.fnOf "_law_row" "_law_row" (zaj zhw) (zai zhw) (zac zhw) .none kV42 dc42 pm42 an42 cd42 ct42), sl42⟩) (c42 : W.codeIn K cd42 "_law_row" = true) (k42 : W.keepIn K (.ref f42) = true)
   {f43 : Addr} {oc43 kV43 dc43 pm43 cd43 ct43 : Value} {od43 an43 : Option Addr} {sl43 : Array (Option Value)} (a43 : W.nsIn K mainGlobals "_law_worth" = some (some (.ref f43))) (l43 : K.lookup f43 = some ⟨oc43, od43, .func (W.fnOf "_law_worth" "_law_worth" (zaj zew) (zai zew) (zac zew) .none kV43 dc43 pm43 an43 cd43 ct43), sl43⟩) (c43 : W.codeIn K cd43 "_law_worth" = true) (k43 : W.keepIn K (.ref f43) = true)
   {f44 : Addr} {oc44 kV44 dc44 pm44 cd44 ct44 : Value} {od44 an44 : Option Addr} {sl44 : Array (Option Value)} (a44 : W.nsIn K mainGlobals "_law_done" = some (some (.ref f44))) (l44 : K.lookup f44 = some ⟨oc44, od44, .func (W.fnOf "_law_done" "_law_done" (zaj zf5) (zai zf5) (zac zf5) .none kV44 dc44 pm44 an44 cd44 ct44), sl44⟩) (c44 : W.codeIn K cd44 "_law_done" = true) (k44 : W.keepIn K (.ref f44) = true)
   {f45 : Addr} {oc45 kV45 dc45 pm45 cd45 ct45 : Value} {od45 an45 : Option Addr} {sl45 : Array (Option Value)} (a45 : W.nsIn K mainGlobals "_law_alike" = some (some (.ref f45))) (l45 : K.lookup f45 = some ⟨oc45, od45, .func (W.fnOf "_law_alike" "_law_alike" (zaj zet) (zai zet) (zac zet) .none kV45 dc45 pm45 an45 cd45 ct45), sl45⟩) (c45 : W.codeIn K cd45 "_law_alike" = true) (k45 : W.keepIn K (.ref f45) = true)
   {f46 : Addr} {oc46 kV46 dc46 pm46 cd46 ct46 : Value} {od46 an46 : Option Addr} {sl46 : Array (Option Value)} (a46 : W.nsIn K mainGlobals "_law_fields_told" = some (some (.ref f46))) (l46 : K.lookup f46 = some ⟨oc46, od46, .func (W.fnOf "_law_fields_told" "_law_fields_told" (zaj zch) (zai zch) (zac zch) .none kV46 dc46 pm46 an46 cd46 ct46), sl46⟩) (c46 : W.codeIn K cd46 "_law_fields_told" = true) (k46 : W.keepIn K (.ref f46) = true)
   {f47 : Addr} {oc47 kV47 dc47 pm47 cd47 ct47 : Value} {od47 an47 : Option Addr} {sl47 : Array (Option Value)} (a47 : W.nsIn K mainGlobals "_law_told" = some (some (.ref f47))) (l47 : K.lookup f47 = some ⟨oc47, od47, .func (W.fnOf "_law_told" "_law_told" (zaj zf9) (zai zf9) (zac zf9) .none kV47 dc47 pm47 an47 cd47 ct47), sl47⟩) (c47 : W.codeIn K cd47 "_law_told" = true) (k47 : W.keepIn K (.ref f47) = true)
   {f48 : Addr} {oc48 kV48 dc48 pm48 cd48 ct48 : Value} {od48 an48 : Option Addr} {sl48 : Array (Option Value)} (a48 : W.nsIn K mainGlobals "_law_stepped" = some (some (.ref f48))) (l48 : K.lookup f48 = some ⟨oc48, od48, .func (W.fnOf "_law_stepped" "_law_stepped" (zaj zdt) (zai zdt) (zac zdt) .none kV48 dc48 pm48 an48 cd48 ct48), sl48⟩) (c48 : W.codeIn K cd48 "_law_stepped" = true) (k48 : W.keepIn K (.ref f48) = true)
   {f49 : Addr} {oc49 kV49 dc49 pm49 cd49 ct49 : Value} {od49 an49 : Option Addr} {sl49 : Array (Option Value)} (a49 : W.nsIn K mainGlobals "_law_used" = some (some (.ref f49))) (l49 : K.lookup f49 = some ⟨oc49, od49, .func (W.fnOf "_law_used" "_law_used" (zaj zf7) (zai zf7) (zac zf7) .none kV49 dc49 pm49 an49 cd49 ct49), sl49⟩) (c49 : W.codeIn K cd49 "_law_used" = true) (k49 : W.keepIn K (.ref f49) = true)
   {f50 : Addr} {oc50 kV50 dc50 pm50 cd50 ct50 : Value} {od50 an50 : Option Addr} {sl50 : Array (Option Value)} (a50 : W.nsIn K mainGlobals "_law_at_end" = some (some (.ref f50))) (l50 : K.lookup f50 = some ⟨oc50, od50, .func (W.fnOf "_law_at_end" "_law_at_end" (zaj zd4) (zai zd4) (zac zd4) .none kV50 dc50 pm50 an50 cd50 ct50), sl50⟩) (c50 : W.codeIn K cd50 "_law_at_end" = true) (k50 : W.keepIn K (.ref f50) = true)
   {f51 : Addr} {oc51 kV51 dc51 pm51 cd51 ct51 : Value} {od51 an51 : Option Addr} {sl51 : Array (Option Value)} (a51 : W.nsIn K mainGlobals "law" = some (some (.ref f51))) (l51 : K.lookup f51 = some ⟨oc51, od51, .func (W.fnOf "law" "law" (zaj zl0) (zai zl0) (zac zl0) .none kV51 dc51 pm51 an51 cd51 ct51), sl51⟩) (c51 : W.codeIn K cd51 "law" = true) (k51 : W.keepIn K (.ref f51) = true)
   {tk0 : Tok} (w0 : W.nsIn K mainGlobals "WIDE" = some (some (.int 281474976710656 tk0)))
   {aT0 : Addr} {odT0 : Option Addr} {itT0 : Array Value} {nT0 : Nat} {slT0 : Array (Option Value)} (q0 : W.nsIn K mainGlobals "GIVING_KINDS" = some (some (.ref aT0))) (m0 : K.lookup aT0 = some ⟨.type "tuple", odT0, .seq itT0 nT0, slT0⟩) (v0 : zc6 (K12.giving.map V.str) itT0.toList) (s0 : itT0.size <= sizeLine)
   {aD0 : Addr} (qD0 : W.nsIn K mainGlobals "ATOM_PLACES" = some (some (.ref aD0))) (mD0 : PyProof.Rows.KTD.tabLook (zn2 K) (λ a => K.lookup a) aD0 K12.tabl = true)
   (z_len : W.nsIn K mainGlobals "len" = some none)
   (z_list : W.nsIn K mainGlobals "list" = some none)
   (z_tuple : W.nsIn K mainGlobals "tuple" = some none)
   (z_isinstance : W.nsIn K mainGlobals "isinstance" = some none)
   (z_range : W.nsIn K mainGlobals "range" = some none)
   (z_enumerate : W.nsIn K mainGlobals "enumerate" = some none)
   (z_dict : W.nsIn K mainGlobals "dict" = some none)
   (z_str : W.nsIn K mainGlobals "str" = some none)
   (z_min : W.nsIn K mainGlobals "min" = some none)
   (z_max : W.nsIn K mainGlobals "max" = some none)
   (z_int : W.nsIn K mainGlobals "int" = some none)
   (z_zip : W.nsIn K mainGlobals "zip" = some none)
   (z_bool : W.nsIn K mainGlobals "bool" = some none)
   : ∃ t, Txt K mg t := by
 refine ⟨⟨C_Flows, C_Walker, C_TextWalker, C_TextFrame, f0, W.fnOf "names_of" "names_of" (zaj zd1) (zai zd1) (zac zd1) .none kV0 dc0 pm0 an0 cd0 ct0, f1, W.fnOf "reads" "reads" (zaj zhx) (zai zhx) (zac zhx) .none kV1 dc1 pm1 an1 cd1 ct1, f2, W.fnOf "gives" "gives" (zaj zhs) (zai zhs) (zac zhs) .none kV2 dc2 pm2 an2 cd2 ct2, f3, W.fnOf "atoms_of" "atoms_of" (zaj zd5) (zai zd5) (zac zd5) .none kV3 dc3 pm3 an3 cd3 ct3, f4, W.fnOf "each_once" "each_once" (zaj zdr) (zai zdr) (zac zdr) .none kV4 dc4 pm4 an4 cd4 ct4, f5, W.fnOf "ways" "ways" (zaj zkz) (zai zkz) (zac zkz) .none kV5 dc5 pm5 an5 cd5 ct5, f6, W.fnOf "begins_of" "begins_of" (zaj zdq) (zai zdq) (zac zdq) .none kV6 dc6 pm6 an6 cd6 ct6, f7, W.fnOf "firsts_behind" "firsts_behind" (zaj zcg) (zai zcg) (zac zcg) .none kV7 dc7 pm7 an7 cd7 ct7, f8, W.fnOf "__init__" "Flows.__init__" (zaj zde) (zai zde) (zac zde) .none kV8 dc8 pm8 an8 cd8 ct8, f9, W.fnOf "value" "value" (zaj zhz) (zai zhz) (zac zhz) .none kV9 dc9 pm9 an9 cd9 ct9, f10, W.fnOf "__init__" "Walker.__init__" (zaj zc1) (zai zc1) (zac zc1) .none kV10 dc10 pm10 an10 cd10 ct10, f11, W.fnOf "ended" "Walker.ended" (zaj zcl) (zai zcl) (zac zcl) .none kV11 dc11 pm11 an11 cd11 ct11, f12, W.fnOf "answer" "Walker.answer" (zaj zcf) (zai zcf) (zac zcf) .none kV12 dc12 pm12 an12 cd12 ct12, f13, W.fnOf "sent" "Walker.sent" (zaj zdh) (zai zdh) (zac zdh) .none kV13 dc13 pm13 an13 cd13 ct13, f14, W.fnOf "field" "Walker.field" (zaj zcm) (zai zcm) (zac zcm) .none kV14 dc14 pm14 an14 cd14 ct14, f15, W.fnOf "frames" "Walker.frames" (zaj zcq) (zai zcq) (zac zcq) .none kV15 dc15 pm15 an15 cd15 ct15, f16, W.fnOf "told" "Walker.told" (zaj zc2) (zai zc2) (zac zc2) .none kV16 dc16 pm16 an16 cd16 ct16, f17, W.fnOf "step" "Walker.step" (zaj zc0) (zai zc0) (zac zc0) .none kV17 dc17 pm17 an17 cd17 ct17, f18, W.fnOf "ask_for_level" "Walker.ask_for_level" (zaj za1) (zai za1) (zac za1) .none kV18 dc18 pm18 an18 cd18 ct18, f19, W.fnOf "ask_for_name" "Walker.ask_for_name" (zaj za4) (zai za4) (zac za4) .none kV19 dc19 pm19 an19 cd19 ct19, f20, W.fnOf "names_at" "Walker.names_at" (zaj zbz) (zai zbz) (zac zbz) .none kV20 dc20 pm20 an20 cd20 ct20, f21, W.fnOf "send_out" "Walker.send_out" (zaj zb1) (zai zb1) (zac zb1) .none kV21 dc21 pm21 an21 cd21 ct21, f22, W.fnOf "put_field" "Walker.put_field" (zaj zbt) (zai zbt) (zac zbt) .none kV22 dc22 pm22 an22 cd22 ct22, f23, W.fnOf "make_record" "Walker.make_record" (zaj zbd) (zai zbd) (zac zbd) .none kV23 dc23 pm23 an23 cd23 ct23, f24, W.fnOf "__init__" "TextFrame.__init__" (zaj zb8) (zai zb8) (zac zb8) .none kV24 dc24 pm24 an24 cd24 ct24, f25, W.fnOf "value_of" "TextFrame.value_of" (zaj zbc) (zai zbc) (zac zbc) .none kV25 dc25 pm25 an25 cd25 ct25, f26, W.fnOf "__init__" "TextWalker.__init__" (zaj zb0) (zai zb0) (zac zb0) .none kV26 dc26 pm26 an26 cd26 ct26, f27, W.fnOf "chain_of" "TextWalker.chain_of" (zaj za6) (zai za6) (zac za6) .none kV27 dc27 pm27 an27 cd27 ct27, f28, W.fnOf "shown_at" "TextWalker.shown_at" (zaj za5) (zai za5) (zac za5) .none kV28 dc28 pm28 an28 cd28 ct28, f29, W.fnOf "tell" "TextWalker.tell" (zaj zb2) (zai zb2) (zac zb2) .none kV29 dc29 pm29 an29 cd29 ct29, f30, W.fnOf "walk_on" "TextWalker.walk_on" (zaj zbe) (zai zbe) (zac zbe) .none kV30 dc30 pm30 an30 cd30 ct30, f31, W.fnOf "begin" "TextWalker.begin" (zaj zbu) (zai zbu) (zac zbu) .none kV31 dc31 pm31 an31 cd31 ct31, f32, W.fnOf "row_of" "TextWalker.row_of" (zaj zbi) (zai zbi) (zac zbi) .none kV32 dc32 pm32 an32 cd32 ct32, f33, W.fnOf "go_on" "TextWalker.go_on" (zaj zbr) (zai zbr) (zac zbr) .none kV33 dc33 pm33 an33 cd33 ct33, f34, W.fnOf "go_back" "TextWalker.go_back" (zaj zba) (zai zba) (zac zba) .none kV34 dc34 pm34 an34 cd34 ct34, f35, W.fnOf "do_row" "TextWalker.do_row" (zaj zbk) (zai zbk) (zac zbk) .none kV35 dc35 pm35 an35 cd35 ct35, f36, W.fnOf "value_given" "TextWalker.value_given" (zaj zaz) (zai zaz) (zac zaz) .none kV36 dc36 pm36 an36 cd36 ct36, f37, W.fnOf "_law_cell_at" "_law_cell_at" (zaj zds) (zai zds) (zac zds) .none kV37 dc37 pm37 an37 cd37 ct37, f38, W.fnOf "_law_stream" "_law_stream" (zaj zd3) (zai zd3) (zac zd3) .none kV38 dc38 pm38 an38 cd38 ct38, f39, W.fnOf "_law_names" "_law_names" (zaj zey) (zai zey) (zac zey) .none kV39 dc39 pm39 an39 cd39 ct39, f40, W.fnOf "_law_value_by" "_law_value_by" (zaj zdd) (zai zdd) (zac zdd) .none kV40 dc40 pm40 an40 cd40 ct40, f41, W.fnOf "_law_small" "_law_small" (zaj zeu) (zai zeu) (zac zeu) .none kV41 dc41 pm41 an41 cd41 ct41, f42, W.fnOf "_law_row" "_law_row" (zaj zhw) (zai zhw) (zac zhw) .none kV42 dc42 pm42 an42 cd42 ct42, f43, W.fnOf "_law_worth" "_law_worth" (zaj zew) (zai zew) (zac zew) .none kV43 dc43 pm43 an43 cd43 ct43, f44, W.fnOf "_law_done" "_law_done" (zaj zf5) (zai zf5) (zac zf5) .none kV44 dc44 pm44 an44 cd44 ct44, f45, W.fnOf "_law_alike" "_law_alike" (zaj zet) (zai zet) (zac zet) .none kV45 dc45 pm45 an45 cd45 ct45, f46, W.fnOf "_law_fields_told" "_law_fields_told" (zaj zch) (zai zch) (zac zch) .none kV46 dc46 pm46 an46 cd46 ct46, f47, W.fnOf "_law_told" "_law_told" (zaj zf9) (zai zf9) (zac zf9) .none kV47 dc47 pm47 an47 cd47 ct47, f48, W.fnOf "_law_stepped" "_law_stepped" (zaj zdt) (zai zdt) (zac zdt) .none kV48 dc48 pm48 an48 cd48 ct48, f49, W.fnOf "_law_used" "_law_used" (zaj zf7) (zai zf7) (zac zf7) .none kV49 dc49 pm49 an49 cd49 ct49, f50, W.fnOf "_law_at_end" "_law_at_end" (zaj zd4) (zai zd4) (zac zd4) .none kV50 dc50 pm50 an50 cd50 ct50, f51, W.fnOf "law" "law" (zaj zl0) (zai zl0) (zac zl0) .none kV51 dc51 pm51 an51 cd51 ct51, aT0, aD0⟩, ?_⟩
 have bl : ∀ (s : Shared) (u : Value), BindsTo s (W.fnOf "law" "law" (zaj zl0) (zai zl0) (zac zl0) .none kV51 dc51 pm51 an51 cd51 ct51) ⟨[u], []⟩ [("_law_script", u)] := λ s u => .of_eq rfl
 exact ⟨(zb4 X G a0 l0 c0 k0 λ _ _ _ _ _ _ us hl => match us, hl with | [_], _ => rfl),
   (zb4 X G a1 l1 c1 k1 λ _ _ _ _ _ _ us hl => match us, hl with | [_], _ => rfl),
   (zb4 X G a2 l2 c2 k2 λ _ _ _ _ _ _ us hl => match us, hl with | [_], _ => rfl),
   (zb4 X G a3 l3 c3 k3 λ _ _ _ _ _ _ us hl => match us, hl with | [_], _ => rfl),
   (zb4 X G a4 l4 c4 k4 λ _ _ _ _ _ _ us hl => match us, hl with | [_], _ => rfl),
   (zb4 X G a5 l5 c5 k5 λ _ _ _ _ _ _ us hl => match us, hl with | [_], _ => rfl),
   (zb4 X G a6 l6 c6 k6 λ _ _ _ _ _ _ us hl => match us, hl with | [_], _ => rfl),
   (zb4 X G a7 l7 c7 k7 λ _ _ _ _ _ _ us hl => match us, hl with | [_, _], _ => rfl),
   (zn6 mk_Flows kc_Flows a8 i8 l8 c8 k8 λ _ _ _ _ _ _ us hl => match us, hl with | [_, _], _ => rfl),
   (zb4 X G a9 l9 c9 k9 λ _ _ _ _ _ _ us hl => match us, hl with | [_, _, _], _ => rfl),
   (zwv ga10 rd10 fc10 l10 c10 k10 λ _ _ _ _ _ _ us hl => match us, hl with | [_, _], _ => rfl),
   (zb3 a11 i11 l11 c11 k11 λ _ _ _ _ _ _ us hl => match us, hl with | [_], _ => rfl),
   (zb3 a12 i12 l12 c12 k12 λ _ _ _ _ _ _ us hl => match us, hl with | [_], _ => rfl),
   (zb3 a13 i13 l13 c13 k13 λ _ _ _ _ _ _ us hl => match us, hl with | [_], _ => rfl),
   (zb3 a14 i14 l14 c14 k14 λ _ _ _ _ _ _ us hl => match us, hl with | [_, _, _], _ => rfl),
   (zb3 a15 i15 l15 c15 k15 λ _ _ _ _ _ _ us hl => match us, hl with | [_], _ => rfl),
   (zb3 a16 i16 l16 c16 k16 λ _ _ _ _ _ _ us hl => match us, hl with | [_, _, _], _ => rfl),
   (zb3 a17 i17 l17 c17 k17 λ _ _ _ _ _ _ us hl => match us, hl with | [_], _ => rfl),
   (zb3 a18 i18 l18 c18 k18 λ _ _ _ _ _ _ us hl => match us, hl with | [_, _], _ => rfl),
   (zb3 a19 i19 l19 c19 k19 λ _ _ _ _ _ _ us hl => match us, hl with | [_, _, _], _ => rfl),
   (zb3 a20 i20 l20 c20 k20 λ _ _ _ _ _ _ us hl => match us, hl with | [_, _], _ => rfl),
   (zb3 a21 i21 l21 c21 k21 λ _ _ _ _ _ _ us hl => match us, hl with | [_, _], _ => rfl),
   (zb3 a22 i22 l22 c22 k22 λ _ _ _ _ _ _ us hl => match us, hl with | [_, _, _, _], _ => rfl),
   (zb3 a23 i23 l23 c23 k23 λ _ _ _ _ _ _ us hl => match us, hl with | [_], _ => rfl),
   (zn6 mk_TextFrame kc_TextFrame a24 i24 l24 c24 k24 λ _ _ _ _ _ _ us hl => match us, hl with | [_, _, _], _ => rfl),
   (zb3 a25 i25 l25 c25 k25 λ _ _ _ _ _ _ us hl => match us, hl with | [_, _], _ => rfl),
   (zn6 mk_TextWalker kc_TextWalker a26 i26 l26 c26 k26 λ _ _ _ _ _ _ us hl => match us, hl with | [_, _, _], _ => rfl),
   (zb3 a27 i27 l27 c27 k27 λ _ _ _ _ _ _ us hl => match us, hl with | [_, _], _ => rfl),
   (zb3 a28 i28 l28 c28 k28 λ _ _ _ _ _ _ us hl => match us, hl with | [_, _], _ => rfl),
   (zb3 a29 i29 l29 c29 k29 λ _ _ _ _ _ _ us hl => match us, hl with | [_, _, _], _ => rfl),
   (zb3 a30 i30 l30 c30 k30 λ _ _ _ _ _ _ us hl => match us, hl with | [_], _ => rfl),
   (zb3 a31 i31 l31 c31 k31 λ _ _ _ _ _ _ us hl => match us, hl with | [_, _, _], _ => rfl),
   (zb3 a32 i32 l32 c32 k32 λ _ _ _ _ _ _ us hl => match us, hl with | [_, _], _ => rfl),
   (zb3 a33 i33 l33 c33 k33 λ _ _ _ _ _ _ us hl => match us, hl with | [_, _, _], _ => rfl),
   (zb3 a34 i34 l34 c34 k34 λ _ _ _ _ _ _ us hl => match us, hl with | [_, _], _ => rfl),
   (zb3 a35 i35 l35 c35 k35 λ _ _ _ _ _ _ us hl => match us, hl with | [_, _, _], _ => rfl),
   (zb3 a36 i36 l36 c36 k36 λ _ _ _ _ _ _ us hl => match us, hl with | [_, _, _], _ => rfl),
   (zb4 X G a37 l37 c37 k37 λ _ _ _ _ _ _ us hl => match us, hl with | [_, _], _ => rfl),
   (zb4 X G a38 l38 c38 k38 λ _ _ _ _ _ _ us hl => match us, hl with | [_, _], _ => rfl),
   (zb4 X G a39 l39 c39 k39 λ _ _ _ _ _ _ us hl => match us, hl with | [_, _], _ => rfl),
   (zb4 X G a40 l40 c40 k40 λ _ _ _ _ _ _ us hl => match us, hl with | [_], _ => rfl),
   (zb4 X G a41 l41 c41 k41 λ _ _ _ _ _ _ us hl => match us, hl with | [_, _], _ => rfl),
   (zb4 X G a42 l42 c42 k42 λ _ _ _ _ _ _ us hl => match us, hl with | [_, _, _], _ => rfl),
   (zb4 X G a43 l43 c43 k43 λ _ _ _ _ _ _ us hl => match us, hl with | [_, _], _ => rfl),
   (zb4 X G a44 l44 c44 k44 λ _ _ _ _ _ _ us hl => match us, hl with | [_, _, _], _ => rfl),
   (zb4 X G a45 l45 c45 k45 λ _ _ _ _ _ _ us hl => match us, hl with | [_, _], _ => rfl),
   (zb4 X G a46 l46 c46 k46 λ _ _ _ _ _ _ us hl => match us, hl with | [_, _, _, _], _ => rfl),
   (zb4 X G a47 l47 c47 k47 λ _ _ _ _ _ _ us hl => match us, hl with | [_, _, _], _ => rfl),
   (zb4 X G a48 l48 c48 k48 λ _ _ _ _ _ _ us hl => match us, hl with | [_, _, _, _, _], _ => rfl),
   (zb4 X G a49 l49 c49 k49 λ _ _ _ _ _ _ us hl => match us, hl with | [_, _], _ => rfl),
   (zb4 X G a50 l50 c50 k50 λ _ _ _ _ _ _ us hl => match us, hl with | [_, _, _, _, _], _ => rfl),
   (zb4 X G a51 l51 c51 k51 λ _ _ _ _ _ _ us hl => match us, hl with | [_], _ => rfl),
   ⟨⟨pg_Flows, hd_Flows, po_Flows, sa_Flows⟩, W.mg_of X G aC_Flows⟩,
   ⟨⟨pg_Walker, hd_Walker, po_Walker, sa_Walker⟩, W.mg_of X G aC_Walker⟩,
   ⟨⟨pg_TextWalker, hd_TextWalker, po_TextWalker, sa_TextWalker⟩, W.mg_of X G aC_TextWalker⟩,
   ⟨⟨pg_TextFrame, hd_TextFrame, po_TextFrame, sa_TextFrame⟩, W.mg_of X G aC_TextFrame⟩,
   zd8,
   zcp,
   zco,
   zce,
   zcv,
   zca,
   zcw,
   za0,
   zax,
   zbp,
   zci,
   zbm,
   zbq,
   zbf,
   zb7,
   za9,
   ⟨_, W.mg_of X G w0⟩,
   W.mg_of X G q0,
   (λ H => .inr ⟨_, itT0, nT0, m0, rfl, rfl, s0, v0⟩),
   W.mg_of X G qD0,
   zpd mD0,
   W.mg_none_of X G z_len,
   W.mg_none_of X G z_list,
   W.mg_none_of X G z_tuple,
   W.mg_none_of X G z_isinstance,
   W.mg_none_of X G z_range,
   W.mg_none_of X G z_enumerate,
   W.mg_none_of X G z_dict,
   W.mg_none_of X G z_str,
   W.mg_none_of X G z_min,
   W.mg_none_of X G z_max,
   W.mg_none_of X G z_int,
   W.mg_none_of X G z_zip,
   W.mg_none_of X G z_bool,
   bl⟩
end K23
open PySem PySem.W PyProof.Rows
set_option maxRecDepth 100000 in
set_option maxHeartbeats 0 in
theorem PySem.Challenge.cw_stopglass_k23_records_and_fields_holds : PySem.Challenge.rw_stopglass_k23_records_and_fields.Holds := by
 refine Hd.pk.2 ?_
 unfold Hd.pk
 dsimp only
 k_fill
 refine L2.walk_ofK (l := PySem.Challenge.rw_stopglass_k23_records_and_fields) (n := 63) (k := 9) (x := "_law_script") (CX := L2.CX0) (sp := K23.sp_law) rfl (by decide) rfl ⟨rfl, by decide, by decide⟩ (λ w h Y => PySem.W.kIn_of Y) ?F ?S ?C
 case F =>
   intro w mg fa h KX G hmg
   have T : ∃ t, K23.Txt (L2.KOf KX) mg t := by
     dsimp only [L2.KOf]
     refine' K23.txt_mk KX G ?aC_Flows ?pg_Flows ?hd_Flows ?po_Flows ?sa_Flows ?mk_Flows ?kc_Flows ?zd8 ?zcp ?zco ?zce ?zcv ?zca ?zcw ?aC_Walker ?pg_Walker ?hd_Walker ?po_Walker ?sa_Walker ?mk_Walker ?kc_Walker ?aC_TextWalker ?pg_TextWalker ?hd_TextWalker ?po_TextWalker ?sa_TextWalker ?mk_TextWalker ?kc_TextWalker ?za0 ?zax ?zbp ?zci ?zbm ?zbq ?aC_TextFrame ?pg_TextFrame ?hd_TextFrame ?po_TextFrame ?sa_TextFrame ?mk_TextFrame ?kc_TextFrame ?zbf ?zb7 ?za9 ?a0 ?l0 ?c0 ?k0 ?a1 ?l1 ?c1 ?k1 ?a2 ?l2 ?c2 ?k2 ?a3 ?l3 ?c3 ?k3 ?a4 ?l4 ?c4 ?k4 ?a5 ?l5 ?c5 ?k5 ?a6 ?l6 ?c6 ?k6 ?a7 ?l7 ?c7 ?k7 ?a8 ?i8 ?l8 ?c8 ?k8 ?a9 ?l9 ?c9 ?k9 ?ga10 ?rd10 ?a10 ?i10 ?l10 ?c10 ?k10 ?fc10 ?a11 ?i11 ?l11 ?c11 ?k11 ?a12 ?i12 ?l12 ?c12 ?k12 ?a13 ?i13 ?l13 ?c13 ?k13 ?a14 ?i14 ?l14 ?c14 ?k14 ?a15 ?i15 ?l15 ?c15 ?k15 ?a16 ?i16 ?l16 ?c16 ?k16 ?a17 ?i17 ?l17 ?c17 ?k17 ?a18 ?i18 ?l18 ?c18 ?k18 ?a19 ?i19 ?l19 ?c19 ?k19 ?a20 ?i20 ?l20 ?c20 ?k20 ?a21 ?i21 ?l21 ?c21 ?k21 ?a22 ?i22 ?l22 ?c22 ?k22 ?a23 ?i23 ?l23 ?c23 ?k23 ?a24 ?i24 ?l24 ?c24 ?k24 ?a25 ?i25 ?l25 ?c25 ?k25 ?a26 ?i26 ?l26 ?c26 ?k26 ?a27 ?i27 ?l27 ?c27 ?k27 ?a28 ?i28 ?l28 ?c28 ?k28 ?a29 ?i29 ?l29 ?c29 ?k29 ?a30 ?i30 ?l30 ?c30 ?k30 ?a31 ?i31 ?l31 ?c31 ?k31 ?a32 ?i32 ?l32 ?c32 ?k32 ?a33 ?i33 ?l33 ?c33 ?k33 ?a34 ?i34 ?l34 ?c34 ?k34 ?a35 ?i35 ?l35 ?c35 ?k35 ?a36 ?i36 ?l36 ?c36 ?k36 ?a37 ?l37 ?c37 ?k37 ?a38 ?l38 ?c38 ?k38 ?a39 ?l39 ?c39 ?k39 ?a40 ?l40 ?c40 ?k40 ?a41 ?l41 ?c41 ?k41 ?a42 ?l42 ?c42 ?k42 ?a43 ?l43 ?c43 ?k43 ?a44 ?l44 ?c44 ?k44 ?a45 ?l45 ?c45 ?k45 ?a46 ?l46 ?c46 ?k46 ?a47 ?l47 ?c47 ?k47 ?a48 ?l48 ?c48 ?k48 ?a49 ?l49 ?c49 ?k49 ?a50 ?l50 ?c50 ?k50 ?a51 ?l51 ?c51 ?k51 ?w0 ?q0 ?m0 ?v0 ?s0 ?qD0 ?mD0 ?z_len ?z_list ?z_tuple ?z_isinstance ?z_range ?z_enumerate ?z_dict ?z_str ?z_min ?z_max ?z_int ?z_zip ?z_bool
     (case aC_Flows => k_is)
     (case pg_Flows => k_is)
     (case hd_Flows => k_is)
     (case po_Flows => k_is)
     (case sa_Flows => k_is)
     (case mk_Flows => k_is)
     (case kc_Flows => k_is)
     (case zd8 => k_is)
     (case zcp => k_is)
     (case zco => k_is)
     (case zce => k_is)
     (case zcv => k_is)
     (case zca => k_is)
     (case zcw => k_is)
     (case aC_Walker => k_is)
     (case pg_Walker => k_is)
     (case hd_Walker => k_is)
     (case po_Walker => k_is)
     (case sa_Walker => k_is)
     (case mk_Walker => k_is)
     (case kc_Walker => k_is)
     (case aC_TextWalker => k_is)
     (case pg_TextWalker => k_is)
     (case hd_TextWalker => k_is)
     (case po_TextWalker => k_is)
     (case sa_TextWalker => k_is)
     (case mk_TextWalker => k_is)
     (case kc_TextWalker => k_is)
     (case za0 => k_is)
     (case zax => k_is)
     (case zbp => k_is)
     (case zci => k_is)
     (case zbm => k_is)
     (case zbq => k_is)
     (case aC_TextFrame => k_is)
     (case pg_TextFrame => k_is)
     (case hd_TextFrame => k_is)
     (case po_TextFrame => k_is)
     (case sa_TextFrame => k_is)
     (case mk_TextFrame => k_is)
     (case kc_TextFrame => k_is)
     (case zbf => k_is)
     (case zb7 => k_is)
     (case za9 => k_is)
     (case a0 => k_is)
     (case l0 => k_is)
     (case c0 => k_is)
     (case k0 => k_is)
     (case a1 => k_is)
     (case l1 => k_is)
     (case c1 => k_is)
     (case k1 => k_is)
     (case a2 => k_is)
     (case l2 => k_is)
     (case c2 => k_is)
     (case k2 => k_is)
     (case a3 => k_is)
     (case l3 => k_is)
     (case c3 => k_is)
     (case k3 => k_is)
     (case a4 => k_is)
     (case l4 => k_is)
     (case c4 => k_is)
     (case k4 => k_is)
     (case a5 => k_is)
     (case l5 => k_is)
     (case c5 => k_is)
     (case k5 => k_is)
     (case a6 => k_is)
     (case l6 => k_is)
     (case c6 => k_is)
     (case k6 => k_is)
     (case a7 => k_is)
     (case l7 => k_is)
     (case c7 => k_is)
     (case k7 => k_is)
     (case a8 => k_is)
     (case i8 => k_is)
     (case l8 => k_is)
     (case c8 => k_is)
     (case k8 => k_is)
     (case a9 => k_is)
     (case l9 => k_is)
     (case c9 => k_is)
     (case k9 => k_is)
     (case ga10 => first | k_is | kernel_rfl)
     (case rd10 => first | k_is | kernel_rfl)
     (case a10 => k_is)
     (case i10 => k_is)
     (case l10 => k_is)
     (case c10 => k_is)
     (case k10 => k_is)
     (case fc10 => first | k_is | kernel_rfl)
     (case a11 => k_is)
     (case i11 => k_is)
     (case l11 => k_is)
     (case c11 => k_is)
     (case k11 => k_is)
     (case a12 => k_is)
     (case i12 => k_is)
     (case l12 => k_is)
     (case c12 => k_is)
     (case k12 => k_is)
     (case a13 => k_is)
     (case i13 => k_is)
     (case l13 => k_is)
     (case c13 => k_is)
     (case k13 => k_is)
     (case a14 => k_is)
     (case i14 => k_is)
     (case l14 => k_is)
     (case c14 => k_is)
     (case k14 => k_is)
     (case a15 => k_is)
     (case i15 => k_is)
     (case l15 => k_is)
     (case c15 => k_is)
     (case k15 => k_is)
     (case a16 => k_is)
     (case i16 => k_is)
     (case l16 => k_is)
     (case c16 => k_is)
     (case k16 => k_is)
     (case a17 => k_is)
     (case i17 => k_is)
     (case l17 => k_is)
     (case c17 => k_is)
     (case k17 => k_is)
     (case a18 => k_is)
     (case i18 => k_is)
     (case l18 => k_is)
     (case c18 => k_is)
     (case k18 => k_is)
     (case a19 => k_is)
     (case i19 => k_is)
     (case l19 => k_is)
     (case c19 => k_is)
     (case k19 => k_is)
     (case a20 => k_is)
     (case i20 => k_is)
     (case l20 => k_is)
     (case c20 => k_is)
     (case k20 => k_is)
     (case a21 => k_is)
     (case i21 => k_is)
     (case l21 => k_is)
     (case c21 => k_is)
     (case k21 => k_is)
     (case a22 => k_is)
     (case i22 => k_is)
     (case l22 => k_is)
     (case c22 => k_is)
     (case k22 => k_is)
     (case a23 => k_is)
     (case i23 => k_is)
     (case l23 => k_is)
     (case c23 => k_is)
     (case k23 => k_is)
     (case a24 => k_is)
     (case i24 => k_is)
     (case l24 => k_is)
     (case c24 => k_is)
     (case k24 => k_is)
     (case a25 => k_is)
     (case i25 => k_is)
     (case l25 => k_is)
     (case c25 => k_is)
     (case k25 => k_is)
     (case a26 => k_is)
     (case i26 => k_is)
     (case l26 => k_is)
     (case c26 => k_is)
     (case k26 => k_is)
     (case a27 => k_is)
     (case i27 => k_is)
     (case l27 => k_is)
     (case c27 => k_is)
     (case k27 => k_is)
     (case a28 => k_is)
     (case i28 => k_is)
     (case l28 => k_is)
     (case c28 => k_is)
     (case k28 => k_is)
     (case a29 => k_is)
     (case i29 => k_is)
     (case l29 => k_is)
     (case c29 => k_is)
     (case k29 => k_is)
     (case a30 => k_is)
     (case i30 => k_is)
     (case l30 => k_is)
     (case c30 => k_is)
     (case k30 => k_is)
     (case a31 => k_is)
     (case i31 => k_is)
     (case l31 => k_is)
     (case c31 => k_is)
     (case k31 => k_is)
     (case a32 => k_is)
     (case i32 => k_is)
     (case l32 => k_is)
     (case c32 => k_is)
     (case k32 => k_is)
     (case a33 => k_is)
     (case i33 => k_is)
     (case l33 => k_is)
     (case c33 => k_is)
     (case k33 => k_is)
     (case a34 => k_is)
     (case i34 => k_is)
     (case l34 => k_is)
     (case c34 => k_is)
     (case k34 => k_is)
     (case a35 => k_is)
     (case i35 => k_is)
     (case l35 => k_is)
     (case c35 => k_is)
     (case k35 => k_is)
     (case a36 => k_is)
     (case i36 => k_is)
     (case l36 => k_is)
     (case c36 => k_is)
     (case k36 => k_is)
     (case a37 => k_is)
     (case l37 => k_is)
     (case c37 => k_is)
     (case k37 => k_is)
     (case a38 => k_is)
     (case l38 => k_is)
     (case c38 => k_is)
     (case k38 => k_is)
     (case a39 => k_is)
     (case l39 => k_is)
     (case c39 => k_is)
     (case k39 => k_is)
     (case a40 => k_is)
     (case l40 => k_is)
     (case c40 => k_is)
     (case k40 => k_is)
     (case a41 => k_is)
     (case l41 => k_is)
     (case c41 => k_is)
     (case k41 => k_is)
     (case a42 => k_is)
     (case l42 => k_is)
     (case c42 => k_is)
     (case k42 => k_is)
     (case a43 => k_is)
     (case l43 => k_is)
     (case c43 => k_is)
     (case k43 => k_is)
     (case a44 => k_is)
     (case l44 => k_is)
     (case c44 => k_is)
     (case k44 => k_is)
     (case a45 => k_is)
     (case l45 => k_is)
     (case c45 => k_is)
     (case k45 => k_is)
     (case a46 => k_is)
     (case l46 => k_is)
     (case c46 => k_is)
     (case k46 => k_is)
     (case a47 => k_is)
     (case l47 => k_is)
     (case c47 => k_is)
     (case k47 => k_is)
     (case a48 => k_is)
     (case l48 => k_is)
     (case c48 => k_is)
     (case k48 => k_is)
     (case a49 => k_is)
     (case l49 => k_is)
     (case c49 => k_is)
     (case k49 => k_is)
     (case a50 => k_is)
     (case l50 => k_is)
     (case c50 => k_is)
     (case k50 => k_is)
     (case a51 => k_is)
     (case l51 => k_is)
     (case c51 => k_is)
     (case k51 => k_is)
     (case w0 => k_is)
     (case q0 => k_is)
     (case m0 => k_is)
     (case v0 => (repeat (first | exact .nil | refine .cons ⟨_, rfl⟩ ?_)))
     (case s0 => decide)
     (case qD0 => k_is)
     (case mD0 => kernel_rfl)
     (case z_len => k_is)
     (case z_list => k_is)
     (case z_tuple => k_is)
     (case z_isinstance => k_is)
     (case z_range => k_is)
     (case z_enumerate => k_is)
     (case z_dict => k_is)
     (case z_str => k_is)
     (case z_min => k_is)
     (case z_max => k_is)
     (case z_int => k_is)
     (case z_zip => k_is)
     (case z_bool => k_is)
   obtain ⟨t, T⟩ := T
   have e0 := hmg.symm.trans T.law.g
   cases e0
   exact ⟨t.zx0, T.bl, λ base kb nb => K23.ok_law T⟩
 case S => exact λ K H a ns hl hO hS => ⟨a, ns, rfl, hS, hl, λ _ => rfl⟩
 case C => exact λ _ _ _ _ z => z
