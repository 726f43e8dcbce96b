import PyProof.Rows.All
import Wide.All
import OpenK.AllK
import Wide.FinOn
import Lean
import PyProof.EqAt
import PyProof.EqKinds
import PyProof.TupleCall
import KE.KDictLaws
import KE.KDictOf
import KE.KEqDict
import KE.BitLaws
import PyProof.ZipIter
import PyProof.Rows.ZipGen
import PySem.Challenge.RW_stopglass_k42_begins_that_hold
set_option Elab.async false
set_option linter.all false
set_option maxRecDepth 100000

namespace L2
open PySem PySem.Spec PyProof.Rows


abbrev Key := Sum Int Str
def keyIs : Key → Value → Bool
  | .inl k, v => Value.isInt k v
  | .inr x, v => Value.isStrOf x v
def keyH (w : World) : Key → Int
  | .inl k => hashInt k
  | .inr x => hashStr w x
theorem keyIs_shape : ∀ {k : Key} {v : Value}, keyIs k v = true → (∃ i t, k = Sum.inl i ∧ v = Value.int i t) ∨ (∃ x t, k = Sum.inr x ∧ v = Value.str x t)
  | .inl i, v, h => by
    obtain ⟨t, e⟩ := Value.isInt_shape (k := i) (v := v) h
    exact .inl ⟨i, t, rfl, e⟩
  | .inr x, v, h => by
    obtain ⟨t, e⟩ := Value.isStrOf_shape (x := x) (v := v) h
    exact .inr ⟨x, t, rfl, e⟩
theorem keyIs_int (i : Int) (t : Tok) : keyIs (.inl i) (.int i t) = true := by simp [keyIs, Value.isInt]
theorem keyIs_str (x : Str) (t : Tok) : keyIs (.inr x) (.str x t) = true := by simp [keyIs, Value.isStrOf]
theorem key_ll (a b : Int) : decide ((Sum.inl a : Key) = Sum.inl b) = (a == b) := by
  by_cases e : a = b
  · subst e; simp
  · have h : ¬ (Sum.inl a : Key) = Sum.inl b := fun q => e (Sum.inl.inj q)
    rw [decide_eq_false h]
    exact (beq_eq_false_iff_ne.mpr e).symm
theorem key_rr (a b : Str) : decide ((Sum.inr a : Key) = Sum.inr b) = decide (a = b) := by
  by_cases e : a = b
  · subst e; simp
  · have h : ¬ (Sum.inr a : Key) = Sum.inr b := fun q => e (Sum.inr.inj q)
    rw [decide_eq_false h, decide_eq_false e]
theorem key_lr (a : Int) (b : Str) : decide ((Sum.inl a : Key) = Sum.inr b) = false := decide_eq_false (fun q => nomatch q)
theorem key_rl (a : Str) (b : Int) : decide ((Sum.inr a : Key) = Sum.inl b) = false := decide_eq_false (fun q => nomatch q)

def mixKind (prog : Program) (w : World) : PySem.KeyKind prog w Key where
  is := keyIs
  hash := keyH w
  inj := fun v a b ha hb => by
    rcases keyIs_shape ha with ⟨i, t, rfl, rfl⟩ | ⟨x, t, rfl, rfl⟩
    · rcases keyIs_shape hb with ⟨j, u, rfl, e⟩ | ⟨y, u, rfl, e⟩
      · injection e with e1 _; rw [e1]
      · exact nomatch e
    · rcases keyIs_shape hb with ⟨j, u, rfl, e⟩ | ⟨y, u, rfl, e⟩
      · exact nomatch e
      · injection e with e1 _; rw [e1]
  byValue := fun k v h => by
    rcases keyIs_shape h with ⟨i, t, rfl, rfl⟩ | ⟨x, t, rfl, rfl⟩ <;> rfl
  pyHash := fun hv h => by
    rcases keyIs_shape hv with ⟨i, t, rfl, rfl⟩ | ⟨x, t, rfl, rfl⟩
    · exact wpAny_pyHash_int h
    · exact wpAny_pyHash_str h
  eqBool := fun hu hv h => by
    rcases keyIs_shape hu with ⟨i, t, rfl, rfl⟩ | ⟨x, t, rfl, rfl⟩
    · rcases keyIs_shape hv with ⟨j, u, rfl, rfl⟩ | ⟨y, u, rfl, rfl⟩
      · rw [key_ll] at h; exact wpAny_eqBool_int h
      · rw [key_lr] at h; exact SeqAt.EqAt.int_str i t y u _ _ _ _ h
    · rcases keyIs_shape hv with ⟨j, u, rfl, rfl⟩ | ⟨y, u, rfl, rfl⟩
      · rw [key_rl] at h; exact SeqAt.EqAt.str_int x t j u _ _ _ _ h
      · rw [key_rr] at h; exact wpAny_eqBool_str h
  «strs» := fun k x t v h => by
    rcases keyIs_shape h with ⟨i, u, rfl, e⟩ | ⟨y, u, rfl, e⟩
    · exact nomatch e
    · injection e with e1 _
      subst e1
      cases v <;> rfl

theorem mixKind_int (prog : Program) (w : World) (i : Int) (t : Tok) : (mixKind prog w).is (.inl i) (.int i t) = true := keyIs_int i t
theorem mixKind_str (prog : Program) (w : World) (x : Str) (t : Tok) : (mixKind prog w).is (.inr x) (.str x t) = true := keyIs_str x t
end L2

namespace L2
open PySem PySem.Spec PyProof.Rows


inductive V where
  | non | bl (b : Bool) | int (i : Int) | str (x : Str) | byt (b : Array UInt8) | flt (b : UInt64) | ref (a : Addr) | ty (n : String)
  deriving DecidableEq

def RelV : V → Value → Prop
  | .non, u => u = Value.none
  | .bl b, u => u = Value.bool b
  | .int i, u => ∃ t, u = Value.int i t
  | .str x, u => ∃ t, u = Value.str x t
  | .byt b, u => ∃ t, u = Value.bytes b t
  | .flt b, u => ∃ t, u = Value.float b t
  | .ref a, u => u = Value.ref a
  | .ty n, u => u = Value.type n

abbrev Vals : List V → List Value → Prop := Paired RelV
theorem Vals.length {xs : List V} {us : List Value} (r : Vals xs us) : xs.length = us.length := Paired.length r
theorem Vals.get : ∀ {xs : List V} {us : List Value} {i : Nat} {x : V}, Vals xs us → xs[i]? = some x → ∃ u, us[i]? = some u ∧ RelV x u
  | _, _, _, _, .nil, e => by simp at e
  | _, _, 0, _, .cons r _, e => by simp at e; subst e; exact ⟨_, rfl, r⟩
  | _, _, i + 1, x, .cons _ t, e => by
    obtain ⟨u, h1, h2⟩ := Vals.get (i := i) (x := x) t (by simpa using e)
    exact ⟨u, by simpa using h1, h2⟩
theorem Vals.set {x : V} {u : Value} (r : RelV x u) : ∀ {xs : List V} {us : List Value} (i : Nat), Vals xs us → Vals (xs.set i x) (us.set i u)
  | _, _, _, .nil => .nil
  | _, _, 0, .cons _ t => .cons r t
  | _, _, i + 1, .cons q t => .cons q (Vals.set r i t)
theorem Vals.append : ∀ {xs ys : List V} {us ws : List Value}, Vals xs us → Vals ys ws → Vals (xs ++ ys) (us ++ ws)
  | _, _, _, _, .nil, s => s
  | _, _, _, _, .cons r t, s => .cons r (Vals.append t s)
theorem Vals.take : ∀ {xs : List V} {us : List Value} (n : Nat), Vals xs us → Vals (xs.take n) (us.take n)
  | _, _, 0, _ => .nil
  | _, _, _ + 1, .nil => .nil
  | _, _, n + 1, .cons r t => .cons r (Vals.take n t)
theorem Vals.drop : ∀ {xs : List V} {us : List Value} (n : Nat), Vals xs us → Vals (xs.drop n) (us.drop n)
  | _, _, 0, r => r
  | _, _, _ + 1, .nil => .nil
  | _, _, n + 1, .cons _ t => Vals.drop n t
def RelO : Option V → Option Value → Prop
  | some v, some u => RelV v u
  | none, none => True
  | _, _ => False
def KV {κ : Type} : List (κ × V) → List (κ × Value) → Prop := Paired fun (p : κ × V) (q : κ × Value) => p.1 = q.1 ∧ RelV p.2 q.2


def kV : Key → V
  | .inl i => .int i
  | .inr x => .str x


inductive HO where
  
  | lst (xs : List V)
  
  | tup (xs : List V)
  
  | dK (kvs : List (Key × V)) | dT (kvs : List (List Key × V))
  
  | set (S : Int → Bool) (n : Nat)
  
  | ins (C dx : Addr) (fs : List (Str × V))
  
  | own (x : Addr)
  
  | xd (fs : List (Str × V))
  
  | met (f x : Addr)
  
  | rng (lo hi : Int)
  
  | frz (o : Obj) (u : HO)
  
  | tbl (ps : Array Value)
  
  | ext (φ : Heap → Prop)

abbrev Hp := Addr → Option HO
def upd (H : Hp) (a : Addr) (o : HO) : Hp := fun b => if b = a then some o else H b
theorem upd_same {H : Hp} {a : Addr} {o : HO} : upd H a o a = some o := by unfold upd; rw [if_pos rfl]
theorem upd_ne {H : Hp} {a b : Addr} {o : HO} (h : b ≠ a) : upd H a o b = H b := by unfold upd; rw [if_neg h]
theorem upd_upd {H : Hp} {a : Addr} {o u : HO} : upd (upd H a o) a u = upd H a u := by
  funext b; unfold upd; split <;> rfl

theorem ne_of {H : Hp} {a b : Addr} {o u : HO} (h : H a = some o) (h' : H b = some u) (d : o ≠ u) : a ≠ b := by
  intro e; subst e; rw [h] at h'; exact d (Option.some.inj h')
theorem ne_of_none {H : Hp} {a b : Addr} {o : HO} (h : H a = some o) (h' : H b = none) : a ≠ b := by
  intro e; subst e; rw [h] at h'; cases h'

section
variable (P : Program) (w : World)
def ObjOk (H : Hp) (h : Heap) (a : Addr) : HO → Prop
  | .lst xs => xs.length ≤ sizeLine ∧ ∃ (its : List Value) (n : Nat), Vals xs its ∧ h.get? a = some { cls := .type "list", data := .seq its.toArray n }
  | .tup xs => xs.length ≤ sizeLine ∧ ∃ its : List Value, Vals xs its ∧ IsTup h a its.toArray
  | .dK kvs => kvs.length ≤ sizeLine ∧ (a == sysModules) = false ∧ ∃ vs, KV kvs vs ∧ h.DictOf (mixKind P w) a vs
  | .dT kvs => kvs.length ≤ sizeLine ∧ (a == sysModules) = false ∧ ∃ xs : List (List Key × Addr × Value),
      Paired (fun (p : List Key × V) (q : List Key × Addr × Value) => p.1 = q.1 ∧ H q.2.1 = some (.tup (p.1.map kV)) ∧ RelV p.2 q.2.2) kvs xs ∧
      ∃ o es ep, h.get? a = some o ∧ o.ExactDict ∧ o.data = .dict es ep ∧ es.toList = xs.map (entryOfKey (tupleKind (mixKind P w))) ∧ (xs.map (·.1)).Nodup
  | .set S n => h.SetOf (intKind P w) a S n
  | .ins C dx fs => H dx = some (.own a) ∧ fs.length ≤ 1000 ∧ dx ≠ a ∧ h.get? a = some (PySem.W.instObj C dx) ∧
      ∃ mA, h.Ns1 dx mA ∧ (∀ f, RelO (fs.lookup f) (mA f)) ∧ PySem.Within mA (fs.map (·.1))
  | .own _ => ∃ o, h.get? a = some o
  | .xd fs => ∃ mA, h.Ns1 a mA ∧ ∀ f, RelO (fs.lookup f) (mA f)
  | .rng lo hi => ∃ t u v, h.get? a = some { cls := .type "range", data := .fields #[.int lo t, .int hi u, .int 1 v] }
  | .frz o u => h.get? a = some o ∧ ObjOk H h a u
  | .tbl ps => h.get? a = some { cls := .none, data := .fields ps }
  | .met f x => h.get? a = some (PySem.W.methodObj (.ref f) (.ref x))
  | .ext φ => φ h ∧ (∃ o, h.get? a = some o) ∧ ∀ h1 h2 : Heap, φ h1 → (∀ o, h1.get? a = some o → h2.get? a = some o) → φ h2

def HOk (H : Hp) (h : Heap) : Prop := ∀ a o, H a = some o → ObjOk P w H h a o
end

section
variable {P : Program} {w : World} {H H' : Hp} {h h' : Heap} {a : Addr} {o : HO}
theorem ObjOk.lt (x : ObjOk P w H h a o) : a < h.objs.size := by
  cases o with
  | lst xs => obtain ⟨_, _, _, _, e⟩ := x; exact Heap.lt_size e
  | tup xs => obtain ⟨_, _, _, p⟩ := x; exact p.lt
  | dK kvs => obtain ⟨_, _, _, _, o, _, _, e, _⟩ := x; exact Heap.lt_size e
  | dT kvs => obtain ⟨_, _, _, _, o, _, _, e, _⟩ := x; exact Heap.lt_size e
  | set S n => obtain ⟨o, _, _, _, e, _⟩ := x; exact Heap.lt_size e
  | ins C dx fs => obtain ⟨_, _, _, e, _⟩ := x; exact Heap.lt_size e
  | own y => obtain ⟨_, e⟩ := x; exact Heap.lt_size e
  | xd fs => obtain ⟨_, ⟨_, _, _, e, _⟩, _⟩ := x; exact Heap.lt_size e
  | rng lo hi => obtain ⟨_, _, _, e⟩ := x; exact Heap.lt_size e
  | frz ob u => obtain ⟨e, _⟩ := x; exact Heap.lt_size e
  | tbl ps => exact Heap.lt_size (show h.get? a = some _ from x)
  | met f y => exact Heap.lt_size (show h.get? a = some _ from x)
  | ext φ => obtain ⟨_, ⟨_, e⟩, _⟩ := x; exact Heap.lt_size e
theorem Paired.mapP {α β : Type} {F G : α → β → Prop} : ∀ {l₁ : List α} {l₂ : List β}, Paired F l₁ l₂ → (∀ a b, F a b → G a b) → Paired G l₁ l₂
  | _, _, .nil, _ => .nil
  | _, _, .cons r t, f => .cons (f _ _ r) (Paired.mapP t f)
theorem ObjOk.stay (x : ObjOk P w H h a o) (k : ∀ b u, (b = a ∨ H b = some (.own a)) → h.get? b = some u → h'.get? b = some u)
    (ho : ∀ b, H b = some (.own a) → H' b = some (.own a)) (ht : ∀ b xs, H b = some (.tup xs) → H' b = some (.tup xs)) : ObjOk P w H' h' a o := by
  induction o with
  | lst xs => obtain ⟨z, its, n, r, e⟩ := x; exact ⟨z, its, n, r, k _ _ (.inl rfl) e⟩
  | tup xs => obtain ⟨z, its, r, ob, e, c⟩ := x; exact ⟨z, its, r, ob, k _ _ (.inl rfl) e, c⟩
  | dK kvs => obtain ⟨z, y, vs, r, ob, es, ep, e, c⟩ := x; exact ⟨z, y, vs, r, ob, es, ep, k _ _ (.inl rfl) e, c⟩
  | dT kvs =>
    obtain ⟨z, y, xs, r, ob, es, ep, e, c⟩ := x
    exact ⟨z, y, xs, Paired.mapP r fun p q z => ⟨z.1, ht _ _ z.2.1, z.2.2⟩, ob, es, ep, k _ _ (.inl rfl) e, c⟩
  | set S n => obtain ⟨ob, es, ep, t, e, c⟩ := x; exact ⟨ob, es, ep, t, k _ _ (.inl rfl) e, c⟩
  | ins C dx fs =>
    obtain ⟨d, z, ne, e, mA, ⟨od, es, ep, e2, c⟩, r⟩ := x
    exact ⟨ho _ d, z, ne, k _ _ (.inl rfl) e, mA, ⟨od, es, ep, k _ _ (.inr d) e2, c⟩, r⟩
  | own y => obtain ⟨ob, e⟩ := x; exact ⟨ob, k _ _ (.inl rfl) e⟩
  | xd fs => obtain ⟨mA, ⟨od, es, ep, e, c⟩, r⟩ := x; exact ⟨mA, ⟨od, es, ep, k _ _ (.inl rfl) e, c⟩, r⟩
  | rng lo hi => obtain ⟨t, u, v, e⟩ := x; exact ⟨t, u, v, k _ _ (.inl rfl) e⟩
  | frz ob u ih => obtain ⟨e, q⟩ := x; exact ⟨k _ _ (.inl rfl) e, ih q⟩
  | tbl ps =>
    have e : h.get? a = some { cls := .none, data := .fields ps } := x
    show h'.get? a = some { cls := .none, data := .fields ps }
    exact k a _ (.inl rfl) e
  | met f y =>
    have e : h.get? a = some (PySem.W.methodObj (.ref f) (.ref y)) := x
    show h'.get? a = some (PySem.W.methodObj (.ref f) (.ref y))
    exact k a _ (.inl rfl) e
  | ext φ => obtain ⟨p, ⟨o, e⟩, st⟩ := x; exact ⟨st _ _ p fun o q => k _ _ (.inl rfl) q, ⟨o, k _ _ (.inl rfl) e⟩, st⟩
theorem HOk.lt (x : HOk P w H h) (e : H a = some o) : a < h.objs.size := (x a o e).lt
theorem HOk.fresh (x : HOk P w H h) (e : h.objs.size ≤ a) : H a = none := by
  cases q : H a with
  | none => rfl
  | some u => exact absurd (Nat.lt_of_lt_of_le (x.lt q) e) (Nat.lt_irrefl _)

theorem HOk.kept (x : HOk P w H h) (k : ∀ b u, h.get? b = some u → h'.get? b = some u) : HOk P w H h' := fun a o e =>
  (x a o e).stay (fun b u _ q => k b u q) (fun _ q => q) fun _ _ q => q

theorem HOk.laid (x : HOk P w H h) (k : ∀ b u, h.get? b = some u → h'.get? b = some u) (hp : h.objs.size ≤ a) (new : ObjOk P w (upd H a o) h' a o) : HOk P w (upd H a o) h' := fun b u e => by
  have hn := x.fresh hp
  by_cases hb : b = a
  · subst hb; rw [upd_same] at e; cases e; exact new
  · rw [upd_ne hb] at e
    exact (x b u e).stay (fun c v _ q => k c v q) (fun c q => by rw [upd_ne (ne_of_none q hn)]; exact q) fun c xs q => by rw [upd_ne (ne_of_none q hn)]; exact q
end


def Rd (H : Hp) (a : Addr) (u : HO) : Prop := H a = some u ∨ ∃ o, H a = some (.frz o u)
theorem Rd.of {H : Hp} {a : Addr} {u : HO} (h : H a = some u) : Rd H a u := .inl h
theorem Rd.ok {P : Program} {w : World} {H : Hp} {h : Heap} {a : Addr} {u : HO} (r : Rd H a u) (x : HOk P w H h) : ObjOk P w H h a u := by
  rcases r with r | ⟨o, r⟩
  · exact x a u r
  · obtain ⟨_, q⟩ := x a _ r
    exact q

def Mut : Option HO → Prop
  | some (.lst _) => True
  | some (.dK _) => True
  | some (.dT _) => True
  | some (.set _ _) => True
  | some (.ins _ _ _) => True
  | some (.ext _) => True
  | _ => False
section
variable {P : Program} {w : World} {H : Hp} {h h' : Heap} {x e : Addr} {o' : HO}

theorem HOk.write (ok : HOk P w H h) (mu : Mut (H x)) (he : e = x ∨ H e = some (.own x)) (k : ∀ b u, b ≠ e → h.get? b = some u → h'.get? b = some u) (heo : ∃ u, h'.get? e = some u)
    (new : ObjOk P w (upd H x o') h' x o') : HOk P w (upd H x o') h' := fun b u q => by
  have nown : ∀ c y, H c = some (.own y) → c ≠ x := fun c y r z => by subst z; rw [r] at mu; exact mu
  have ntup : ∀ c xs, H c = some (.tup xs) → c ≠ x := fun c xs r z => by subst z; rw [r] at mu; exact mu
  by_cases hb : b = x
  · subst hb; rw [upd_same] at q; cases q; exact new
  · rw [upd_ne hb] at q
    by_cases hbe : b = e
    · have q' : H b = some (.own x) := by
        rcases he with z | z
        · exact absurd (hbe.trans z) hb
        · rw [hbe]; exact z
      rw [q] at q'; cases q'
      obtain ⟨v, hv⟩ := heo
      exact ⟨v, by rw [hbe]; exact hv⟩
    · refine (ok b u q).stay (fun c v hc r => k c v ?_ r) (fun c r => by rw [upd_ne (nown c b r)]; exact r) fun c xs r => by rw [upd_ne (ntup c xs r)]; exact r
      rcases hc with rfl | hc
      · exact hbe
      · rintro rfl
        rcases he with z | z
        · exact nown c b hc z
        · rw [hc] at z; cases z; exact hb rfl
end


structure Un (fs ex : List Addr) (H H' : Hp) (h h' : Heap) : Prop where
  keep : ∀ b o, h.get? b = some o → H b = none → b ∉ fs → b ∉ ex → h'.get? b = some o
  slot : ∀ b o, h.get? b = some o → H b = none → b ∈ fs → b ∉ ex → ∃ sl, h'.get? b = some { o with slots := sl }
  free : ∀ b o, h.get? b = some o → H b = none → b ∉ ex → H' b = none
  there : ∀ b o, h.get? b = some o → b ∉ ex → ∃ o', h'.get? b = some o'
  tups : ∀ b xs, H b = some (.tup xs) → H' b = some (.tup xs)
  frzs : ∀ b o u, H b = some (.frz o u) → H' b = some (.frz o u)
  tbls : ∀ b ps, H b = some (.tbl ps) → ∃ more, H' b = some (.tbl (ps ++ more))
section
variable {fs fs' ex ex' : List Addr} {H H1 H2 : Hp} {h h1 h2 h' : Heap} {a x e : Addr} {o : HO}
theorem Un.any (u : Un fs ex H H1 h h1) {b : Addr} {ob : Obj} (q : h.get? b = some ob) (n : H b = none) (hx : b ∉ ex) : ∃ sl, h1.get? b = some { ob with slots := sl } := by
  by_cases hb : b ∈ fs
  · exact u.slot b ob q n hb hx
  · exact ⟨ob.slots, u.keep b ob q n hb hx⟩
theorem Un.trans (a : Un fs ex H H1 h h1) (b : Un fs ex H1 H2 h1 h2) : Un fs ex H H2 h h2 where
  keep := fun c ob q n hc hx => b.keep c ob (a.keep c ob q n hc hx) (a.free c ob q n hx) hc hx
  slot := fun c ob q n hc hx => by
    obtain ⟨sl, e1⟩ := a.slot c ob q n hc hx
    obtain ⟨sl', e2⟩ := b.slot c _ e1 (a.free c ob q n hx) hc hx
    exact ⟨sl', e2⟩
  free := fun c ob q n hx => by
    obtain ⟨o', e1⟩ := a.there c ob q hx
    exact b.free c o' e1 (a.free c ob q n hx) hx
  there := fun c ob q hx => by
    obtain ⟨o', e1⟩ := a.there c ob q hx
    exact b.there c o' e1 hx
  tups := fun c xs q => b.tups c xs (a.tups c xs q)
  frzs := fun c ob xs q => b.frzs c ob xs (a.frzs c ob xs q)
  tbls := fun c ps q => by
    obtain ⟨m1, e1⟩ := a.tbls c ps q
    obtain ⟨m2, e2⟩ := b.tbls c _ e1
    exact ⟨m1 ++ m2, by rw [e2, Array.append_assoc]⟩
theorem Un.kept (k : ∀ b u, h.get? b = some u → h'.get? b = some u) : Un fs ex H H h h' :=
  ⟨fun b ob q _ _ _ => k b ob q, fun b ob q _ _ _ => ⟨ob.slots, k b ob q⟩, fun _ _ _ n _ => n, fun b ob q _ => ⟨ob, k b ob q⟩, fun _ _ q => q, fun _ _ _ q => q, fun _ ps q => ⟨#[], by rw [q]; simp⟩⟩
theorem Un.refl : Un fs ex H H h h := Un.kept fun _ _ q => q
theorem Un.laid (k : ∀ b u, h.get? b = some u → h'.get? b = some u) (hp : h.objs.size ≤ a) (hn : H a = none) : Un fs ex H (upd H a o) h h' where
  keep := fun b u q _ _ _ => k b u q
  slot := fun b u q _ _ _ => ⟨u.slots, k b u q⟩
  free := fun b u q n _ => by rw [upd_ne (Nat.ne_of_lt (Nat.lt_of_lt_of_le (Heap.lt_size q) hp))]; exact n
  there := fun b u q _ => ⟨u, k b u q⟩
  tups := fun b xs q => by rw [upd_ne (ne_of_none q hn)]; exact q
  frzs := fun b u xs q => by rw [upd_ne (ne_of_none q hn)]; exact q
  tbls := fun b ps q => ⟨#[], by rw [upd_ne (ne_of_none q hn), q]; simp⟩
theorem Un.write (mu : Mut (H x)) (he : e = x ∨ H e = some (.own x)) (k : ∀ b u, b ≠ e → h.get? b = some u → h'.get? b = some u) (heo : ∃ u, h'.get? e = some u) : Un fs ex H (upd H x o) h h' := by
  have hx : ∀ b, H b = none → b ≠ x := fun b n z => by subst z; rw [n] at mu; exact mu
  have hb : ∀ b, H b = none → b ≠ e := fun b n z => by
    subst z
    rcases he with r | r
    · exact hx b n r
    · rw [n] at r; cases r
  have hm : ∀ b u, H b = some u → ¬ Mut (some u) → b ≠ x := fun b u q nm z => by subst z; rw [q] at mu; exact nm mu
  refine ⟨fun b u q n _ _ => k b u (hb b n) q, fun b u q n _ _ => ⟨u.slots, k b u (hb b n) q⟩, fun b u q n _ => by rw [upd_ne (hx b n)]; exact n, fun b u q _ => ?_,
    fun b xs q => by rw [upd_ne (hm b _ q fun z => z)]; exact q, fun b u xs q => by rw [upd_ne (hm b _ q fun z => z)]; exact q, fun b ps q => ⟨#[], by rw [upd_ne (hm b _ q fun z => z), q]; simp⟩⟩
  by_cases hbe : b = e
  · subst hbe; exact heo
  · exact ⟨u, k b u hbe q⟩
theorem Un.mono (u : Un fs ex H H1 h h1) (hs : ∀ b ∈ fs, b ∈ fs') (hx : ∀ b ∈ ex, b ∈ ex') : Un fs' ex' H H1 h h1 :=
  ⟨fun b ob q n hb he => u.keep b ob q n (fun z => hb (hs b z)) fun z => he (hx b z), fun _ _ q n _ he => u.any q n fun z => he (hx _ z), fun b ob q n he => u.free b ob q n fun z => he (hx b z), fun b ob q he => u.there b ob q fun z => he (hx b z), u.tups, u.frzs, u.tbls⟩
end


def trk (h : Heap) (H : Hp) : List Addr := (List.range h.objs.size).filter fun a => (H a).isSome
def hidT (h : Heap) (H : Hp) : Heap := PySem.W.hideAll h (trk h H)
theorem hidT_size (h : Heap) (H : Hp) : (hidT h H).objs.size = h.objs.size := PySem.W.hideAll_size _ _
theorem hidT_get {h : Heap} {H : Hp} {b : Addr} {o : Obj} (e : h.get? b = some o) (n : H b = none) : (hidT h H).get? b = some o :=
  PySem.W.hideAll_get _ e fun hm => by
    have q : (H b).isSome = true := (List.mem_filter.mp hm).2
    rw [n] at q; simp at q
theorem of_hidT {h : Heap} {H : Hp} {b : Addr} {o : Obj} (e : (hidT h H).get? b = some o) : h.get? b = some o ∧ H b = none := by
  have e' : h.get? b = some o := PySem.W.of_hideAll (trk h H) e
  refine ⟨e', ?_⟩
  cases q : H b with
  | none => rfl
  | some x =>
    have hm : b ∈ trk h H := List.mem_filter.mpr ⟨List.mem_range.mpr (Heap.lt_size e'), by simp [q]⟩
    have z : (hidT h H).get? b = none := PySem.W.hideAll_none (trk h H) hm
    rw [z] at e; cases e


def allNews (g h : Heap) (L : Addr) : List (Addr × Obj) := (List.range h.objs.size).filterMap fun a => if a = L ∨ (g.get? a).isSome = true then none else (h.get? a).map fun o => (a, o)
def rest (g h : Heap) (L d : Addr) : List (Addr × Obj) := (allNews g h L).filter fun p => decide (p.1 ≠ d)
end L2

namespace L2
open PySem PySem.Spec PyProof.Rows


structure Mod (K : PySem.W.Frag) (mg : Str → Option Value) (base : Heap) : Prop where
  kin : K.In base
  glob : base.Ns mainGlobals mg
  blt : ∃ mb, base.Ns builtinsNs mb ∧ ∀ x : Str, x ≠ "__name__" → mb x = bootBuiltins x
  nolimit : base.NoLimit


structure Cx where
  prog : Program
  w : World
  K : PySem.W.Frag
  mg : Str → Option Value
  base : Heap
  A : Around
  N : List Str
  s₀ : Shared
  H₀ : Hp
  env : Env
  outer : List Env
  stack : List Env
  ex : List Addr
  fn : Str → Bool
  calm : Bool
  pn : List (Addr × Obj)
  xe : Value → Shared → Prop

def frs (l : List Env) : List Addr := l.filterMap (·.frame)
abbrev Cx.fs (X : Cx) : List Addr := frs X.outer

def Vis (sc : Scope) (x : Str) : Prop := sc.names.lookup x = some .local ∨ sc.names.lookup x = some .cell ∨ sc.names.lookup x = some .free
def Loc (sc : Scope) (x : Str) : Prop := sc.names.lookup x = some .local ∨ sc.names.lookup x = some .cell
def Look (env : Env) (h : Heap) (m : Str → Option Value) (x : Str) (u : Value) : Prop :=
  (env.kindOf x = some .local ∧ m x = some u) ∨ ((env.kindOf x = some .cell ∨ env.kindOf x = some .free) ∧ ∃ c, env.cells.lookup x = some c ∧ h.IsCell c (some u))

structure Cx.Ok (X : Cx) : Prop where
  mod : Mod X.K X.mg X.base
  kind : X.env.scope.kind = .function
  glob : X.env.globals = mainGlobals
  blt : X.env.builtins = builtinsNs
  above : X.s₀.heap.objs.size ≤ X.env.locals
  inj : ∀ x y c, X.env.cells.lookup x = some c → X.env.cells.lookup y = some c → x = y
  has : ∀ x, (X.env.kindOf x = some .cell ∨ X.env.kindOf x = some .free) → ∃ c, X.env.cells.lookup x = some c
  cab : ∀ x c, X.fn x = true → X.env.cells.lookup x = some c → X.s₀.heap.objs.size ≤ c
  hd : X.calm = true → X.A.handled = none
  frames : X.A.frames = some X.stack
  stk : X.stack = X.outer ∨ (X.stack = X.env :: X.outer ∧ X.env.frame = some X.env.locals)
  exf : ∀ b ∈ X.ex, b ≠ X.env.locals ∧ ∀ x c, X.env.cells.lookup x = some c → c ≠ b
  bs : ∀ b o, X.base.get? b = some o → X.s₀.heap.get? b = some o ∧ X.H₀ b = none
  bsz : X.base.objs.size ≤ X.s₀.heap.objs.size
  noex : ∀ b o, X.base.get? b = some o → b ∉ X.ex
  exfs : ∀ b ∈ X.ex, b ∉ X.fs
  funs : X.s₀.heap.FunFrames X.base X.outer
  frf : ∀ b ∈ X.fs, X.H₀ b = none

structure Inv (X : Cx) (pins : List (Addr × Obj)) (σ : List (Option V)) (H : Hp) (s : Shared) : Prop where
  ok : X.Ok
  os : s.os = X.s₀.os
  bare : AllBare s.gens
  base : Un X.fs X.ex X.H₀ H X.s₀.heap s.heap
  loc : ∃ m, s.heap.Ns X.env.locals m ∧ ∀ (i : Nat) (x : Str) (v : V), X.N[i]? = some x → σ[i]? = some (some v) → Vis X.env.scope x → ∃ u, RelV v u ∧ Look X.env s.heap m x u
  cell : ∀ x c, X.env.cells.lookup x = some c → ∃ v, s.heap.IsCell c v
  free : H X.env.locals = none
  freeC : ∀ x c, X.env.cells.lookup x = some c → H c = none
  pin : ∀ p ∈ X.pn ++ pins, s.heap.get? p.1 = some p.2 ∧ H p.1 = none ∧ p.1 ≠ X.env.locals ∧ p.1 ∉ X.fs ∧ ∀ v, p.2.data ≠ .cell v
  hok : HOk X.prog X.w H s.heap
  len : σ.length = X.N.length

section
variable {X : Cx} {pins : List (Addr × Obj)} {σ : List (Option V)} {H H' : Hp} {s : Shared} {h' : Heap}

theorem Cx.Ok.nofr (ok : X.Ok) {b : Addr} {o : Obj} (e : X.base.get? b = some o) : b ∉ X.fs := fun hb => by
  have := (ok.funs.mem hb).1
  rw [e] at this; cases this
theorem Inv.bs (I : Inv X pins σ H s) : ∀ b o, X.base.get? b = some o → s.heap.get? b = some o ∧ H b = none := fun b o e =>
  ⟨I.base.keep b o (I.ok.bs b o e).1 (I.ok.bs b o e).2 (I.ok.nofr e) (I.ok.noex b o e), I.base.free b o (I.ok.bs b o e).1 (I.ok.bs b o e).2 (I.ok.noex b o e)⟩
theorem Inv.bk (I : Inv X pins σ H s) : ∀ b o, X.base.get? b = some o → s.heap.get? b = some o := fun b o e => (I.bs b o e).1
theorem Inv.mod (I : Inv X pins σ H s) : Mod X.K X.mg X.base := I.ok.mod
theorem Inv.kIn (I : Inv X pins σ H s) : X.K.In s.heap := I.ok.mod.kin.keeps I.bk
theorem Inv.nolimit (I : Inv X pins σ H s) : s.heap.NoLimit := I.ok.mod.nolimit.keeps I.bk

theorem Inv.fr (I : Inv X pins σ H s) : ∃ m, Fr X.base X.env.locals s.heap m :=
  let ⟨m, hn, _⟩ := I.loc
  ⟨m, hn, I.bk, Nat.le_trans I.ok.bsz I.ok.above⟩
theorem Inv.lt (I : Inv X pins σ H s) : X.env.locals < s.heap.objs.size := let ⟨_, hn, _⟩ := I.loc; hn.lt
theorem Inv.sz (I : Inv X pins σ H s) : X.s₀.heap.objs.size ≤ s.heap.objs.size := Nat.le_trans I.ok.above (Nat.le_of_lt I.lt)
theorem Inv.nofs (I : Inv X pins σ H s) {a : Addr} (h : s.heap.objs.size ≤ a) : a ∉ X.fs := fun hb => by
  obtain ⟨_, o, ho, _⟩ := I.ok.funs.mem hb
  exact absurd (Nat.lt_of_lt_of_le (Heap.lt_size ho) (Nat.le_trans I.sz h)) (Nat.lt_irrefl _)
theorem Inv.cne (I : Inv X pins σ H s) : ∀ x c, X.env.cells.lookup x = some c → c ≠ X.env.locals := fun x c e z => by
  obtain ⟨v, o, ho, hd⟩ := I.cell x c e
  obtain ⟨m, ⟨o', es, ep, ho', hd', _⟩, _⟩ := I.loc
  rw [z, ho'] at ho; cases ho; rw [hd'] at hd; cases hd
theorem Inv.funs (I : Inv X pins σ H s) : s.heap.FunFrames X.base X.outer := by
  have all : ∀ (l : List Env), (∀ b ∈ frs l, b ∈ X.fs) → X.s₀.heap.FunFrames X.base l → s.heap.FunFrames X.base l := by
    intro l
    induction l with
    | nil => intro _ _; trivial
    | cons env r ih =>
      intro hs hl
      obtain ⟨hk, ⟨L, o, hf, hn, ho, hd⟩, hr⟩ := hl
      have hL : L ∈ X.fs := hs L (by unfold frs; rw [List.filterMap_cons, hf]; exact List.mem_cons_self)
      obtain ⟨sl, e⟩ := I.base.slot L o ho (I.ok.frf L hL) hL fun z => I.ok.exfs L z hL
      exact ⟨hk, ⟨L, _, hf, hn, e, hd⟩, ih (fun b hb => hs b (by unfold frs; rw [List.filterMap_cons, hf]; exact List.mem_cons_of_mem _ hb)) hr⟩
  exact all X.outer (fun _ hb => hb) I.ok.funs


theorem Inv.stack (I : Inv X pins σ H s) : s.heap.FunFrames X.base X.stack := by
  rcases I.ok.stk with e | ⟨e, hf⟩
  · rw [e]; exact I.funs
  · rw [e]
    obtain ⟨m, hn, _⟩ := I.loc
    refine .cons (by rw [I.ok.kind]; decide) hf hn ?_ I.funs
    exact Heap.get?_none_of_le (Nat.le_trans I.ok.bsz I.ok.above)
theorem Inv.stkSub (I : Inv X pins σ H s) : ∀ b ∈ frs X.stack, b ∈ X.env.locals :: X.fs := fun b hb => by
  rcases I.ok.stk with e | ⟨e, hf⟩
  · rw [e] at hb; exact List.mem_cons_of_mem _ hb
  · rw [e] at hb
    unfold frs at hb
    rw [List.filterMap_cons, hf] at hb
    exact hb
theorem Inv.stkFree (I : Inv X pins σ H s) : ∀ b ∈ frs X.stack, H b = none := fun b hb => by
  rcases List.mem_cons.mp (I.stkSub b hb) with e | hb
  · rw [e]; exact I.free
  · obtain ⟨_, o, ho, _⟩ := I.ok.funs.mem hb
    exact I.base.free b o ho (I.ok.frf b hb) fun z => I.ok.exfs b z hb


theorem Inv.step {g' : Array GenState} {t' : Nat} {d' : Drawn} {ch : List Addr} (I : Inv X pins σ H s)
    (hch : ∀ b ∈ ch, (b ∈ X.ex ∨ X.s₀.heap.objs.size ≤ b) ∧ b ≠ X.env.locals ∧ (∀ x c, X.env.cells.lookup x = some c → c ≠ b) ∧ ∀ p ∈ X.pn ++ pins, p.1 ≠ b)
    (keep : ∀ b o, b ≠ X.env.locals → b ∉ X.fs → b ∉ ch → s.heap.get? b = some o → H b = none → h'.get? b = some o)
    (slot : ∀ b o, b ≠ X.env.locals → b ∈ X.fs → b ∉ ch → s.heap.get? b = some o → H b = none → ∃ sl, h'.get? b = some { o with slots := sl }) (free : ∀ b o, b ∉ ch → s.heap.get? b = some o → H b = none → H' b = none)
    (there : ∀ b o, b ∉ ch → s.heap.get? b = some o → ∃ o', h'.get? b = some o')
    (tups : ∀ b xs, H b = some (.tup xs) → H' b = some (.tup xs)) (frzs : ∀ b o u, H b = some (.frz o u) → H' b = some (.frz o u)) (tbls : ∀ b ps, H b = some (.tbl ps) → ∃ more, H' b = some (.tbl (ps ++ more)))
    (ns : ∀ m, s.heap.Ns X.env.locals m → h'.Ns X.env.locals m) (hok : HOk X.prog X.w H' h') (hg : AllBare g') :
    Inv X pins σ H' { s with heap := h', gens := g', drawn := d', toks := t' } := by
  have neL : ∀ b o, X.s₀.heap.get? b = some o → b ≠ X.env.locals := fun b o e => Nat.ne_of_lt (Nat.lt_of_lt_of_le (Heap.lt_size e) I.ok.above)
  have neC : ∀ b o, X.s₀.heap.get? b = some o → b ∉ X.ex → b ∉ ch := fun b o e hx hb => by
    rcases (hch b hb).1 with z | z
    · exact hx z
    · exact absurd (Nat.lt_of_lt_of_le (Heap.lt_size e) z) (Nat.lt_irrefl _)
  have cellK : ∀ x c, X.env.cells.lookup x = some c → ∀ v, s.heap.IsCell c v → h'.IsCell c v := fun x c e v ⟨o, ho, hd⟩ => by
    have nch : c ∉ ch := fun z => (hch c z).2.2.1 x c e rfl
    by_cases hc : c ∈ X.fs
    · obtain ⟨sl, q⟩ := slot c o (I.cne x c e) hc nch ho (I.freeC x c e)
      exact ⟨_, q, hd⟩
    · exact ⟨o, keep c o (I.cne x c e) hc nch ho (I.freeC x c e), hd⟩
  refine ⟨I.ok, I.os, hg, ⟨fun b o e n hb hx => ?_, fun b o e n hb hx => ?_, fun b o e n hx => ?_, fun b o e hx => ?_, fun b xs e => tups b xs (I.base.tups b xs e), fun b o xs e => frzs b o xs (I.base.frzs b o xs e), fun b ps e => ?_⟩, ?_, fun x c e => ?_, ?_, fun x c e => ?_, fun p hp => ?_, hok, I.len⟩
  · exact keep b o (neL b o e) hb (neC b o e hx) (I.base.keep b o e n hb hx) (I.base.free b o e n hx)
  · obtain ⟨sl, e1⟩ := I.base.slot b o e n hb hx
    obtain ⟨sl', e2⟩ := slot b _ (neL b o e) hb (neC b o e hx) e1 (I.base.free b o e n hx)
    exact ⟨sl', e2⟩
  · obtain ⟨o', e1⟩ := I.base.there b o e hx
    exact free b o' (neC b o e hx) e1 (I.base.free b o e n hx)
  · obtain ⟨o', e1⟩ := I.base.there b o e hx
    exact there b o' (neC b o e hx) e1
  · obtain ⟨m1, e1⟩ := I.base.tbls b ps e
    obtain ⟨m2, e2⟩ := tbls b _ e1
    exact ⟨m1 ++ m2, by rw [e2, Array.append_assoc]⟩
  · obtain ⟨m, hn, hl⟩ := I.loc
    refine ⟨m, ns m hn, fun i x v e1 e2 e3 => ?_⟩
    obtain ⟨u, r, l⟩ := hl i x v e1 e2 e3
    refine ⟨u, r, ?_⟩
    rcases l with l | ⟨k, c, e, z⟩
    · exact .inl l
    · exact .inr ⟨k, c, e, cellK x c e _ z⟩
  · obtain ⟨v, z⟩ := I.cell x c e
    exact ⟨v, cellK x c e v z⟩
  · obtain ⟨m, ⟨o, _, _, ho, _⟩, _⟩ := I.loc
    exact free _ o (fun z => (hch _ z).2.1 rfl) ho I.free
  · obtain ⟨v, o, ho, hd⟩ := I.cell x c e
    exact free c o (fun z => (hch c z).2.2.1 x c e rfl) ho (I.freeC x c e)
  · obtain ⟨e, n, ne, nf, d⟩ := I.pin p hp
    have nch : p.1 ∉ ch := fun z => (hch p.1 z).2.2.2 p hp rfl
    exact ⟨keep p.1 p.2 ne nf nch e n, free p.1 p.2 nch e n, ne, nf, d⟩

theorem Inv.un {t' : Nat} (I : Inv X pins σ H s) (u : Un X.fs [] H H' s.heap h') (hok : HOk X.prog X.w H' h') : Inv X pins σ H' { s with heap := h', toks := t' } := by
  obtain ⟨m, ⟨o, es, ep, ho, r⟩, _⟩ := id I.loc
  obtain ⟨sl, hL⟩ := u.any ho I.free (by simp)
  exact I.step (g' := s.gens) (d' := s.drawn) (ch := []) (fun _ z => nomatch z) (fun b o _ hb _ e n => u.keep b o e n hb (by simp)) (fun b o _ hb _ e n => u.slot b o e n hb (by simp)) (fun b o _ e n => u.free b o e n (by simp)) (fun b o _ e => u.there b o e (by simp)) u.tups u.frzs u.tbls (fun m' hm => by
    obtain ⟨o', es', ep', ho', r'⟩ := hm
    rw [ho] at ho'; cases ho'
    exact ⟨_, es', ep', hL, r'⟩) hok I.bare

theorem Inv.call {g' : Array GenState} {t' : Nat} {d' : Drawn} {ch : List Addr} (I : Inv X pins σ H s) (u : Un (frs X.stack) ch H H' s.heap h') (hok : HOk X.prog X.w H' h') (hg : AllBare g')
    (hch : ∀ b ∈ ch, (b ∈ X.ex ∨ X.s₀.heap.objs.size ≤ b) ∧ b ≠ X.env.locals ∧ (∀ x c, X.env.cells.lookup x = some c → c ≠ b) ∧ ∀ p ∈ X.pn ++ pins, p.1 ≠ b) :
    Inv X pins σ H' { s with heap := h', gens := g', drawn := d', toks := t' } := by
  obtain ⟨m, ⟨o, es, ep, ho, r⟩, _⟩ := id I.loc
  obtain ⟨sl, hL⟩ := u.any ho I.free fun z => (hch _ z).2.1 rfl
  exact I.step (ch := ch) hch (fun b o hL hb hc e n => u.keep b o e n (fun z => (List.mem_cons.mp (I.stkSub b z)).elim hL hb) hc) (fun b o _ _ hc e n => u.any e n hc) (fun b o hc e n => u.free b o e n hc) (fun b o hc e => u.there b o e hc) u.tups u.frzs u.tbls (fun m' hm => by
    obtain ⟨o', es', ep', ho', r'⟩ := hm
    rw [ho] at ho'; cases ho'
    exact ⟨_, es', ep', hL, r'⟩) hok hg

theorem Inv.turned {t' : Nat} {it : Addr} (I : Inv X pins σ H s) (k : ∀ b o, b ≠ it → s.heap.get? b = some o → h'.get? b = some o) (hn : H it = none) (hL : it ≠ X.env.locals)
    (h1 : it ∈ X.ex ∨ X.s₀.heap.objs.size ≤ it) (h2 : ∀ x c, X.env.cells.lookup x = some c → c ≠ it) (h3 : ∀ p ∈ X.pn ++ pins, p.1 ≠ it) : Inv X pins σ H { s with heap := h', toks := t' } := by
  have nit : ∀ b u, H b = some u → b ≠ it := fun b u e z => by rw [z, hn] at e; cases e
  refine I.step (g' := s.gens) (d' := s.drawn) (ch := [it]) (fun b hb => ?_) (fun b o _ _ hc e _ => k b o (fun z => hc (by simp [z])) e) (fun b o _ _ hc e _ => ⟨o.slots, k b o (fun z => hc (by simp [z])) e⟩) (fun _ _ _ _ n => n)
    (fun b o hc e => ⟨o, k b o (fun z => hc (by simp [z])) e⟩) (fun _ _ e => e) (fun _ _ _ e => e) (fun b ps e => ⟨#[], by rw [e]; simp⟩) (fun m hm => ?_) (fun b u e => ?_) I.bare
  · have e : b = it := by simpa using hb
    subst e
    exact ⟨h1, hL, h2, h3⟩
  · obtain ⟨o, es, ep, ho, r⟩ := hm
    exact ⟨o, es, ep, k _ o (Ne.symm hL) ho, r⟩
  · refine (I.hok b u e).stay (fun c v hc q => k c v ?_ q) (fun _ q => q) fun _ _ q => q
    rcases hc with z | z
    · rw [z]; exact nit b u e
    · exact nit c _ z
theorem Inv.tok (I : Inv X pins σ H s) (t : Nat) : Inv X pins σ H { s with toks := t } := I.un (h' := s.heap) (t' := t) Un.refl I.hok

theorem Inv.kept {t' : Nat} (I : Inv X pins σ H s) (k : ∀ b u, s.heap.get? b = some u → h'.get? b = some u) : Inv X pins σ H { s with heap := h', toks := t' } := I.un (Un.kept k) (I.hok.kept k)

theorem Inv.laid {a : Addr} {o : HO} {t' : Nat} (I : Inv X pins σ H s) (k : ∀ b u, s.heap.get? b = some u → h'.get? b = some u) (hp : s.heap.objs.size ≤ a) (new : ObjOk X.prog X.w (upd H a o) h' a o) :
    Inv X pins σ (upd H a o) { s with heap := h', toks := t' } := I.un (Un.laid k hp (I.hok.fresh hp)) (I.hok.laid k hp new)

theorem Inv.write {x e : Addr} {o : HO} {t' : Nat} (I : Inv X pins σ H s) (mu : Mut (H x)) (he : e = x ∨ H e = some (.own x)) (k : ∀ b u, b ≠ e → s.heap.get? b = some u → h'.get? b = some u) (heo : ∃ u, h'.get? e = some u)
    (new : ObjOk X.prog X.w (upd H x o) h' x o) : Inv X pins σ (upd H x o) { s with heap := h', toks := t' } := I.un (Un.write mu he k heo) (I.hok.write mu he k heo new)

theorem Inv.weak {σ' : List (Option V)} (I : Inv X pins σ H s) (hl : σ'.length = σ.length) (w : ∀ (i : Nat) v, σ'[i]? = some (some v) → σ[i]? = some (some v)) : Inv X pins σ' H s :=
  ⟨I.ok, I.os, I.bare, I.base, let ⟨m, hn, hl'⟩ := I.loc; ⟨m, hn, fun i x v e1 e2 e3 => hl' i x v e1 (w i v e2) e3⟩, I.cell, I.free, I.freeC, I.pin, I.hok, hl.trans I.len⟩
theorem Inv.pins_of {pins' : List (Addr × Obj)} (I : Inv X pins σ H s) (h : ∀ p ∈ pins', s.heap.get? p.1 = some p.2 ∧ H p.1 = none ∧ p.1 ≠ X.env.locals ∧ p.1 ∉ X.fs ∧ ∀ v, p.2.data ≠ .cell v) : Inv X pins' σ H s :=
  ⟨I.ok, I.os, I.bare, I.base, I.loc, I.cell, I.free, I.freeC, fun p hp => (List.mem_append.mp hp).elim (fun z => I.pin p (List.mem_append_left _ z)) (h p), I.hok, I.len⟩

theorem nodup_ix {N : List Str} (hN : N.Nodup) {i j : Nat} {x : Str} (a : N[i]? = some x) (b : N[j]? = some x) : i = j := by
  obtain ⟨h1, e1⟩ := List.getElem?_eq_some_iff.mp a
  obtain ⟨h2, e2⟩ := List.getElem?_eq_some_iff.mp b
  exact (List.getElem_inj hN).mp (e1.trans e2.symm)


theorem store_ok2 {M : Model} {A : Around} {E : Value → Shared → Prop} {i : Nat} {x : Str} {v : V} {u : Value} {Q : Unit → Shared → Prop} (I : Inv X pins σ H s) (hN : X.N.Nodup) (hi : X.N[i]? = some x) (hx : Loc X.env.scope x) (r : RelV v u)
    (h : ∀ s', Inv X pins (σ.set i (some v)) H s' → (∃ a, Heap.SameBut a s.heap s'.heap ∧ (a = X.env.locals ∨ X.env.cells.lookup x = some a)) → Q () s') (hf : X.fn x = true ∨ X.env.scope.names.lookup x = some .local := by first | exact .inl rfl | exact .inr rfl | assumption) : wpAny M A (storeName X.env x u) Q E s := by
  obtain ⟨m, hn, hl⟩ := id I.loc
  have hcls : (X.env.scope.kind == .class || (X.env.scope.kind == .module && X.env.locals != X.env.globals)) = false := by rw [I.ok.kind]; rfl
  have hiσ : i < σ.length := by rw [I.len]; exact (List.getElem?_eq_some_iff.mp hi).1
  have cne := I.cne
  have tracked : ∀ {a : Addr} {h' : Heap}, (∃ o, s.heap.get? a = some o ∧ H a = none) → Heap.SameBut a s.heap h' → HOk X.prog X.w H h' := fun {a h'} ha hs b ob e => by
    obtain ⟨_, _, hfree⟩ := ha
    refine (I.hok b ob e).stay (fun c w' hc q => (hs.2 c ?_).trans q) (fun _ q => q) fun _ _ q => q
    rintro rfl
    rcases hc with rfl | hc
    · rw [hfree] at e; cases e
    · rw [hfree] at hc; cases hc
  rcases hx with hk | hk
  · refine wpAny_storeName_local hk hn (fun h' hn' hs => ?_) hcls
    obtain ⟨oL, _, _, hoL, _⟩ := id hn
    refine h _ ⟨I.ok, I.os, I.bare, ⟨fun b o e n hb hx => ?_, fun b o e n hb hx => ?_, I.base.free, fun b o e hx => ?_, I.base.tups, I.base.frzs, I.base.tbls⟩, ⟨_, hn', fun j y v' e1 e2 e3 => ?_⟩, fun y c e => ?_, I.free, I.freeC, fun p hp => ?_, tracked ⟨oL, hoL, I.free⟩ hs, by simpa using I.len⟩ ⟨_, hs, .inl rfl⟩
    · exact (hs.2 b (Nat.ne_of_lt (Nat.lt_of_lt_of_le (Heap.lt_size e) I.ok.above))).trans (I.base.keep b o e n hb hx)
    · obtain ⟨sl, e1⟩ := I.base.slot b o e n hb hx
      exact ⟨sl, (hs.2 b (Nat.ne_of_lt (Nat.lt_of_lt_of_le (Heap.lt_size e) I.ok.above))).trans e1⟩
    · obtain ⟨o', e1⟩ := I.base.there b o e hx
      exact ⟨o', (hs.2 b (Nat.ne_of_lt (Nat.lt_of_lt_of_le (Heap.lt_size e) I.ok.above))).trans e1⟩
    · by_cases hj : j = i
      · subst hj
        rw [hi] at e1; cases e1
        rw [List.getElem?_set_self hiσ] at e2
        cases e2
        exact ⟨u, r, .inl ⟨hk, by simp⟩⟩
      · rw [List.getElem?_set_ne (Ne.symm hj)] at e2
        obtain ⟨u', r', q⟩ := hl j y v' e1 e2 e3
        refine ⟨u', r', ?_⟩
        rcases q with ⟨k, e⟩ | ⟨k, c, e, z⟩
        · refine .inl ⟨k, ?_⟩
          have : y ≠ x := fun e => hj (nodup_ix hN e1 (e ▸ hi))
          simp [this, e]
        · exact .inr ⟨k, c, e, z.sameBut hs (cne y c e)⟩
    · obtain ⟨w', z⟩ := I.cell y c e
      exact ⟨w', z.sameBut hs (cne y c e)⟩
    · obtain ⟨e, n, ne, nf, d⟩ := I.pin p hp
      exact ⟨(hs.2 p.1 ne).trans e, n, ne, nf, d⟩
  · have hfn : X.fn x = true := by
      rcases hf with z | z
      · exact z
      · rw [z] at hk; cases hk
    obtain ⟨c, hc⟩ := I.ok.has x (.inl hk)
    obtain ⟨w', z⟩ := I.cell x c hc
    refine wpAny_storeName_cell I.ok.kind hk hc z (fun h' hc' hs => ?_)
    obtain ⟨oc, hoc, hocd⟩ := id z
    refine h { s with heap := h' } ⟨I.ok, I.os, I.bare, ⟨fun b o e n hb hx => ?_, fun b o e n hb hx => ?_, I.base.free, fun b o e hx => ?_, I.base.tups, I.base.frzs, I.base.tbls⟩, ⟨m, hn.sameBut hs (Ne.symm (cne x c hc)), fun j y v' e1 e2 e3 => ?_⟩, fun y c' e => ?_, I.free, I.freeC, fun p hp => ?_, tracked ⟨oc, hoc, I.freeC x c hc⟩ hs, by simpa using I.len⟩ ⟨c, hs, .inr hc⟩
    · exact (hs.2 b (Nat.ne_of_lt (Nat.lt_of_lt_of_le (Heap.lt_size e) (I.ok.cab x c hfn hc)))).trans (I.base.keep b o e n hb hx)
    · obtain ⟨sl, e1⟩ := I.base.slot b o e n hb hx
      exact ⟨sl, (hs.2 b (Nat.ne_of_lt (Nat.lt_of_lt_of_le (Heap.lt_size e) (I.ok.cab x c hfn hc)))).trans e1⟩
    · obtain ⟨o', e1⟩ := I.base.there b o e hx
      exact ⟨o', (hs.2 b (Nat.ne_of_lt (Nat.lt_of_lt_of_le (Heap.lt_size e) (I.ok.cab x c hfn hc)))).trans e1⟩
    · by_cases hj : j = i
      · subst hj
        rw [hi] at e1; cases e1
        rw [List.getElem?_set_self hiσ] at e2
        cases e2
        exact ⟨u, r, .inr ⟨.inl hk, c, hc, hc'⟩⟩
      · rw [List.getElem?_set_ne (Ne.symm hj)] at e2
        obtain ⟨u', r', q⟩ := hl j y v' e1 e2 e3
        refine ⟨u', r', ?_⟩
        rcases q with q | ⟨k, c', e, z'⟩
        · exact .inl q
        · refine .inr ⟨k, c', e, z'.sameBut hs ?_⟩
          rintro rfl
          exact hj (nodup_ix hN e1 (I.ok.inj _ _ _ e hc ▸ hi))
    · by_cases hcc : c' = c
      · subst hcc; exact ⟨_, hc'⟩
      · obtain ⟨w2, z2⟩ := I.cell y c' e
        exact ⟨w2, z2.sameBut hs hcc⟩
    · obtain ⟨e, n, ne, nf, d⟩ := I.pin p hp
      refine ⟨(hs.2 p.1 ?_).trans e, n, ne, nf, d⟩
      intro q
      rw [q, hoc] at e
      have q' : oc = p.2 := Option.some.inj e
      exact d w' (by rw [← q']; exact hocd)
theorem store_ok {M : Model} {A : Around} {E : Value → Shared → Prop} {i : Nat} {x : Str} {v : V} {u : Value} {Q : Unit → Shared → Prop} (I : Inv X pins σ H s) (hN : X.N.Nodup) (hi : X.N[i]? = some x) (hx : Loc X.env.scope x) (r : RelV v u)
    (h : ∀ s', Inv X pins (σ.set i (some v)) H s' → Q () s') (hf : X.fn x = true ∨ X.env.scope.names.lookup x = some .local := by first | exact .inl rfl | exact .inr rfl | assumption) : wpAny M A (storeName X.env x u) Q E s :=
  store_ok2 I hN hi hx r (fun s' I' _ => h s' I') hf

theorem Inv.call' {s' : Shared} {ch : List Addr} (I : Inv X pins σ H s) (ho : s'.os = s.os) (u : Un (frs X.stack) ch H H' s.heap s'.heap) (hok : HOk X.prog X.w H' s'.heap) (hg : AllBare s'.gens)
    (hch : ∀ b ∈ ch, (b ∈ X.ex ∨ X.s₀.heap.objs.size ≤ b) ∧ b ≠ X.env.locals ∧ (∀ x c, X.env.cells.lookup x = some c → c ≠ b) ∧ ∀ p ∈ X.pn ++ pins, p.1 ≠ b) : Inv X pins σ H' s' := by
  obtain ⟨h', g', d', t', o'⟩ := s'
  have e : o' = s.os := ho
  subst e
  exact I.call (g' := g') (t' := t') (d' := d') u hok hg hch
end



abbrev XK := Value → Option Addr → Hp → Prop
abbrev St := List (Option V)
abbrev VK := V → Hp → Prop

abbrev TE := St → Hp → VK → Prop
abbrev TT := St → Hp → (Bool → Hp → Prop) → Prop
abbrev TA := St → Hp → (List V → Hp → Prop) → Prop

structure Ends where
  nx : St → Hp → Prop
  rt : VK
  bk : St → Hp → Prop := fun _ _ => False
  ct : St → Hp → Prop := fun _ _ => False
abbrev TS := Ends → St → Hp → Prop

def EP (X : Cx) (pins : List (Addr × Obj)) (σ : St) (Q : VK) (u : Value) (s' : Shared) : Prop := ∃ v H', Inv X pins σ H' s' ∧ RelV v u ∧ Q v H'
def TP (X : Cx) (pins : List (Addr × Obj)) (σ : St) (Q : Bool → Hp → Prop) (b : Bool) (s' : Shared) : Prop := ∃ H', Inv X pins σ H' s' ∧ Q b H'
def AP (X : Cx) (pins : List (Addr × Obj)) (σ : St) (Q : List V → Hp → Prop) (us : List Value) (s' : Shared) : Prop := ∃ vs H', Inv X pins σ H' s' ∧ Vals vs us ∧ Q vs H'
def SP (X : Cx) (pins : List (Addr × Obj)) (D : Ends) (f : Flow) (s' : Shared) : Prop :=
  match f with
  | .next => ∃ σ' H', Inv X pins σ' H' s' ∧ D.nx σ' H'
  | .brk => ∃ σ' H', Inv X pins σ' H' s' ∧ D.bk σ' H'
  | .cont => ∃ σ' H', Inv X pins σ' H' s' ∧ D.ct σ' H'
  | .ret u => ∃ v σ' H', Inv X pins σ' H' s' ∧ RelV v u ∧ D.rt v H'

def PE (X : Cx) (e : Expr) (t : TE) : Prop :=
  ∀ (pins : List (Addr × Obj)) (s : Shared) (σ : St) (H : Hp) (Q : VK), Inv X pins σ H s → t σ H Q → wpAny (model X.prog X.w) X.A (eval e X.env) (EP X pins σ Q) X.xe s
def PT (X : Cx) (e : Expr) (t : TT) : Prop :=
  ∀ (pins : List (Addr × Obj)) (s : Shared) (σ : St) (H : Hp) (Q : Bool → Hp → Prop), Inv X pins σ H s → t σ H Q → wpAny (model X.prog X.w) X.A (isTrue e X.env (eval e X.env)) (TP X pins σ Q) X.xe s

def PW (X : Cx) (e : Expr) (t : TT) : Prop :=
  ∀ (whole : Sem Value) (pins : List (Addr × Obj)) (s : Shared) (σ : St) (H : Hp) (Q : Bool → Hp → Prop), Inv X pins σ H s → t σ H Q → wpAny (model X.prog X.w) X.A (isTrue e X.env whole) (TP X pins σ Q) X.xe s
theorem PW.pt {X : Cx} {e : Expr} {t : TT} (h : PW X e t) : PT X e t := h _

def PA (X : Cx) (es : List Expr) (t : TA) : Prop :=
  ∀ (pos : Pos) (pins : List (Addr × Obj)) (s : Shared) (σ : St) (H : Hp) (Q : List V → Hp → Prop), Inv X pins σ H s → t σ H Q → wpAny (model X.prog X.w) X.A (spliced (backTo pos (starEach es X.env))) (AP X pins σ Q) X.xe s
def PS (X : Cx) (st : Stmt) (t : TS) : Prop :=
  ∀ (pins : List (Addr × Obj)) (s : Shared) (σ : St) (H : Hp) (D : Ends), Inv X pins σ H s → t D σ H → wpAny (model X.prog X.w) X.A (exec st X.env) (SP X pins D) X.xe s
def PSs (X : Cx) (st : List Stmt) (t : TS) : Prop :=
  ∀ (pins : List (Addr × Obj)) (s : Shared) (σ : St) (H : Hp) (D : Ends), Inv X pins σ H s → t D σ H → wpAny (model X.prog X.w) X.A (execs st X.env) (SP X pins D) X.xe s

theorem thn {α : Type} {t : Sem α} {Q Q' : α → Shared → Prop} {M : Model} {A : Around} {E : Value → Shared → Prop} {s : Shared} (h : wpAny M A t Q E s) (hQ : ∀ a s, Q a s → Q' a s) : wpAny M A t Q' E s := wpAny_mono h hQ fun _ _ x => x
end L2

namespace L2
open PySem PySem.Spec PyProof.Rows
section
variable {X : Cx}


def tVar (i : Nat) : TE := fun σ H Q => ∃ v, σ[i]? = some (some v) ∧ Q v H
def tC (v : V) : TE := fun _ H Q => Q v H
theorem pe_var {i : Nat} {x : Str} {pos : Pos} (hN : X.N[i]? = some x) (hv : Vis X.env.scope x) (hd : (x == ("__debug__" : Str)) = false := by decide) (hcd : (x == ("__classdict__" : Str)) = false := by decide) : PE X (.Name x pos) (tVar i) := by
  intro pins s σ H Q I h
  obtain ⟨v, e, h⟩ := h
  obtain ⟨m, hn, hl⟩ := I.loc
  obtain ⟨u, r, l⟩ := hl i x v hN e hv
  have fin : EP X pins σ Q u s := ⟨v, H, I, r, h⟩
  rcases l with ⟨hk, hm⟩ | ⟨hk, c, hc, hcell⟩
  · exact wpAny_Name (wpAny_loadName_local I.ok.kind hk hn hm fin) hd
  · rcases hk with hk | hk
    · exact wpAny_Name (wpAny_loadName_cell I.ok.kind hk hc hcell fin) hd
    · exact wpAny_Name (wpAny_loadName_free I.ok.kind hk hc hcell fin hcd) hd
theorem pe_int {i j pos} : PE X (.Constant (.int i) j pos) (tC (.int i)) := fun _ _ _ H _ I h => wpAny_Constant_int ⟨.int i, H, I.tok _, ⟨_, rfl⟩, h⟩
theorem pe_bl {b j pos} : PE X (.Constant (.bool b) j pos) (tC (.bl b)) := fun _ _ _ H _ I h => Constant_bool ⟨.bl b, H, I, rfl, h⟩
theorem pe_non {j pos} : PE X (.Constant .none j pos) (tC .non) := fun _ _ _ H _ I h => Constant_none ⟨.non, H, I, rfl, h⟩
theorem pe_str {x j pos} : PE X (.Constant (.str x) j pos) (tC (.str x)) := fun _ _ _ H _ I h => Calls.Constant_str ⟨.str x, H, I.tok _, ⟨_, rfl⟩, h⟩


def Gl (X : Cx) (x : Str) : Prop := X.env.kindOf x = some .globalImplicit
theorem ld_glob {E : Value → Shared → Prop} {pins : List (Addr × Obj)} {s : Shared} {σ : St} {H : Hp} {x : Str} {u : Value} {pos : Pos} {Q : Value → Shared → Prop} (I : Inv X pins σ H s) (hg : Gl X x) (hm : X.mg x = some u) (h : Q u s)
    (hd : (x == ("__debug__" : Str)) = false := by decide) : wpAny (model X.prog X.w) X.A (eval (.Name x pos) X.env) Q E s :=
  Calls.Name_function_global I.ok.kind hg (Calls.loadGlobal_global (by rw [I.ok.glob]; exact I.mod.glob.keeps I.bk) hm h) hd
theorem ld_blt {E : Value → Shared → Prop} {pins : List (Addr × Obj)} {s : Shared} {σ : St} {H : Hp} {x : Str} {u : Value} {pos : Pos} {Q : Value → Shared → Prop} (I : Inv X pins σ H s) (hg : Gl X x) (hm : X.mg x = none) (hv : bootBuiltins x = some u) (h : Q u s)
    (hn : x ≠ "__name__" := by decide) (hd : (x == ("__debug__" : Str)) = false := by decide) : wpAny (model X.prog X.w) X.A (eval (.Name x pos) X.env) Q E s := by
  obtain ⟨mb, h1, h2⟩ := I.mod.blt
  exact Calls.Name_function_global I.ok.kind hg (Calls.loadGlobal_builtin (by rw [I.ok.glob]; exact I.mod.glob.keeps I.bk) hm (by rw [I.ok.blt]; exact h1.keeps I.bk) ((h2 x hn).trans hv) h) hd

theorem pe_glob {x : Str} {v : V} {u : Value} {pos : Pos} (hg : Gl X x) (hm : X.mg x = some u) (r : RelV v u) (hd : (x == ("__debug__" : Str)) = false := by decide) : PE X (.Name x pos) (tC v) :=
  fun _ _ _ H _ I h => ld_glob I hg hm ⟨v, H, I, r, h⟩ hd
theorem pe_bltn {x : Str} {v : V} {u : Value} {pos : Pos} (hg : Gl X x) (hm : X.mg x = none) (hv : bootBuiltins x = some u) (r : RelV v u) (hn : x ≠ "__name__" := by decide) (hd : (x == ("__debug__" : Str)) = false := by decide) : PE X (.Name x pos) (tC v) :=
  fun _ _ _ H _ I h => ld_blt I hg hm hv ⟨v, H, I, r, h⟩ hn hd



variable {a b : Expr} {ta tb : TE} {pos : Pos}
def PC (X : Cx) (op : CmpOp) (a b : Expr) (t : TE) : Prop :=
  ∀ (pins : List (Addr × Obj)) (s : Shared) (σ : St) (H : Hp) (Q : VK), Inv X pins σ H s → t σ H Q →
    wpAny (model X.prog X.w) X.A (eval a X.env) (fun v s₁ => wpAny (model X.prog X.w) X.A (eval b X.env) (fun u s₂ => wpAny (model X.prog X.w) X.A (compareOp op v u) (EP X pins σ Q) X.xe s₂) X.xe s₁) X.xe s
theorem nobehind (b : Expr) {op : CmpOp} (h : op ≠ .In) (h2 : op ≠ .NotIn) : behindInMarks op b = false := by
  have e1 : (op == CmpOp.In) = false := by cases op <;> first | rfl | exact absurd rfl h
  have e2 : (op == CmpOp.NotIn) = false := by cases op <;> first | rfl | exact absurd rfl h2
  cases b <;> simp [behindInMarks, e1, e2]
def tNotN (ta : TE) : TE := fun σ H Q => ta σ H fun x H1 => Q (.bl (!decide (x = .non))) H1
theorem RelV.none_iff {x : V} {v : Value} (r : RelV x v) : (v == Value.none) = decide (x = .non) := by
  cases x with
  | non => cases r; rfl
  | bl _ => cases r; rfl
  | int _ => obtain ⟨t, rfl⟩ := r; rfl
  | str _ => obtain ⟨t, rfl⟩ := r; rfl
  | byt _ => obtain ⟨t, rfl⟩ := r; rfl
  | flt _ => obtain ⟨t, rfl⟩ := r; rfl
  | ref _ => cases r; rfl
  | ty _ => cases r; rfl
theorem pc_notN {j pos'} (ha : PE X a ta) : PC X .IsNot a (.Constant .none j pos') (tNotN ta) := by
  intro pins s σ H Q I h
  refine thn (ha pins s σ H _ I h) fun v s1 ⟨x, H1, I1, r1, q1⟩ => ?_
  exact Constant_none (isnot_none_gen ⟨.bl _, H1, I1, by rw [r1.none_iff]; rfl, q1⟩)

def tB (t : TE) : TT := fun σ H Q => t σ H fun x H1 => ∃ c, x = .bl c ∧ Q c H1
theorem pt_cmp {op : CmpOp} {t : TE} (h : PC X op a b t) (h1 : behindInMarks op b = false := by first | exact nobehind _ (by decide) (by decide) | rfl) : PT X (.Compare a [op] [b] pos) (tB t) := by
  intro pins s σ H Q I hw
  refine wpAny_isTrue_Compare1 (thn (h pins s σ H _ I hw) fun v s1 h1 => thn h1 fun u s2 h2 => thn h2 fun c s3 ⟨x, H1, I1, r1, q1⟩ => ?_) h1
  obtain ⟨d, rfl, q⟩ := q1
  cases r1
  exact wpAny_truthy_bool ⟨H1, I1, q⟩

variable {tA tB' : TT} {rest : List Expr}
def tAnd (t u : TT) : TT := fun σ H Q => t σ H fun c H1 => if c = true then u σ H1 Q else Q false H1
def tOr (t u : TT) : TT := fun σ H Q => t σ H fun c H1 => if c = true then Q true H1 else u σ H1 Q
theorem pw_and1 (ha : PT X a tA) : PW X (.BoolOp .And [a] pos) tA := by
  intro wh pins s σ H Q I h
  refine isTrue_and (thn (ha pins s σ H Q I h) fun c s1 e => ?_)
  cases c with
  | true => exact isTrue_and_nil e
  | false => exact e
theorem pw_or1 (ha : PT X a tA) : PW X (.BoolOp .Or [a] pos) tA := by
  intro wh pins s σ H Q I h
  refine isTrue_or (thn (ha pins s σ H Q I h) fun c s1 e => ?_)
  cases c with
  | false => exact isTrue_or_nil e
  | true => exact e
theorem pw_and (ha : PT X a tA) (hb : PW X (.BoolOp .And (b :: rest) pos) tB') : PW X (.BoolOp .And (a :: b :: rest) pos) (tAnd tA tB') := by
  intro wh pins s σ H Q I h
  refine isTrue_and (thn (ha pins s σ H _ I h) fun c s1 ⟨H1, I1, q1⟩ => ?_)
  cases c with
  | true => exact hb wh pins s1 σ H1 Q I1 q1
  | false => exact ⟨H1, I1, q1⟩
theorem pw_or (ha : PT X a tA) (hb : PW X (.BoolOp .Or (b :: rest) pos) tB') : PW X (.BoolOp .Or (a :: b :: rest) pos) (tOr tA tB') := by
  intro wh pins s σ H Q I h
  refine isTrue_or (thn (ha pins s σ H _ I h) fun c s1 ⟨H1, I1, q1⟩ => ?_)
  cases c with
  | true => exact ⟨H1, I1, q1⟩
  | false => exact hb wh pins s1 σ H1 Q I1 q1
def tAndV (ta tb : TE) : TE := fun σ H Q => ta σ H fun x H1 => ∃ c, x = .bl c ∧ if c = true then tb σ H1 Q else Q (.bl false) H1
theorem pe_one {op} {t : TE} (h : PE X a t) : PE X (.BoolOp op [a] pos) t := fun pins s σ H Q I hw => BoolOp_one (h pins s σ H Q I hw)
theorem pe_and (ha : PE X a ta) (hb : PE X (.BoolOp .And (b :: rest) pos) tb) : PE X (.BoolOp .And (a :: b :: rest) pos) (tAndV ta tb) := by
  intro pins s σ H Q I h
  refine BoolOp_and (thn (ha pins s σ H _ I h) fun v s1 ⟨x, H1, I1, r1, q1⟩ => ?_)
  obtain ⟨c, rfl, q1⟩ := q1
  cases r1
  refine wpAny_truthy_bool ?_
  cases c with
  | true => exact hb pins s1 σ H1 Q I1 q1
  | false => exact ⟨.bl false, H1, I1, rfl, q1⟩
def tIf (t : TT) (ta tb : TE) : TE := fun σ H Q => t σ H fun c H1 => if c = true then ta σ H1 Q else tb σ H1 Q
theorem pe_ifExp {c : Expr} (hc : PT X c tA) (ha : PE X a ta) (hb : PE X b tb) : PE X (.IfExp c a b pos) (tIf tA ta tb) := by
  intro pins s σ H Q I h
  refine wpAny_IfExp (thn (hc pins s σ H _ I h) fun d s1 ⟨H1, I1, q1⟩ => ?_)
  cases d with
  | true => exact ha pins s1 σ H1 Q I1 q1
  | false => exact hb pins s1 σ H1 Q I1 q1
end
end L2

namespace L2
open PySem PySem.Spec PyProof.Rows


def SqL (K : PySem.W.Frag) (H : Hp) (a : Addr) (xs : List V) : Prop :=
  Rd H a (.lst xs) ∨
    ∃ (o : Obj) (its : Array Value) (n : Nat), K.lookup a = some o ∧ o.cls = .type "list" ∧ o.dict = none ∧ o.data = .seq its n ∧ its.size ≤ sizeLine ∧ Vals xs its.toList
def SqT (K : PySem.W.Frag) (H : Hp) (a : Addr) (xs : List V) : Prop :=
  Rd H a (.tup xs) ∨
    ∃ (o : Obj) (its : Array Value) (n : Nat), K.lookup a = some o ∧ o.cls = .type "tuple" ∧ o.data = .seq its n ∧ its.size ≤ sizeLine ∧ Vals xs its.toList
def absV : Value → Option V
  | .none => some .non
  | .bool b => some (.bl b)
  | .int i _ => some (.int i)
  | .str x _ => some (.str x)
  | .bytes b _ => some (.byt b)
  | .float b _ => some (.flt b)
  | .ref a => some (.ref a)
  | .type n => some (.ty n)
  | _ => none
theorem RelV.abs {x : V} {u : Value} (r : RelV x u) : absV u = some x := by
  cases x with
  | non => cases r; rfl
  | bl _ => cases r; rfl
  | int _ => obtain ⟨t, rfl⟩ := r; rfl
  | str _ => obtain ⟨t, rfl⟩ := r; rfl
  | byt _ => obtain ⟨t, rfl⟩ := r; rfl
  | flt _ => obtain ⟨t, rfl⟩ := r; rfl
  | ref _ => cases r; rfl
  | ty _ => cases r; rfl
theorem RelV.inj {x y : V} {u : Value} (r : RelV x u) (q : RelV y u) : x = y := Option.some.inj (r.abs.symm.trans q.abs)
theorem Vals.inj : ∀ {xs ys : List V} {us : List Value}, Vals xs us → Vals ys us → xs = ys
  | _, _, _, .nil, .nil => rfl
  | _, _, _, .cons r t, .cons r' t' => by rw [r.inj r', Vals.inj t t']
section
variable {X : Cx} {pins : List (Addr × Obj)} {σ : St} {H : Hp} {s : Shared} {a : Addr} {xs ys : List V}
theorem SqL.of {K : PySem.W.Frag} (h : H a = some (.lst xs)) : SqL K H a xs := .inl (.inl h)
theorem SqT.of {K : PySem.W.Frag} (h : H a = some (.tup xs)) : SqT K H a xs := .inl (.inl h)
theorem Inv.list (I : Inv X pins σ H s) (h : SqL X.K H a xs) : ∃ its : List Value, Vals xs its ∧ PlainL s.heap a its.toArray ∧ xs.length ≤ sizeLine := by
  rcases h with h | ⟨o, its, n, hk, hc, hd, hs, hz, r⟩
  · obtain ⟨z, its, n, r, e⟩ := h.ok I.hok
    exact ⟨its, r, ⟨_, n, e, rfl, rfl, rfl⟩, z⟩
  · refine ⟨its.toList, r, ⟨o, n, I.kIn a o hk, hc, hd, by simpa using hs⟩, ?_⟩
    have e := r.length
    simp only [Array.length_toList] at e
    omega
theorem Inv.tuple (I : Inv X pins σ H s) (h : SqT X.K H a xs) : ∃ its : List Value, Vals xs its ∧ IsTup s.heap a its.toArray ∧ xs.length ≤ sizeLine := by
  rcases h with h | ⟨o, its, n, hk, hc, hs, hz, r⟩
  · obtain ⟨z, its, r, p⟩ := h.ok I.hok
    exact ⟨its, r, p, z⟩
  · refine ⟨its.toList, r, ⟨o, I.kIn a o hk, hc, n, by simpa using hs⟩, ?_⟩
    have e := r.length
    simp only [Array.length_toList] at e
    omega
theorem Inv.list_inj (I : Inv X pins σ H s) (h : SqL X.K H a xs) (h' : SqL X.K H a ys) : xs = ys := by
  obtain ⟨its, r, ⟨o, n, e, _, _, d⟩, _⟩ := I.list h
  obtain ⟨its', r', ⟨o', n', e', _, _, d'⟩, _⟩ := I.list h'
  rw [e] at e'; cases e'
  rw [d] at d'
  injection d' with d1 _
  have : its = its' := by simpa using congrArg Array.toList d1
  subst this
  exact r.inj r'
theorem Inv.tuple_inj (I : Inv X pins σ H s) (h : SqT X.K H a xs) (h' : SqT X.K H a ys) : xs = ys := by
  obtain ⟨its, r, ⟨o, e, _, n, d⟩, _⟩ := I.tuple h
  obtain ⟨its', r', ⟨o', e', _, n', d'⟩, _⟩ := I.tuple h'
  rw [e] at e'; cases e'
  rw [d] at d'
  injection d' with d1 _
  have : its = its' := by simpa using congrArg Array.toList d1
  subst this
  exact r.inj r'
end


abbrev Cx.wish (X : Cx) (E : Value → Shared → Prop) : Cx := { X with xe := E }

abbrev Cx.nox (X : Cx) : Cx := X.wish fun _ _ => False
theorem Cx.Ok.wish {X : Cx} (ok : X.Ok) (E : Value → Shared → Prop) : (X.wish E).Ok :=
  ⟨ok.mod, ok.kind, ok.glob, ok.blt, ok.above, ok.inj, ok.has, ok.cab, ok.hd, ok.frames, ok.stk, ok.exf, ok.bs, ok.bsz, ok.noex, ok.exfs, ok.funs, ok.frf⟩
theorem Cx.Ok.unwish {X : Cx} {E : Value → Shared → Prop} (ok : (X.wish E).Ok) : X.Ok :=
  ⟨ok.mod, ok.kind, ok.glob, ok.blt, ok.above, ok.inj, ok.has, ok.cab, ok.hd, ok.frames, ok.stk, ok.exf, ok.bs, ok.bsz, ok.noex, ok.exfs, ok.funs, ok.frf⟩
section
variable {X : Cx} {pins : List (Addr × Obj)} {σ : St} {H : Hp} {s : Shared} {E : Value → Shared → Prop}
theorem Inv.wish (I : Inv X pins σ H s) (E : Value → Shared → Prop) : Inv (X.wish E) pins σ H s := ⟨I.ok.wish E, I.os, I.bare, I.base, I.loc, I.cell, I.free, I.freeC, I.pin, I.hok, I.len⟩
theorem Inv.unwish (I : Inv (X.wish E) pins σ H s) : Inv X pins σ H s := ⟨I.ok.unwish, I.os, I.bare, I.base, I.loc, I.cell, I.free, I.freeC, I.pin, I.hok, I.len⟩
theorem SP.unwish {D : Ends} {f : Flow} {s' : Shared} (h : SP (X.wish E) pins D f s') : SP X pins D f s' := by
  cases f with
  | next => obtain ⟨σ', H', I, q⟩ := h; exact ⟨σ', H', I.unwish, q⟩
  | brk => obtain ⟨σ', H', I, q⟩ := h; exact ⟨σ', H', I.unwish, q⟩
  | cont => obtain ⟨σ', H', I, q⟩ := h; exact ⟨σ', H', I.unwish, q⟩
  | ret u => obtain ⟨v, σ', H', I, r, q⟩ := h; exact ⟨v, σ', H', I.unwish, r, q⟩
theorem PE.nox {e : Expr} {t : TE} (h : PE X.nox e t) : PE X e t := fun pins s σ H Q I hw =>
  wpAny_mono (h pins s σ H Q (I.wish _) hw) (fun _ _ ⟨v, H', I', r, q⟩ => ⟨v, H', I'.unwish, r, q⟩) fun _ _ z => False.elim z
theorem PT.nox {e : Expr} {t : TT} (h : PT X.nox e t) : PT X e t := fun pins s σ H Q I hw =>
  wpAny_mono (h pins s σ H Q (I.wish _) hw) (fun _ _ ⟨H', I', q⟩ => ⟨H', I'.unwish, q⟩) fun _ _ z => False.elim z
theorem PSs.nox {st : List Stmt} {t : TS} (h : PSs X.nox st t) : PSs X st t := fun pins s σ H D I hw =>
  wpAny_mono (h pins s σ H D (I.wish _) hw) (fun _ _ q => q.unwish) fun _ _ z => False.elim z
end


section
variable {X : Cx} {st : Stmt} {rest : List Stmt} {t u : TS} {e : Expr} {te : TE} {pos : Pos}
def tNext : TS := fun D σ H => D.nx σ H
def tSeq (t u : TS) : TS := fun D σ H => t { D with nx := u D } σ H
theorem pss_nil : PSs X [] tNext := fun _ _ σ H _ I h => wpAny_execs_nil ⟨σ, H, I, h⟩
theorem pss_cons (h1 : PS X st t) (h2 : PSs X rest u) : PSs X (st :: rest) (tSeq t u) := by
  intro pins s σ H D I h
  refine wpAny_execs_cons (thn (h1 pins s σ H { D with nx := u D } I h) fun f s1 q => ?_)
  cases f with
  | next =>
    obtain ⟨σ', H', I', q⟩ := q
    exact h2 pins s1 σ' H' D I' q
  | ret v => exact q
  | brk => exact q
  | cont => exact q
theorem pss_one (h1 : PS X st t) : PSs X [st] t := by
  intro pins s σ H D I h
  refine wpAny_execs_cons (thn (h1 pins s σ H D I h) fun f s1 q => ?_)
  cases f with
  | next => exact wpAny_execs_nil q
  | ret v => exact q
  | brk => exact q
  | cont => exact q
theorem Inv.quiet {pins : List (Addr × Obj)} {σ : St} {H : Hp} {s : Shared} (I : Inv X pins σ H s) : interactive X.env = false := by simp [interactive, I.ok.kind]

def tDrop (te : TE) : TS := fun D σ H => te σ H fun _ H1 => D.nx σ H1
theorem ps_expr (he : PE X e te) (hs : swapsWith e none pos.line X.env = pure false := by rfl) : PS X (.Expr e pos) (tDrop te) := by
  intro pins s σ H D I h
  exact wpAny_Expr_any (thn (he pins s σ H _ I h) fun v s1 ⟨x, H1, I1, r1, q1⟩ => ⟨σ, H1, I1, q1⟩) I.quiet hs
def tRet (te : TE) : TS := fun D σ H => te σ H D.rt
theorem ps_ret (he : PE X e te) : PS X (.Return (some e) pos) (tRet te) := by
  intro pins s σ H D I h
  exact wpAny_Return_some (thn (he pins s σ H _ I h) fun v s1 ⟨x, H1, I1, r1, q1⟩ => ⟨x, σ, H1, I1, r1, q1⟩)
def tIfS (c : TT) (t u : TS) : TS := fun D σ H => c σ H fun b H1 => if b = true then t D σ H1 else u D σ H1
theorem ps_if {c : Expr} {a b : List Stmt} {tc : TT} (hc : PT X c tc) (ha : PSs X a t) (hb : PSs X b u) : PS X (.If c a b pos) (tIfS tc t u) := by
  intro pins s σ H D I h
  refine wpAny_If (thn (hc pins s σ H _ I h) fun d s1 ⟨H1, I1, q1⟩ => ?_)
  cases d with
  | true => exact ha pins s1 σ H1 D I1 q1
  | false => exact hb pins s1 σ H1 D I1 q1

end


abbrev TG := V → St → Hp → (St → Hp → Prop) → Prop
abbrev TGs := List V → St → Hp → (St → Hp → Prop) → Prop
def PG (X : Cx) (target : Expr) (t : TG) : Prop :=
  ∀ (pins : List (Addr × Obj)) (s : Shared) (σ : St) (H : Hp) (v : V) (u : Value) (Q : St → Hp → Prop), Inv X pins σ H s → RelV v u → t v σ H Q →
    wpAny (model X.prog X.w) X.A (assign target X.env u) (fun _ s' => ∃ σ' H', Inv X pins σ' H' s' ∧ Q σ' H') X.xe s

def PGs (X : Cx) (ts : List Expr) (t : TGs) : Prop :=
  ∀ (pins : List (Addr × Obj)) (s : Shared) (σ : St) (H : Hp) (vs : List V) (us : List Value) (Q : St → Hp → Prop), Inv X pins σ H s → Vals vs us → t vs σ H Q →
    wpAny (model X.prog X.w) X.A (assignInOrder ((assignEach ts X.env).map (·.2)) us) (fun _ s' => ∃ σ' H', Inv X pins σ' H' s' ∧ Q σ' H') X.xe s

abbrev TSet := V → V → V → Hp → (Hp → Prop) → Prop
def PSet (X : Cx) (t : TSet) : Prop :=
  ∀ (pins : List (Addr × Obj)) (s : Shared) (σ : St) (H : Hp) (o i v : V) (ov iv u : Value) (Q : Hp → Prop), Inv X pins σ H s → RelV o ov → RelV i iv → RelV v u → t o i v H Q →
    wpAny (model X.prog X.w) X.A (setItem ov iv u) (fun _ s' => ∃ H', Inv X pins σ H' s' ∧ Q H') X.xe s

section
variable {X : Cx} {pos : Pos}
def gName (i : Nat) : TG := fun v σ H Q => Q (σ.set i (some v)) H
theorem pg_name {i : Nat} {x : Str} (hN : X.N.Nodup) (hi : X.N[i]? = some x) (hx : Loc X.env.scope x) (hf : X.fn x = true ∨ X.env.scope.names.lookup x = some .local := by first | exact .inl rfl | exact .inr rfl | assumption) : PG X (.Name x pos) (gName i) := by
  intro pins s σ H v u Q I r h
  exact wpAny_assign_Name (store_ok I hN hi hx r (fun s' I' => ⟨_, H, I', h⟩) hf)
def gNil : TGs := fun vs σ H Q => vs = [] ∧ Q σ H
def gCons (t : TG) (u : TGs) : TGs := fun vs σ H Q => ∃ v r, vs = v :: r ∧ t v σ H fun σ' H' => u r σ' H' Q
theorem pgs_nil : PGs X [] gNil := by
  intro pins s σ H vs us Q I r h
  obtain ⟨e, h⟩ := h
  subst e
  cases r
  exact assignInOrder_nil ⟨σ, H, I, h⟩
theorem pgs_cons {e : Expr} {es : List Expr} {t : TG} {u : TGs} (h1 : PG X e t) (h2 : PGs X es u)
    (hs : (assignEach (e :: es) X.env).map (·.2) = assign e X.env :: (assignEach es X.env).map (·.2) := by rfl) : PGs X (e :: es) (gCons t u) := by
  intro pins s σ H vs us Q I r h
  obtain ⟨v, vr, e1, h⟩ := h
  subst e1
  cases r with
  | cons r rr =>
    rw [hs]
    refine assignInOrder_cons (thn (h1 pins s σ H _ _ _ I r h) fun _ s1 ⟨σ1, H1, I1, q1⟩ => ?_)
    exact h2 pins s1 σ1 H1 _ _ Q I1 rr q1

def gTup (K : PySem.W.Frag) (n : Nat) (t : TGs) : TG := fun v σ H Q => ∃ a xs, v = .ref a ∧ SqT K H a xs ∧ xs.length = n ∧ t xs σ H Q
theorem pg_tup {es : List Expr} {k : Nat} {t : TGs} {n : Nat} (hc : X.calm = true) (h : PGs X es t)
    (hn : (assignEach es X.env).length = n := by rfl) (hst : (assignEach es X.env).findIdx? (·.1) = none := by rfl) : PG X (.Tuple es k pos) (gTup X.K n t) := by
  intro pins s σ H v u Q I r hw
  obtain ⟨a, xs, e1, hq, hl, hw⟩ := hw
  subst e1
  cases r
  obtain ⟨its, rv, ht, hz⟩ := I.tuple hq
  refine assign_Tuple_tuple (I.ok.hd hc) ht (by simp [hn, ← hl, rv.length]) hst fun h' hx => ?_
  have I1 : Inv X pins σ H { s with heap := h' } := I.kept (t' := s.toks) fun b o e => hx b o (Nat.ne_of_lt (Heap.lt_size e)) e
  exact h pins _ σ H xs _ Q I1 (by simpa using rv) hw

def gSub (to ti : TE) (t : TSet) : TG := fun v σ H Q => to σ H fun o H1 => ti σ H1 fun i H2 => t o i v H2 fun H3 => Q σ H3
theorem pg_sub {o i : Expr} {to ti : TE} {t : TSet} (ho : PE X o to) (hi : PE X i ti) (hs : PSet X t)
    (ha : ∀ v, assign (.Subscript o i pos) X.env v = (do
      let ov ← holding [v] (eval o X.env)
      let iv ← holding [v, ov] (eval i X.env)
      standAt pos
      holding [v, ov, iv] (setItem ov iv v)
      release [v, ov, iv] []) := by intro _; rfl) : PG X (.Subscript o i pos) (gSub to ti t) := by
  intro pins s σ H v u Q I r h
  rw [ha]
  refine wpAny_bind (wpAny_holding (thn (ho pins s σ H _ I h) fun ov s1 ⟨x, H1, I1, r1, q1⟩ => ?_))
  refine wpAny_bind (wpAny_holding (thn (hi pins s1 σ H1 _ I1 q1) fun iv s2 ⟨y, H2, I2, r2, q2⟩ => ?_))
  refine wpAny_bind (wpAny_standAt (wpAny_bind (wpAny_holding (thn (hs pins s2 σ H2 x y v ov iv u _ I2 r1 r2 r q2) fun _ s3 ⟨H3, I3, q3⟩ => ?_))))
  exact wpAny_release ⟨σ, H3, I3, q3⟩

def tAsg (te : TE) (g : TG) : TS := fun D σ H => te σ H fun x H1 => g x σ H1 D.nx
theorem ps_asg {tg e : Expr} {te : TE} {g : TG} (he : PE X e te) (hg : PG X tg g) (hs : swapsWithSole [tg] e pos.line X.env = pure false := by rfl) (hw : swappedStores [tg] e X.env = pure none := by rfl)
    (h1 : (assignEach [tg] X.env).map (·.2) = [assign tg X.env] := by rfl) : PS X (.Assign [tg] e pos) (tAsg te g) := by
  intro pins s σ H D I h
  refine wpAny_Assign_stores (thn (he pins s σ H _ I h) fun v s1 ⟨x, H1, I1, r1, q1⟩ => ?_) hs hw
  rw [h1]
  exact thn (hg pins s1 σ H1 x v _ I1 r1 q1) fun _ s2 q => q

theorem ps_set {i : Nat} {x : Str} {e : Expr} {te : TE} {pos' : Pos} (hN : X.N.Nodup) (hi : X.N[i]? = some x) (hx : Loc X.env.scope x) (he : PE X e te) (hs : swapsWith e (some (.Name x pos')) pos.line X.env = pure false := by rfl) (hf : X.fn x = true ∨ X.env.scope.names.lookup x = some .local := by first | exact .inl rfl | exact .inr rfl | assumption) :
    PS X (.Assign [.Name x pos'] e pos) (tAsg te (gName i)) := by
  intro pins s σ H D I h
  refine wpAny_Assign_Name (thn (he pins s σ H _ I h) fun v s1 ⟨y, H1, I1, r1, q1⟩ => ?_) hs
  exact store_ok I1 hN hi hx r1 (fun s2 I2 => ⟨_, H1, I2, q1⟩) hf

end


section
variable {X : Cx} {pos : Pos}

end



structure It where
  go : Nat → Hp → Prop
  yld : Nat → Hp → V → Hp → Prop
  stop : Nat → Hp → Prop

def FpOk (X : Cx) (pins : List (Addr × Obj)) (H : Hp) (b : Addr) : Prop :=
  H b = none ∧ b ≠ X.env.locals ∧ b ∉ X.fs ∧ (b ∈ X.ex ∨ X.s₀.heap.objs.size ≤ b) ∧ (∀ x c, X.env.cells.lookup x = some c → c ≠ b) ∧ ∀ p ∈ X.pn ++ pins, p.1 ≠ b
theorem Inv.fpOk {X : Cx} {pins : List (Addr × Obj)} {σ : St} {H H' : Hp} {s : Shared} {b : Addr} (I : Inv X pins σ H s) (hb : s.heap.objs.size ≤ b) (hn : H' b = none) : FpOk X pins H' b := by
  refine ⟨hn, Nat.ne_of_gt (Nat.lt_of_lt_of_le I.lt hb), I.nofs hb, .inr (Nat.le_trans I.sz hb), fun x c e z => ?_, fun p hp z => ?_⟩
  · obtain ⟨v, q⟩ := I.cell x c e
    exact absurd (Nat.lt_of_lt_of_le q.lt (by rw [z]; exact hb)) (Nat.lt_irrefl _)
  · exact absurd (Nat.lt_of_lt_of_le (Heap.lt_size (I.pin p hp).1) (by rw [z]; exact hb)) (Nat.lt_irrefl _)
structure Turn (P : Program) (w : World) (K : PySem.W.Frag) (tg : Expr) (J : It) (fp : List Addr) (it : Addr) (tn : Nat → Heap → Prop) : Prop where
  mem : it ∈ fp
  obj : ∀ i h, tn i h → ∀ b ∈ fp, ∃ o, h.get? b = some o ∧ ∀ v, o.data ≠ .cell v
  keep : ∀ i h h', tn i h → (∀ b ∈ fp, ∀ o, h.get? b = some o → h'.get? b = some o) → tn i h'
  item : ∀ (X : Cx), X.prog = P → X.w = w → X.K = K → X.calm = true → ∀ (i : Nat) (pins : List (Addr × Obj)) (s : Shared) (σ : St) (H : Hp) (E : Value → Shared → Prop), Inv X pins σ H s → (∀ b ∈ fp, FpOk X pins H b) → tn i s.heap → J.go i H →
    wpAny (model P w) X.A (pyNext (.ref it)) (fun r s1 => ∃ u, r = some u ∧
      wpAny (model P w) X.A (letOwnedTupleGo tg (.ref it) u) (fun _ s2 => ∃ x H', Inv X pins σ H' s2 ∧ RelV x u ∧ J.yld i H x H' ∧ tn (i + 1) s2.heap ∧ ∀ b ∈ fp, H' b = none) E s1) E s
  done : ∀ (X : Cx), X.prog = P → X.w = w → X.K = K → X.calm = true → ∀ (i : Nat) (pins : List (Addr × Obj)) (s : Shared) (σ : St) (H : Hp) (E : Value → Shared → Prop), Inv X pins σ H s → (∀ b ∈ fp, FpOk X pins H b) → tn i s.heap → J.stop i H →
    wpAny (model P w) X.A (pyNext (.ref it)) (fun r s1 => r = none ∧ Inv X pins σ H s1) E s
  self : ∀ (A : Around) (i : Nat) (s : Shared) (Q : Value → Shared → Prop) (E : Value → Shared → Prop), tn i s.heap → Q (.ref it) s → wpAny (model P w) A (pyIter (.ref it)) Q E s
abbrev TI := St → Hp → (It → Hp → Prop) → Prop

def PIE (X : Cx) (pins : List (Addr × Obj)) (σ : St) (tg : Expr) (R : It → Hp → Prop) (itv : Value) (s2 : Shared) : Prop :=
  ∃ (it : Addr) (fp : List Addr) (tn : Nat → Heap → Prop) (J : It) (H' : Hp), itv = .ref it ∧ Inv X pins σ H' s2 ∧ Turn X.prog X.w X.K tg J fp it tn ∧ tn 0 s2.heap ∧ (∀ b ∈ fp, FpOk X pins H' b) ∧ R J H'
def PI (X : Cx) (tg iter : Expr) (wi : TI) : Prop :=
  ∀ (pins : List (Addr × Obj)) (s : Shared) (σ : St) (H : Hp) (R : It → Hp → Prop), Inv X pins σ H s → wi σ H R →
    wpAny (model X.prog X.w) X.A (eval iter X.env) (fun v s1 => wpAny (model X.prog X.w) X.A (pyIter v) (PIE X pins σ tg R) X.xe s1) X.xe s


theorem go_of {M : Model} {A : Around} {E : Value → Shared → Prop} {s : Shared} {tg : Expr} {it : Addr} {u : Value} {o : Obj} {n : String} {vs : Array Value} {Q : Unit → Shared → Prop} (ho : s.heap.get? it = some o) (hc : o.cls = .type n) (hd : o.data = .fields vs)
    (hn : ["enumerate", "zip", "dict_itemiterator", "dict_reverseitemiterator", "odict_iterator", "itertools.zip_longest", "itertools.pairwise"].contains n = false) (hQ : Q () s) : wpAny M A (letOwnedTupleGo tg (.ref it) u) Q E s := by
  unfold letOwnedTupleGo
  cases tg <;> first
    | exact wpAny_pure hQ
    | (cases u <;> first
        | exact wpAny_pure hQ
        | (refine wpAny_bind (wpAny_load ho ?_)
           rw [hc, hd]
           show wpAny M A (if (["enumerate", "zip", "dict_itemiterator", "dict_reverseitemiterator", "odict_iterator", "itertools.zip_longest", "itertools.pairwise"].contains n && vs[0]? == some (rawInt _)) = true then _ else _) Q E s
           rw [if_neg (by intro h; rw [hn, Bool.false_and] at h; cases h)]
           exact wpAny_pure hQ))


def Itl (K : PySem.W.Frag) (a : Addr) : It :=
  ⟨fun i H => ∃ xs x, SqL K H a xs ∧ xs[i]? = some x, fun i H x H' => H' = H ∧ ∀ xs, SqL K H a xs → xs[i]? = some x, fun i H => ∃ xs, SqL K H a xs ∧ xs.length ≤ i⟩
def Itt (K : PySem.W.Frag) (a : Addr) : It :=
  ⟨fun i H => ∃ xs x, SqT K H a xs ∧ xs[i]? = some x, fun i H x H' => H' = H ∧ ∀ xs, SqT K H a xs → xs[i]? = some x, fun i H => ∃ xs, SqT K H a xs ∧ xs.length ≤ i⟩

def Itr (lo : Int) (n : Nat) : It := ⟨fun i _ => i < n, fun i H x H' => H' = H ∧ x = .int (lo + i), fun i _ => n ≤ i⟩
theorem turn_list {P : Program} {w : World} {K : PySem.W.Frag} {tg : Expr} (a it : Addr) : Turn P w K tg (Itl K a) [it] it (fun i h => h.IsListIter it a i) where
  mem := by simp
  obj := fun i h st b hb => by
    have e : b = it := by simpa using hb
    subst e
    obtain ⟨o, e, c, d⟩ := st
    exact ⟨o, e, fun v z => by rw [d] at z; cases z⟩
  keep := fun i h h' st k => st.at fun o e => k it (by simp) o e
  item := by
    intro X hP hw hK hc i pins s σ H E I hf st hg
    subst hP hw hK
    obtain ⟨xs, x, hq, hx⟩ := hg
    obtain ⟨its, rv, p, hz⟩ := I.list hq
    obtain ⟨u, hu, ru⟩ := rv.get hx
    obtain ⟨f0, f1, f2, f3, f4, f5⟩ := hf it (by simp)
    refine wpAny_pyNext_list_item st p.isList (x := u) (by simpa using hu) fun h' st' sb => ?_
    have I1 : Inv X pins σ H { s with heap := h' } := I.turned (t' := s.toks) (fun b o hb e => (sb.2 b hb).trans e) f0 f1 f3 f4 f5
    obtain ⟨o, e, c, d⟩ := id st'
    exact ⟨u, rfl, go_of (s := { s with heap := h' }) e c d (by decide) ⟨x, H, I1, ru, ⟨rfl, fun ys hy => by rw [I.list_inj hy hq]; exact hx⟩, st', fun b hb => (hf b hb).1⟩⟩
  done := by
    intro X hP hw hK hc i pins s σ H E I hf st hg
    subst hP hw hK
    obtain ⟨xs, hq, hx⟩ := hg
    obtain ⟨its, rv, p, hz⟩ := I.list hq
    obtain ⟨f0, f1, f2, f3, f4, f5⟩ := hf it (by simp)
    have hl := rv.length
    exact wpAny_pyNext_list_end (I.ok.hd hc) st p.isList (by simp; omega) fun h' eb => ⟨rfl, I.turned (t' := s.toks) (fun b o hb e => eb b o hb e) f0 f1 f3 f4 f5⟩
  self := fun _ _ _ _ _ st h => wpAny_pyIter_listiter st h
theorem turn_tuple {P : Program} {w : World} {K : PySem.W.Frag} {tg : Expr} (a it : Addr) : Turn P w K tg (Itt K a) [it] it (fun i h => h.IsTupleIter it a i) where
  mem := by simp
  obj := fun i h st b hb => by
    have e : b = it := by simpa using hb
    subst e
    obtain ⟨o, e, c, d⟩ := st
    exact ⟨o, e, fun v z => by rw [d] at z; cases z⟩
  keep := fun i h h' st k => st.at fun o e => k it (by simp) o e
  item := by
    intro X hP hw hK hc i pins s σ H E I hf st hg
    subst hP hw hK
    obtain ⟨xs, x, hq, hx⟩ := hg
    obtain ⟨its, rv, p, hz⟩ := I.tuple hq
    obtain ⟨u, hu, ru⟩ := rv.get hx
    obtain ⟨f0, f1, f2, f3, f4, f5⟩ := hf it (by simp)
    refine wpAny_pyNext_tuple_item st (show s.heap.IsTuple a its.toArray from p) (x := u) (by simpa using hu) fun h' st' sb => ?_
    have I1 : Inv X pins σ H { s with heap := h' } := I.turned (t' := s.toks) (fun b o hb e => (sb.2 b hb).trans e) f0 f1 f3 f4 f5
    obtain ⟨o, e, c, d⟩ := id st'
    exact ⟨u, rfl, go_of (s := { s with heap := h' }) e c d (by decide) ⟨x, H, I1, ru, ⟨rfl, fun ys hy => by rw [I.tuple_inj hy hq]; exact hx⟩, st', fun b hb => (hf b hb).1⟩⟩
  done := by
    intro X hP hw hK hc i pins s σ H E I hf st hg
    subst hP hw hK
    obtain ⟨xs, hq, hx⟩ := hg
    obtain ⟨its, rv, p, hz⟩ := I.tuple hq
    obtain ⟨f0, f1, f2, f3, f4, f5⟩ := hf it (by simp)
    have hl := rv.length
    exact wpAny_pyNext_tuple_end (I.ok.hd hc) st (show s.heap.IsTuple a its.toArray from p) (by simp; omega) fun h' eb => ⟨rfl, I.turned (t' := s.toks) (fun b o hb e => eb b o hb e) f0 f1 f3 f4 f5⟩
  self := fun _ _ _ _ _ st h => wpAny_pyIter_tupleiter st h
theorem turn_range {P : Program} {w : World} {K : PySem.W.Frag} {tg : Expr} (it : Addr) (lo : Int) (n : Nat) : Turn P w K tg (Itr lo n) [it] it (fun i h => IsRangeIter h it (lo + (i : Nat) * 1) ((n : Int) - (i : Nat)) 1) where
  mem := by simp
  obj := fun i h st b hb => by
    have e : b = it := by simpa using hb
    subst e
    exact ⟨_, st, fun v z => by
      have z' : Data.fields _ = Data.cell v := z
      cases z'⟩
  keep := fun i h h' st k => k it (by simp) _ st
  item := by
    intro X hP hw hK hc i pins s σ H E I hf st hg
    subst hP hw hK
    obtain ⟨f0, f1, f2, f3, f4, f5⟩ := hf it (by simp)
    have W := Walks.range (prog := X.prog) (w := X.w) (I.ok.hd hc) it lo 1 n
    refine W.item i s _ _ hg st fun v h' tk hv st' kk => ?_
    obtain ⟨t, rfl⟩ := hv
    have I1 : Inv X pins σ H { s with heap := h', toks := tk } := I.turned (fun b o hb e => kk b o (by simpa using hb) e) f0 f1 f3 f4 f5
    refine ⟨_, rfl, go_of (s := { s with heap := h', toks := tk }) (n := "range_iterator") st' rfl rfl (by decide) ⟨.int (lo + i), H, I1, ⟨t, ?_⟩, ⟨rfl, rfl⟩, st', fun b hb => (hf b hb).1⟩⟩
    rw [Int.mul_one]
  done := by
    intro X hP hw hK hc i pins s σ H E I hf st hg
    subst hP hw hK
    obtain ⟨f0, f1, f2, f3, f4, f5⟩ := hf it (by simp)
    exact wpAny_pyNext_range_end (I.ok.hd hc) st (by have : n ≤ i := hg; omega) fun h' eb => ⟨rfl, I.turned (t' := s.toks) (fun b o hb e => eb b o hb e) f0 f1 f3 f4 f5⟩
  self := fun _ _ _ _ _ st h => wpAny_pyIter_rangeiter st h
end L2

namespace L2
open PySem PySem.Spec PyProof.Rows
section
variable {X : Cx} {tg : Expr}
def iList (K : PySem.W.Frag) (tl : TE) : TI := fun σ H R => tl σ H fun x H1 => ∃ a, x = .ref a ∧ (∃ xs, SqL K H1 a xs) ∧ R (Itl K a) H1
def iTup (K : PySem.W.Frag) (tl : TE) : TI := fun σ H R => tl σ H fun x H1 => ∃ a, x = .ref a ∧ (∃ xs, SqT K H1 a xs) ∧ R (Itt K a) H1
theorem pi_list {l : Expr} {tl : TE} (hl : PE X l tl) : PI X tg l (iList X.K tl) := by
  intro pins s σ H R I h
  refine thn (hl pins s σ H _ I h) fun v s1 ⟨x, H1, I1, r1, q1⟩ => ?_
  obtain ⟨a, e, ⟨xs, hq⟩, q⟩ := q1
  subst e
  cases r1
  obtain ⟨its, rv, p, hz⟩ := I1.list hq
  refine wpAny_pyIter_list p.isList ?_
  refine ⟨s1.heap.objs.size, [s1.heap.objs.size], _, _, H1, rfl, I1.kept (t' := s1.toks) fun b o e => Heap.get?_push_of_some _ e, turn_list a _, ⟨_, Heap.get?_push_size _ rfl, rfl, rfl⟩, fun b hb => ?_, q⟩
  have e : b = s1.heap.objs.size := by simpa using hb
  subst e
  exact I1.fpOk (Nat.le_refl _) (I1.hok.fresh (Nat.le_refl _))
theorem pi_tup {l : Expr} {tl : TE} (hl : PE X l tl) : PI X tg l (iTup X.K tl) := by
  intro pins s σ H R I h
  refine thn (hl pins s σ H _ I h) fun v s1 ⟨x, H1, I1, r1, q1⟩ => ?_
  obtain ⟨a, e, ⟨xs, hq⟩, q⟩ := q1
  subst e
  cases r1
  obtain ⟨its, rv, p, hz⟩ := I1.tuple hq
  refine wpAny_pyIter_tuple (show s1.heap.IsTuple a its.toArray from p) ?_
  refine ⟨s1.heap.objs.size, [s1.heap.objs.size], _, _, H1, rfl, I1.kept (t' := s1.toks) fun b o e => Heap.get?_push_of_some _ e, turn_tuple a _, ⟨_, Heap.get?_push_size _ rfl, rfl, rfl⟩, fun b hb => ?_, q⟩
  have e : b = s1.heap.objs.size := by simpa using hb
  subst e
  exact I1.fpOk (Nat.le_refl _) (I1.hok.fresh (Nat.le_refl _))

theorem range_it {pins : List (Addr × Obj)} {σ : St} {H : Hp} {s : Shared} {R : It → Hp → Prop} {E : Value → Shared → Prop} {lo hi : Int} {t u v : Tok} {tk : Nat} (I : Inv X pins σ H s) (h1 : -(2 ^ 62) ≤ lo) (h2 : lo < 2 ^ 62) (h3 : -(2 ^ 62) ≤ hi) (h4 : hi < 2 ^ 62)
    (q : R (Itr lo (hi - lo).toNat) H) : wpAny (model X.prog X.w) X.A (pyIter (.ref s.heap.objs.size)) (PIE X pins σ tg R) E { s with heap := s.heap.push { cls := .type "range", data := .fields #[.int lo t, .int hi u, .int 1 v] }, toks := tk } := by
  refine wpAny_pyIter_range (IsRange.new ..) (small_one h1 h2 h3 h4) ?_
  have I1 : Inv X pins σ H { s with heap := s.heap.push { cls := .type "range", data := .fields #[.int lo t, .int hi u, .int 1 v] }, toks := tk } := I.kept fun b o e => Heap.get?_push_of_some _ e
  refine ⟨(s.heap.push { cls := .type "range", data := .fields #[.int lo t, .int hi u, .int 1 v] }).objs.size, [(s.heap.push { cls := .type "range", data := .fields #[.int lo t, .int hi u, .int 1 v] }).objs.size], _, _, H, rfl,
    I1.kept (t' := tk) fun b o e => Heap.get?_push_of_some _ e, turn_range _ lo (hi - lo).toNat, ?_, fun b hb => ?_, q⟩
  · have e1 : lo + ((0 : Nat) : Int) * 1 = lo := by simp
    have e2 : (((hi - lo).toNat : Nat) : Int) - ((0 : Nat) : Int) = Builtin.Range.rangeSize lo hi 1 := by rw [rangeSize_one]; split <;> omega
    show IsRangeIter _ _ (lo + ((0 : Nat) : Int) * 1) ((((hi - lo).toNat : Nat) : Int) - ((0 : Nat) : Int)) 1
    rw [e1, e2]
    exact Heap.get?_push_size _ rfl
  · have e : b = (s.heap.push { cls := .type "range", data := .fields #[.int lo t, .int hi u, .int 1 v] }).objs.size := by simpa using hb
    subst e
    exact I1.fpOk (Nat.le_refl _) (I1.hok.fresh (Nat.le_refl _))
def iRng1 (ta : TA) : TI := fun σ H R => ta σ H fun vs H1 => ∃ j : Int, vs = [.int j] ∧ -(2 ^ 62) ≤ j ∧ j < 2 ^ 62 ∧ R (Itr 0 j.toNat) H1
def iRng2 (ta : TA) : TI := fun σ H R => ta σ H fun vs H1 => ∃ i j : Int, vs = [.int i, .int j] ∧ (-(2 ^ 62) ≤ i ∧ i < 2 ^ 62 ∧ -(2 ^ 62) ≤ j ∧ j < 2 ^ 62) ∧ R (Itr i (j - i).toNat) H1
theorem pi_range1 {a : Expr} {ta : TA} {p pos : Pos} (hg : Gl X "range") (hm : X.mg "range" = none) (ha : PA X [a] ta) (hs : starEach [a] X.env = [(false, eval a X.env)] := by rfl) : PI X tg (.Call (.Name "range" p) [a] [] pos) (iRng1 ta) := by
  intro pins s σ H R I h
  refine Call_ (ld_blt I hg hm boot_range (PyProof.Rows.callWith_type1 (thn (ha pos pins s σ H _ I h) fun us s1 ⟨vs, H1, I1, r1, q1⟩ => ?_) hs rfl))
  obtain ⟨j, e, q1, q2, q⟩ := q1
  subst e
  cases r1 with
  | cons r rr =>
    cases rr
    obtain ⟨t, rfl⟩ := r
    exact call_range_1 (range_it I1 (by omega) (by omega) q1 q2 (by simpa using q))
theorem pi_range2 {a b : Expr} {ta : TA} {p pos : Pos} (hg : Gl X "range") (hm : X.mg "range" = none) (ha : PA X [a, b] ta) (hs : starEach [a, b] X.env = [(false, eval a X.env), (false, eval b X.env)] := by rfl) (hs2 : starEach [b] X.env = [(false, eval b X.env)] := by rfl) :
    PI X tg (.Call (.Name "range" p) [a, b] [] pos) (iRng2 ta) := by
  intro pins s σ H R I h
  refine Call_ (ld_blt I hg hm boot_range (PyProof.Rows.callWith_type1 (thn (ha pos pins s σ H _ I h) fun us s1 ⟨vs, H1, I1, r1, q1⟩ => ?_) (by rw [hs, hs2]) (by rw [hs2]; rfl)))
  obtain ⟨i, j, e, ⟨q1, q2, q3, q4⟩, q⟩ := q1
  subst e
  cases r1 with
  | cons r rr =>
    cases rr with
    | cons r' rr =>
      cases rr
      obtain ⟨t, rfl⟩ := r
      obtain ⟨t', rfl⟩ := r'
      exact call_range_2 (range_it I1 q1 q2 q3 q4 q)



def tFor (wi : TI) (g : TG) (tb : TS) : TS := fun D σ H => wi σ H fun J H1 => ∃ W : Nat → Nat → St → Hp → Prop, (∃ m, W 0 m σ H1) ∧ ∀ i m σ H, W i m σ H →
  (J.stop i H ∧ D.nx σ H) ∨ (J.go i H ∧ ∃ N : St → Hp → Prop, (∀ σ' H', N σ' H' → ∃ m', m' < m ∧ W (i + 1) m' σ' H') ∧ ∀ x H', J.yld i H x H' → g x σ H' fun σ2 H2 => tb { D with nx := N, ct := N, bk := D.nx } σ2 H2)

def pinsAt (fp : List Addr) (h : Heap) : List (Addr × Obj) := fp.filterMap fun b => (h.get? b).map fun o => (b, o)
theorem mem_pinsAt {fp : List Addr} {h : Heap} {b : Addr} {o : Obj} (hb : b ∈ fp) (e : h.get? b = some o) : (b, o) ∈ pinsAt fp h := List.mem_filterMap.mpr ⟨b, hb, by rw [e]; rfl⟩
theorem of_pinsAt {fp : List Addr} {h : Heap} {p : Addr × Obj} (hp : p ∈ pinsAt fp h) : p.1 ∈ fp ∧ h.get? p.1 = some p.2 := by
  obtain ⟨b, hb, e⟩ := List.mem_filterMap.mp hp
  cases q : h.get? b with
  | none => rw [q] at e; cases e
  | some o =>
    rw [q] at e
    have e' : (b, o) = p := Option.some.inj e
    subst e'
    exact ⟨hb, q⟩
theorem Inv.pinned {pins : List (Addr × Obj)} {σ : St} {H : Hp} {s : Shared} {fp : List Addr} (I : Inv X pins σ H s) (hf : ∀ b ∈ fp, FpOk X pins H b) (ho : ∀ b ∈ fp, ∃ o, s.heap.get? b = some o ∧ ∀ v, o.data ≠ .cell v) : Inv X (pins ++ pinsAt fp s.heap) σ H s :=
  I.pins_of fun p hp => (List.mem_append.mp hp).elim (fun z => I.pin p (List.mem_append_right _ z)) fun z => by
    obtain ⟨hb, e⟩ := of_pinsAt z
    obtain ⟨f0, f1, f2, _⟩ := hf p.1 hb
    obtain ⟨o, e', d⟩ := ho p.1 hb
    rw [e] at e'; cases e'
    exact ⟨e, f0, f1, f2, d⟩
theorem Inv.unpinned {pins pl : List (Addr × Obj)} {σ : St} {H : Hp} {s : Shared} (I : Inv X (pins ++ pl) σ H s) : Inv X pins σ H s := I.pins_of fun p hp => I.pin p (List.mem_append_right _ (List.mem_append_left _ hp))
theorem ps_for {iter : Expr} {body : List Stmt} {wi : TI} {g : TG} {tb : TS} {pos : Pos} (hp : PassesOwn (model X.prog X.w) X.A X.env X.xe) (hc : X.calm = true) (hi : PI X tg iter wi) (hg : PG X tg g) (hb : PSs X body tb)
    (hs : ∀ x, foldedSetIterable iter X.env x = pure x := by intro _; rfl) : PS X (.For tg iter body [] pos) (tFor wi g tb) := by
  intro pins s σ H D I h
  refine wpAny_For (thn (hi pins s σ H _ I h) fun v s1 h1 => thn h1 fun itv s2 h2 => ?_) hs
  obtain ⟨it, fp, tn, J, H2, e, I2, T, st2, f2, W, ⟨m0, w0⟩, turn⟩ := h2
  subst e
  -- what stays true of the iterator's objects through the loop
  have stat : ∀ {H' : Hp}, (∀ b ∈ fp, H' b = none) → ∀ b ∈ fp, FpOk X pins H' b := fun hn b hb => ⟨hn b hb, (f2 b hb).2⟩
  refine codeAny_forLoop_any (fun n s' => ∃ i σ' H', Inv X pins σ' H' s' ∧ tn i s'.heap ∧ (∀ b ∈ fp, H' b = none) ∧ W i n σ' H') ?_ m0 ⟨0, σ, H2, I2, st2, fun b hb => (f2 b hb).1, w0⟩
  rintro n s3 ⟨i, σ3, H3, I3, st3, fr3, w3⟩
  rcases turn i n σ3 H3 w3 with ⟨stop, qn⟩ | ⟨go, N, hN, step⟩
  · refine wpAny_passesOwn hp (thn (T.done X rfl rfl rfl hc i pins s3 σ3 H3 X.xe I3 (stat fr3) st3 stop) fun r s4 ⟨hr, I4⟩ => ?_)
    subst hr
    exact wpAny_execs_nil ⟨σ3, H3, I4, qn⟩
  · refine wpAny_passesOwn hp (thn (T.item X rfl rfl rfl hc i pins s3 σ3 H3 X.xe I3 (stat fr3) st3 go) fun r s4 ⟨u, hr, h4⟩ => ?_)
    subst hr
    refine wpAny_passesOwn hp (thn h4 fun _ s5 ⟨x, H5, I5, r5, y5, st5, fr5⟩ => ?_)
    have I5' := I5.pinned (stat fr5) (T.obj _ _ st5)
    refine wpAny_passesOwn hp (thn (hg _ s5 σ3 H5 x u _ I5' r5 (step x H5 y5)) fun _ s6 ⟨σ6, H6, I6, q6⟩ => ?_)
    refine wpAny_passesOwn hp (thn (hb _ s6 σ6 H6 _ I6 q6) fun f s7 q7 => ?_)
    have again : ∀ {σ7 : St} {H7 : Hp}, Inv X (pins ++ pinsAt fp s5.heap) σ7 H7 s7 → N σ7 H7 → ∃ m, m < n ∧ ∃ i σ' H', Inv X pins σ' H' s7 ∧ tn i s7.heap ∧ (∀ b ∈ fp, H' b = none) ∧ W i m σ' H' := fun {σ7 H7} I7 n7 => by
      obtain ⟨m', hm, w7⟩ := hN σ7 H7 n7
      refine ⟨m', hm, i + 1, σ7, H7, I7.unpinned, T.keep _ _ _ st5 fun b hb o e => (I7.pin (b, o) (List.mem_append_right _ (List.mem_append_right _ (mem_pinsAt hb e)))).1, fun b hb => ?_, w7⟩
      obtain ⟨o, e, d⟩ := T.obj _ _ st5 b hb
      exact (I7.pin (b, o) (List.mem_append_right _ (List.mem_append_right _ (mem_pinsAt hb e)))).2.1
    cases f with
    | next => obtain ⟨σ7, H7, I7, n7⟩ := q7; exact again I7 n7
    | cont => obtain ⟨σ7, H7, I7, n7⟩ := q7; exact again I7 n7
    | brk => obtain ⟨σ7, H7, I7, q7⟩ := q7; exact ⟨σ7, H7, I7.unpinned, q7⟩
    | ret v => obtain ⟨x7, σ7, H7, I7, r7, q7⟩ := q7; exact ⟨x7, σ7, H7, I7.unpinned, r7, q7⟩
end



theorem for_tup {K : PySem.W.Frag} {a : Addr} {xs : List V} {g : TG} {tb : TS} {D : Ends} {σ : St} {H : Hp} (Pv : Nat → St → Hp → Prop) (h0 : Pv 0 σ H) (hl : ∀ i σ H, i ≤ xs.length → Pv i σ H → SqT K H a xs)
    (hs : ∀ i x σ H, xs[i]? = some x → Pv i σ H → g x σ H fun σ2 H2 => tb { D with nx := Pv (i + 1), ct := Pv (i + 1), bk := D.nx } σ2 H2) (hd : ∀ σ H, Pv xs.length σ H → D.nx σ H) :
    ∃ W : Nat → Nat → St → Hp → Prop, (∃ m, W 0 m σ H) ∧ ∀ i m σ H, W i m σ H →
      ((Itt K a).stop i H ∧ D.nx σ H) ∨ ((Itt K a).go i H ∧ ∃ N : St → Hp → Prop, (∀ σ' H', N σ' H' → ∃ m', m' < m ∧ W (i + 1) m' σ' H') ∧ ∀ x H', (Itt K a).yld i H x H' → g x σ H' fun σ2 H2 => tb { D with nx := N, ct := N, bk := D.nx } σ2 H2) := by
  refine ⟨fun i m σ H => m = xs.length - i ∧ i ≤ xs.length ∧ Pv i σ H, ⟨xs.length, by simp, Nat.zero_le _, h0⟩, ?_⟩
  rintro i m σ H ⟨rfl, hi, p⟩
  have q := hl i σ H hi p
  by_cases hlt : i < xs.length
  · refine .inr ⟨⟨xs, xs[i], q, by simp [hlt]⟩, Pv (i + 1), fun σ' H' p' => ⟨xs.length - (i + 1), by omega, rfl, hlt, p'⟩, fun x H' y => ?_⟩
    obtain ⟨e, y⟩ := y
    subst e
    exact hs i x σ _ (y xs q) p
  · have e : i = xs.length := by omega
    subst e
    exact .inl ⟨⟨xs, q, Nat.le_refl _⟩, hd σ H p⟩
theorem for_range {lo : Int} {n : Nat} {g : TG} {tb : TS} {D : Ends} {σ : St} {H : Hp} (Pv : Nat → St → Hp → Prop) (h0 : Pv 0 σ H)
    (hs : ∀ i σ H, i < n → Pv i σ H → g (.int (lo + i)) σ H fun σ2 H2 => tb { D with nx := Pv (i + 1), ct := Pv (i + 1), bk := D.nx } σ2 H2) (hd : ∀ σ H, Pv n σ H → D.nx σ H) :
    ∃ W : Nat → Nat → St → Hp → Prop, (∃ m, W 0 m σ H) ∧ ∀ i m σ H, W i m σ H →
      ((Itr lo n).stop i H ∧ D.nx σ H) ∨ ((Itr lo n).go i H ∧ ∃ N : St → Hp → Prop, (∀ σ' H', N σ' H' → ∃ m', m' < m ∧ W (i + 1) m' σ' H') ∧ ∀ x H', (Itr lo n).yld i H x H' → g x σ H' fun σ2 H2 => tb { D with nx := N, ct := N, bk := D.nx } σ2 H2) := by
  refine ⟨fun i m σ H => m = n - i ∧ i ≤ n ∧ Pv i σ H, ⟨n, by simp, Nat.zero_le _, h0⟩, ?_⟩
  rintro i m σ H ⟨rfl, hi, p⟩
  by_cases hlt : i < n
  · refine .inr ⟨hlt, Pv (i + 1), fun σ' H' p' => ⟨n - (i + 1), by omega, rfl, hlt, p'⟩, fun x H' y => ?_⟩
    obtain ⟨e, y⟩ := y
    subst e y
    exact hs i σ _ hlt p
  · have e : i = n := by omega
    subst e
    exact .inl ⟨Nat.le_refl _, hd σ H p⟩

end L2

namespace L2
open PySem PySem.Spec PyProof.Rows

abbrev R2 := V → V → Hp → VK → Prop

def OpR (X : Cx) (f : Value → Value → Sem Value) (r : R2) : Prop :=
  ∀ (pins : List (Addr × Obj)) (s : Shared) (σ : St) (H : Hp) (x y : V) (v u : Value) (Q : VK), Inv X pins σ H s → RelV x v → RelV y u → r x y H Q →
    wpAny (model X.prog X.w) X.A (f v u) (EP X pins σ Q) X.xe s

def UnR (X : Cx) (f : Value → Sem Value) (r : V → Hp → VK → Prop) : Prop :=
  ∀ (pins : List (Addr × Obj)) (s : Shared) (σ : St) (H : Hp) (x : V) (v : Value) (Q : VK), Inv X pins σ H s → RelV x v → r x H Q →
    wpAny (model X.prog X.w) X.A (f v) (EP X pins σ Q) X.xe s

def CallR (X : Cx) (f : Value) (r : List V → Hp → VK → Prop) : Prop :=
  ∀ (pins : List (Addr × Obj)) (s : Shared) (σ : St) (H : Hp) (xs : List V) (us : List Value) (Q : VK), Inv X pins σ H s → Vals xs us → r xs H Q →
    wpAny (model X.prog X.w) X.A (call f us) (EP X pins σ Q) X.xe s

def tOp (r : R2) (ta tb : TE) : TE := fun σ H Q => ta σ H fun x H1 => tb σ H1 fun y H2 => r x y H2 Q
def tUn (r : V → Hp → VK → Prop) (ta : TE) : TE := fun σ H Q => ta σ H fun x H1 => r x H1 Q

def rI (C : Int → Int → Prop) (g : Int → Int → V) : R2 := fun x y H Q => ∃ i j, x = .int i ∧ y = .int j ∧ C i j ∧ Q (g i j) H
def rI0 (g : Int → Int → V) : R2 := fun x y H Q => ∃ i j, x = .int i ∧ y = .int j ∧ Q (g i j) H
def rU (g : Int → V) : V → Hp → VK → Prop := fun x H Q => ∃ i, x = .int i ∧ Q (g i) H

section
variable {X : Cx} {a b c : Expr} {ta tb tc : TE} {pos : Pos}

theorem binT (ha : PE X a ta) (hb : PE X b tb) {pins : List (Addr × Obj)} {s : Shared} {σ : St} {H : Hp} {R : V → V → Hp → Prop} (I : Inv X pins σ H s)
    (h : ta σ H fun x H1 => tb σ H1 fun y H2 => R x y H2) {Q : Value → Shared → Prop} {f : Value → Value → Sem Value}
    (hf : ∀ v u s2 x y H2, Inv X pins σ H2 s2 → RelV x v → RelV y u → R x y H2 → wpAny (model X.prog X.w) X.A (f v u) Q X.xe s2) :
    wpAny (model X.prog X.w) X.A (eval a X.env) (fun v s₁ => wpAny (model X.prog X.w) X.A (eval b X.env) (fun u s₂ => wpAny (model X.prog X.w) X.A (f v u) Q X.xe s₂) X.xe s₁) X.xe s := by
  refine thn (ha pins s σ H _ I h) fun v s1 ⟨x, H1, I1, r1, q1⟩ => ?_
  refine thn (hb pins s1 σ H1 _ I1 q1) fun u s2 ⟨y, H2, I2, r2, q2⟩ => ?_
  exact hf v u s2 x y H2 I2 r1 r2 q2

theorem pe_op {op : Operator} {r : R2} (ho : OpR X (binaryOp op) r) (ha : PE X a ta) (hb : PE X b tb) : PE X (.BinOp a op b pos) (tOp r ta tb) := by
  intro pins s σ H Q I h
  exact wpAny_BinOp (binT ha hb I h fun v u s2 x y H2 I2 rx ry q => ho pins s2 σ H2 x y v u Q I2 rx ry q)
theorem pe_un {op : UnaryOp} {r : V → Hp → VK → Prop} (ho : UnR X (unaryOp op) r) (ha : PE X a ta) : PE X (.UnaryOp op a pos) (tUn r ta) := by
  intro pins s σ H Q I h
  exact UnaryOp_ (thn (ha pins s σ H _ I h) fun v s1 ⟨x, H1, I1, r1, q1⟩ => ho pins s1 σ H1 x v Q I1 r1 q1)

theorem opI {f : Value → Value → Sem Value} {C : Int → Int → Prop} {g : Int → Int → Int}
    (rule : ∀ (i j : Int) (t u : Tok) (s : Shared) (Q : Value → Shared → Prop) (E : Value → Shared → Prop), C i j → Q (.int (g i j) s.toks) { s with toks := s.toks + 1 } → wpAny (model X.prog X.w) X.A (f (.int i t) (.int j u)) Q E s) :
    OpR X f (rI C fun i j => .int (g i j)) := by
  intro pins s σ H x y v u Q I rx ry h
  obtain ⟨i, j, rfl, rfl, hc, q⟩ := h
  obtain ⟨t, rfl⟩ := rx
  obtain ⟨t', rfl⟩ := ry
  exact rule i j t t' s _ _ hc ⟨.int (g i j), H, I.tok _, ⟨_, rfl⟩, q⟩
theorem opI0 {f : Value → Value → Sem Value} {g : Int → Int → Int}
    (rule : ∀ (i j : Int) (t u : Tok) (s : Shared) (Q : Value → Shared → Prop) (E : Value → Shared → Prop), Q (.int (g i j) s.toks) { s with toks := s.toks + 1 } → wpAny (model X.prog X.w) X.A (f (.int i t) (.int j u)) Q E s) :
    OpR X f (rI0 fun i j => .int (g i j)) := by
  intro pins s σ H x y v u Q I rx ry h
  obtain ⟨i, j, rfl, rfl, q⟩ := h
  obtain ⟨t, rfl⟩ := rx
  obtain ⟨t', rfl⟩ := ry
  exact rule i j t t' s _ _ ⟨.int (g i j), H, I.tok _, ⟨_, rfl⟩, q⟩
theorem opB0 {f : Value → Value → Sem Value} {g : Int → Int → Bool}
    (rule : ∀ (i j : Int) (t u : Tok) (s : Shared) (Q : Value → Shared → Prop) (E : Value → Shared → Prop), Q (.bool (g i j)) s → wpAny (model X.prog X.w) X.A (f (.int i t) (.int j u)) Q E s) :
    OpR X f (rI0 fun i j => .bl (g i j)) := by
  intro pins s σ H x y v u Q I rx ry h
  obtain ⟨i, j, rfl, rfl, q⟩ := h
  obtain ⟨t, rfl⟩ := rx
  obtain ⟨t', rfl⟩ := ry
  exact rule i j t t' s _ _ ⟨.bl (g i j), H, I, rfl, q⟩

def CDiv (i j : Int) : Prop := 0 < j ∧ j < 1073741824
def CPow (i j : Int) : Prop := 0 ≤ j ∧ j ≤ 1000000 ∧ i.natAbs < 2 ^ 64
def CMul (i j : Int) : Prop := (-(2 ^ 64) < i ∧ i < 2 ^ 64) ∨ (-(2 ^ 64) < j ∧ j < 2 ^ 64)
theorem CMul.ok {i j : Int} (h : CMul i j) : IntMulOk i j := by
  rcases h with ⟨h1, h2⟩ | ⟨h1, h2⟩
  · exact .of_left (intBits_le_64 h1 h2)
  · exact .of_right (intBits_le_64 h1 h2)
theorem op_add : OpR X (binaryOp .Add) (rI0 fun i j => .int (i + j)) := opI0 fun _ _ _ _ _ _ _ q => add_int q
theorem op_sub : OpR X (binaryOp .Sub) (rI0 fun i j => .int (i - j)) := opI0 fun _ _ _ _ _ _ _ q => sub_int q
theorem op_mul : OpR X (binaryOp .Mult) (rI CMul fun i j => .int (i * j)) := opI fun _ _ _ _ _ _ _ hc q => mul_int q hc.ok

theorem op_fdiv : OpR X (binaryOp .FloorDiv) (rI CDiv fun i j => .int (i / j)) := opI fun i j _ _ _ _ _ hc q => by
  have h1 : (0 : Int) < j := hc.1
  have h2 : j < 1073741824 := hc.2
  exact floordiv_int (by omega) (by rw [Int.fdiv_eq_ediv_of_nonneg i (by omega)]; exact q) (.inl (PyProof.noPylong_small (by omega)))
theorem op_mod : OpR X (binaryOp .Mod) (rI (fun _ j => 0 < j) fun i j => .int (i % j)) := opI fun i j _ _ _ _ _ hc q => by
  have h1 : (0 : Int) < j := hc
  exact mod_int' (by omega) (by rw [Int.fmod_eq_emod_of_nonneg i (by omega)]; exact q)
theorem op_pow : OpR X (binaryOp .Pow) (rI CPow fun i j => .int (i ^ j.toNat)) := opI fun _ _ _ _ _ _ _ hc q => pow_int_small hc.1 hc.2.1 hc.2.2 q
theorem op_and : OpR X (binaryOp .BitAnd) (rI0 fun i j => .int (Builtin.bitAnd i j)) := opI0 fun _ _ _ _ _ _ _ q => and_int q
theorem op_or : OpR X (binaryOp .BitOr) (rI0 fun i j => .int (Builtin.bitOr i j)) := opI0 fun _ _ _ _ _ _ _ q => or_int q
theorem op_xor : OpR X (binaryOp .BitXor) (rI0 fun i j => .int (Builtin.bitXor i j)) := opI0 fun _ _ _ _ _ _ _ q => xor_int q

theorem unI {f : Value → Sem Value} {g : Int → Int}
    (rule : ∀ (i : Int) (t : Tok) (s : Shared) (Q : Value → Shared → Prop) (E : Value → Shared → Prop), Q (.int (g i) s.toks) { s with toks := s.toks + 1 } → wpAny (model X.prog X.w) X.A (f (.int i t)) Q E s) :
    UnR X f (rU fun i => .int (g i)) := by
  intro pins s σ H x v Q I rx h
  obtain ⟨i, rfl, q⟩ := h
  obtain ⟨t, rfl⟩ := rx
  exact rule i t s _ _ ⟨.int (g i), H, I.tok _, ⟨_, rfl⟩, q⟩
theorem un_neg : UnR X (unaryOp .USub) (rU fun i => .int (-i)) := unI fun _ _ _ _ _ q => neg_int q
end



def scal : V → V → Bool
  | .non, .non => true | .non, .int _ => true | .int _, .non => true | .non, .bl _ => true | .bl _, .non => true | .non, .str _ => true | .str _, .non => true
  | .int _, .int _ => true | .bl _, .bl _ => true | .str _, .str _ => true | .byt _, .byt _ => true
  | .int _, .str _ => true | .str _, .int _ => true | .bl _, .str _ => true | .str _, .bl _ => true
  | _, _ => false
def rEq : R2 := fun x y H Q => scal x y = true ∧ Q (.bl (decide (x = y))) H
def rNe : R2 := fun x y H Q => scal x y = true ∧ Q (.bl (!decide (x = y))) H

theorem dec_int {i j : Int} : decide (V.int i = V.int j) = (i == j) := by
  rw [Bool.eq_iff_iff]
  simp
theorem dec_bl {i j : Bool} : decide (V.bl i = V.bl j) = (i == j) := by
  rw [Bool.eq_iff_iff]
  simp
theorem dec_str {i j : Str} : decide (V.str i = V.str j) = (i == j) := by
  rw [Bool.eq_iff_iff]
  simp
theorem dec_byt {i j : Array UInt8} : decide (V.byt i = V.byt j) = (i.toList == j.toList) := by
  rw [Bool.eq_iff_iff]
  cases i
  cases j
  simp

section
variable {X : Cx} {a b c : Expr} {ta tb tc : TE} {pos : Pos}
theorem fin_bl {pins : List (Addr × Obj)} {σ : St} {H : Hp} {s : Shared} {Q : VK} {k k' : Bool} (I : Inv X pins σ H s) (q : Q (.bl k) H) (e : k = k') : EP X pins σ Q (.bool k') s := by
  subst e
  exact ⟨.bl k, H, I, rfl, q⟩
theorem op_eq : OpR X (compareOp .Eq) rEq := by
  intro pins s σ H x y v u Q I rx ry h
  obtain ⟨hs, q⟩ := h
  cases x with
  | non =>
    cases rx
    cases y with
    | non => cases ry; exact PySem.EqNone.eq_none_none (fin_bl I q (by simp))
    | bl j => cases ry; exact PySem.EqNone.eq_none_bool (fin_bl I q (by simp))
    | int j => obtain ⟨t', rfl⟩ := ry; exact PySem.EqNone.eq_none_int (fin_bl I q (by simp))
    | str j => obtain ⟨t', rfl⟩ := ry; exact PySem.EqNone.eq_none_str (fin_bl I q (by simp))
    | _ => exact absurd (show false = true from hs) Bool.false_ne_true
  | bl i =>
    cases rx
    cases y with
    | non => cases ry; exact PySem.EqNone.eq_bool_none (fin_bl I q (by simp))
    | bl j => cases ry; exact eq_bool (fin_bl I q dec_bl)
    | str j => obtain ⟨t', rfl⟩ := ry; exact PySem.EqMixed.eq_bool_str (fin_bl I q (by simp))
    | _ => exact absurd (show false = true from hs) Bool.false_ne_true
  | int i =>
    obtain ⟨t, rfl⟩ := rx
    cases y with
    | non => cases ry; exact PySem.EqNone.eq_int_none (fin_bl I q (by simp))
    | int j => obtain ⟨t', rfl⟩ := ry; exact eq_int (fin_bl I q dec_int)
    | str j => obtain ⟨t', rfl⟩ := ry; exact PySem.EqMixed.eq_int_str (fin_bl I q (by simp))
    | _ => exact absurd (show false = true from hs) Bool.false_ne_true
  | str i =>
    obtain ⟨t, rfl⟩ := rx
    cases y with
    | non => cases ry; exact PySem.EqNone.eq_str_none (fin_bl I q (by simp))
    | bl j => cases ry; exact PySem.EqMixed.eq_str_bool (fin_bl I q (by simp))
    | int j => obtain ⟨t', rfl⟩ := ry; exact PySem.EqMixed.eq_str_int (fin_bl I q (by simp))
    | str j => obtain ⟨t', rfl⟩ := ry; exact eq_str (fin_bl I q dec_str)
    | _ => exact absurd (show false = true from hs) Bool.false_ne_true
  | byt i =>
    obtain ⟨t, rfl⟩ := rx
    cases y with
    | byt j => obtain ⟨t', rfl⟩ := ry; exact PySem.W.eq_bytes (fin_bl I q dec_byt)
    | _ => exact absurd (show false = true from hs) Bool.false_ne_true
  | _ => cases y <;> exact absurd (show false = true from hs) Bool.false_ne_true
theorem op_ne : OpR X (compareOp .NotEq) rNe := by
  intro pins s σ H x y v u Q I rx ry h
  obtain ⟨hs, q⟩ := h
  cases x with
  | non =>
    cases rx
    cases y with
    | non => cases ry; exact PySem.EqNone.ne_none_none (fin_bl I q (by simp))
    | bl j => cases ry; exact PySem.EqNone.ne_none_bool (fin_bl I q (by simp))
    | int j => obtain ⟨t', rfl⟩ := ry; exact PySem.EqNone.ne_none_int (fin_bl I q (by simp))
    | str j => obtain ⟨t', rfl⟩ := ry; exact PySem.EqNone.ne_none_str (fin_bl I q (by simp))
    | _ => exact absurd (show false = true from hs) Bool.false_ne_true
  | bl i =>
    cases rx
    cases y with
    | non => cases ry; exact PySem.EqNone.ne_bool_none (fin_bl I q (by simp))
    | bl j => cases ry; exact ne_bool (fin_bl I q (congrArg not dec_bl))
    | str j => obtain ⟨t', rfl⟩ := ry; exact PySem.EqMixed.ne_bool_str (fin_bl I q (by simp))
    | _ => exact absurd (show false = true from hs) Bool.false_ne_true
  | int i =>
    obtain ⟨t, rfl⟩ := rx
    cases y with
    | non => cases ry; exact PySem.EqNone.ne_int_none (fin_bl I q (by simp))
    | int j => obtain ⟨t', rfl⟩ := ry; exact ne_int (fin_bl I q (congrArg not dec_int))
    | str j => obtain ⟨t', rfl⟩ := ry; exact PySem.EqMixed.ne_int_str (fin_bl I q (by simp))
    | _ => exact absurd (show false = true from hs) Bool.false_ne_true
  | str i =>
    obtain ⟨t, rfl⟩ := rx
    cases y with
    | non => cases ry; exact PySem.EqNone.ne_str_none (fin_bl I q (by simp))
    | bl j => cases ry; exact PySem.EqMixed.ne_str_bool (fin_bl I q (by simp))
    | int j => obtain ⟨t', rfl⟩ := ry; exact PySem.EqMixed.ne_str_int (fin_bl I q (by simp))
    | str j => obtain ⟨t', rfl⟩ := ry; exact ne_str (fin_bl I q (congrArg not dec_str))
    | _ => exact absurd (show false = true from hs) Bool.false_ne_true
  | byt i =>
    obtain ⟨t, rfl⟩ := rx
    cases y with
    | byt j => obtain ⟨t', rfl⟩ := ry; exact PySem.W.ne_bytes (fin_bl I q (congrArg not dec_byt))
    | _ => exact absurd (show false = true from hs) Bool.false_ne_true
  | _ => cases y <;> exact absurd (show false = true from hs) Bool.false_ne_true

theorem op_lt : OpR X (compareOp .Lt) (rI0 fun i j => .bl (decide (i < j))) := opB0 fun _ _ _ _ _ _ _ q => lt_int q
theorem op_gt : OpR X (compareOp .Gt) (rI0 fun i j => .bl (decide (j < i))) := opB0 fun _ _ _ _ _ _ _ q => gt_int q
theorem op_ge : OpR X (compareOp .GtE) (rI0 fun i j => .bl (decide (j ≤ i))) := opB0 fun _ _ _ _ _ _ _ q => ge_int q
theorem nomark (b : Expr) {op : CmpOp} (h : op ≠ .In := by decide) (h2 : op ≠ .NotIn := by decide) : behindInMarks op b = false := by
  have e1 : (op == CmpOp.In) = false := by cases op <;> first | rfl | exact absurd rfl h
  have e2 : (op == CmpOp.NotIn) = false := by cases op <;> first | rfl | exact absurd rfl h2
  cases b <;> simp [behindInMarks, e1, e2]

theorem pe_cmpR {op : CmpOp} {r : R2} (ho : OpR X (compareOp op) r) (ha : PE X a ta) (hb : PE X b tb) (hm : behindInMarks op b = false) : PE X (.Compare a [op] [b] pos) (tOp r ta tb) := by
  intro pins s σ H Q I h
  exact wpAny_Compare1 (binT ha hb I h fun v u s2 x y H2 I2 rx ry q => ho pins s2 σ H2 x y v u Q I2 rx ry q) hm

def tTest (t : TE) : TT := fun σ H Q => t σ H fun x H' => ∃ k, x = .bl k ∧ Q k H'
theorem pt_cmpR {op : CmpOp} {r : R2} (ho : OpR X (compareOp op) r) (ha : PE X a ta) (hb : PE X b tb) (hm : behindInMarks op b = false) : PT X (.Compare a [op] [b] pos) (tTest (tOp r ta tb)) := by
  intro pins s σ H Q I h
  refine wpAny_isTrue_Compare1 (thn (ha pins s σ H _ I h) fun v s1 ⟨x, H1, I1, r1, q1⟩ => thn (hb pins s1 σ H1 _ I1 q1) fun u s2 ⟨y, H2, I2, r2, q2⟩ =>
    thn (ho pins s2 σ H2 x y v u _ I2 r1 r2 q2) fun c s3 ⟨z, H3, I3, r3, k, e, q3⟩ => ?_) hm
  subst e
  cases r3
  exact wpAny_truthy_bool ⟨H3, I3, q3⟩

theorem line63 : (sizeLine : Nat) < 2 ^ 63 := by rw [sizeLine_eq]; decide
theorem op_add_str : OpR X (binaryOp .Add) (fun x y H Q => ∃ i j, x = .str i ∧ y = .str j ∧ i.length + j.length ≤ sizeLine ∧ Q (.str (i ++ j)) H) := by
  intro pins s σ H x y v u Q I rx ry h
  obtain ⟨i, j, rfl, rfl, hz, q⟩ := h
  obtain ⟨t, rfl⟩ := rx
  obtain ⟨t', rfl⟩ := ry
  exact add_str (fun t' tk => ⟨.str (i ++ j), H, I.tok _, ⟨_, rfl⟩, q⟩) hz
theorem vals1 {x : V} {us : List Value} (r : Vals [x] us) : ∃ u, us = [u] ∧ RelV x u := by
  cases r with
  | cons r1 r2 => cases r2; exact ⟨_, rfl, r1⟩
theorem vals2 {x y : V} {us : List Value} (r : Vals [x, y] us) : ∃ u w', us = [u, w'] ∧ RelV x u ∧ RelV y w' := by
  cases r with
  | cons r1 r2 =>
    cases r2 with
    | cons r3 r4 => cases r4; exact ⟨_, _, rfl, r1, r3⟩
theorem call_max2 (hc : X.calm = true) : CallR X (.builtin "max") (fun xs H Q => ∃ i j, xs = [.int i, .int j] ∧ Q (.int (if j > i then j else i)) H) := by
  intro pins s σ H xs us Q I r h
  obtain ⟨i, j, rfl, q⟩ := h
  obtain ⟨u, w', rfl, ⟨t, rfl⟩, ⟨t', rfl⟩⟩ := vals2 r
  refine max_two_ints (I.ok.hd hc) fun h' tk k => ⟨_, H, I.kept k, ?_, q⟩
  by_cases hj : j > i
  · rw [if_pos hj, if_pos hj]; exact ⟨_, rfl⟩
  · rw [if_neg hj, if_neg hj]; exact ⟨_, rfl⟩
theorem call_int1 : CallR X (.type "int") (fun xs H Q => (∃ i, xs = [.int i] ∧ Q (.int i) H) ∨ ∃ k, xs = [.bl k] ∧ Q (.int (if k then 1 else 0)) H) := by
  intro pins s σ H xs us Q I r h
  rcases h with ⟨i, rfl, q⟩ | ⟨k, rfl, q⟩
  · obtain ⟨u, rfl, t, rfl⟩ := vals1 r
    exact call_int_int ⟨.int i, H, I, ⟨_, rfl⟩, q⟩
  · obtain ⟨u, rfl, r1⟩ := vals1 r
    cases r1
    exact call_int_bool ⟨.int (if k then 1 else 0), H, I.tok _, ⟨_, rfl⟩, q⟩
end
end L2

namespace L2
open PySem PySem.Spec PyProof.Rows


structure ObjM (h : Heap) (x dx C : Addr) (mA : Str → Option Value) : Prop where
  obj : h.get? x = some (PySem.W.instObj C dx)
  ns : h.Ns1 dx mA
  ne : dx ≠ x

theorem lookIn_ns {h : Heap} {dx : Addr} {mA : Str → Option Value} (n : h.Ns1 dx mA) : ∃ od, h.get? dx = some od ∧ ∀ name, PySem.W.lookIn name od = some (mA name) := by
  obtain ⟨o, es, ep, ho, hd, hk, _, hm⟩ := n
  refine ⟨o, ho, fun name => ?_⟩
  have e := hm name
  unfold nsFind findBy at e
  rw [← Array.find?_toList] at e
  unfold PySem.W.lookIn
  rw [hd]
  dsimp only
  split
  · rename_i y q
    rw [q] at e
    exact congrArg some e
  · rename_i q
    rw [q] at e
    have a : es.toList.any (·.refKey) = false := by
      rw [List.any_eq_false]
      intro y hy
      obtain ⟨z, t, hkey⟩ := hk y (Array.mem_toList_iff.mp hy)
      simp [DictEntry.refKey, hkey]
    have a' : ¬ es.toList.any (·.refKey) = true := by rw [a]; exact Bool.false_ne_true
    rw [if_neg a']
    exact congrArg some e

theorem ObjM.look {h : Heap} {x dx C : Addr} {mA : Str → Option Value} (I : ObjM h x dx C mA) : ∃ od, PySem.W.InstAt h x (PySem.W.instObj C dx) C (some od) ∧ ∀ name, PySem.W.lookIn name od = some (mA name) :=
  let ⟨od, ho, hl⟩ := lookIn_ns I.ns
  ⟨od, ⟨I.obj, rfl, rfl, ho⟩, hl⟩

section
variable {prog : Program} {w : World} {A : Around} {E : Value → Shared → Prop} {s : Shared} {K : PySem.W.Frag} {x dx C f : Addr} {mA : Str → Option Value} {name : Str} {v : Value}

theorem get_map {expr : Bool} {Q : Value → Shared → Prop} (X : K.In s.heap) (I : ObjM s.heap x dx C mA) (hg : PySem.W.plainGet K C name = true) (hh : PySem.W.hasDictIn K C = true)
    (ha : PySem.W.findIn K (.ref C) name = some none) (hv : mA name = some v) (hv' : PySem.W.handedIn v = true) (h : Q v { s with toks := s.toks + 1 }) :
    wpAny (model prog w) A (getAttr (.ref x) name expr) Q E s := by
  obtain ⟨od, J, hl⟩ := I.look
  exact PySem.W.get_value X J (PySem.W.plainGet_of hg).1 (PySem.W.findObj_own hh ha rfl (by rw [hl, hv])) hv' h

theorem set_map {ns : List Str} {Q : Unit → Shared → Prop} (X : K.In s.heap) (I : ObjM s.heap x dx C mA)
    (hs : PySem.W.findIn K (.ref C) "__setattr__" = some (some (.builtin "object.__setattr__"))) (hp : PySem.W.plainOver K C = true) (ht : PySem.W.takerIn K C name = some none) (hh : PySem.W.hasDictIn K C = true)
    (hw : PySem.Within mA ns) (hsz : ns.length ≤ sizeLine)
    (h : ∀ h', ObjM h' x dx C (fun y => if y = name then some v else mA y) → Heap.SameBut dx s.heap h' → Q () { s with heap := h', toks := s.toks + 2 }) :
    wpAny (model prog w) A (setAttr (.ref x) name v) Q E s := by
  obtain ⟨od, J, hl⟩ := I.look
  refine PySem.W.set_plain X J hs (PySem.W.osa_open (s := { s with toks := s.toks + 1 }) (r := none) X J hp ht fun b => ?_)
  obtain ⟨cd, hc, hd'⟩ := PySem.W.any_some hh
  have hx : s.heap.get? x = some ⟨.ref C, some dx, .plain, #[]⟩ := I.obj
  refine wpAny_bind (wpAny_pure (wpAny_bind (wpAny_bind (wpAny_loadPart hx (wpAny_bind (PySem.W.Looks.here (s := { s with toks := s.toks + 1 }) (PySem.W.looks_clsIn X hc) ?_))))))
  rw [hd']
  refine wpAny_pure (a := some dx) (wpAny_bind (wpAny_pure (wpAny_bind ?_)))
  refine wpAny_nsSet1 (s := { s with toks := s.toks + 1 }) I.ns fun h' hn2 hs2 => ?_
  obtain ⟨oD, esD, epD, hoD, hdD, hcD⟩ := hn2.count (PySem.Within.cons name v hw)
  refine wpAny_bind (wpAny_lookBehind hoD (by rw [hdD]; exact pastItsLine_dict (Nat.le_trans hcD (by rw [List.length_cons]; omega))) ?_)
  exact wpAny_pure (h _ ⟨(hs2.2 _ (Ne.symm I.ne)).trans I.obj, hn2, I.ne⟩ hs2)


theorem make_map {R : Result → Shared → Prop} {vs : List Value} {kw : List (Str × Value)} (X : K.In s.heap) (hm : PySem.W.makesIn K C = true)
    (hi : PySem.W.findIn K (.ref C) "__init__" = some (some (.ref f))) (hf : PySem.W.typeIn K (.ref f) = some (.type "function"))
    (h : codeAny (model prog w) (A.under (.builtin "type.__call__" ⟨.ref C :: vs, kw⟩)) (.call (.ref f) ⟨.ref (s.heap.objs.size + 1) :: vs, kw⟩) (PySem.W.InitBack (s.heap.objs.size + 1) R)
      { s with heap := (s.heap.push PySem.W.emptyDict).push (PySem.W.instObj C s.heap.objs.size) }) :
    codeAny (model prog w) A (.call (.ref C) ⟨vs, kw⟩) R s := by
  obtain ⟨hh, g, d, t, os⟩ := s
  exact PySem.W.make_core (PySem.W.makes_of X hm) (PySem.W.looks_findIn X hi) (fun self => PySem.W.bind_fn X self hf) (.inl rfl) h

end


def putF (f : Str) (v : V) : List (Str × V) → List (Str × V)
  | [] => [(f, v)]
  | (g, x) :: r => if g = f then (g, v) :: r else (g, x) :: putF f v r
theorem lookup_putF (f g : Str) (v : V) : ∀ fs : List (Str × V), (putF f v fs).lookup g = if g = f then some v else fs.lookup g
  | [] => by
    show List.lookup g [(f, v)] = _
    by_cases h : g = f
    · have hb : (g == f) = true := beq_iff_eq.mpr h
      simp only [List.lookup, hb, if_pos h]
    · have hb : (g == f) = false := beq_eq_false_iff_ne.mpr h
      simp only [List.lookup, hb, if_neg h]
  | (k, x) :: r => by
    have ih := lookup_putF f g v r
    rw [show putF f v ((k, x) :: r) = (if k = f then (k, v) :: r else (k, x) :: putF f v r) from rfl]
    by_cases hk : k = f
    · rw [if_pos hk]
      by_cases h : g = k
      · have hb : (g == k) = true := beq_iff_eq.mpr h
        simp only [List.lookup, hb, if_pos (h.trans hk)]
      · have hb : (g == k) = false := beq_eq_false_iff_ne.mpr h
        simp only [List.lookup, hb, if_neg (fun e : g = f => h (e.trans hk.symm))]
    · rw [if_neg hk]
      by_cases h : g = k
      · have hb : (g == k) = true := beq_iff_eq.mpr h
        simp only [List.lookup, hb, if_neg (fun e : g = f => hk (h.symm.trans e))]
      · have hb : (g == k) = false := beq_eq_false_iff_ne.mpr h
        simp only [List.lookup, hb]
        exact ih
theorem keys_putF (f : Str) (v : V) : ∀ fs : List (Str × V), f ∈ (putF f v fs).map (·.1) ∧ ∀ g, g ∈ fs.map (·.1) → g ∈ (putF f v fs).map (·.1)
  | [] => ⟨by simp [putF], fun g h => by simp at h⟩
  | (k, x) :: r => by
    obtain ⟨i1, i2⟩ := keys_putF f v r
    rw [show putF f v ((k, x) :: r) = (if k = f then (k, v) :: r else (k, x) :: putF f v r) from rfl]
    by_cases hk : k = f
    · rw [if_pos hk]
      subst hk
      exact ⟨by simp, fun g h => by simpa using h⟩
    · rw [if_neg hk]
      refine ⟨?_, fun g h => ?_⟩
      · rw [List.map_cons]
        exact List.mem_cons_of_mem _ i1
      · rw [List.map_cons] at h ⊢
        rcases List.mem_cons.mp h with e | e
        · exact List.mem_cons.mpr (.inl e)
        · exact List.mem_cons_of_mem _ (i2 g e)
theorem length_putF (f : Str) (v : V) : ∀ fs : List (Str × V), (putF f v fs).length ≤ fs.length + 1
  | [] => by simp [putF]
  | (k, x) :: r => by
    have ih := length_putF f v r
    rw [show putF f v ((k, x) :: r) = (if k = f then (k, v) :: r else (k, x) :: putF f v r) from rfl]
    by_cases hk : k = f
    · rw [if_pos hk, List.length_cons, List.length_cons]; omega
    · rw [if_neg hk, List.length_cons, List.length_cons]; omega

theorem RelO.some_of {v : V} {o : Option Value} (r : RelO (some v) o) : ∃ u, o = some u ∧ RelV v u := by
  cases o with
  | none => exact (show False from r).elim
  | some u => exact ⟨u, rfl, r⟩
theorem handed_of {v : V} {u : Value} (r : RelV v u) : PySem.W.handedIn u = true := by
  cases v with
  | non => cases (show u = Value.none from r); rfl
  | bl b => cases (show u = Value.bool b from r); rfl
  | int i => obtain ⟨t, e⟩ := (show ∃ t, u = Value.int i t from r); cases e; rfl
  | str x => obtain ⟨t, e⟩ := (show ∃ t, u = Value.str x t from r); cases e; rfl
  | byt b => obtain ⟨t, e⟩ := (show ∃ t, u = Value.bytes b t from r); cases e; rfl
  | flt b => obtain ⟨t, e⟩ := (show ∃ t, u = Value.float b t from r); cases e; rfl
  | ref a => cases (show u = Value.ref a from r); rfl
  | ty n => cases (show u = Value.type n from r); rfl

section
variable {P : Program} {w : World} {H H' : Hp} {h h' : Heap} {a C dx : Addr} {fs fs' : List (Str × V)}
theorem ins_get (hok : HOk P w H h) (e : H a = some (.ins C dx fs)) : ∃ mA, ObjM h a dx C mA ∧ (∀ f, RelO (fs.lookup f) (mA f)) ∧ PySem.Within mA (fs.map (·.1)) ∧ fs.length ≤ 1000 ∧ H dx = some (.own a) := by
  obtain ⟨d, z, ne, ob, mA, n, r, q⟩ := (show ObjOk P w H h a (.ins C dx fs) from hok a _ e)
  exact ⟨mA, ⟨ob, n, ne⟩, r, q, z, d⟩
end


structure Cls (K : PySem.W.Frag) (C : Addr) : Prop where
  pg : PySem.W.plainGet K C Str.empty = true
  hd : PySem.W.hasDictIn K C = true
  po : PySem.W.plainOver K C = true
  sa : PySem.W.findIn K (.ref C) "__setattr__" = some (some (.builtin "object.__setattr__"))
theorem Cls.get {K : PySem.W.Frag} {C : Addr} (c : Cls K C) (f : Str) : PySem.W.plainGet K C f = true := c.pg

def NoAttr (K : PySem.W.Frag) (C : Addr) (f : Str) : Prop := PySem.W.findIn K (.ref C) f = some none
theorem NoAttr.taker {K : PySem.W.Frag} {C : Addr} {f : Str} (n : NoAttr K C f) : PySem.W.takerIn K C f = some none := by
  unfold PySem.W.takerIn
  rw [show PySem.W.findIn K (.ref C) f = some none from n]
  rfl

section
variable {X : Cx} {pins : List (Addr × Obj)} {σ : St} {H : Hp} {s : Shared} {a C dx : Addr} {fs : List (Str × V)} {f : Str} {v : V} {A : Around} {E : Value → Shared → Prop}

theorem getattr_ok {b : Bool} {Q : Value → Shared → Prop} (I : Inv X pins σ H s) (e : H a = some (.ins C dx fs)) (c : Cls X.K C) (n : NoAttr X.K C f) (l : fs.lookup f = some v)
    (h : ∀ u s', Inv X pins σ H s' → RelV v u → Q u s') : wpAny (model X.prog X.w) A (getAttr (.ref a) f b) Q E s := by
  obtain ⟨mA, O, r, _, _, _⟩ := ins_get I.hok e
  obtain ⟨u, hu, ru⟩ := RelO.some_of (v := v) (o := mA f) (by rw [← l]; exact r f)
  exact get_map I.kIn O (c.get f) c.hd n hu (handed_of ru) (h u _ (I.tok _) ru)

theorem setattr_ok {y : V} {u : Value} {Q : Unit → Shared → Prop} (I : Inv X pins σ H s) (e : H a = some (.ins C dx fs)) (c : Cls X.K C) (n : NoAttr X.K C f) (hl : fs.length < 1000) (ry : RelV y u)
    (h : ∀ s', Inv X pins σ (upd H a (.ins C dx (putF f y fs))) s' → Q () s') : wpAny (model X.prog X.w) A (setAttr (.ref a) f u) Q E s := by
  obtain ⟨mA, O, r, wi, _, ho⟩ := ins_get I.hok e
  have hz : (fs.map (·.1)).length ≤ sizeLine := by rw [List.length_map, sizeLine_eq]; omega
  refine set_map I.kIn O c.sa c.po n.taker c.hd wi hz fun h' O' sb => h _ ?_
  have hd : ∃ o, h'.get? dx = some o := let ⟨o, _, _, e', _⟩ := O'.ns; ⟨o, e'⟩
  refine I.write (x := a) (e := dx) (by rw [e]; exact True.intro) (.inr ho) (fun b q hb z => (sb.2 b hb).trans z) hd ?_
  refine ⟨by rw [upd_ne O.ne]; exact ho, ?_, O.ne, O'.obj, _, O'.ns, fun g => ?_, fun g hg => ?_⟩
  · have := length_putF f y fs; omega
  · show RelO ((putF f y fs).lookup g) (if g = f then some u else mA g)
    rw [lookup_putF]
    by_cases q : g = f
    · rw [if_pos q, if_pos q]; exact ry
    · rw [if_neg q, if_neg q]; exact r g
  · by_cases q : g = f
    · rw [q]; exact (keys_putF f y fs).1
    · refine (keys_putF f y fs).2 g (wi g fun z => hg ?_)
      show (if g = f then some u else mA g) = none
      rw [if_neg q]; exact z


theorem Inv.made (I : Inv X pins σ H s) : Inv X pins σ (upd (upd H s.heap.objs.size (.own (s.heap.objs.size + 1))) (s.heap.objs.size + 1) (.ins C s.heap.objs.size []))
    { s with heap := (s.heap.push PySem.W.emptyDict).push (PySem.W.instObj C s.heap.objs.size) } := by
  have e1 : (s.heap.push PySem.W.emptyDict).get? s.heap.objs.size = some PySem.W.emptyDict := Heap.get?_push_size s.heap rfl
  have e2 : ((s.heap.push PySem.W.emptyDict).push (PySem.W.instObj C s.heap.objs.size)).get? (s.heap.objs.size + 1) = some (PySem.W.instObj C s.heap.objs.size) := by
    have := Heap.get?_push_size (s.heap.push PySem.W.emptyDict) (o := PySem.W.instObj C s.heap.objs.size) rfl
    rwa [Heap.size_push] at this
  have e3 : (s.heap.push PySem.W.emptyDict).Ns s.heap.objs.size (fun _ => none) := ⟨PySem.W.emptyDict, #[], _, e1, rfl, (fun e he => absurd he (by simp)), fun _ => rfl⟩
  have I1 := I.laid (a := s.heap.objs.size) (o := .own (s.heap.objs.size + 1)) (h' := s.heap.push PySem.W.emptyDict) (t' := s.toks) (fun b u q => Heap.get?_push_of_some _ q) (Nat.le_refl _) ⟨_, e1⟩
  refine I1.laid (a := s.heap.objs.size + 1) (o := .ins C s.heap.objs.size []) (t' := s.toks) (fun b u q => Heap.get?_push_of_some _ q) (Nat.le_of_eq (Heap.size_push _ _)) ?_
  have ne : s.heap.objs.size ≠ s.heap.objs.size + 1 := Nat.ne_of_lt (Nat.lt_succ_self _)
  refine ⟨by rw [upd_ne ne, upd_same], Nat.zero_le _, ne, e2, fun _ => none, (Heap.Ns1.of_empty e3).at fun o q => Heap.get?_push_of_some _ q, fun _ => True.intro, fun y hy => absurd rfl hy⟩


theorem attr_of {prog : Program} {w : World} {env : Env} {e : Expr} {f : Str} {pos : Pos} {s : Shared} {Q : Value → Shared → Prop} (hb : attributeBase e f env (eval e env) = eval e env)
    (h : wpAny (model prog w) A (eval e env) (fun o s₁ => wpAny (model prog w) A (getAttr o f true) Q E s₁) E s) : wpAny (model prog w) A (eval (.Attribute e f pos) env) Q E s :=
  Attribute_any_ h (by rw [arm_eval_Attribute, hb])
end



def tFld (K : PySem.W.Frag) (ta : TE) (f : Str) : TE := fun σ H Q => ta σ H fun x H1 => ∃ a C dx fs v, x = .ref a ∧ H1 a = some (.ins C dx fs) ∧ Cls K C ∧ NoAttr K C f ∧ fs.lookup f = some v ∧ Q v H1

def sFld (K : PySem.W.Frag) (ta tv : TE) (f : Str) : TS := fun D σ H => tv σ H fun y H1 => ta σ H1 fun x H2 => ∃ a C dx fs, x = .ref a ∧ H2 a = some (.ins C dx fs) ∧ Cls K C ∧ NoAttr K C f ∧ fs.length < 1000 ∧
  D.nx σ (upd H2 a (.ins C dx (putF f y fs)))

section
variable {X : Cx} {o e value : Expr} {f : Str} {pos pos' tpos : Pos} {ta tv : TE}
theorem pe_fld (he : PE X e ta) (hb : attributeBase e f X.env (eval e X.env) = eval e X.env) : PE X (.Attribute e f pos) (tFld X.K ta f) := by
  intro pins s σ H Q I h
  refine attr_of hb (thn (he pins s σ H _ I h) fun u s1 ⟨x, H1, I1, rx, a, C, dx, fs, v, ex, ea, c, n, l, q⟩ => ?_)
  subst ex
  obtain rfl : u = Value.ref a := rx
  exact getattr_ok I1 ea c n l fun u' s2 I2 ru => ⟨v, H1, I2, ru, q⟩
theorem ps_fld (ha : PE X o ta) (hv : PE X value tv) (hs : swapsWith value (some (.Attribute o f pos')) pos.line X.env = pure false) : PS X (.Assign [.Attribute o f pos'] value pos) (sFld X.K ta tv f) := by
  intro pins s σ H D I h
  refine plainObj_wpAny_Assign_Attribute (thn (hv pins s σ H _ I h) fun u s1 ⟨y, H1, I1, ry, q⟩ => thn (ha pins s1 σ H1 _ I1 q) fun ov s2 ⟨x, H2, I2, rx, a, C, dx, fs, ex, ea, c, n, l, q2⟩ => ?_) hs
  subst ex
  obtain rfl : ov = Value.ref a := rx
  exact setattr_ok I2 ea c n l ry fun s3 I3 => ⟨σ, _, I3, q2⟩
end


section
variable {X : Cx} {pins : List (Addr × Obj)} {σ : St} {H : Hp} {s : Shared} {A : Around} {E : Value → Shared → Prop} {Q : Value → Shared → Prop} {c : Value} {b : Bool}

inductive TyOf (K : PySem.W.Frag) (H : Hp) : V → Value → Prop where
  | non : TyOf K H .non (.type "NoneType")
  | bl (x : Bool) : TyOf K H (.bl x) (.type "bool")
  | int (i : Int) : TyOf K H (.int i) (.type "int")
  | str (x : Str) : TyOf K H (.str x) (.type "str")
  | flt (x : UInt64) : TyOf K H (.flt x) (.type "float")
  | lst {a : Addr} {xs : List V} (e : H a = some (.lst xs)) : TyOf K H (.ref a) (.type "list")
  | frz {a : Addr} {o : Obj} {xs : List V} (e : H a = some (.frz o (.lst xs))) : TyOf K H (.ref a) (.type "list")
  | tup {a : Addr} {xs : List V} (e : H a = some (.tup xs)) : TyOf K H (.ref a) (.type "tuple")
  | dK {a : Addr} {kvs : List (Key × V)} (e : H a = some (.dK kvs)) : TyOf K H (.ref a) (.type "dict")
  | dT {a : Addr} {kvs : List (List Key × V)} (e : H a = some (.dT kvs)) : TyOf K H (.ref a) (.type "dict")
  | ins {a C dx : Addr} {fs : List (Str × V)} (e : H a = some (.ins C dx fs)) (cl : Cls K C) (ha : PySem.W.findIn K (.ref C) "__class__" = some (some (.builtin "object.__class__")))
      (hn : PySem.W.specialIn K (.builtin "object.__class__") "__get__" = some (some (.builtin "getset_descriptor.__get__"))) (htk : PySem.W.takesIn K (.builtin "object.__class__") = some true)
      (hm : PySem.W.mroIn K C (.type "object") = some true) : TyOf K H (.ref a) (.ref C)

theorem isinst_ok {x : V} {u t : Value} (I : Inv X pins σ H s) (rx : RelV x u) (ty : TyOf X.K H x t) (e : PySem.W.kitOne X.K t c = some b) (h : ∀ tk, Q (.bool b) { s with toks := tk }) :
    wpAny (model X.prog X.w) A (call (.builtin "isinstance") [u, c]) Q E s := by
  cases ty with
  | non => cases (show u = Value.none from rx); exact PySem.W.kia_one PySem.W.kitx_none I.kIn True.intro e (fun z => nomatch z) h
  | bl y => cases (show u = Value.bool y from rx); exact PySem.W.kia_one PySem.W.kitx_bool I.kIn True.intro e (fun z => nomatch z) h
  | int i => obtain ⟨t, q⟩ := (show ∃ t, u = Value.int i t from rx); cases q; exact PySem.W.kia_one PySem.W.kitx_int I.kIn True.intro e (fun z => nomatch z) h
  | str y => obtain ⟨t, q⟩ := (show ∃ t, u = Value.str y t from rx); cases q; exact PySem.W.kia_one PySem.W.kitx_str I.kIn True.intro e (fun z => nomatch z) h
  | flt y => obtain ⟨t, q⟩ := (show ∃ t, u = Value.float y t from rx); cases q; exact PySem.W.kia_one PySem.W.kitx_float I.kIn True.intro e (fun z => nomatch z) h
  | @lst a xs ea =>
    cases (show u = Value.ref a from rx)
    obtain ⟨_, _, n, _, h1⟩ := (show ObjOk X.prog X.w H s.heap a (.lst xs) from I.hok a _ ea)
    exact PySem.W.kia_one PySem.W.kitx_list I.kIn ⟨_, h1, rfl⟩ e (fun z => nomatch z) h
  | @frz a ob xs ea =>
    cases (show u = Value.ref a from rx)
    obtain ⟨_, _, _, n, _, h1⟩ := (show ObjOk X.prog X.w H s.heap a (.frz ob (.lst xs)) from I.hok a _ ea)
    exact PySem.W.kia_one PySem.W.kitx_list I.kIn ⟨_, h1, rfl⟩ e (fun z => nomatch z) h
  | @tup a xs ea =>
    cases (show u = Value.ref a from rx)
    obtain ⟨_, _, _, p⟩ := (show ObjOk X.prog X.w H s.heap a (.tup xs) from I.hok a _ ea)
    obtain ⟨o, h1, h2, _⟩ := p
    exact PySem.W.kia_one PySem.W.kitx_tuple I.kIn ⟨o, h1, h2⟩ e (fun z => nomatch z) h
  | @dK a kvs ea =>
    cases (show u = Value.ref a from rx)
    obtain ⟨_, _, vs, _, p⟩ := (show ObjOk X.prog X.w H s.heap a (.dK kvs) from I.hok a _ ea)
    obtain ⟨o, es, ep, h1, h2, _⟩ := p
    exact PySem.W.kia_one PySem.W.kitx_dict I.kIn ⟨o, h1, h2.1⟩ e (fun z => nomatch z) h
  | @dT a kvs ea =>
    cases (show u = Value.ref a from rx)
    obtain ⟨_, _, xs, _, o, es, ep, h1, h2, _⟩ := (show ObjOk X.prog X.w H s.heap a (.dT kvs) from I.hok a _ ea)
    exact PySem.W.kia_one PySem.W.kitx_dict I.kIn ⟨o, h1, h2.1⟩ e (fun z => nomatch z) h
  | @ins a C dx fs ea cl ha hn htk hm =>
    cases (show u = Value.ref a from rx)
    obtain ⟨mA, O, _⟩ := ins_get I.hok ea
    obtain ⟨od, J, _⟩ := O.look
    exact PySem.W.kia_one (PySem.W.kitx_own (cl.get _) cl.hd ha hn htk hm) I.kIn J e (fun z => nomatch z) h
end
end L2

namespace L2
open PySem PySem.Spec PyProof.Rows


structure Room (k : Nat) (A : Around) : Prop where
  hd : A.handled = none
  dp : A.depth + 3 * k + 5 < recursionLimit
  un : A.units + 16 * k + 200 < cLine
theorem Room.mono {j k : Nat} {A : Around} (r : Room k A) (h : j ≤ k) : Room j A := ⟨r.hd, by have := r.dp; omega, by have := r.un; omega⟩
theorem Room.deeper {k : Nat} {A : Around} (r : Room (k + 1) A) (env : Env) : Room k (A.deeper env) :=
  ⟨r.hd, by have := r.dp; show A.depth + 1 + 3 * k + 5 < _; omega, by have := r.un; show A.units + 3 + 16 * k + 200 < _; omega⟩
theorem Room.in1 {k : Nat} {A : Around} (r : Room (k + 1) A) : Room k A.in1 :=
  ⟨r.hd, by have := r.dp; show A.depth + 3 * k + 5 < _; omega, by have := r.un; show A.units + 1 + 16 * k + 200 < _; omega⟩
theorem make_depth {A : Around} {C : Addr} {us : List Value} {kw : List (Str × Value)} : (A.under (.builtin "type.__call__" ⟨.ref C :: us, kw⟩)).depth = A.depth + 1 := by
  first | rfl | simp [Around.under, Code.weight, Code.isCreation, Code.isGuard, Code.isCaller, Code.frames, Code.isFrame, guardIds]
theorem make_units {A : Around} {C : Addr} {us : List Value} {kw : List (Str × Value)} : (A.under (.builtin "type.__call__" ⟨.ref C :: us, kw⟩)).units = A.units + 1 := by
  first | rfl | simp [Around.under, Code.cUnits, Code.frames, Code.isFrame]
theorem Room.make {k : Nat} {A : Around} (r : Room (k + 1) A) (C : Addr) (us : List Value) (kw : List (Str × Value)) : Room k (A.under (.builtin "type.__call__" ⟨.ref C :: us, kw⟩)) :=
  ⟨r.hd, by have := r.dp; rw [make_depth]; omega, by have := r.un; rw [make_units]; omega⟩
theorem Room.depth {k : Nat} {A : Around} (r : Room k A) : A.depth < recursionLimit := by have := r.dp; omega
theorem Room.units {k : Nat} {A : Around} (r : Room k A) : A.units + 64 < cLine := by have := r.un; omega
def tNil : TA := fun _ H Q => Q [] H
def tCons (ta : TE) (tr : TA) : TA := fun σ H Q => ta σ H fun x H1 => tr σ H1 fun xs H2 => Q (x :: xs) H2
section
variable {X : Cx} {e : Expr} {es : List Expr} {te : TE} {t : TA} {pos : Pos}
theorem pa_nil : PA X [] tNil := fun _ _ _ _ H Q I h => Calls.spliced_nil ⟨[], H, I, .nil, h⟩
theorem pa_cons (ha : PE X e te) (hr : PA X es t) (hs : starEach (e :: es) X.env = (false, eval e X.env) :: starEach es X.env := by rfl) : PA X (e :: es) (tCons te t) := by
  intro pos pins s σ H Q I h
  rw [hs]
  show wpAny _ _ (spliced ((false, eval e X.env) :: backTo pos (starEach es X.env))) _ _ s
  refine Calls.spliced_cons (thn (ha pins s σ H _ I h) fun u s1 ⟨x, H1, I1, r1, q1⟩ => ?_)
  exact thn (hr pos pins s1 σ H1 _ I1 q1) fun us s2 ⟨xs, H2, I2, r2, q2⟩ => ⟨x :: xs, H2, I2, .cons r1 r2, q2⟩


def tTup (t : TA) : TE := fun σ H Q => t σ H fun xs H1 => xs.length ≤ sizeLine ∧ ∀ p, H1 p = none → Q (.ref p) (upd H1 p (.tup xs))
def tLst (t : TA) : TE := fun σ H Q => t σ H fun xs H1 => xs.length ≤ sizeLine ∧ ∀ p, H1 p = none → Q (.ref p) (upd H1 p (.lst xs))
theorem pe_tup {x1} (h : PA X es t) : PE X (.Tuple es x1 pos) (tTup t) := by
  intro pins s σ H Q I hq
  refine wpAny_Tuple_spliced (thn (h pos pins s σ H _ I hq) fun us s1 ⟨xs, H1, I1, r, z, q⟩ => ⟨by rw [← r.length]; exact z, ?_⟩)
  have hf : H1 s1.heap.objs.size = none := I1.hok.fresh (Nat.le_refl _)
  refine ⟨.ref s1.heap.objs.size, upd H1 s1.heap.objs.size (.tup xs), I1.laid (t' := s1.toks) (fun b u e => Heap.get?_push_of_some _ e) (Nat.le_refl _) ?_, rfl, q _ hf⟩
  exact ⟨z, us, r, ⟨_, Heap.get?_push_size _ rfl, rfl, _, rfl⟩⟩
theorem pe_lst (h : PA X es t) : PE X (.List es pos) (tLst t) := by
  intro pins s σ H Q I hq
  refine wpAny_List_spliced (thn (h pos pins s σ H _ I hq) fun us s1 ⟨xs, H1, I1, r, z, q⟩ => ⟨by rw [← r.length]; exact z, ?_⟩)
  have hf : H1 s1.heap.objs.size = none := I1.hok.fresh (Nat.le_refl _)
  refine ⟨.ref s1.heap.objs.size, upd H1 s1.heap.objs.size (.lst xs), I1.laid (t' := s1.toks) (fun b u e => Heap.get?_push_of_some _ e) (Nat.le_refl _) ?_, rfl, q _ hf⟩
  exact ⟨z, us, 0, r, Heap.get?_push_size _ rfl⟩
end



abbrev Sp := List V → Hp → VK → XK → Prop

abbrev CXT := List Env → Hp → Shared → XK → Value → Shared → Prop


structure Env0 (P : Program) (w : World) (K : PySem.W.Frag) (mg : Str → Option Value) (base : Heap) (A : Around) (outer : List Env) (s : Shared) (H : Hp) : Prop where
  frames : A.frames = some outer
  mod : Mod K mg base
  bs : ∀ b o, base.get? b = some o → s.heap.get? b = some o ∧ H b = none
  bsz : base.objs.size ≤ s.heap.objs.size
  funs : s.heap.FunFrames base outer
  frf : ∀ b ∈ frs outer, H b = none
  hok : HOk P w H s.heap
  bare : AllBare s.gens

def CE (outer : List Env) (P : Program) (w : World) (H : Hp) (s : Shared) (Q : VK) (u : Value) (s' : Shared) : Prop :=
  ∃ v H', s'.os = s.os ∧ AllBare s'.gens ∧ Un (frs outer) [] H H' s.heap s'.heap ∧ HOk P w H' s'.heap ∧ RelV v u ∧ Q v H'
def CR (CX : CXT) (outer : List Env) (P : Program) (w : World) (H : Hp) (s : Shared) (Q : VK) (E : XK) (r : Result) (s' : Shared) : Prop :=
  match r with
  | .ok (.ret u) => CE outer P w H s Q u s'
  | .ok _ => False
  | .error e => CX outer H s E e s'
structure FnOk (P : Program) (w : World) (K : PySem.W.Frag) (mg : Str → Option Value) (base : Heap) (CX : CXT) (k : Nat) (f : Addr) (fd : FuncData) (ps : List Str) (sp : Sp) : Prop where
  len : ∀ vs H Q E, sp vs H Q E → vs.length = ps.length
  run : ∀ (A : Around) (outer : List Env) (s : Shared) (H : Hp) (args : Args) (us : List Value) (vs : List V) (Q : VK) (E : XK), Room k A → Env0 P w K mg base A outer s H → BindsTo s fd args (ps.zip us) → Vals vs us → sp vs H Q E →
    codeAny (model P w) A (.call (.ref f) args) (CR CX outer P w H s Q E) s
theorem FnOk.mono {P : Program} {w : World} {K : PySem.W.Frag} {mg : Str → Option Value} {base : Heap} {CX : CXT} {j k : Nat} {f : Addr} {fd : FuncData} {ps : List Str} {sp : Sp} (F : FnOk P w K mg base CX j f fd ps sp) (h : j ≤ k) :
    FnOk P w K mg base CX k f fd ps sp := ⟨F.len, fun A outer s H args us vs Q E hr => F.run A outer s H args us vs Q E (hr.mono h)⟩

theorem FnOk.imp {P : Program} {w : World} {K : PySem.W.Frag} {mg : Str → Option Value} {base : Heap} {CX : CXT} {k : Nat} {f : Addr} {fd : FuncData} {ps : List Str} {sp sp' : Sp} (F : FnOk P w K mg base CX k f fd ps sp)
    (h : ∀ vs H Q E, sp' vs H Q E → sp vs H Q E) : FnOk P w K mg base CX k f fd ps sp' :=
  ⟨fun vs H Q E q => F.len vs H Q E (h _ _ _ _ q), fun A outer s H args us vs Q E hr he hb hv hs => F.run A outer s H args us vs Q E hr he hb hv (h _ _ _ _ hs)⟩

theorem Env0.make {P : Program} {w : World} {K : PySem.W.Frag} {mg : Str → Option Value} {base : Heap} {A : Around} {outer : List Env} {s : Shared} {H : Hp} (e : Env0 P w K mg base A outer s H) (C : Addr) (us : List Value) (kw : List (Str × Value)) :
    Env0 P w K mg base (A.under (.builtin "type.__call__" ⟨.ref C :: us, kw⟩)) outer s H := ⟨by first | exact e.frames | (simpa [Around.under, Code.envs, Code.isFrame, pushEnvs] using e.frames), e.mod, e.bs, e.bsz, e.funs, e.frf, e.hok, e.bare⟩
theorem Env0.in1 {P : Program} {w : World} {K : PySem.W.Frag} {mg : Str → Option Value} {base : Heap} {A : Around} {outer : List Env} {s : Shared} {H : Hp} (e : Env0 P w K mg base A outer s H) :
    Env0 P w K mg base A.in1 outer s H := ⟨e.frames, e.mod, e.bs, e.bsz, e.funs, e.frf, e.hok, e.bare⟩

section
variable {X : Cx} {pins : List (Addr × Obj)} {σ : St} {H : Hp} {s s' : Shared}

theorem Inv.env0 (I : Inv X pins σ H s) : Env0 X.prog X.w X.K X.mg X.base X.A X.stack s H :=
  ⟨I.ok.frames, I.ok.mod, I.bs, Nat.le_trans I.ok.bsz I.sz, I.stack, I.stkFree, I.hok, I.bare⟩

theorem Inv.after {Q : VK} {u : Value} (I : Inv X pins σ H s) (h : CE X.stack X.prog X.w H s Q u s') : EP X pins σ Q u s' := by
  obtain ⟨v, H', os, bare, un, hok, r, q⟩ := h
  obtain ⟨hh, g, d, t, os'⟩ := s'
  obtain rfl : os' = s.os := os
  exact ⟨v, H', I.call (h' := hh) (g' := g) (d' := d) (t' := t) (ch := []) un hok bare (fun b z => absurd z (by simp)), r, q⟩
end



def tCall (sp : Sp) (dvs : List V) (E : XK) (t : TA) : TE := fun σ H Q => t σ H fun vs H1 => sp (vs ++ dvs) H1 Q E

def tMake (C : Addr) (sp : Sp) (dvs : List V) (E : XK) (t : TA) : TE := fun σ H Q => t σ H fun vs H1 => ∀ x dx, H1 x = none → H1 dx = none → dx ≠ x →
  sp (.ref x :: (vs ++ dvs)) (upd (upd H1 dx (.own x)) x (.ins C dx [])) (fun v H2 => v = .non ∧ Q (.ref x) H2) E


def Binds (K : PySem.W.Frag) (fd : FuncData) (ps : List Str) (ds : List Value) : Prop :=
  ∀ (s : Shared) (us : List Value), K.In s.heap → (us ++ ds).length = ps.length → BindsTo s fd ⟨us, []⟩ (ps.zip (us ++ ds))

theorem Binds.all {K : PySem.W.Frag} {fd : FuncData} {ps : List Str} (h : ∀ us : List Value, us.length = ps.length → bindArgs fd ⟨us, []⟩ = pure (ps.zip us)) : Binds K fd ps [] := fun s us _ hl => by
  rw [List.append_nil] at hl ⊢
  exact .of_eq (h us hl)


def Passes (CX : CXT) (X : Cx) (E : XK) : Prop := ∀ (pins : List (Addr × Obj)) (σ : St) (H : Hp) (s : Shared) (e : Value) (s' : Shared), Inv X pins σ H s → CX X.stack H s E e s' → X.xe e s'

section
variable {X : Cx} {CX : CXT} {k : Nat} {f C : Addr} {fd : FuncData} {ps : List Str} {sp : Sp} {dvs : List V} {ds : List Value} {E : XK} {x m : Str} {p pos apos : Pos} {e o : Expr} {es : List Expr} {ta : TE} {t : TA}


theorem run_fn {pins : List (Addr × Obj)} {σ : St} {H : Hp} {s : Shared} {Q : VK} {us : List Value} {vs : List V} (F : FnOk X.prog X.w X.K X.mg X.base CX k f fd ps sp) (hr : Room k X.A) (hb : Binds X.K fd ps ds) (hd : Vals dvs ds) (hx : Passes CX X E)
    (I : Inv X pins σ H s) (r : Vals vs us) (h : sp (vs ++ dvs) H Q E) : wpAny (model X.prog X.w) X.A (call (.ref f) us) (EP X pins σ Q) X.xe s := by
  have r2 : Vals (vs ++ dvs) (us ++ ds) := r.append hd
  have hl : (us ++ ds).length = ps.length := by rw [← r2.length]; exact F.len _ _ _ _ h
  refine wpAny_call (codeAny_mono (F.run X.A X.stack s H ⟨us, []⟩ (us ++ ds) (vs ++ dvs) Q E hr I.env0 (hb s us I.kIn hl) r2 h) fun r s' hq => ?_)
  cases r with
  | error e => exact hx pins σ H s e s' I hq
  | ok fl =>
    cases fl with
    | ret u => exact I.after hq
    | next => exact False.elim hq
    | brk => exact False.elim hq
    | cont => exact False.elim hq

theorem pe_call (F : FnOk X.prog X.w X.K X.mg X.base CX k f fd ps sp) (hr : Room k X.A) (hg : Gl X x) (hm : X.mg x = some (.ref f)) (hk : PySem.W.keepIn X.K (.ref f) = true) (hb : Binds X.K fd ps ds) (hd : Vals dvs ds) (hx : Passes CX X E)
    (ha : PA X (e :: es) t) (hdb : (x == ("__debug__" : Str)) = false := by decide) (he : starEach (e :: es) X.env = (false, eval e X.env) :: starEach es X.env := by rfl) (hpl : (backTo pos (starEach es X.env)).any (·.1) = false := by rfl) :
    PE X (.Call (.Name x p) (e :: es) [] pos) (tCall sp dvs E t) := by
  intro pins s σ H Q I h
  refine wpAny_Call_Name_kw (ld_glob I hg hm ?_ hdb)
  refine PySem.W.callWith_K (h₀ := X.base) I.ok.mod.kin hk (thn (ha pos pins s σ H _ I h) fun us s1 ⟨vs, H1, I1, r, q⟩ => ⟨I1.kIn, ?_⟩) he hpl
  exact run_fn F hr hb hd hx I1 r q
structure Mk (K : PySem.W.Frag) (C f : Addr) : Prop where
  makes : PySem.W.makesIn K C = true
  init : PySem.W.findIn K (.ref C) "__init__" = some (some (.ref f))
  fn : PySem.W.isFn K (.ref f) = true
  kp : PySem.W.keepIn K (.ref C) = true

theorem run_make {pins : List (Addr × Obj)} {σ : St} {H : Hp} {s : Shared} {Q : VK} {us : List Value} {vs : List V} (M : Mk X.K C f) (F : FnOk X.prog X.w X.K X.mg X.base CX k f fd ps sp) (hr : Room (k + 1) X.A) (hb : Binds X.K fd ps ds) (hd : Vals dvs ds)
    (hx : Passes CX X E) (I : Inv X pins σ H s) (r : Vals vs us)
    (h : ∀ x dx, H x = none → H dx = none → dx ≠ x → sp (.ref x :: (vs ++ dvs)) (upd (upd H dx (.own x)) x (.ins C dx [])) (fun v H2 => v = .non ∧ Q (.ref x) H2) E) :
    wpAny (model X.prog X.w) X.A (call (.ref C) us) (EP X pins σ Q) X.xe s := by
  have hq := h (s.heap.objs.size + 1) s.heap.objs.size (I.hok.fresh (Nat.le_succ _)) (I.hok.fresh (Nat.le_refl _)) (Nat.ne_of_lt (Nat.lt_succ_self _))
  have I2 := Inv.made (C := C) I
  have r2 : Vals (V.ref (s.heap.objs.size + 1) :: (vs ++ dvs)) (Value.ref (s.heap.objs.size + 1) :: (us ++ ds)) := .cons rfl (r.append hd)
  have hl : (Value.ref (s.heap.objs.size + 1) :: us ++ ds).length = ps.length := by
    have e := r2.length
    rw [F.len _ _ _ _ hq] at e
    exact e.symm
  refine wpAny_call (make_map (f := f) I.kIn M.makes M.init (beq_iff_eq.mp M.fn) (codeAny_mono (F.run _ X.stack _ _ ⟨Value.ref (s.heap.objs.size + 1) :: us, []⟩ (Value.ref (s.heap.objs.size + 1) :: (us ++ ds)) _ _ E (hr.make C us [])
    (I2.env0.make C us []) (hb _ (Value.ref (s.heap.objs.size + 1) :: us) I2.kIn hl) r2 hq) fun r s' hq' => ?_))
  cases r with
  | error e => exact hx pins σ _ _ e s' I2 hq'
  | ok fl =>
    cases fl with
    | ret u =>
      obtain ⟨v, H', I3, rv, ev, q3⟩ := I2.after hq'
      subst ev
      exact ⟨rv, ⟨V.ref (s.heap.objs.size + 1), H', I3, rfl, q3⟩⟩
    | next => exact False.elim hq'
    | brk => exact False.elim hq'
    | cont => exact False.elim hq'
theorem pe_make (M : Mk X.K C f) (F : FnOk X.prog X.w X.K X.mg X.base CX k f fd ps sp) (hr : Room (k + 1) X.A) (hg : Gl X x) (hm : X.mg x = some (.ref C)) (hb : Binds X.K fd ps ds) (hd : Vals dvs ds) (hx : Passes CX X E)
    (ha : PA X (e :: es) t) (hdb : (x == ("__debug__" : Str)) = false := by decide) (he : starEach (e :: es) X.env = (false, eval e X.env) :: starEach es X.env := by rfl) (hpl : (backTo pos (starEach es X.env)).any (·.1) = false := by rfl) :
    PE X (.Call (.Name x p) (e :: es) [] pos) (tMake C sp dvs E t) := by
  intro pins s σ H Q I h
  refine wpAny_Call_Name_kw (ld_glob I hg hm ?_ hdb)
  refine PySem.W.callWith_K (h₀ := X.base) I.ok.mod.kin M.kp (thn (ha pos pins s σ H _ I h) fun us s1 ⟨vs, H1, I1, r, q⟩ => ⟨I1.kIn, ?_⟩) he hpl
  exact run_make M F hr hb hd hx I1 r q
end



section
variable {X : Cx} {CX : CXT} {k : Nat} {f C : Addr} {fd : FuncData} {ps ks : List Str} {sp : Sp} {E : XK} {x m : Str} {p pos apos kpos : Pos} {e o : Expr} {es : List Expr} {kws : List Keyword} {te ta : TE} {t tk : TA} {nm : Option Str}
variable {g : List Value → List Value → List Value} {gV : List V → List V → List V}
end



structure FnScope (N P : List Str) (sc : Scope) : Prop where
  kind : sc.kind = .function
  co : sc.isCoroutine = false
  gen : sc.isGenerator = false
  nd : N.Nodup
  pre : N.take P.length = P
  par : ∀ x ∈ P, sc.names.lookup x = some .local ∨ sc.names.lookup x = some .cell
  nofree : ∀ y ∈ sc.names, y.2 ≠ .free

theorem bindL_out {kindOf : Str → Option NameKind} {x : Str} : ∀ {binds : List (Str × Value)} {m : Str → Option Value}, (∀ v, (x, v) ∉ binds) → bindL kindOf binds m x = m x
  | [], _, _ => rfl
  | (n, v) :: r, m, h => by
    unfold bindL
    rw [bindL_out fun w hw => h w (List.mem_cons_of_mem _ hw)]
    split
    · have : x ≠ n := by rintro rfl; exact h v List.mem_cons_self
      simp [this]
    · rfl
theorem bindC_out {kindOf : Str → Option NameKind} {x : Str} : ∀ {binds : List (Str × Value)} {m : Str → Option Value}, (∀ v, (x, v) ∉ binds) → bindC kindOf binds m x = m x
  | [], _, _ => rfl
  | (n, v) :: r, m, h => by
    unfold bindC
    rw [bindC_out fun w hw => h w (List.mem_cons_of_mem _ hw)]
    split
    · rfl
    · have : x ≠ n := by rintro rfl; exact h v List.mem_cons_self
      simp [this]
theorem bindL_get {kindOf : Str → Option NameKind} {x : Str} {v : Value} : ∀ {P : List Str} {vs : List Value} {i : Nat} {m : Str → Option Value}, P.Nodup → P[i]? = some x → vs[i]? = some v → kindOf x = some .local →
    bindL kindOf (P.zip vs) m x = some v
  | [], _, _, _, _, h, _, _ => by simp at h
  | _ :: _, [], _, _, _, _, h, _ => by simp at h
  | p :: P, w :: vs, 0, m, nd, h1, h2, hk => by
    simp at h1 h2; subst h1; subst h2
    show bindL kindOf ((p, w) :: P.zip vs) m p = _
    unfold bindL
    rw [bindL_out fun v hv => (List.nodup_cons.mp nd).1 (List.of_mem_zip hv).1, if_pos hk]
    simp
  | p :: P, w :: vs, i + 1, m, nd, h1, h2, hk => by
    show bindL kindOf ((p, w) :: P.zip vs) m x = _
    unfold bindL
    exact bindL_get (i := i) (List.nodup_cons.mp nd).2 (by simpa using h1) (by simpa using h2) hk
theorem bindC_get {kindOf : Str → Option NameKind} {x : Str} {v : Value} : ∀ {P : List Str} {vs : List Value} {i : Nat} {m : Str → Option Value}, P.Nodup → P[i]? = some x → vs[i]? = some v → kindOf x ≠ some .local →
    bindC kindOf (P.zip vs) m x = some v
  | [], _, _, _, _, h, _, _ => by simp at h
  | _ :: _, [], _, _, _, _, h, _ => by simp at h
  | p :: P, w :: vs, 0, m, nd, h1, h2, hk => by
    simp at h1 h2; subst h1; subst h2
    show bindC kindOf ((p, w) :: P.zip vs) m p = _
    unfold bindC
    rw [bindC_out fun v hv => (List.nodup_cons.mp nd).1 (List.of_mem_zip hv).1, if_neg hk]
    simp
  | p :: P, w :: vs, i + 1, m, nd, h1, h2, hk => by
    show bindC kindOf ((p, w) :: P.zip vs) m x = _
    unfold bindC
    exact bindC_get (i := i) (List.nodup_cons.mp nd).2 (by simpa using h1) (by simpa using h2) hk


def start (N : List Str) (vs : List V) : St := vs.map some ++ List.replicate (N.length - vs.length) none


def cxOf (CX : CXT) (P : Program) (w : World) (K : PySem.W.Frag) (mg : Str → Option Value) (base : Heap) (N : List Str) (qual : Str) (scope : Scope) (f : Addr) (cd : Value) (A : Around) (outer : List Env) (s : Shared) (H : Hp) (E : XK) : Cx where
  prog := P
  w := w
  K := K
  mg := mg
  base := base
  A := A.deeper (envOfC qual scope s.heap.objs.size f cd)
  N := N
  s₀ := s
  H₀ := H
  env := envOfC qual scope s.heap.objs.size f cd
  outer := outer
  stack := envOfC qual scope s.heap.objs.size f cd :: outer
  ex := []
  calm := true
  fn := fun _ => true
  pn := []
  xe := fun e s' => wpAny (model P w) (A.deeper (envOfC qual scope s.heap.objs.size f cd)) (leaving (envOfC qual scope s.heap.objs.size f cd) e) (fun _ s'' => CX outer H s E e s'') (fun e' s'' => CX outer H s E e' s'') s'

theorem cell_has {sc : Scope} {n : Nat} {x : Str} (h : sc.names.lookup x = some .cell) : ∃ c, (cellsFrom n sc.names []).lookup x = some c := by
  have q := PySem.W.cellsFrom_some sc.names n [] (.inl h)
  exact Option.isSome_iff_exists.mp q

theorem inv_start {CX : CXT} {P : Program} {w : World} {K : PySem.W.Frag} {mg : Str → Option Value} {base : Heap} {N ps : List Str} {qual : Str} {scope : Scope} {f : Addr} {cd : Value} {A : Around} {outer : List Env} {s s1 : Shared} {H : Hp} {E : XK} {us : List Value} {vs : List V}
    (S : FnScope N ps scope) (hd : A.handled = none) (e0 : Env0 P w K mg base A outer s H) (hl : vs.length = ps.length) (r : Vals vs us)
    (x : InCallC s s.heap.objs.size (bindL (envOfC qual scope s.heap.objs.size f cd).kindOf (ps.zip us) fun _ => none) (cellsFrom (s.heap.objs.size + 1) scope.names []) (bindC (envOfC qual scope s.heap.objs.size f cd).kindOf (ps.zip us) fun _ => none) s1) :
    Inv (cxOf CX P w K mg base N qual scope f cd A outer s H E) [] (start N vs) H s1 := by
  have hpl : ps.length ≤ N.length := by have := congrArg List.length S.pre; rw [List.length_take] at this; omega
  obtain ⟨h1, tk, rfl, hk⟩ := x.done
  have noA : ∀ b : Addr, b ∉ (cxOf CX P w K mg base N qual scope f cd A outer s H E).ex := fun b z => absurd (show b ∈ ([] : List Addr) from z) (by simp)
  refine ⟨⟨e0.mod, S.kind, rfl, rfl, Nat.le_refl _, fun y z c h1 h2 => ?_, fun y hy => ?_, fun y c _ h => ?_, fun _ => hd, Around.frames_deeper e0.frames, .inr ⟨rfl, rfl⟩, fun b z => absurd z (noA b), e0.bs, e0.bsz, fun b _ _ => noA b, fun b z => absurd z (noA b), e0.funs, e0.frf⟩,
    rfl, e0.bare, Un.kept hk, ⟨_, x.toInCall.ns, fun i y v h1 h2 h3 => ?_⟩, fun y c h => ⟨_, x.cell y c h⟩, e0.hok.fresh (Nat.le_refl _), fun y c h => ?_, fun p hp => absurd (show p ∈ ([] : List (Addr × Obj)) from hp) (by simp), e0.hok.kept hk, ?_⟩
  · exact name_of_addr x.apart (PySem.mem_of_lookup h1) (PySem.mem_of_lookup h2)
  · have hy : scope.names.lookup y = some .cell ∨ scope.names.lookup y = some .free := hy
    rcases hy with hy | hy
    · exact cell_has hy
    · exact absurd rfl (S.nofree _ (PySem.mem_of_lookup hy))
  · exact Nat.le_of_lt (x.above y c (PySem.mem_of_lookup h))
  · have hi : i < vs.length := by
      unfold start at h2
      by_cases hi : i < vs.length
      · exact hi
      · rw [List.getElem?_append_right (by simpa using hi)] at h2
        rw [List.getElem?_replicate] at h2
        split at h2 <;> cases h2
    have ha : vs[i]? = some v := by
      unfold start at h2
      rw [List.getElem?_append_left (by simpa using hi), List.getElem?_map] at h2
      cases e : vs[i]? with
      | none => rw [e] at h2; cases h2
      | some a => rw [e] at h2; cases h2; rfl
    obtain ⟨u, hu, rv⟩ := r.get ha
    have hp : ps[i]? = some y := by
      rw [← S.pre, List.getElem?_take_of_lt (by omega)]; exact h1
    have ndP : ps.Nodup := by rw [← S.pre]; exact S.nd.sublist (List.take_sublist _ _)
    refine ⟨u, rv, ?_⟩
    rcases S.par y (List.mem_of_getElem? hp) with k | k
    · exact .inl ⟨k, bindL_get ndP hp hu k⟩
    · obtain ⟨c, e⟩ := cell_has (n := s.heap.objs.size + 1) k
      refine .inr ⟨.inl k, c, e, ?_⟩
      have q := x.cell y c e
      rw [bindC_get ndP hp hu (by show scope.names.lookup y ≠ _; rw [k]; decide)] at q
      exact q
  · exact e0.hok.fresh (Nat.le_of_lt (x.above y c (PySem.mem_of_lookup h)))
  · unfold start
    show _ = N.length
    rw [List.length_append, List.length_map, List.length_replicate]
    omega


theorem fn_of {CX : CXT} {P : Program} {w : World} {K : PySem.W.Frag} {mg : Str → Option Value} {base : Heap} {k : Nat} {f : Addr} {name qual : Str} {params : Arguments} {body : List Stmt} {scope : Scope} {dV kV doc pm cdv ct oc : Value} {an od : Option Addr}
    {osl : Array (Option Value)} {N ps : List Str} {sp : Sp} (lk : K.lookup f = some ⟨oc, od, .func (PySem.W.fnOf name qual params body scope dV kV doc pm an cdv ct), osl⟩) (hcd : PySem.W.codeIn K cdv qual = true) (S : FnScope N ps scope)
    (len : ∀ vs H Q E, sp vs H Q E → vs.length = ps.length)
    (hbody : ∀ (A : Around) (outer : List Env) (s : Shared) (H : Hp) (vs : List V) (Q : VK) (E : XK), Room k (A.deeper (envOfC qual scope s.heap.objs.size f cdv)) → sp vs H Q E →
      ∃ t, PSs (cxOf CX P w K mg base N qual scope f cdv A outer s H E) body t ∧ t { nx := fun _ H' => Q .non H', rt := Q } (start N vs) H) :
    FnOk P w K mg base CX (k + 1) f (PySem.W.fnOf name qual params body scope dV kV doc pm an cdv ct) ps sp := by
  refine ⟨len, fun A outer s H args us vs Q E hr e0 hb r hsp => ?_⟩
  have hl := len _ _ _ _ hsp
  have KX : K.In s.heap := e0.mod.kin.keeps fun b o e => (e0.bs b o e).1
  have lim : s.heap.NoLimit := e0.mod.nolimit.keeps fun b o e => (e0.bs b o e).1
  have hkind : ∀ y ∈ ps.zip us, scope.names.lookup y.1 = some .local ∨ (scope.names.lookup y.1 = some .cell ∧ ((cellsFrom (s.heap.objs.size + 1) scope.names []).lookup y.1).isSome = true) := fun ⟨n, v⟩ hy => by
    rcases S.par n (List.of_mem_zip hy).1 with q | q
    · exact .inl q
    · exact .inr ⟨q, PySem.W.cellsFrom_some _ _ _ (.inl q)⟩
  refine codeAny_call_function hr.depth (KX _ _ lk) rfl S.co S.gen rfl (PySem.W.codeRec_of KX hcd) (hb _ _ _ _ ?_)
  refine wpAny_newFunctionEnv_cells S.kind hkind fun env he s1 x => ?_
  subst he
  refine ⟨lim.keeps x.toInCall.keep, codeAny_func ?_⟩
  obtain ⟨t, ht, hq⟩ := hbody A outer s H vs Q E (hr.deeper _) hsp
  have I : Inv (cxOf CX P w K mg base N qual scope f cdv A outer s H E) [] (start N vs) H s1 := inv_start S hr.hd e0 hl r x
  refine wpAny_mono (ht [] s1 (start N vs) H _ I hq) (fun fl s' hs => ?_) fun e s' hs => hs
  have fin : ∀ {σ' : St} {H' : Hp} {v : V} {u : Value}, Inv (cxOf CX P w K mg base N qual scope f cdv A outer s H E) [] σ' H' s' → RelV v u → Q v H' → CE outer P w H s Q u s' :=
    fun {σ' H' v u} J rv q => ⟨v, H', J.os, J.bare, J.base, J.hok, rv, q⟩
  cases fl with
  | ret u =>
    obtain ⟨v, σ', H', J, rv, q⟩ := hs
    exact fin J rv q
  | next =>
    obtain ⟨σ', H', J, q⟩ := hs
    exact fin (v := V.non) (u := Value.none) J rfl q
  | brk =>
    obtain ⟨_, _, _, q⟩ := hs
    exact False.elim q
  | cont =>
    obtain ⟨_, _, _, q⟩ := hs
    exact False.elim q
end L2

namespace L2
open PySem PySem.Spec PyProof.Rows
section
variable {X : Cx} {x : Str} {p pos : Pos} {e : Expr} {es : List Expr} {t : TA} {id T : String} {r : List V → Hp → VK → Prop}

def tCB (r : List V → Hp → VK → Prop) (t : TA) : TE := fun σ H Q => t σ H fun vs H1 => r vs H1 Q

theorem pe_callB (hc : CallR X (.builtin id) r) (hg : Gl X x) (hm : X.mg x = none) (hv : bootBuiltins x = some (.builtin id)) (ha : PA X (e :: es) t) (hn : x ≠ "__name__" := by decide) (hdb : (x == ("__debug__" : Str)) = false := by decide)
    (he : starEach (e :: es) X.env = (false, eval e X.env) :: starEach es X.env := by rfl) (hpl : (backTo pos (starEach es X.env)).any (·.1) = false := by rfl) : PE X (.Call (.Name x p) (e :: es) [] pos) (tCB r t) := by
  intro pins s σ H Q I h
  refine wpAny_Call_Name_kw (ld_blt I hg hm hv ?_ hn hdb)
  exact PyProof.Rows.callWith_builtin1 (thn (ha pos pins s σ H _ I h) fun us s1 ⟨vs, H1, I1, r1, q1⟩ => hc pins s1 σ H1 vs us Q I1 r1 q1) he hpl

theorem pe_callTy (hc : CallR X (.type T) r) (hg : Gl X x) (hm : X.mg x = none) (hv : bootBuiltins x = some (.type T)) (ha : PA X (e :: es) t) (hn : x ≠ "__name__" := by decide) (hdb : (x == ("__debug__" : Str)) = false := by decide)
    (he : starEach (e :: es) X.env = (false, eval e X.env) :: starEach es X.env := by rfl) (hpl : (backTo pos (starEach es X.env)).any (·.1) = false := by rfl) : PE X (.Call (.Name x p) (e :: es) [] pos) (tCB r t) := by
  intro pins s σ H Q I h
  refine wpAny_Call_Name_kw (ld_blt I hg hm hv ?_ hn hdb)
  exact PyProof.Rows.callWith_type1 (thn (ha pos pins s σ H _ I h) fun us s1 ⟨vs, H1, I1, r1, q1⟩ => hc pins s1 σ H1 vs us Q I1 r1 q1) he hpl

end
end L2

namespace HT
open PySem PyProof.Rows


section
open PySem.SeqAt
open PySem.AutoSeq1 (wpAny_loadPart')
open PySem.MeetsSeq PySem.MeetsSeq2 PySem.MeetsSeq3

end

section
variable {prog : Program} {w : World} {A : Around} {E : Value → Shared → Prop} {s : Shared}

def sIx (n d : Nat) : Option Int → Nat
  | none => d
  | some v => if v < 0 then (v + (n : Int)).toNat else min v.toNat n
theorem sIx_none (n d : Nat) : sIx n d none = d := rfl
theorem sIx_nat (n d k : Nat) : sIx n d (some (k : Int)) = min k n := by
  show (if (k : Int) < 0 then ((k : Int) + (n : Int)).toNat else min (k : Int).toNat n) = min k n
  rw [if_neg (by omega), Int.toNat_natCast]
end
end HT

namespace L2
open PySem PySem.Spec PyProof.Rows


abbrev TO := St → Hp → (Option Int → Hp → Prop) → Prop

def PO (X : Cx) (e : Option Expr) (t : TO) : Prop :=
  ∀ (pins : List (Addr × Obj)) (s : Shared) (σ : St) (H : Hp) (Q : Option Int → Hp → Prop), Inv X pins σ H s → t σ H Q →
    wpAny (model X.prog X.w) X.A (evalPart e X.env) (fun u s' => ∃ o H', Inv X pins σ H' s' ∧ IsPart u o ∧ Q o H') X.xe s
def tNoPart : TO := fun _ H Q => Q none H
def tPart (t : TE) : TO := fun σ H Q => t σ H fun x H1 => ∃ i, x = .int i ∧ Q (some i) H1

section
variable {X : Cx} {e : Expr} {te : TE} {lo hi : Option Expr} {tl th : TO} {pos p2 : Pos}

theorem po_none : PO X none tNoPart := by
  intro pins s σ H Q I h
  rw [evalPart_none]
  exact wpAny_pure ⟨none, H, I, .none, h⟩
theorem po_some (h : PE X e te) : PO X (some e) (tPart te) := by
  intro pins s σ H Q I hw
  rw [evalPart_some]
  refine thn (h pins s σ H _ I hw) fun u s1 ⟨x, H1, I1, r1, q1⟩ => ?_
  obtain ⟨i, rfl, q⟩ := q1
  obtain ⟨t, rfl⟩ := r1
  exact ⟨some i, H1, I1, .int i t, q⟩


def SlR (X : Cx) (r : V → Option Int → Option Int → Hp → VK → Prop) : Prop :=
  ∀ (pins : List (Addr × Obj)) (s : Shared) (σ : St) (H : Hp) (x : V) (v vl vu : Value) (lo hi : Option Int) (sl : Addr) (Q : VK), Inv X pins σ H s → RelV x v → s.heap.IsSliceOf sl vl vu .none → IsPart vl lo → IsPart vu hi → r x lo hi H Q →
    ∃ T id, typeLookup (.type T) "__getitem__" = pure (some (.builtin id)) ∧ s.TypeIs v T ∧ wpAny (model X.prog X.w) X.A (getItem v (.ref sl)) (EP X pins σ Q) X.xe s
def tSl (r : V → Option Int → Option Int → Hp → VK → Prop) (te : TE) (tl th : TO) : TE := fun σ H Q => te σ H fun x H1 => tl σ H1 fun l H2 => th σ H2 fun u H3 => r x l u H3 Q

theorem pe_slice {r : V → Option Int → Option Int → Hp → VK → Prop} (hr : SlR X r) (he : PE X e te) (hl : PO X lo tl) (hu : PO X hi th) : PE X (.Subscript e (.Slice lo hi none p2) pos) (tSl r te tl th) := by
  intro pins s σ H Q I h
  refine Subscript_ (thn (he pins s σ H _ I h) fun v s1 ⟨x, H1, I1, r1, q1⟩ => ?_)
  refine wpAny_Slice (thn (hl pins s1 σ H1 _ I1 q1) fun vl s2 ⟨l, H2, I2, pl, q2⟩ => thn (hu pins s2 σ H2 _ I2 q2) fun vu s3 ⟨u, H3, I3, pu, q3⟩ => ?_)
  rw [evalPart_none]
  refine wpAny_pure ?_
  have I4 : Inv X pins σ H3 { s3 with heap := s3.heap.push { cls := .type "slice", data := .fields #[vl, vu, .none] } } := I3.kept (t' := s3.toks) fun b ob q => Heap.get?_push_of_some _ q
  obtain ⟨T, id, hT, ht, hg⟩ := hr pins { s3 with heap := s3.heap.push { cls := .type "slice", data := .fields #[vl, vu, .none] } } σ H3 x v vl vu l u s3.heap.objs.size Q I4 r1 (Heap.IsSliceOf.new ..) pl pu q3
  show wpAny (model X.prog X.w) X.A (subscriptTail e (.Slice lo hi none p2) v (.ref s3.heap.objs.size)) (EP X pins σ Q) X.xe { s3 with heap := s3.heap.push { cls := .type "slice", data := .fields #[vl, vu, .none] } }
  exact tail_any (ops := [.ref s3.heap.objs.size, v]) ht hT hg (by with_unfolding_all rfl)


def cutV (xs : List V) (lo hi : Option Int) : List V := (xs.drop (HT.sIx xs.length 0 lo)).take (HT.sIx xs.length xs.length hi - HT.sIx xs.length 0 lo)
theorem cutV_length (xs : List V) (lo hi : Option Int) : (cutV xs lo hi).length ≤ xs.length := by
  unfold cutV
  rw [List.length_take, List.length_drop]
  omega

end
end L2

namespace L2
open PySem PySem.Spec PyProof.Rows



def ixN (n : Nat) (i : Int) : Option Nat := if 0 ≤ i then (if i < n then some i.toNat else none) else if -(n : Int) ≤ i then some (i + n).toNat else none
def atI {α : Type} (xs : List α) (i : Int) : Option α := (ixN xs.length i).bind fun j => xs[j]?
theorem ixN_seq {n : Nat} {i : Int} {j : Nat} (h : ixN n i = some j) : seqIndex? i n = some j ∧ j < n ∧ -(n : Int) ≤ i ∧ i < n := by
  unfold ixN at h
  by_cases h0 : 0 ≤ i
  · rw [if_pos h0] at h
    by_cases h1 : i < n
    · rw [if_pos h1] at h
      have e : i.toNat = j := Option.some.inj h
      exact ⟨by rw [seqIndex_of h0 h1, e], by omega, by omega, h1⟩
    · rw [if_neg h1] at h; cases h
  · rw [if_neg h0] at h
    by_cases h1 : -(n : Int) ≤ i
    · rw [if_pos h1] at h
      have e : (i + n).toNat = j := Option.some.inj h
      exact ⟨by rw [seqIndex_neg (by omega) h1, e], by omega, h1, by omega⟩
    · rw [if_neg h1] at h; cases h
theorem atI_get {α : Type} {xs : List α} {i : Int} {v : α} (h : atI xs i = some v) : ∃ j, seqIndex? i xs.length = some j ∧ xs[j]? = some v ∧ j < xs.length ∧ -(xs.length : Int) ≤ i ∧ i < xs.length := by
  unfold atI at h
  cases e : ixN xs.length i with
  | none => rw [e] at h; cases h
  | some j =>
    rw [e] at h
    obtain ⟨h1, h2, h3, h4⟩ := ixN_seq e
    exact ⟨j, h1, h, h2, h3, h4⟩
theorem atI_nat {α : Type} {xs : List α} {j : Nat} {v : α} (h : xs[j]? = some v) : atI xs (j : Int) = some v := by
  have hj : j < xs.length := (List.getElem?_eq_some_iff.mp h).1
  have e : ixN xs.length (j : Int) = some j := by
    unfold ixN
    rw [if_pos (by omega), if_pos (by omega)]; simp
  unfold atI; rw [e]; exact h
def PlainIx (b : Expr) : Prop := ∀ o i, subscripted b false o i = operate [o, i] (getItem o i)

def IxR (X : Cx) (r : R2) : Prop :=
  ∀ (value slice : Expr) (pins : List (Addr × Obj)) (s : Shared) (σ : St) (H : Hp) (x y : V) (v u : Value) (Q : VK), Inv X pins σ H s → RelV x v → RelV y u → r x y H Q →
    subscripted slice false v u = operate [v, u] (getItem v u) → wpAny (model X.prog X.w) X.A (subscriptTail value slice v u) (EP X pins σ Q) X.xe s

def MtR (X : Cx) (id : String) (r : V → List V → Hp → VK → Prop) : Prop :=
  ∀ (pins : List (Addr × Obj)) (s : Shared) (σ : St) (H : Hp) (x : V) (xs : List V) (v : Value) (us : List Value) (Q : VK), Inv X pins σ H s → RelV x v → Vals xs us → r x xs H Q →
    wpAny (model X.prog X.w) X.A (call (.builtin id) (v :: us)) (EP X pins σ Q) X.xe s
section
variable {X : Cx} {a b : Expr} {ta tb : TE} {pos : Pos}
theorem pe_ix {r : R2} (hr : IxR X r) (ha : PE X a ta) (hb : PE X b tb) (hs : PlainIx b) : PE X (.Subscript a b pos) (tOp r ta tb) := by
  intro pins s σ H Q I h
  exact Subscript_ (binT ha hb I h fun v u s2 x y H2 I2 rx ry q => hr a b pins s2 σ H2 x y v u Q I2 rx ry q (hs _ _))

def rIxL (K : PySem.W.Frag) : R2 := fun x y H Q => ∃ p xs i v, x = .ref p ∧ y = .int i ∧ SqL K H p xs ∧ atI xs i = some v ∧ Q v H
def rIxT (K : PySem.W.Frag) : R2 := fun x y H Q => ∃ p xs i v, x = .ref p ∧ y = .int i ∧ SqT K H p xs ∧ atI xs i = some v ∧ Q v H
def rIxS : R2 := fun x y H Q => ∃ z i c, x = .str z ∧ y = .int i ∧ z.length ≤ sizeLine ∧ atI z.cps.toList i = some c ∧ Q (.str ⟨#[c]⟩) H
theorem ix_list : IxR X (rIxL X.K) := by
  intro value slice pins s σ H x y v u Q I rx ry h hs
  obtain ⟨p, xs, i, z, rfl, rfl, hq, he, q⟩ := h
  cases rx
  obtain ⟨t, rfl⟩ := ry
  obtain ⟨its, r, pl, hz⟩ := I.list hq
  obtain ⟨j, h1, h2, h3, h4, h5⟩ := atI_get he
  obtain ⟨w, ew, rw'⟩ := r.get h2
  have hl := r.length
  have hn := line63
  have fin : EP X pins σ Q w s := ⟨z, H, I, rw', q⟩
  by_cases h0 : 0 ≤ i
  · have hj : i.toNat = j := by
      rw [seqIndex_of h0 h5] at h1
      exact Option.some.inj h1
    exact item_listR pl.isList h0 (by omega) (by rw [hj]; simpa using ew) fin hs
  · have hj : (i + (its.toArray.size : Int)).toNat = j := by
      rw [seqIndex_neg (by omega) h4] at h1
      rw [List.size_toArray, ← hl]
      exact Option.some.inj h1
    exact subscriptTail_builtinR (x := w) pl.isList.typeIs slot_list_getitem.lookup
      (wpAny_getItem_list_neg (Q := fun r s' => r = w ∧ EP X pins σ Q r s') pl.isList (by omega) (by rw [List.size_toArray] <;> omega) (by omega) (by rw [hj]; simpa using ew) ⟨rfl, fin⟩) hs
theorem ix_tup : IxR X (rIxT X.K) := by
  intro value slice pins s σ H x y v u Q I rx ry h hs
  obtain ⟨p, xs, i, z, rfl, rfl, hq, he, q⟩ := h
  cases rx
  obtain ⟨t, rfl⟩ := ry
  obtain ⟨its, r, pl, hz⟩ := I.tuple hq
  obtain ⟨j, h1, h2, h3, h4, h5⟩ := atI_get he
  obtain ⟨w, ew, rw'⟩ := r.get h2
  have hl := r.length
  have hn := line63
  have fin : EP X pins σ Q w s := ⟨z, H, I, rw', q⟩
  exact subscriptTail_builtinR (x := w) pl.typeIs slot_tuple_getitem.lookup
    (getItem_tuple (j := j) (Q := fun r s' => r = w ∧ EP X pins σ Q r s') pl (by omega) (by omega) (by rw [List.size_toArray, ← hl]; exact h1) (by simpa using ew) ⟨rfl, fin⟩) hs
theorem ix_str : IxR X rIxS := by
  intro value slice pins s σ H x y v u Q I rx ry h hs
  obtain ⟨z, i, c, rfl, rfl, hz, he, q⟩ := h
  obtain ⟨t, rfl⟩ := rx
  obtain ⟨t', rfl⟩ := ry
  obtain ⟨j, h1, h2, h3, h4, h5⟩ := atI_get he
  have hl : z.cps.toList.length = z.length := by simp [Str.length]
  rw [hl] at h1 h4 h5
  have hn := line63
  exact tail_any (typeIs_str s z t) slot_str_getitem.lookup (getItem_str (c := c) (by
    have e1 : decide (i < -(2 ^ 63 : Int)) = false := decide_eq_false (by omega)
    have e2 : decide (i ≥ 2 ^ 63) = false := decide_eq_false (by omega)
    rw [e1, e2, Bool.or_false]) (by rw [h1]; simpa using h2) ⟨.str ⟨#[c]⟩, H, I.tok _, ⟨_, rfl⟩, q⟩) hs

theorem mapSeq_set (its : List Value) (n j : Nat) (u : Value) : Obj.mapSeq (·.setIfInBounds j u) { cls := .type "list", data := .seq its.toArray n } = { cls := .type "list", data := .seq (its.set j u).toArray n } := by
  simp [Obj.mapSeq]
theorem Inv.lst {pins : List (Addr × Obj)} {σ : St} {H : Hp} {s : Shared} {p : Addr} {xs : List V} (I : Inv X pins σ H s) (h : H p = some (.lst xs)) :
    ∃ (its : List Value) (n : Nat), Vals xs its ∧ s.heap.get? p = some { cls := .type "list", data := .seq its.toArray n } ∧ xs.length ≤ sizeLine := by
  obtain ⟨z, its, n, r, e⟩ := I.hok p _ h
  exact ⟨its, n, r, e, z⟩

theorem Inv.lstUpd {pins : List (Addr × Obj)} {σ : St} {H : Hp} {s : Shared} {p : Addr} {xs ys : List V} {its its' : List Value} {n n' : Nat} {f : Obj → Obj} (I : Inv X pins σ H s) (h : H p = some (.lst xs))
    (ho : s.heap.get? p = some { cls := .type "list", data := .seq its.toArray n }) (hf : f { cls := .type "list", data := .seq its.toArray n } = { cls := .type "list", data := .seq its'.toArray n' }) (r : Vals ys its') (hz : ys.length ≤ sizeLine) (t : Nat) :
    Inv X pins σ (upd H p (.lst ys)) { s with heap := s.heap.update p f, toks := t } := by
  have e : (s.heap.update p f).get? p = some { cls := .type "list", data := .seq its'.toArray n' } := by
    rw [Heap.get?_update_self f ho (by rw [hf] <;> rfl), hf]
  refine I.write (x := p) (e := p) (by rw [h]; trivial) (.inl rfl) (fun b u hb q => (Heap.get?_update_other _ _ (Ne.symm hb)).trans q) ⟨_, e⟩ ?_
  exact ⟨hz, its', n', r, e⟩
def rSetL : V → V → V → Hp → (Hp → Prop) → Prop := fun o i v H Q => ∃ p xs k j, o = .ref p ∧ i = .int k ∧ H p = some (.lst xs) ∧ ixN xs.length k = some j ∧ Q (upd H p (.lst (xs.set j v)))
theorem set_list : PSet X rSetL := by
  intro pins s σ H o i v ov iv u Q I ro ri rv h
  obtain ⟨p, xs, k, j, rfl, rfl, hp, hj, q⟩ := h
  cases ro
  obtain ⟨t, rfl⟩ := ri
  obtain ⟨its, n, r, ho, hz⟩ := I.lst hp
  obtain ⟨h1, h2, h3, h4⟩ := ixN_seq hj
  have hl := r.length
  have hn := line63
  have I' : Inv X pins σ (upd H p (.lst (xs.set j v))) { s with heap := s.heap.update p (Obj.mapSeq (·.setIfInBounds j u)) } :=
    I.lstUpd hp ho (mapSeq_set its n j u) (r.set rv j) (by rw [List.length_set]; exact hz) s.toks
  by_cases h0 : 0 ≤ k
  · have hk : k.toNat = j := by
      rw [seqIndex_of h0 h4] at h1
      exact Option.some.inj h1
    exact PySem.W.ki_setAt ho h0 (by omega) (by rw [List.size_toArray, ← hl]; exact h4) (by rw [hk]; exact ⟨_, I', q⟩)
  · have hk : (k + (its.toArray.size : Int)).toNat = j := by
      rw [seqIndex_neg (by omega) h3] at h1
      rw [List.size_toArray, ← hl]
      exact Option.some.inj h1
    exact PySem.W.ki_setBack ho (by omega) (by rw [List.size_toArray, ← hl]; exact h3) (by omega) (by rw [hk]; exact ⟨_, I', q⟩)


theorem slice_bounds (lo hi : Option Int) (n : Nat) : (sliceBounds lo hi none n).1 = ((HT.sIx n 0 lo : Nat) : Int) ∧ (sliceBounds lo hi none n).2.1 = ((HT.sIx n n hi : Nat) : Int) ∧ (sliceBounds lo hi none n).2.2 = 1 := by
  refine ⟨?_, ?_, rfl⟩
  · cases lo with
    | none => simp [sliceBounds, HT.sIx]
    | some i =>
      simp only [sliceBounds, HT.sIx, Option.getD_none, show (1 : Int) > 0 by decide, if_true]
      by_cases h : i < 0
      · simp only [h, if_true] <;> omega
      · simp only [h, if_false] <;> omega
  · cases hi with
    | none => simp [sliceBounds, HT.sIx]
    | some i =>
      simp only [sliceBounds, HT.sIx, Option.getD_none, show (1 : Int) > 0 by decide, if_true]
      by_cases h : i < 0
      · simp only [h, if_true] <;> omega
      · simp only [h, if_false] <;> omega
theorem slicePick_cut (its : List Value) (lo hi : Option Int) : slicePick its.toArray lo hi none = ((its.drop (HT.sIx its.length 0 lo)).take (HT.sIx its.length its.length hi - HT.sIx its.length 0 lo)).toArray := by
  obtain ⟨h1, h2, h3⟩ := slice_bounds lo hi its.toArray.size
  unfold slicePick
  rw [h1, h2, h3]
  simp only [sliceRange_one, pick_run, List.size_toArray] <;> rfl

def rSlL (K : PySem.W.Frag) : V → Option Int → Option Int → Hp → VK → Prop := fun x lo hi H Q => ∃ a xs, x = .ref a ∧ SqL K H a xs ∧ ∀ p, H p = none → Q (.ref p) (upd H p (.lst (cutV xs lo hi)))
theorem sl_list : SlR X (rSlL X.K) := by
  intro pins s σ H x v vl vu lo hi sl Q I rx hs pl pu h
  obtain ⟨a, xs, rfl, hx, q⟩ := h
  cases rx
  obtain ⟨its, r, ht, hz⟩ := I.list hx
  have hlen := r.length
  refine ⟨"list", _, slot_list_getitem.lookup, ht.isList.typeIs, ?_⟩
  refine wpAny_getItem_list_slice ht.isList hs pl pu .none (by simp) ?_ (by rw [List.size_toArray] <;> omega)
  rw [slicePick_cut, ← hlen]
  refine ⟨.ref s.heap.objs.size, _, I.laid (t' := s.toks) (o := .lst (cutV xs lo hi)) (fun b ob q => Heap.get?_push_of_some _ q) (Nat.le_refl _) ?_, rfl, q _ (I.hok.fresh (Nat.le_refl _))⟩
  exact ⟨Nat.le_trans (cutV_length xs lo hi) hz, _, 0, (r.drop (HT.sIx xs.length 0 lo)).take (HT.sIx xs.length xs.length hi - HT.sIx xs.length 0 lo), Heap.get?_push_size _ rfl⟩


def flatV : V → Bool
  | .non => true
  | .bl _ => true
  | .int _ => true
  | .str _ => true
  | _ => false

def eqV : V → V → Bool
  | .non, .non => true
  | .bl a, .bl b => a == b
  | .bl a, .int b => (if a then 1 else 0) == b
  | .int a, .bl b => a == (if b then 1 else 0)
  | .int a, .int b => a == b
  | .str a, .str b => a == b
  | _, _ => false
theorem eqAt_V {A : Around} {s : Shared} {y x : V} {u v : Value} (ry : RelV y u) (rx : RelV x v) (fy : flatV y = true) (fx : flatV x = true) : SeqAt.EqAt A s u v (eqV y x) := by
  cases y with
  | non =>
    cases ry
    cases x with
    | non => cases rx; exact SeqAt.EqAt.same _
    | bl b => cases rx; exact SeqAt.EqAt.none_bool b
    | int b => obtain ⟨t, rfl⟩ := rx; exact SeqAt.EqAt.none_int b t
    | str b => obtain ⟨t, rfl⟩ := rx; exact SeqAt.EqAt.none_str b t
    | _ => exact absurd (show false = true from fx) Bool.false_ne_true
  | bl a =>
    cases ry
    cases x with
    | non => cases rx; exact SeqAt.EqAt.bool_none a
    | bl b => cases rx; exact SeqAt.EqAt.bool_bool a b
    | int b => obtain ⟨t, rfl⟩ := rx; exact SeqAt.EqAt.bool_int a b t
    | str b => obtain ⟨t, rfl⟩ := rx; exact SeqAt.EqAt.bool_str a b t
    | _ => exact absurd (show false = true from fx) Bool.false_ne_true
  | int a =>
    obtain ⟨t', rfl⟩ := ry
    cases x with
    | non => cases rx; exact SeqAt.EqAt.int_none a t'
    | bl b => cases rx; exact SeqAt.EqAt.int_bool a t' b
    | int b => obtain ⟨t, rfl⟩ := rx; exact SeqAt.EqAt.int_int a t' b t
    | str b => obtain ⟨t, rfl⟩ := rx; exact SeqAt.EqAt.int_str a t' b t
    | _ => exact absurd (show false = true from fx) Bool.false_ne_true
  | str a =>
    obtain ⟨t', rfl⟩ := ry
    cases x with
    | non => cases rx; exact SeqAt.EqAt.str_none a t'
    | bl b => cases rx; exact SeqAt.EqAt.str_bool a t' b
    | int b => obtain ⟨t, rfl⟩ := rx; exact SeqAt.EqAt.str_int a t' b t
    | str b => obtain ⟨t, rfl⟩ := rx; exact SeqAt.EqAt.str_str a t' b t
    | _ => exact absurd (show false = true from fx) Bool.false_ne_true
  | _ => exact absurd (show false = true from fy) Bool.false_ne_true

def eqU (x : V) (u : Value) : Bool := match u with
  | .none => eqV .non x
  | .bool b => eqV (.bl b) x
  | .int i _ => eqV (.int i) x
  | .str z _ => eqV (.str z) x
  | _ => false
theorem eqU_of {x y : V} {u : Value} (r : RelV y u) (f : flatV y = true) : eqU x u = eqV y x := by
  cases y with
  | non => cases r; rfl
  | bl b => cases r; rfl
  | int i => obtain ⟨t, rfl⟩ := r; rfl
  | str z => obtain ⟨t, rfl⟩ := r; rfl
  | _ => exact absurd (show false = true from f) Bool.false_ne_true
theorem any_eqU {x : V} : ∀ {xs : List V} {us : List Value}, Vals xs us → xs.all flatV = true → us.any (eqU x) = xs.any fun y => eqV y x
  | _, _, .nil, _ => rfl
  | y :: xs, u :: us, .cons r t, f => by
    rw [List.all_cons, Bool.and_eq_true] at f
    rw [List.any_cons, List.any_cons, eqU_of r f.1, any_eqU t f.2]
theorem mem_eqAt {A : Around} {s : Shared} {x : V} {v : Value} (rx : RelV x v) (fx : flatV x = true) : ∀ {xs : List V} {us : List Value}, Vals xs us → xs.all flatV = true → ∀ u ∈ us, SeqAt.EqAt A s u v (eqU x u)
  | _, _, .nil, _ => fun u hu => by cases hu
  | y :: xs, u :: us, .cons r t, f => fun u' hu => by
    rw [List.all_cons, Bool.and_eq_true] at f
    rcases List.mem_cons.mp hu with rfl | hu
    · rw [eqU_of r f.1]; exact eqAt_V r rx f.1 fx
    · exact mem_eqAt rx fx t f.2 u' hu
def inV (x : V) (xs : List V) : Bool := xs.any fun y => eqV y x

def rIn (K : PySem.W.Frag) (neg : Bool) : R2 := fun x y H Q => ∃ p xs, y = .ref p ∧ (SqL K H p xs ∨ SqT K H p xs) ∧ flatV x = true ∧ xs.all flatV = true ∧ Q (.bl (if neg then !inV x xs else inV x xs)) H
theorem op_in_seq : OpR X (compareOp .In) (rIn X.K false) := by
  intro pins s σ H x y v u Q I rx ry h
  obtain ⟨p, xs, rfl, hq, fx, fs, q⟩ := h
  cases ry
  rcases hq with hq | hq
  · obtain ⟨its, r, pl, hz⟩ := I.list hq
    refine SeqAt.in_listAt (eqU x) pl.isList (fun w hw => mem_eqAt rx fx r fs w (by simpa using hw)) ⟨.bl _, H, I, rfl, ?_⟩
    rw [show its.toArray.any (eqU x) = its.any (eqU x) by simp, any_eqU r fs]
    exact q
  · obtain ⟨its, r, pl, hz⟩ := I.tuple hq
    refine SeqAt.in_tupleAt (eqU x) pl (fun w hw => mem_eqAt rx fx r fs w (by simpa using hw)) ⟨.bl _, H, I, rfl, ?_⟩
    rw [show its.toArray.any (eqU x) = its.any (eqU x) by simp, any_eqU r fs]
    exact q
theorem call_len_seq : CallR X (.builtin "len") (fun xs H Q => ∃ p ys, xs = [.ref p] ∧ (SqL X.K H p ys ∨ SqT X.K H p ys) ∧ Q (.int ys.length) H) := by
  intro pins s σ H xs us Q I r h
  obtain ⟨p, ys, rfl, hq, q⟩ := h
  obtain ⟨u, rfl, rx⟩ := vals1 r
  cases rx
  have hn := line63
  rcases hq with hq | hq
  · obtain ⟨its, r', pl, hz⟩ := I.list hq
    have hlen := r'.length
    exact Calls.call_len_list pl.isList (by simp only [List.size_toArray] <;> omega) ⟨.int ys.length, H, I.tok _, ⟨s.toks + 1, by rw [List.size_toArray, hlen]⟩, q⟩
  · obtain ⟨its, r', pl, hz⟩ := I.tuple hq
    have hlen := r'.length
    exact len_tuple pl (by simp only [List.size_toArray] <;> omega) ⟨.int ys.length, H, I.tok _, ⟨s.toks + 1, by rw [List.size_toArray, hlen]⟩, q⟩
theorem call_list_of : CallR X (.type "list") (fun xs H Q => ∃ p ys, xs = [.ref p] ∧ (SqL X.K H p ys ∨ SqT X.K H p ys) ∧ ∀ l, H l = none → Q (.ref l) (upd H l (.lst ys))) := by
  intro pins s σ H xs us Q I r h
  obtain ⟨p, ys, rfl, hq, q⟩ := h
  obtain ⟨u, rfl, rx⟩ := vals1 r
  cases rx
  have fin : ∀ (its : List Value), Vals ys its → ys.length ≤ sizeLine → ∀ (h' : Heap) (c' : Nat), (∀ b o', s.heap.get? b = some o' → h'.get? b = some o') →
      h'.get? s.heap.objs.size = some { cls := .type "list", dict := none, data := .seq its.toArray c', slots := #[] } → EP X pins σ Q (.ref s.heap.objs.size) { s with heap := h' } := fun its r' hz h' c' kp e =>
    ⟨.ref s.heap.objs.size, _, I.laid (t' := s.toks) kp (Nat.le_refl _) (show ObjOk X.prog X.w _ h' _ (.lst ys) from ⟨hz, its, c', r', e⟩), rfl, q _ (I.hok.fresh (Nat.le_refl _))⟩
  rcases hq with hq | hq
  · obtain ⟨its, r', pl, hz⟩ := I.list hq
    have hlen := r'.length
    obtain ⟨o, ho, hc, n, hd⟩ := pl.isList
    exact call_list_seq p (.inl rfl) ho hc hd (fun h' c' kp e => fin its r' hz h' c' kp e) (by simp only [List.size_toArray] <;> omega)
  · obtain ⟨its, r', pl, hz⟩ := I.tuple hq
    have hlen := r'.length
    obtain ⟨o, ho, hc, n, hd⟩ := pl
    exact call_list_seq p (.inr rfl) ho hc hd (fun h' c' kp e => fin its r' hz h' c' kp e) (by simp only [List.size_toArray] <;> omega)
theorem call_tuple_of : CallR X (.type "tuple") (fun xs H Q => ∃ p ys, xs = [.ref p] ∧ ((SqL X.K H p ys ∧ ∀ l, H l = none → Q (.ref l) (upd H l (.tup ys))) ∨ (SqT X.K H p ys ∧ Q (.ref p) H))) := by
  intro pins s σ H xs us Q I r h
  obtain ⟨p, ys, rfl, h⟩ := h
  obtain ⟨u, rfl, rx⟩ := vals1 r
  cases rx
  rcases h with ⟨hq, q⟩ | ⟨hq, q⟩
  · obtain ⟨its, r', pl, hz⟩ := I.list hq
    have hlen := r'.length
    refine call_tuple_list pl.isList (fun h' kp => ?_) (by simp only [List.size_toArray] <;> omega)
    have I1 : Inv X pins σ H { s with heap := h' } := I.kept (t' := s.toks) kp
    have I2 : Inv X pins σ (upd H h'.objs.size (.tup ys)) { s with heap := h'.push { cls := .type "tuple", data := .seq its.toArray } } :=
      I1.laid (t' := s.toks) (fun b o e => Heap.get?_push_of_some _ e) (Nat.le_refl _) (show ObjOk X.prog X.w _ _ _ (.tup ys) from ⟨hz, its, r', IsTup.new _ _⟩)
    exact ⟨.ref h'.objs.size, _, I2, rfl, q _ (I1.hok.fresh (Nat.le_refl _))⟩
  · obtain ⟨its, r', pl, hz⟩ := I.tuple hq
    exact call_tuple_same pl ⟨.ref p, H, I, rfl, q⟩



def tyV (K : PySem.W.Frag) (T : String) (x : V) (H : Hp) : Prop := match x with
  | .str _ => T = "str"
  | .int _ => T = "int"
  | .ref p => (T = "list" ∧ ∃ xs, SqL K H p xs) ∨ (T = "tuple" ∧ ∃ o, K.lookup p = some o ∧ o.cls = .type "tuple" ∧ o.dict = none) ∨
      (T = "dict" ∧ ((∃ kvs, H p = some (.dK kvs)) ∨ ∃ kvs, H p = some (.dT kvs))) ∨ (T = "set" ∧ ∃ S n, H p = some (.set S n))
  | _ => False
theorem tyV_is {pins : List (Addr × Obj)} {σ : St} {H : Hp} {s : Shared} {T : String} {x : V} {v : Value} (I : Inv X pins σ H s) (r : RelV x v) (ty : tyV X.K T x H) :
    s.TypeIs v T ∧ ∀ a, v = .ref a → ∃ ob, s.heap.get? a = some ob ∧ ob.dict = none := by
  cases x with
  | str z =>
    obtain ⟨t, rfl⟩ := r
    cases (show T = "str" from ty)
    exact ⟨typeIs_str s z t, fun _ e => nomatch e⟩
  | int i =>
    obtain ⟨t, rfl⟩ := r
    cases (show T = "int" from ty)
    exact ⟨typeIs_int s i t, fun _ e => nomatch e⟩
  | ref p =>
    cases r
    rcases ty with ⟨rfl, xs, hq⟩ | ⟨rfl, o, hk, hc, hd⟩ | ⟨rfl, hk⟩ | ⟨rfl, S, n, hk⟩
    · obtain ⟨its, _, pl, _⟩ := I.list hq
      refine ⟨pl.isList.typeIs, fun a e => ?_⟩
      cases e
      obtain ⟨o, n, e, c, hd, _⟩ := pl
      exact ⟨o, e, hd⟩
    · refine ⟨⟨o, I.kIn p o hk, hc⟩, fun a e => ?_⟩
      cases e
      exact ⟨o, I.kIn _ o hk, hd⟩
    · have z : ∃ o, s.heap.get? p = some o ∧ o.ExactDict := by
        rcases hk with ⟨kvs, hk⟩ | ⟨kvs, hk⟩
        · obtain ⟨_, _, _, _, o, _, _, e, ex, _⟩ := I.hok p _ hk
          exact ⟨o, e, ex⟩
        · obtain ⟨_, _, _, _, o, _, _, e, ex, _⟩ := I.hok p _ hk
          exact ⟨o, e, ex⟩
      obtain ⟨o, e, ex⟩ := z
      refine ⟨⟨o, e, ex.1⟩, fun a e2 => ?_⟩
      cases e2
      exact ⟨o, e, ex.2.1⟩
    · obtain ⟨o, _, _, _, e, ex, _⟩ := I.hok p _ hk
      refine ⟨⟨o, e, ex.1⟩, fun a e2 => ?_⟩
      cases e2
      exact ⟨o, e, ex.2.1⟩
  | _ => exact False.elim ty
def tBM0 (K : PySem.W.Frag) (T : String) (r : V → List V → Hp → VK → Prop) (to : TE) : TE := fun σ H Q => to σ H fun x H1 => tyV K T x H1 ∧ r x [] H1 Q
def tBM (K : PySem.W.Frag) (T : String) (r : V → List V → Hp → VK → Prop) (to : TE) (t : TA) : TE := fun σ H Q => to σ H fun x H1 => tyV K T x H1 ∧ t σ H1 fun xs H2 => r x xs H2 Q
variable {o e : Expr} {es : List Expr} {to : TE} {t : TA} {name : Str} {apos cpos : Pos} {T id : String} {r : V → List V → Hp → VK → Prop}
theorem pe_bm0 (pa : PlainAttrs T) (slot : Slot T name id) (hty : typeOf (.builtin id) = pure (.type "method_descriptor")) (hm : MtR X id r) (ho : PE X o to)
    (hbase : attributeBase o name X.env (eval o X.env) = eval o X.env := by rfl) (hline : (apos.endLine == cpos.line) = true := by rfl) : PE X (.Call (.Attribute o name apos) [] [] cpos) (tBM0 X.K T r to) := by
  intro pins s σ H Q I h
  refine wpAny_Call_method0_late hbase hline (thn (ho pins s σ H _ I h) fun v s1 ⟨x, H1, I1, r1, ty, q1⟩ => ?_)
  obtain ⟨h1, h2⟩ := tyV_is I1 r1 ty
  exact ⟨T, id, pa, slot, hty, h1, h2, Calls.callWith_builtin rfl (PySem.evalArgs_none (hm pins s1 σ H1 x [] v [] Q I1 r1 .nil q1))⟩
theorem pe_bm (pa : PlainAttrs T) (slot : Slot T name id) (hty : typeOf (.builtin id) = pure (.type "method_descriptor")) (hm : MtR X id r) (ho : PE X o to) (ha : PA X (e :: es) t)
    (hbase : attributeBase o name X.env (eval o X.env) = eval o X.env := by rfl)
    (hfew : ((backTo cpos (starEach (e :: es) X.env)).all (fun x => !x.1) && (backToKw cpos (keywordEach [] X.env)).all (fun x => x.1.isSome)
      && decide ((e :: es).length + ([] : List Keyword).length + (if ([] : List Keyword).isEmpty then 0 else 1) < 30)) = true := by rfl)
    (hline : (apos.endLine == cpos.line) = true := by rfl) (hs : starEach (e :: es) X.env = (false, eval e X.env) :: starEach es X.env := by rfl) (hplain : (backTo cpos (starEach es X.env)).any (·.1) = false := by rfl) :
    PE X (.Call (.Attribute o name apos) (e :: es) [] cpos) (tBM X.K T r to t) := by
  intro pins s σ H Q I h
  refine wpAny_Call_method_late hbase hfew hline rfl (thn (ho pins s σ H _ I h) fun v s1 ⟨x, H1, I1, r1, ty, q1⟩ => ?_)
  obtain ⟨h1, h2⟩ := tyV_is I1 r1 ty
  refine ⟨T, id, pa, slot, hty, h1, h2, ?_⟩
  have hA := ha cpos pins s1 σ H1 _ I1 q1
  rw [hs] at hA ⊢
  refine Calls.callWith_builtin (by show (false || (backTo cpos (starEach es X.env)).any (·.1)) = false; rw [hplain] <;> rfl) (Calls.evalArgs_plain ?_)
  exact thn hA fun us s2 ⟨vs, H2, I2, r2, q2⟩ => hm pins s2 σ H2 x vs v us Q I2 r1 r2 q2

end
end L2

namespace L2
open PySem PySem.Spec PyProof.Rows

def MtM (X : Cx) (id : String) (r : V → List V → Hp → VK → Prop) : Prop :=
  ∀ (pins : List (Addr × Obj)) (s : Shared) (σ : St) (H : Hp) (x : V) (xs : List V) (v : Value) (us : List Value) (Q : VK), Inv X pins σ H s → RelV x v → Vals xs us → r x xs H Q →
    wpAny (model X.prog X.w) X.A (call (.builtin id) (v :: us)) (EP X pins σ Q) X.xe s


theorem Vals.one : ∀ {x : V} {us : List Value}, Vals [x] us → ∃ u, us = [u] ∧ RelV x u
  | _, _, .cons r .nil => ⟨_, rfl, r⟩
theorem Vals.two : ∀ {x y : V} {us : List Value}, Vals [x, y] us → ∃ u v, us = [u, v] ∧ RelV x u ∧ RelV y v
  | _, _, _, .cons r (.cons q .nil) => ⟨_, _, rfl, r, q⟩
theorem Vals.zero : ∀ {us : List Value}, Vals [] us → us = []
  | _, .nil => rfl
theorem Vals.dropLast {xs : List V} {us : List Value} (h : Vals xs us) : Vals xs.dropLast us.dropLast := by
  induction h with
  | nil => exact .nil
  | cons r t ih =>
    cases t with
    | nil => exact .nil
    | cons q t' => exact .cons r ih
theorem Vals.eraseIdx : ∀ {xs : List V} {us : List Value} (i : Nat), Vals xs us → Vals (xs.eraseIdx i) (us.eraseIdx i)
  | _, _, _, .nil => .nil
  | _, _, 0, .cons _ t => t
  | _, _, i + 1, .cons r t => .cons r (Vals.eraseIdx i t)
theorem Vals.reverse {xs : List V} {us : List Value} (h : Vals xs us) : Vals xs.reverse us.reverse := by
  induction h with
  | nil => exact .nil
  | cons r t ih => rw [List.reverse_cons, List.reverse_cons]; exact Vals.append ih (.cons r .nil)
theorem Vals.rep {xs : List V} {us : List Value} (h : Vals xs us) : ∀ k : Nat, Vals (List.replicate k xs).flatten (List.replicate k us).flatten
  | 0 => .nil
  | k + 1 => by
    rw [List.replicate_succ, List.replicate_succ, List.flatten_cons, List.flatten_cons]
    exact Vals.append h (Vals.rep h k)
theorem erase_last {α : Type} (l : List α) : l.eraseIdx (l.length - 1) = l.dropLast := by
  induction l with
  | nil => rfl
  | cons a r ih =>
    cases r with
    | nil => rfl
    | cons b r =>
      have e : (a :: b :: r).length - 1 = ((b :: r).length - 1) + 1 := by
        have h1 : (a :: b :: r).length = r.length + 2 := rfl
        have h2 : (b :: r).length = r.length + 1 := rfl
        omega
      rw [e, List.eraseIdx_cons_succ, ih]
      all_goals rfl
theorem foldl_rep (its : List Value) : ∀ (k : Nat) (acc : List Value),
    List.foldl (fun x1 x2 => x1 ++ x2) acc.toArray (List.replicate k its.toArray) = (acc ++ (List.replicate k its).flatten).toArray
  | 0, acc => by simp
  | k + 1, acc => by
    have e : acc.toArray ++ its.toArray = (acc ++ its).toArray := by simp
    have e2 : (acc ++ its) ++ (List.replicate k its).flatten = acc ++ (List.replicate (k + 1) its).flatten := by
      rw [List.replicate_succ, List.flatten_cons, List.append_assoc]
    rw [← e2, ← foldl_rep its k (acc ++ its), ← e, List.replicate_succ, List.foldl_cons]

section
variable {X : Cx} {pins : List (Addr × Obj)} {σ : St} {H : Hp} {s : Shared} {l b : Addr} {xs ys zs : List V}


theorem Inv.lset {its its' : List Value} {n : Nat} {f : Array Value → Array Value} {t' : Nat} (I : Inv X pins σ H s) (hH : H l = some (.lst xs))
    (e : s.heap.get? l = some { cls := .type "list", data := .seq its.toArray n }) (hf : f its.toArray = its'.toArray) (hv : Vals ys its') (hz : ys.length ≤ sizeLine) :
    Inv X pins σ (upd H l (.lst ys)) { s with heap := s.heap.update l (Obj.mapSeq f), toks := t' } := by
  have q := PySem.IsL.update e f
  rw [hf] at q
  refine I.write (x := l) (e := l) (by rw [hH]; exact trivial) (.inl rfl) (fun b' u hb hu => (Heap.get?_update_other s.heap (Obj.mapSeq f) (Ne.symm hb)).trans hu) ⟨_, q⟩ ?_
  exact ⟨hz, its', _, hv, q⟩
theorem Inv.lnew {its : List Value} {t' : Nat} (I : Inv X pins σ H s) (hv : Vals ys its) (hz : ys.length ≤ sizeLine) :
    Inv X pins σ (upd H s.heap.objs.size (.lst ys)) { s with heap := s.heap.push { cls := .type "list", data := .seq its.toArray }, toks := t' } :=
  I.laid (fun _ _ q => Heap.get?_push_of_some _ q) (Nat.le_refl _) ⟨hz, its, 0, hv, Heap.get?_push_size _ rfl⟩
theorem Inv.fresh (I : Inv X pins σ H s) : H s.heap.objs.size = none := I.hok.fresh (Nat.le_refl _)
theorem Inv.lstM (I : Inv X pins σ H s) (hH : H l = some (.lst xs)) : xs.length ≤ sizeLine ∧ ∃ (its : List Value) (n : Nat), Vals xs its ∧ xs.length = its.length ∧ s.heap.get? l = some { cls := .type "list", data := .seq its.toArray n } := by
  obtain ⟨z, its, n, r, e⟩ := I.hok l _ hH
  exact ⟨z, its, n, r, r.length, e⟩

theorem notLongL {n : Nat} (h : n ≤ sizeLine) : Builtin.List.listTooLong n = false := by
  unfold Builtin.List.listTooLong
  exact decide_eq_false (by omega)
end

section
variable {X : Cx}


def rAppend : V → List V → Hp → VK → Prop := fun x vs H Q => ∃ l xs y, x = .ref l ∧ vs = [y] ∧ H l = some (.lst xs) ∧ xs.length < sizeLine ∧ Q .non (upd H l (.lst (xs ++ [y])))
theorem mt_append : MtM X "list.append" rAppend := by
  intro pins s σ H x vs v us Q I rx rv h
  obtain ⟨l, xs, y, rfl, rfl, hH, hz, q⟩ := h
  cases rx
  obtain ⟨u, rfl, ru⟩ := rv.one
  obtain ⟨z, its, n, r, hl, e⟩ := I.lstM hH
  refine call_meets F.slot_list_append ⟨_, e, rfl⟩ F.entry_list_append (F.args_list_append_2 _ _) (PySem.list_append l its.toArray n u (by rw [List.size_toArray]; omega)) ⟨e, ?_⟩
  refine ⟨.non, _, I.lset (its' := its ++ [u]) hH e (by simp) (r.append (.cons ru .nil)) ?_, rfl, q⟩
  rw [List.length_append, List.length_singleton]
  omega

def rExtend : V → List V → Hp → VK → Prop := fun x vs H Q => ∃ l b xs zs, x = .ref l ∧ vs = [.ref b] ∧ H l = some (.lst xs) ∧ H b = some (.lst zs) ∧ xs.length + zs.length ≤ sizeLine ∧ Q .non (upd H l (.lst (xs ++ zs)))
theorem mt_extend : MtM X "list.extend" rExtend := by
  intro pins s σ H x vs v us Q I rx rv h
  obtain ⟨l, b, xs, zs, rfl, rfl, hH, hB, hz, q⟩ := h
  cases rx
  obtain ⟨u, rfl, ru⟩ := rv.one
  cases ru
  obtain ⟨z, its, n, r, hl, e⟩ := I.lstM hH
  obtain ⟨z2, its2, n2, r2, hl2, e2⟩ := I.lstM hB
  have hsz : its.toArray.size + its2.toArray.size ≤ sizeLine := by rw [List.size_toArray, List.size_toArray]; omega
  have hlong : ¬ (!its.toArray.isEmpty && Builtin.List.listTooLong (its.toArray.size + its2.toArray.size)) = true := by
    rw [notLongL hsz, Bool.and_false]
    exact Bool.false_ne_true
  refine call_meets F.slot_list_extend ⟨_, e, rfl⟩ F.entry_list_extend (F.args_list_extend_2 _ _)
    (AutoSeq1.list_extend_list_list_0 l its.toArray n b its2.toArray n2 hlong (by rw [List.size_toArray]; omega) (by omega)) ⟨e, e2, ?_⟩
  refine ⟨.non, _, I.lset (its' := its ++ its2) hH e (by simp) (r.append r2) ?_, rfl, q⟩
  rw [List.length_append]
  omega

def rPop : V → List V → Hp → VK → Prop := fun x vs H Q => ∃ l xs y, x = .ref l ∧ vs = [] ∧ H l = some (.lst xs) ∧ xs[xs.length - 1]? = some y ∧ Q y (upd H l (.lst xs.dropLast))
theorem mt_pop : MtM X "list.pop" rPop := by
  intro pins s σ H x vs v us Q I rx rv h
  obtain ⟨l, xs, y, rfl, rfl, hH, hy, q⟩ := h
  cases rx
  have hus := rv.zero
  subst hus
  obtain ⟨z, its, n, r, hl, e⟩ := I.lstM hH
  obtain ⟨u, hu, ru⟩ := r.get hy
  have hy' : its.toArray[its.toArray.size - 1]? = some u := by
    show its.toArray[its.length - 1]? = some u
    rw [← Array.getElem?_toList, ← hl]
    exact hu
  refine call_meets F.slot_list_pop ⟨_, e, rfl⟩ F.entry_list_pop (F.args_list_pop_1 _) (MeetsSeq.list_pop_last l its.toArray n u hy' (by rw [List.size_toArray]; omega)) ⟨e, ?_⟩
  refine ⟨y, _, I.lset (its' := its.dropLast) hH e ?_ r.dropLast ?_, ru, q⟩
  · show its.toArray.eraseIdxIfInBounds (its.toArray.size - 1) = its.dropLast.toArray
    rw [List.size_toArray, List.eraseIdxIfInBounds_toArray, erase_last]
  · rw [List.length_dropLast]
    omega

def rCat : R2 := fun x y H Q => ∃ l b xs zs, x = .ref l ∧ y = .ref b ∧ H l = some (.lst xs) ∧ H b = some (.lst zs) ∧ xs.length + zs.length ≤ sizeLine ∧ ∀ p, H p = none → Q (.ref p) (upd H p (.lst (xs ++ zs)))
theorem op_cat : OpR X (binaryOp .Add) rCat := by
  intro pins s σ H x y v u Q I rx ry h
  obtain ⟨l, b, xs, zs, rfl, rfl, hH, hB, hz, q⟩ := h
  cases rx
  cases ry
  obtain ⟨z, its, n, r, hl, e⟩ := I.lstM hH
  obtain ⟨z2, its2, n2, r2, hl2, e2⟩ := I.lstM hB
  refine PySem.P.add_list e e2 ?_ (by rw [List.size_toArray, List.size_toArray]; omega)
  have ea : its.toArray ++ its2.toArray = (its ++ its2).toArray := by simp
  rw [ea]
  exact ⟨.ref _, _, I.lnew (t' := s.toks) (r.append r2) (by rw [List.length_append]; omega), rfl, q _ I.fresh⟩

def rRep : R2 := fun x y H Q => ∃ l k xs, x = .ref l ∧ y = .int k ∧ H l = some (.lst xs) ∧ -(2 ^ 63) ≤ k ∧ k < 2 ^ 63 ∧ xs.length * k.toNat ≤ sizeLine ∧
  ∀ p, H p = none → Q (.ref p) (upd H p (.lst (List.replicate k.toNat xs).flatten))
theorem len_rep {α : Type} (xs : List α) (k : Nat) : (List.replicate k xs).flatten.length = k * xs.length := by
  induction k with
  | zero => simp
  | succ k ih => rw [List.replicate_succ, List.flatten_cons, List.length_append, ih, Nat.succ_mul, Nat.add_comm]
theorem op_rep : OpR X (binaryOp .Mult) rRep := by
  intro pins s σ H x y v u Q I rx ry h
  obtain ⟨l, k, xs, rfl, rfl, hH, h1, h2, hz, q⟩ := h
  cases rx
  obtain ⟨t, rfl⟩ := ry
  obtain ⟨z, its, n, r, hl, e⟩ := I.lstM hH
  have hlen : its.toArray.size * k.toNat ≤ sizeLine := by rw [List.size_toArray, ← hl]; exact hz
  have hcap : ¬ its.toArray.size * k.toNat > (2 ^ 63 - 1) / 8 := by
    have : (sizeLine : Nat) ≤ (2 ^ 63 - 1) / 8 := by decide
    omega
  have hfit : ¬ (!Builtin.List.listFitsIndex k) = true := by
    rw [fitsIndex_both h1 h2]
    exact Bool.false_ne_true
  have hlong : ¬ Builtin.List.listTooLong (its.toArray.size * k.toNat) = true := by
    rw [notLongL hlen]
    exact Bool.false_ne_true
  have hnew : List.foldl (fun x1 x2 => x1 ++ x2) #[] (List.replicate (if its.toArray.isEmpty = true then 0 else k.toNat) its.toArray) = (List.replicate k.toNat its).flatten.toArray := by
    have f0 : ∀ m : Nat, List.foldl (fun x1 x2 => x1 ++ x2) #[] (List.replicate m its.toArray) = (List.replicate m its).flatten.toArray := fun m => by
      have := foldl_rep its m []
      rw [List.nil_append] at this
      exact this
    rw [f0]
    cases its with
    | nil => simp
    | cons a r' => rw [if_neg (by simp)]
  refine wpAny_binaryOp_repeat_ref (T := "list") (U := "int") (by decide) ⟨_, e, rfl⟩ (fun s' => typeIs_int s' k t) noFill_list_mul F.fills_int_mul F.slot_int_rmul repeat_list F.slot_int_index.lookup
    (call_meets F.slot_int_rmul (typeIs_int s k t) F.entry_int_rmul (F.args_int_rmul_2 _ _) (int___rmul___int_list k t l its.toArray n)
      ⟨e, rfl, ⟨_, e, rfl⟩, call_meets F.slot_list_mul ⟨_, e, rfl⟩ F.entry_list_mul (F.args_list_mul_2 _ _) (AutoListH.list___mul___list_int_3 l its.toArray n k t hfit hcap hlong) ⟨e, ?_⟩⟩)
  rw [hnew]
  exact ⟨.ref _, _, I.lnew (t' := s.toks) (r.rep k.toNat) (by rw [len_rep, Nat.mul_comm]; exact hz), rfl, q _ I.fresh⟩


end


section
variable {prog : Program} {w : World} {A : Around} {E : Value → Shared → Prop} {s : Shared}
end

section
variable {X : Cx}

end
end L2

namespace Att
open PySem PySem.W PySem.Calls PyProof.Rows


theorem ints_of_wellAll {P : Params} {h : Heap} : ∀ (ns : List Int) (vs : List Value), WellAll P h vs (ns.map WData.int) → IntsAre vs ns := by
  intro ns
  induction ns with
  | nil =>
    intro vs w
    rw [List.map_nil] at w
    cases w
    exact .nil
  | cons n ns ih =>
    intro vs w
    rw [List.map_cons] at w
    cases w with
    | cons a b =>
      cases a
      exact .cons _ _ (ih _ b)

theorem script_of {l : OpenLaw} {n : Nat} (hn : l.most = some n) {P : Params} {h : Heap} {args : List WData} {vals : List Value}
    (hpre : l.row.toRowW.claim.pre args = true) (hwl : WellAll P h vals args) :
    ∃ a vs ns, vals = [Value.ref a] ∧ args = [WData.list (ns.map WData.int)] ∧ h.get? a = some { cls := .type "list", data := .seq vs.toArray } ∧ IntsAre vs ns ∧ ns.length ≤ n := by
  have hsh : WShape.hasAll [] args [.list .int] = true := (pre_splitW hpre).1
  have hc : l.pre.holds [] { args := args } = true := (pre_splitW hpre).2
  obtain ⟨d, r, rfl, h1, h2⟩ := hasAllW_cons hsh
  obtain rfl := hasAllW_nil h2
  obtain ⟨xs, rfl, h3⟩ := hasW_list h1
  obtain ⟨ns, rfl⟩ := items_int h3
  have hlen : ns.length ≤ n := by
    unfold OpenLaw.pre at hc
    have h4 : (WTm.not (.lt (.lit (.int (n : Int))) (.len (.arg 0)))).holds [] { args := [.list (ns.map .int)] } = true := by
      have h4 := (holds_andW hc).1
      rw [hn] at h4
      exact h4
    have h5 := condW_of h4 (w_not (w_lt w_lit (w_len_list (w_arg rfl))))
    rw [List.length_map] at h5
    refine Nat.le_of_not_lt fun q => ?_
    have q' : (n : Int) < ((ns.length : Nat) : Int) := by omega
    first
      | (rw [decide_eq_true q'] at h5; exact absurd h5 (by decide))
      | (simp at h5; omega)
  cases hwl with
  | cons w1 w2 =>
    cases w2
    cases w1 with
    | list ho hall => exact ⟨_, _, ns, rfl, rfl, ho, ints_of_wellAll ns _ hall, hlen⟩

theorem post_true (l : OpenLaw) (args : List WData) : l.row.toRowW.claim.post args (.bool true) args = true :=
  postW_of (r := l.row.toRowW) (X := (true == true))
    (show WShape.has [] (.bool true) .bool = true by first | rfl | decide | simp [WShape.has, WShape.arms, WShape.armsAll])
    (show (WTm.eq .res (.lit (.bool true))).value [] { args := args, res := some (.bool true), after := args } = some (.bool (true == true)) from w_eq_bool (w_res rfl) w_lit) rfl


theorem attach_call {l : OpenLaw} {n : Nat} {q : Program} {loose : List Str} {XP : (Str → Option Value) → Heap → Prop} {YP : World → Heap → Prop} {d : DefRec}
    (hn : l.most = some n) (hdf : d.params.defaults = [])
    (call : ∀ (w : World) (s₀ s₁ : Shared) (mg mb : Str → Option Value) (fa : Addr) (o : Obj) (pm cd doc : Value) (a : Addr) (vs : List Value) (ns : List Int),
      Ground q loose [] XP w s₀ mg mb s₁.heap → YP w s₁.heap →
      s₁.heap.get? fa = some o → o.data = .func (docDef d.name d.params d.body d.scope pm cd doc) → s₁.heap.CodeRec cd d.name → mg d.name = some (.ref fa) →
      s₁.heap.get? a = some { cls := .type "list", data := .seq vs.toArray } → IntsAre vs ns → ns.length ≤ n → s₁.gens = #[] →
      codeAny (model l.prog w) callerA (.call (.ref fa) ⟨[.ref a], []⟩) (fun r s' => r = .ok (.ret (.bool true)) ∧ OldK s₁.heap s'.heap ∧ s'.os = s₁.os ∧ AllBare s'.gens) s₁) :
    WalkO q loose XP YP l.row.toRowW d [] (fun f vs => PySem.call f vs) := by
  intro w s₀ s₁ mg mb G Y fa o pm cd doc dV kV ho hd hcd hD hmg hg args vals as hpre hlay hrd hwl hlo
  obtain rfl : dV = .none := Dflts.none hD hdf
  obtain rfl : kV = .none := Dflts.noKw hD
  obtain ⟨a, vs, ns, rfl, rfl, hobj, hints, hlen⟩ := script_of hn hpre hwl
  refine enter_call (codeAny_mono (call w s₀ s₁ mg mb fa o pm cd doc a vs ns G Y ho (fd_plain hd) hcd hmg hobj hints hlen hg) fun r s' hq => ?_)
  obtain ⟨rfl, h2, h3, h4⟩ := hq
  exact ⟨.inl ⟨.bool true, .bool true, [], rfl, fun _ => rfl, .bool true, post_true l _, fun _ => ⟨List.Pairwise.nil, fun _ hm => (nomatch hm)⟩⟩, h2, h3, h4⟩


section
variable {prog : Program} {w : World} {A : Around} {E : Value → Shared → Prop} {s : Shared} {K : Frag}


end
end Att

namespace L2
open PySem PySem.Spec PyProof.Rows

theorem vals_ints : ∀ {vs : List Value} {ns : List Int}, IntsAre vs ns → Vals (ns.map V.int) vs
  | _, _, .nil => .nil
  | _, _, .cons n t h => .cons ⟨t, rfl⟩ (vals_ints h)


def Only (H : Hp) : Prop := ∀ b, H b = none ∨ ∃ o xs, H b = some (.frz o (.lst xs))


theorem law_call {P : Program} {w : World} {K : PySem.W.Frag} {mg mb : Str → Option Value} {CX : CXT} {k : Nat} {fa a : Addr} {fd : FuncData} {x : Str} {sp : Sp} {s₁ : Shared} {vs : List Value} {ns : List Int}
    (KX : K.In s₁.heap) (hns : s₁.heap.Ns mainGlobals mg) (hb : s₁.heap.Ns builtinsNs mb) (hbb : ∀ x : Str, x ≠ "__name__" → mb x = bootBuiltins x) (hlim : s₁.heap.NoLimit) (hg : s₁.gens = #[])
    (ha : s₁.heap.get? a = some { cls := .type "list", data := .seq vs.toArray }) (hi : IntsAre vs ns) (hl : ns.length ≤ sizeLine) (hr : Room k callerA)
    (F : ∀ base : Heap, K.In base → base.Ns mainGlobals mg → FnOk P w K mg base CX k fa fd [x] sp) (hbind : ∀ (s : Shared) (u : Value), BindsTo s fd ⟨[u], []⟩ [(x, u)])
    (hsp : ∀ H : Hp, Only H → SqL K H a (ns.map V.int) → sp [.ref a] H (fun v _ => v = .bl true) fun _ _ _ => False)
    (hCX : ∀ H e s', CX [] H s₁ (fun _ _ _ => False) e s' → False) :
    codeAny (model P w) callerA (.call (.ref fa) ⟨[.ref a], []⟩) (fun r s' => r = .ok (.ret (.bool true)) ∧ OldK s₁.heap s'.heap ∧ s'.os = s₁.os ∧ AllBare s'.gens) s₁ := by
  have rv := vals_ints hi
  have lenV := hi.length
  -- from an abstract heap in which nothing but the script may be tracked
  have core : ∀ H : Hp, Only H → SqL K H a (ns.map V.int) → HOk P w H s₁.heap → (∀ b, H b ≠ none → b = a) → (H a ≠ none → K.lookup a = none) →
      codeAny (model P w) callerA (.call (.ref fa) ⟨[.ref a], []⟩) (fun r s' => r = .ok (.ret (.bool true)) ∧ OldK s₁.heap s'.heap ∧ s'.os = s₁.os ∧ AllBare s'.gens) s₁ := by
    intro H hO hS hok hA hK
    have base_of : ∀ {b : Addr} {o : Obj}, s₁.heap.get? b = some o → H b = none → (hidT s₁.heap H).get? b = some o := fun e n => hidT_get e n
    have noA : ∀ {b : Addr} {o : Obj} {es : Array DictEntry} {ep : Nat}, s₁.heap.get? b = some o → o.data = .dict es ep → H b = none := fun {b o es ep} e d => by
      cases q : H b with
      | none => rfl
      | some u =>
        have e' : b = a := hA b (by rw [q]; simp)
        subst e'
        rw [ha] at e; cases e
        have d' : Data.seq vs.toArray _ = Data.dict es ep := d
        cases d'
    have nsK : ∀ {b : Addr} {m : Str → Option Value}, s₁.heap.Ns b m → (hidT s₁.heap H).Ns b m := fun {b m} ⟨o, es, ep, e, d, r⟩ => ⟨o, es, ep, base_of e (noA e d), d, r⟩
    have hKb : K.In (hidT s₁.heap H) := fun b o e => base_of (KX b o e) (by
      cases q : H b with
      | none => rfl
      | some u =>
        have e' : b = a := hA b (by rw [q]; simp)
        subst e'
        rw [hK (by rw [q]; simp)] at e; cases e)
    have hM : Mod K mg (hidT s₁.heap H) := ⟨hKb, nsK hns, ⟨mb, nsK hb, hbb⟩, let ⟨mc, h1, h2⟩ := hlim; ⟨mc, nsK h1, h2⟩⟩
    have e0 : Env0 P w K mg (hidT s₁.heap H) callerA [] s₁ H := ⟨rfl, hM, fun b o e => of_hidT e, Nat.le_of_eq (hidT_size _ _), trivial, fun b hb => absurd (show b ∈ ([] : List Addr) from hb) (by simp), hok, .of_eq hg⟩
    refine codeAny_mono ((F _ hKb (nsK hns)).run callerA [] s₁ H ⟨[.ref a], []⟩ [.ref a] [.ref a] _ _ hr e0 (hbind s₁ (.ref a)) (.cons rfl .nil) (hsp H hO hS)) fun r s' h => ?_
    cases r with
    | error e => exact (hCX H e s' h).elim
    | ok fl =>
      cases fl with
      | next => exact False.elim h
      | brk => exact False.elim h
      | cont => exact False.elim h
      | ret u =>
        obtain ⟨v, H', os, bare, un, hok', r', q⟩ := h
        have q' : v = .bl true := q
        subst q'
        obtain rfl : u = Value.bool true := r'
        refine ⟨rfl, OldK.of_keep fun b o e => ?_, os, bare⟩
        cases q : H b with
        | none => exact un.keep b o e q (by intro z; exact absurd (show b ∈ ([] : List Addr) from z) (by simp)) (by simp)
        | some u =>
          rcases hO b with z | ⟨ob, xs, z⟩
          · rw [q] at z; cases z
          · have z2 := un.frzs b ob _ z
            obtain ⟨e1, _⟩ := hok b _ z
            obtain ⟨e2, _⟩ := hok' b _ z2
            rw [e] at e1; cases e1
            exact e2
  cases hk : K.lookup a with
  | some o =>
    -- the script is one of the module's own objects
    have e := KX a o hk
    rw [ha] at e
    cases e
    refine core (fun _ => none) (fun _ => .inl rfl) (.inr ⟨_, vs.toArray, _, hk, rfl, rfl, rfl, by rw [List.size_toArray, lenV]; exact hl, by simpa using rv⟩) (fun b u z => by have z' : (none : Option HO) = some u := z; cases z') (fun b z => absurd rfl z) fun z => absurd rfl z
  | none =>
    refine core (fun b => if b = a then some (.frz { cls := .type "list", data := .seq vs.toArray } (.lst (ns.map V.int))) else none) (fun b => ?_) (.inl (.inr ⟨{ cls := .type "list", data := .seq vs.toArray }, if_pos rfl⟩)) (fun b u z => ?_) (fun b z => ?_) fun _ => hk
    · by_cases hb : b = a
      · exact .inr ⟨_, _, if_pos hb⟩
      · exact .inl (if_neg hb)
    · by_cases hb : b = a
      · have z' := (if_pos hb).symm.trans z
        cases z'
        subst hb
        exact ⟨ha, by rw [List.length_map]; exact hl, vs, _, rv, ha⟩
      · have z' := (if_neg hb).symm.trans z
        cases z'
    · by_cases hb : b = a
      · exact hb
      · exact absurd (if_neg hb) z
end L2

namespace L2
open PySem PySem.Spec PyProof.Rows

abbrev KOf {K : PySem.W.Frag} {h : Heap} (_ : K.In h) : PySem.W.Frag := K


theorem walk_of {l : PySem.W.OpenLaw} {n k : Nat} {q : Program} {loose : List Str} {XP : (Str → Option Value) → Heap → Prop} {YP : World → Heap → Prop} {d : DefRec} {K : Params → PySem.W.Frag} {CX : World → CXT} {sp : World → Sp} {x : Str}
    (hn : l.most = some n) (hn2 : n ≤ sizeLine) (hdf : d.params.defaults = []) (hr : Room k callerA)
    (hY : ∀ (w : World) (h : Heap), YP w h → (K w.params).In h)
    (F : ∀ (w : World) (mg : Str → Option Value) (fa : Addr) (h : Heap), (K w.params).In h → h.Ns mainGlobals mg → mg d.name = some (.ref fa) →
      ∃ fd : FuncData, (∀ (s : Shared) (u : Value), BindsTo s fd ⟨[u], []⟩ [(x, u)]) ∧
        ∀ base : Heap, (K w.params).In base → base.Ns mainGlobals mg → FnOk l.prog w (K w.params) mg base (CX w) k fa fd [x] (sp w))
    (hsp : ∀ (w : World) (H : Hp) (a : Addr) (ns : List Int), ns.length ≤ n → Only H → SqL (K w.params) H a (ns.map V.int) → sp w [.ref a] H (fun v _ => v = .bl true) fun _ _ _ => False)
    (hCX : ∀ (w : World) (H : Hp) (s : Shared) (e : Value) (s' : Shared), CX w [] H s (fun _ _ _ => False) e s' → False) :
    PySem.W.WalkO q loose XP YP l.row.toRowW d [] (fun f vs => PySem.call f vs) := by
  refine Att.attach_call hn hdf fun w s₀ s₁ mg mb fa o pm cd doc a vs ns G Y ho hd hcd hmg hobj hints hlen hg => ?_
  have KX := hY w _ Y
  obtain ⟨fd, hb, hF⟩ := F w mg fa _ KX G.T.g hmg
  exact law_call KX G.T.g G.T.b G.T.builtins G.T.nolimit hg hobj hints (Nat.le_trans hlen hn2) hr hF hb (fun H hO hS => hsp w H a ns hlen hO hS) fun H e s' => hCX w H s₁ e s'

theorem walk_ofK {l : PySem.W.OpenLaw} {n k : Nat} {q : Program} {loose : List Str} {XP : (Str → Option Value) → Heap → Prop} {YP : World → Heap → Prop} {d : DefRec} {K : Params → PySem.W.Frag} {CX : CXT} {sp : PySem.W.Frag → Sp} {x : Str}
    (hn : l.most = some n) (hn2 : n ≤ sizeLine) (hdf : d.params.defaults = []) (hr : Room k callerA)
    (hY : ∀ (w : World) (h : Heap), YP w h → (K w.params).In h)
    (F : ∀ (w : World) (mg : Str → Option Value) (fa : Addr) (h : Heap), (K w.params).In h → h.Ns mainGlobals mg → mg d.name = some (.ref fa) →
      ∃ fd : FuncData, (∀ (s : Shared) (u : Value), BindsTo s fd ⟨[u], []⟩ [(x, u)]) ∧
        ∀ base : Heap, (K w.params).In base → base.Ns mainGlobals mg → FnOk l.prog w (K w.params) mg base CX k fa fd [x] (sp (K w.params)))
    (hsp : ∀ (K : PySem.W.Frag) (H : Hp) (a : Addr) (ns : List Int), ns.length ≤ n → Only H → SqL K H a (ns.map V.int) → sp K [.ref a] H (fun v _ => v = .bl true) fun _ _ _ => False)
    (hCX : ∀ (H : Hp) (s : Shared) (e : Value) (s' : Shared), CX [] H s (fun _ _ _ => False) e s' → False) :
    PySem.W.WalkO q loose XP YP l.row.toRowW d [] (fun f vs => PySem.call f vs) :=
  walk_of (K := K) (CX := fun _ => CX) (sp := fun w => sp (K w.params)) hn hn2 hdf hr hY F (fun w H a ns h1 h2 h3 => hsp (K w.params) H a ns h1 h2 h3) fun _ H s e s' => hCX H s e s'
end L2




namespace L2
open PySem PySem.Spec PyProof.Rows



def inClass (s : Stmt) (j : Nat) : Stmt := match s with
  | .ClassDef _ _ _ body _ _ _ _ _ _ _ => body.getD j (.Pass ⟨0, 0, 0, 0⟩)
  | _ => .Pass ⟨0, 0, 0, 0⟩
def defArgs (s : Stmt) : Arguments := match s with
  | .FunctionDef _ a _ _ _ _ _ _ _ _ => a
  | _ => { posonlyargs := [], args := [], vararg := none, kwonlyargs := [], kw_defaults := [], kwarg := none, defaults := [] }
def defBody (s : Stmt) : List Stmt := match s with
  | .FunctionDef _ _ b _ _ _ _ _ _ _ => b
  | _ => []
def defScope (s : Stmt) : Scope := match s with
  | .FunctionDef _ _ _ _ _ _ sc _ _ _ => sc
  | _ => { kind := .function, names := [], isGenerator := false, isCoroutine := false }


abbrev CX0 : CXT := fun _ _ _ _ _ _ => False
abbrev E0 : XK := fun _ _ _ => False
theorem pass0 {X : Cx} : Passes CX0 X E0 := fun _ _ _ _ _ _ _ h => h.elim


structure Fun (K : PySem.W.Frag) (x qual : Str) (st : Stmt) (f : Addr) (fd : FuncData) : Prop where
  ex : ∃ (oc : Value) (od : Option Addr) (kV doc pm : Value) (an : Option Addr) (cdv ct : Value) (osl : Array (Option Value)),
    fd = PySem.W.fnOf x qual (defArgs st) (defBody st) (defScope st) .none kV doc pm an cdv ct ∧ K.lookup f = some ⟨oc, od, .func fd, osl⟩ ∧ PySem.W.codeIn K cdv qual = true
  kp : PySem.W.keepIn K (.ref f) = true
section
variable {P : Program} {w : World} {K : PySem.W.Frag} {mg : Str → Option Value} {base : Heap}

theorem Fun.ok {x qual : Str} {st : Stmt} {f : Addr} {fd : FuncData} {N ps : List Str} {k : Nat} {sp : Sp} (F : Fun K x qual st f fd) (S : FnScope N ps (defScope st)) (len : ∀ vs H Q E, sp vs H Q E → vs.length = ps.length)
    (hbody : ∀ (cdv : Value) (A : Around) (outer : List Env) (s : Shared) (H : Hp) (vs : List V) (Q : VK) (E : XK), Room k (A.deeper (envOfC qual (defScope st) s.heap.objs.size f cdv)) → sp vs H Q E →
      ∃ t, PSs (cxOf CX0 P w K mg base N qual (defScope st) f cdv A outer s H E).nox (defBody st) t ∧ t { nx := fun _ H' => Q .non H', rt := Q } (start N vs) H) : FnOk P w K mg base CX0 (k + 1) f fd ps sp := by
  obtain ⟨oc, od, kV, doc, pm, an, cdv, ct, osl, rfl, lk, hcd⟩ := F.ex
  refine fn_of lk hcd S len fun A outer s H vs Q E hr hsp => ?_
  obtain ⟨t, h, q⟩ := hbody cdv A outer s H vs Q E hr hsp
  exact ⟨t, h.nox, q⟩

theorem Fun.binds {x qual : Str} {st : Stmt} {f : Addr} {fd : FuncData} {ps : List Str} (F : Fun K x qual st f fd)
    (h : ∀ (kV doc pm : Value) (an : Option Addr) (cdv ct : Value) (us : List Value), us.length = ps.length → bindArgs (PySem.W.fnOf x qual (defArgs st) (defBody st) (defScope st) .none kV doc pm an cdv ct) ⟨us, []⟩ = pure (ps.zip us)) : Binds K fd ps [] := by
  obtain ⟨oc, od, kV, doc, pm, an, cdv, ct, osl, rfl, lk, hcd⟩ := F.ex
  exact .all (h kV doc pm an cdv ct)
theorem fun_mk {x qual : Str} {st : Stmt} {f : Addr} {oc : Value} {od an : Option Addr} {osl : Array (Option Value)} {kV doc pm cdv ct : Value} (l : K.lookup f = some ⟨oc, od, .func (PySem.W.fnOf x qual (defArgs st) (defBody st) (defScope st) .none kV doc pm an cdv ct), osl⟩)
    (c : PySem.W.codeIn K cdv qual = true) (k : PySem.W.keepIn K (.ref f) = true) : Fun K x qual st f (PySem.W.fnOf x qual (defArgs st) (defBody st) (defScope st) .none kV doc pm an cdv ct) := ⟨⟨oc, od, kV, doc, pm, an, cdv, ct, osl, rfl, l, c⟩, k⟩
end
theorem small1000 {n : Nat} (h : n ≤ 1000) : n < sizeLine := Nat.lt_of_le_of_lt h (by decide)


section
variable {X : Cx}
theorem pv (i : Nat) {x : Str} {pos : Pos} (hN : X.N[i]? = some x := by rfl) (hv : Vis X.env.scope x := by first | exact Or.inl rfl | exact Or.inr (Or.inl rfl) | exact Or.inr (Or.inr rfl)) (hd : (x == ("__debug__" : Str)) = false := by decide)
    (hcd : (x == ("__classdict__" : Str)) = false := by decide) : PE X (.Name x pos) (tVar i) := pe_var hN hv hd hcd
end


theorem iteF {A B : Prop} (h : B) : if false = true then A else B := by
  rw [if_neg Bool.false_ne_true]
  exact h
theorem iteT {A B : Prop} (h : A) : if true = true then A else B := by
  rw [if_pos rfl]
  exact h
theorem ite2 {c A B : Prop} [Decidable c] (h1 : c → A) (h2 : ¬ c → B) : if c then A else B := by
  by_cases h : c
  · rw [if_pos h]
    exact h1 h
  · rw [if_neg h]
    exact h2 h
def Same (H H' : Hp) : Prop := ∀ b o, H b = some o → H' b = some o
theorem Same.refl (H : Hp) : Same H H := fun _ _ h => h
theorem Same.trans {H H1 H2 : Hp} (a : Same H H1) (b : Same H1 H2) : Same H H2 := fun c o h => b c o (a c o h)
theorem Same.free {H H' : Hp} (e : Same H H') {l : Addr} (h : H' l = Option.none) : H l = Option.none := by
  cases q : H l with
  | none => rfl
  | some o =>
    rw [e l o q] at h
    cases h
theorem Same.seq {K : PySem.W.Frag} {H H' : Hp} {a : Addr} {xs : List V} (e : Same H H') (h : SqL K H a xs) : SqL K H' a xs := by
  rcases h with (h | ⟨o, h⟩) | h
  · exact .inl (.inl (e _ _ h))
  · exact .inl (.inr ⟨o, e _ _ h⟩)
  · exact .inr h

end L2

set_option Elab.async false
set_option linter.all false
set_option maxRecDepth 100000
namespace L2
open PySem PySem.Spec PyProof.Rows


section
variable {κ : Type} [DecidableEq κ]
def valV (kvs : List (κ × V)) (k : κ) : Option V := (kvs.find? fun kv => decide (kv.1 = k)).map (·.2)

def putK (kvs : List (κ × V)) (k : κ) (v : V) : List (κ × V) :=
  if (kvs.any fun kv => decide (kv.1 = k)) = true then kvs.map (fun kv => if kv.1 = k then (kv.1, v) else kv) else kvs ++ [(k, v)]
def dropK (kvs : List (κ × V)) (k : κ) : List (κ × V) := kvs.filter fun kv => decide (kv.1 ≠ k)

theorem valV_pos {p : κ × V} {r : List (κ × V)} {k : κ} (e : p.1 = k) : valV (p :: r) k = some p.2 := by simp [valV, List.find?_cons, e]
theorem valV_neg {p : κ × V} {r : List (κ × V)} {k : κ} (e : ¬ p.1 = k) : valV (p :: r) k = valV r k := by simp [valV, List.find?_cons, e]
theorem valV_any (k : κ) : ∀ kvs : List (κ × V), (kvs.any fun kv => decide (kv.1 = k)) = (valV kvs k).isSome
  | [] => rfl
  | p :: r => by
    rw [List.any_cons]
    by_cases e : p.1 = k
    · simp only [valV_pos e, decide_eq_true e, Bool.true_or, Option.isSome_some]
    · rw [valV_neg e, decide_eq_false e, Bool.false_or]; exact valV_any k r
theorem valV_map (k j : κ) (y : V) : ∀ kvs : List (κ × V), valV (kvs.map fun kv => if kv.1 = k then (kv.1, y) else kv) j = (valV kvs j).map fun x => if j = k then y else x
  | [] => rfl
  | p :: r => by
    have ih := valV_map k j y r
    rw [List.map_cons]
    by_cases h : p.1 = k
    · rw [if_pos h]
      by_cases e : p.1 = j
      · rw [valV_pos (p := (p.1, y)) e, valV_pos e, Option.map_some, if_pos (e.symm.trans h)]
      · rw [valV_neg (p := (p.1, y)) e, valV_neg e, ih]
    · rw [if_neg h]
      by_cases e : p.1 = j
      · rw [valV_pos (p := p) e, valV_pos e, Option.map_some, if_neg (fun z => h (e.trans z))]
      · rw [valV_neg (p := p) e, valV_neg e, ih]
theorem valV_snoc (k j : κ) (y : V) : ∀ kvs : List (κ × V), valV kvs k = none → valV (kvs ++ [(k, y)]) j = if j = k then some y else valV kvs j
  | [], _ => by
    by_cases e : k = j
    · rw [if_pos e.symm]; exact valV_pos (p := (k, y)) e
    · rw [if_neg (fun z => e z.symm)]; exact valV_neg (p := (k, y)) e
  | p :: r, hn => by
    rw [List.cons_append]
    have hk : ¬ p.1 = k := fun z => by rw [valV_pos z] at hn; cases hn
    rw [valV_neg hk] at hn
    have ih := valV_snoc k j y r hn
    by_cases e : p.1 = j
    · rw [valV_pos e, valV_pos e, if_neg (fun z => hk (e.trans z))]
    · rw [valV_neg e, valV_neg e, ih]
theorem valV_put (kvs : List (κ × V)) (k j : κ) (y : V) : valV (putK kvs k y) j = if j = k then some y else valV kvs j := by
  unfold putK
  by_cases a : (kvs.any fun kv => decide (kv.1 = k)) = true
  · rw [if_pos a, valV_map]
    rw [valV_any] at a
    by_cases e : j = k
    · obtain ⟨x, hx⟩ := Option.isSome_iff_exists.mp a
      rw [if_pos e, e, hx, Option.map_some, if_pos rfl]
    · rw [if_neg e]
      cases valV kvs j with
      | none => rfl
      | some x => rw [Option.map_some, if_neg e]
  · rw [if_neg a]
    refine valV_snoc k j y kvs ?_
    rw [valV_any] at a
    cases q : valV kvs k with
    | none => rfl
    | some x => rw [q] at a; exact (a rfl).elim
theorem length_putK (kvs : List (κ × V)) (k : κ) (v : V) : (putK kvs k v).length ≤ kvs.length + 1 := by
  unfold putK
  split
  · rw [List.length_map]; omega
  · rw [List.length_append, List.length_cons, List.length_nil]; omega
theorem putK_new {kvs : List (κ × V)} {k : κ} (v : V) (h : valV kvs k = none) : putK kvs k v = kvs ++ [(k, v)] := by
  unfold putK
  rw [valV_any, h]
  exact if_neg (by decide)

theorem RelO.isSome_eq {o : Option V} {u : Option Value} (r : RelO o u) : o.isSome = u.isSome := by
  cases o with
  | none => cases u with
    | none => rfl
    | some _ => exact (show False from r).elim
  | some _ => cases u with
    | none => exact (show False from r).elim
    | some _ => rfl
theorem RelO.getD {o : Option V} {u : Option Value} {d : V} {d' : Value} (r : RelO o u) (rd : RelV d d') : RelV (o.getD d) (u.getD d') := by
  cases o with
  | none => cases u with
    | none => exact rd
    | some _ => exact (show False from r).elim
  | some _ => cases u with
    | none => exact (show False from r).elim
    | some _ => exact r


theorem KV.val {kvs : List (κ × V)} {vs : List (κ × Value)} (r : KV kvs vs) (k : κ) : RelO (valV kvs k) (valueAt vs k) := by
  unfold KV at r
  induction r with
  | nil => exact True.intro
  | @cons p q ps qs h t ih =>
    obtain ⟨h1, h2⟩ := h
    by_cases e : p.1 = k
    · have e' : q.1 = k := h1.symm.trans e
      have b : valueAt (q :: qs) k = some q.2 := by simp [valueAt, List.find?_cons, e']
      rw [valV_pos e, b]; exact h2
    · have e' : ¬ q.1 = k := fun z => e (h1.trans z)
      have b : valueAt (q :: qs) k = valueAt qs k := by simp [valueAt, List.find?_cons, e']
      rw [valV_neg e, b]; exact ih
theorem KV.any {kvs : List (κ × V)} {vs : List (κ × Value)} (r : KV kvs vs) (k : κ) : (kvs.any fun kv => decide (kv.1 = k)) = vs.any fun kv => decide (kv.1 = k) := by
  unfold KV at r
  induction r with
  | nil => rfl
  | cons h t ih => rw [List.any_cons, List.any_cons, ih, h.1]
theorem KV.repl {kvs : List (κ × V)} {vs : List (κ × Value)} (r : KV kvs vs) (k : κ) {y : V} {u : Value} (ry : RelV y u) :
    KV (kvs.map fun kv => if kv.1 = k then (kv.1, y) else kv) (vs.map fun kv => if kv.1 = k then (kv.1, u) else kv) := by
  unfold KV at r ⊢
  induction r with
  | nil => exact .nil
  | @cons p q ps qs h t ih =>
    rw [List.map_cons, List.map_cons]
    refine .cons ?_ ih
    obtain ⟨h1, h2⟩ := h
    by_cases e : p.1 = k
    · rw [if_pos e, if_pos (h1.symm.trans e)]; exact ⟨h1, ry⟩
    · rw [if_neg e, if_neg (fun z => e (h1.trans z))]; exact ⟨h1, h2⟩
theorem KV.put {kvs : List (κ × V)} {vs : List (κ × Value)} (r : KV kvs vs) (k : κ) {y : V} {u : Value} (ry : RelV y u) : KV (putK kvs k y) (stored vs k u) := by
  unfold putK stored
  rw [r.any k]
  by_cases e : (vs.any fun kv => decide (kv.1 = k)) = true
  · rw [if_pos e, if_pos e]; exact r.repl k ry
  · rw [if_neg e, if_neg e]; exact Paired.snoc r ⟨rfl, ry⟩
theorem KV.drop {kvs : List (κ × V)} {vs : List (κ × Value)} (r : KV kvs vs) (k : κ) : KV (dropK kvs k) (without vs k) := by
  unfold KV at r ⊢
  unfold dropK without
  induction r with
  | nil => exact .nil
  | @cons p q ps qs h t ih =>
    obtain ⟨h1, h2⟩ := h
    rw [List.filter_cons, List.filter_cons]
    by_cases e : p.1 = k
    · have a : ¬ decide (p.1 ≠ k) = true := by simp [e]
      have b : ¬ decide (q.1 ≠ k) = true := by simp [h1.symm.trans e]
      rw [if_neg a, if_neg b]; exact ih
    · have e' : ¬ q.1 = k := fun z => e (h1.trans z)
      have a : decide (p.1 ≠ k) = true := by simp [e]
      have b : decide (q.1 ≠ k) = true := by simp [e']
      rw [if_pos a, if_pos b]; exact .cons ⟨h1, h2⟩ ih
theorem KV.keys {kvs : List (κ × V)} {vs : List (κ × Value)} (r : KV kvs vs) : kvs.map (·.1) = vs.map (·.1) := by
  unfold KV at r
  induction r with
  | nil => rfl
  | cons h t ih => rw [List.map_cons, List.map_cons, ih, h.1]
theorem KV.length {kvs : List (κ × V)} {vs : List (κ × Value)} (r : KV kvs vs) : kvs.length = vs.length := Paired.length r
end



theorem kV_is {P : Program} {w : World} {k : Key} {u : Value} (r : RelV (kV k) u) : (mixKind P w).is k u = true := by
  cases k with
  | inl i => obtain ⟨t, e⟩ := (show ∃ t, u = Value.int i t from r); subst e; exact mixKind_int P w i t
  | inr x => obtain ⟨t, e⟩ := (show ∃ t, u = Value.str x t from r); subst e; exact mixKind_str P w x t
theorem items_are {P : Program} {w : World} : ∀ {ks : List Key} {us : List Value}, Vals (ks.map kV) us → ItemsAre (mixKind P w) ks us
  | [], _, r => by rw [List.map_nil] at r; cases r; exact .nil
  | k :: ks, _, r => by
    rw [List.map_cons] at r
    cases r with
    | cons h t => exact .cons (kV_is h) (items_are t)


abbrev KT (H : Hp) : List (List Key × V) → List (List Key × Addr × Value) → Prop := Paired fun p q => p.1 = q.1 ∧ H q.2.1 = some (.tup (p.1.map kV)) ∧ RelV p.2 q.2.2
theorem KT.val {H : Hp} {kvs : List (List Key × V)} {xs : List (List Key × Addr × Value)} (r : KT H kvs xs) (k : List Key) : RelO (valV kvs k) ((atKey xs k).map (·.2)) := by
  induction r with
  | nil => exact True.intro
  | @cons p q ps qs h t ih =>
    obtain ⟨h1, _, h2⟩ := h
    by_cases e : p.1 = k
    · have e' : q.1 = k := h1.symm.trans e
      have b : atKey (q :: qs) k = some q.2 := by simp [atKey, List.find?_cons, e']
      rw [valV_pos e, b]; exact h2
    · have e' : ¬ q.1 = k := fun z => e (h1.trans z)
      have b : atKey (q :: qs) k = atKey qs k := by simp [atKey, List.find?_cons, e']
      rw [valV_neg e, b]; exact ih
theorem KT.repl {H : Hp} {kvs : List (List Key × V)} {xs : List (List Key × Addr × Value)} (r : KT H kvs xs) (k : List Key) {y : V} {u : Value} (ry : RelV y u) :
    KT H (kvs.map fun kv => if kv.1 = k then (kv.1, y) else kv) (xs.map (putAt k u)) := by
  induction r with
  | nil => exact .nil
  | @cons p q ps qs h t ih =>
    rw [List.map_cons, List.map_cons]
    refine .cons ?_ ih
    obtain ⟨h1, h2, h3⟩ := h
    unfold putAt
    by_cases e : p.1 = k
    · rw [if_pos e, if_pos (h1.symm.trans e)]; exact ⟨h1, h2, ry⟩
    · rw [if_neg e, if_neg (fun z => e (h1.trans z))]; exact ⟨h1, h2, h3⟩
theorem KT.put {H : Hp} {kvs : List (List Key × V)} {xs : List (List Key × Addr × Value)} (r : KT H kvs xs) (k : List Key) {b : Addr} {y : V} {u : Value} (hb : H b = some (.tup (k.map kV))) (ry : RelV y u) :
    KT H (putK kvs k y) (storedH xs k b u) := by
  have e : (kvs.any fun kv => decide (kv.1 = k)) = (atKey xs k).isSome := by
    rw [valV_any, (r.val k).isSome_eq, Option.isSome_map]
  unfold putK storedH
  rw [e]
  by_cases q : (atKey xs k).isSome = true
  · rw [if_pos q, if_pos q]; exact r.repl k ry
  · rw [if_neg q, if_neg q]; exact Paired.snoc r ⟨rfl, hb, ry⟩
theorem KT.keeps {H H' : Hp} {kvs : List (List Key × V)} {xs : List (List Key × Addr × Value)} (r : KT H kvs xs) (ht : ∀ b ys, H b = some (.tup ys) → H' b = some (.tup ys)) : KT H' kvs xs :=
  Paired.mapP r fun _ _ z => ⟨z.1, ht _ _ z.2.1, z.2.2⟩

section
variable {P : Program} {w : World} {H : Hp} {h : Heap} {a : Addr}
theorem rd_of {u : HO} (ok : HOk P w H h) (e : Rd H a u) : ObjOk P w H h a u := e.ok ok
theorem dk_rd {kvs : List (Key × V)} (ok : HOk P w H h) (e : Rd H a (.dK kvs)) : kvs.length ≤ sizeLine ∧ (a == sysModules) = false ∧ ∃ vs, KV kvs vs ∧ h.DictOf (mixKind P w) a vs :=
  show ObjOk P w H h a (.dK kvs) from rd_of ok e
theorem dk_of {kvs : List (Key × V)} (ok : HOk P w H h) (e : H a = some (.dK kvs)) : kvs.length ≤ sizeLine ∧ (a == sysModules) = false ∧ ∃ vs, KV kvs vs ∧ h.DictOf (mixKind P w) a vs := dk_rd ok (.inl e)

theorem key_of {ks : List Key} (ok : HOk P w H h) (e : H a = some (.tup (ks.map kV))) : (tupleKind (mixKind P w)).is h ks a := by
  obtain ⟨_, its, r, o, h1, h2, n, h3⟩ := (show ObjOk P w H h a (.tup (ks.map kV)) from ok a _ e)
  exact ⟨o, its.toArray, n, h1, h2, h3, by simpa using items_are r⟩
theorem dt_rd {kvs : List (List Key × V)} (ok : HOk P w H h) (e : Rd H a (.dT kvs)) : kvs.length ≤ sizeLine ∧ (a == sysModules) = false ∧
    ∃ xs, KT H kvs xs ∧ h.DictOfH (tupleKind (mixKind P w)) a xs := by
  obtain ⟨z, y, xs, r, o, es, ep, h1, h2, h3, h4, h5⟩ := (show ObjOk P w H h a (.dT kvs) from rd_of ok e)
  refine ⟨z, y, xs, r, o, es, ep, h1, h2, h3, h4, fun x hx => ?_, h5⟩
  have all : ∀ {l : List (List Key × V)} {m : List (List Key × Addr × Value)}, KT H l m → ∀ x ∈ m, (tupleKind (mixKind P w)).is h x.1 x.2.1 := by
    intro l m q
    induction q with
    | nil => intro x hx; exact nomatch hx
    | @cons p q ps qs hq t ih =>
      intro x hx
      rcases List.mem_cons.mp hx with e | hx
      · subst e
        exact key_of ok (by rw [← hq.1]; exact hq.2.1)
      · exact ih x hx
  exact all r x hx
theorem dt_of {kvs : List (List Key × V)} (ok : HOk P w H h) (e : H a = some (.dT kvs)) : kvs.length ≤ sizeLine ∧ (a == sysModules) = false ∧
    ∃ xs, KT H kvs xs ∧ h.DictOfH (tupleKind (mixKind P w)) a xs := dt_rd ok (.inl e)
end


def DGet (H : Hp) (a : Addr) (y : V) (r : Option V) : Prop :=
  (∃ kvs k, Rd H a (.dK kvs) ∧ y = kV k ∧ r = valV kvs k) ∨ ∃ kvs k b, Rd H a (.dT kvs) ∧ y = .ref b ∧ H b = some (.tup (k.map kV)) ∧ r = valV kvs k

def DPut (H : Hp) (a : Addr) (y v : V) (H' : Hp) : Prop :=
  (∃ kvs k, H a = some (.dK kvs) ∧ y = kV k ∧ kvs.length < sizeLine ∧ H' = upd H a (.dK (putK kvs k v))) ∨
  ∃ kvs k b, H a = some (.dT kvs) ∧ y = .ref b ∧ H b = some (.tup (k.map kV)) ∧ kvs.length < sizeLine ∧ H' = upd H a (.dT (putK kvs k v))
theorem DGet.k {H : Hp} {a : Addr} {kvs : List (Key × V)} {k : Key} (e : H a = some (.dK kvs)) : DGet H a (kV k) (valV kvs k) := .inl ⟨kvs, k, .inl e, rfl, rfl⟩
theorem DGet.t {H : Hp} {a b : Addr} {kvs : List (List Key × V)} {k : List Key} (e : H a = some (.dT kvs)) (eb : H b = some (.tup (k.map kV))) : DGet H a (.ref b) (valV kvs k) := .inr ⟨kvs, k, b, .inl e, rfl, eb, rfl⟩
theorem DPut.k {H : Hp} {a : Addr} {kvs : List (Key × V)} {k : Key} {v : V} (e : H a = some (.dK kvs)) (hl : kvs.length < sizeLine) : DPut H a (kV k) v (upd H a (.dK (putK kvs k v))) := .inl ⟨kvs, k, e, rfl, hl, rfl⟩
theorem DPut.t {H : Hp} {a b : Addr} {kvs : List (List Key × V)} {k : List Key} {v : V} (e : H a = some (.dT kvs)) (eb : H b = some (.tup (k.map kV))) (hl : kvs.length < sizeLine) :
    DPut H a (.ref b) v (upd H a (.dT (putK kvs k v))) := .inr ⟨kvs, k, b, e, rfl, eb, hl, rfl⟩


section
variable {X : Cx} {pins : List (Addr × Obj)} {σ : St} {H : Hp} {s : Shared} {a : Addr} {y v : V} {u r : Value} {o : Option V} {A : Around} {E : Value → Shared → Prop}

theorem Inv.big (I : Inv X pins σ H s) : sysModules < s.heap.objs.size := by
  have h : mainGlobals < s.heap.objs.size := (I.mod.glob.keeps I.bk).lt
  exact Nat.lt_trans (by decide) h


theorem d_getItem {Q : Value → Shared → Prop} (hu : A.units + 1 < cLine) (I : Inv X pins σ H s) (g : DGet H a y (some v)) (ry : RelV y u) (h : ∀ w' s', Inv X pins σ H s' → RelV v w' → Q w' s') :
    wpAny (model X.prog X.w) A (getItem (.ref a) u) Q E s := by
  rcases g with ⟨kvs, k, e, ey, l⟩ | ⟨kvs, k, b, e, ey, eb, l⟩
  · subst ey
    obtain ⟨z, hd, vs, rel, dd⟩ := dk_rd I.hok e
    obtain ⟨w', hw, rw'⟩ := RelO.some_of (v := v) (o := valueAt vs k) (by rw [l]; exact rel.val k)
    exact wpAny_getItem_of (kV_is ry) dd.mapOf hw (h w' _ (I.tok _) rw')
  · subst ey
    cases (show u = Value.ref b from ry)
    obtain ⟨z, hd, xs, rel, dd⟩ := dt_rd I.hok e
    obtain ⟨w', hw, rw'⟩ := RelO.some_of (v := v) (o := (atKey xs k).map (·.2)) (by rw [l]; exact rel.val k)
    obtain ⟨p, hp, hp2⟩ := Option.map_eq_some_iff.mp hw
    refine wpAny_getItem_heap (tupleKind_room_in1 hu) (key_of I.hok eb) dd hp ?_
    rw [hp2]
    exact h w' _ (I.tok _) rw'

theorem d_in {Q : Value → Shared → Prop} (hu : A.units + 1 < cLine) (I : Inv X pins σ H s) (g : DGet H a y o) (ry : RelV y u) (h : ∀ s', Inv X pins σ H s' → Q (.bool o.isSome) s') :
    wpAny (model X.prog X.w) A (compareOp .In u (.ref a)) Q E s := by
  rcases g with ⟨kvs, k, e, ey, l⟩ | ⟨kvs, k, b, e, ey, eb, l⟩
  · subst ey
    obtain ⟨z, hd, vs, rel, dd⟩ := dk_rd I.hok e
    refine wpAny_in_of (kV_is ry) hd dd.mapOf ?_
    rw [← (rel.val k).isSome_eq, ← l]
    exact h _ (I.tok _)
  · subst ey
    cases (show u = Value.ref b from ry)
    obtain ⟨z, hd, xs, rel, dd⟩ := dt_rd I.hok e
    refine wpAny_in_heap (tupleKind_room_in1 hu) (key_of I.hok eb) hd dd ?_
    have q := (rel.val k).isSome_eq
    rw [Option.isSome_map] at q
    rw [← q, ← l]
    exact h _ (I.tok _)
theorem d_write {h' : Heap} {t' : Nat} {ob : HO} (I : Inv X pins σ H s) (mu : Mut (H a)) (hs : Heap.SameBut a s.heap h') (he : ∃ q, h'.get? a = some q) (new : ObjOk X.prog X.w (upd H a ob) h' a ob) :
    Inv X pins σ (upd H a ob) { s with heap := h', toks := t' } :=
  I.write (x := a) (e := a) mu (.inl rfl) (fun b q hb z => (hs.2 b hb).trans z) he new
theorem dk_new {P : Program} {w : World} {H' : Hp} {h' : Heap} {kvs : List (Key × V)} {vs : List (Key × Value)} (z : kvs.length ≤ sizeLine) (hd : (a == sysModules) = false) (rel : KV kvs vs) (dd : h'.DictOf (mixKind P w) a vs) :
    ObjOk P w H' h' a (.dK kvs) := ⟨z, hd, vs, rel, dd⟩

theorem d_setItem {H' : Hp} {Q : Unit → Shared → Prop} (hu : A.units + 1 < cLine) (I : Inv X pins σ H s) (g : DPut H a y v H') (ry : RelV y u) (rv : RelV v r) (h : ∀ s', Inv X pins σ H' s' → Q () s') :
    wpAny (model X.prog X.w) A (setItem (.ref a) u r) Q E s := by
  rcases g with ⟨kvs, k, e, ey, l, eH⟩ | ⟨kvs, k, b, e, ey, eb, l, eH⟩
  · subst ey eH
    obtain ⟨z, hd, vs, rel, dd⟩ := dk_of I.hok e
    have hz : vs.length ≤ sizeLine := by rw [← rel.length]; exact z
    have hl : (putK kvs k v).length ≤ sizeLine := by have := length_putK kvs k v; omega
    refine wpAny_setItem_pairs (hsz := hz) (kV_is ry) dd fun h' dd' hs => h _ ?_
    have he : ∃ q, h'.get? a = some q := let ⟨q, _, _, hq, _⟩ := dd'; ⟨q, hq⟩
    exact d_write I (by rw [e]; exact True.intro) hs he (dk_new hl hd (rel.put k rv) dd')
  · subst ey eH
    cases (show u = Value.ref b from ry)
    obtain ⟨z, hd, xs, rel, dd⟩ := dt_of I.hok e
    have hz : xs.length ≤ sizeLine := by rw [← Paired.length rel]; exact z
    have hl : (putK kvs k v).length ≤ sizeLine := by have := length_putK kvs k v; omega
    refine wpAny_setItem_heap (hsz := hz) (tupleKind_room_in1 hu) (key_of I.hok eb) dd fun h' dd' hs => h _ ?_
    obtain ⟨q, es, ep, hq, h2, h3, h4, _, h5⟩ := dd'
    refine d_write I (by rw [e]; exact True.intro) hs ⟨q, hq⟩ ⟨hl, hd, _, (rel.put k eb rv).keeps fun c ys ec => ?_, q, es, ep, hq, h2, h3, h4, h5⟩
    rw [upd_ne (ne_of ec e (fun z => nomatch z))]
    exact ec
end

section
variable {X : Cx} {pins : List (Addr × Obj)} {σ : St} {H : Hp} {s : Shared} {a : Addr} {kvs : List (Key × V)} {k : Key} {u : Value} {A : Around} {E : Value → Shared → Prop}

end




def NoSl (i : Expr) : Prop := ∀ ov iv, subscripted i false ov iv = operate [ov, iv] (getItem ov iv)
theorem subD_of {prog : Program} {w : World} {A : Around} {E : Value → Shared → Prop} {s : Shared} {env : Env} {value slice : Expr} {pos : Pos} {T id : String} {Q : Value → Shared → Prop}
    (hl : typeLookup (.type T) "__getitem__" = pure (some (.builtin id))) (hs : NoSl slice)
    (h : wpAny (model prog w) A (eval value env) (fun o s₁ => wpAny (model prog w) A (eval slice env) (fun i s₂ => s₂.TypeIs o T ∧ wpAny (model prog w) A (getItem o i) Q E s₂) E s₁) E s) :
    wpAny (model prog w) A (eval (.Subscript value slice pos) env) Q E s := by
  refine Subscript_ (wpAny_mono h (fun o s₁ h₁ => wpAny_mono h₁ (fun i s₂ h₂ => ?_) fun _ _ x => x) fun _ _ x => x)
  obtain ⟨hT, h₂⟩ := h₂
  unfold subscriptTail
  refine wpAny_bind ?_
  rw [getitemInPython_of_ne hT.not_modules]
  refine wpAny_bind (wpAny_specialOf hT hl ?_)
  have fin : wpAny (model prog w) A (subscripted slice false o i) (fun r s₃ => wpAny (model prog w) A (letTemporaryGo value o r >>= fun _ => pure r) Q E s₃) E s₂ := by
    rw [hs o i]
    exact wpAny_operating (wpAny_mono h₂ (fun r s₃ h₃ => wpAny_bind (wpAny_letTemporaryGo (wpAny_pure h₃))) fun _ _ x => x)
  first
    | exact wpAny_pure (wpAny_bind fin)
    | exact wpAny_bind (wpAny_pure (wpAny_bind fin))
    | exact wpAny_bind fin

theorem dict_typeIs {X : Cx} {pins : List (Addr × Obj)} {σ : St} {H : Hp} {s : Shared} {a : Addr} {y : V} {o : Option V} (I : Inv X pins σ H s) (g : DGet H a y o) : s.TypeIs (.ref a) "dict" := by
  rcases g with ⟨kvs, k, e, _, _⟩ | ⟨kvs, k, b, e, _, _, _⟩
  · obtain ⟨_, _, vs, _, dd⟩ := dk_rd I.hok e
    exact dd.typeIs
  · obtain ⟨_, _, xs, _, dd⟩ := dt_rd I.hok e
    exact dd.typeIs
def tDGet (td ty : TE) : TE := fun σ H Q => td σ H fun x H1 => ty σ H1 fun y H2 => ∃ a v, x = .ref a ∧ DGet H2 a y (some v) ∧ Q v H2

def tDIn (ty td : TE) : TE := fun σ H Q => ty σ H fun y H1 => td σ H1 fun x H2 => ∃ a o, x = .ref a ∧ DGet H2 a y o ∧ Q (.bl o.isSome) H2
def sDPut (td ty tv : TE) : TS := fun D σ H => tv σ H fun v H1 => td σ H1 fun x H2 => ty σ H2 fun y H3 => ∃ a H4, x = .ref a ∧ DPut H3 a y v H4 ∧ D.nx σ H4

section
variable {X : Cx} {o i e value : Expr} {pos pos' tpos : Pos} {td ty tv : TE}
theorem pe_dget (hu : X.A.units + 1 < cLine) (ho : PE X o td) (hi : PE X i ty) (hs : NoSl i) : PE X (.Subscript o i pos) (tDGet td ty) := by
  intro pins s σ H Q I h
  refine subD_of PySem.F.slot_dict_getitem.lookup hs (thn (ho pins s σ H _ I h) fun u s1 ⟨x, H1, I1, rx, q1⟩ => thn (hi pins s1 σ H1 _ I1 q1) fun iv s2 ⟨y, H2, I2, ry, a, v, ex, g, q2⟩ => ?_)
  subst ex
  obtain rfl : u = Value.ref a := rx
  exact ⟨dict_typeIs I2 g, d_getItem hu I2 g ry fun w' s3 I3 rw' => ⟨v, H2, I3, rw', q2⟩⟩
theorem pc_din (hu : X.A.units + 1 < cLine) (hi : PE X i ty) (ho : PE X o td) : PC X .In i o (tDIn ty td) := by
  intro pins s σ H Q I h
  refine thn (hi pins s σ H _ I h) fun iv s1 ⟨y, H1, I1, ry, q1⟩ => thn (ho pins s1 σ H1 _ I1 q1) fun u s2 ⟨x, H2, I2, rx, a, ov, ex, g, q2⟩ => ?_
  subst ex
  obtain rfl : u = Value.ref a := rx
  exact d_in hu I2 g ry fun s3 I3 => ⟨.bl ov.isSome, H2, I3, rfl, q2⟩
theorem ps_dput (hu : X.A.units + 1 < cLine) (ho : PE X o td) (hi : PE X i ty) (hv : PE X value tv) (hs : swapsWith value (some (.Subscript o i pos')) pos.line X.env = pure false) :
    PS X (.Assign [.Subscript o i pos'] value pos) (sDPut td ty tv) := by
  intro pins s σ H D I h
  refine wpAny_Assign_Subscript (thn (hv pins s σ H _ I h) fun r s1 ⟨v, H1, I1, rv, q1⟩ => thn (ho pins s1 σ H1 _ I1 q1) fun u s2 ⟨x, H2, I2, rx, q2⟩ => thn (hi pins s2 σ H2 _ I2 q2) fun iv s3 ⟨y, H3, I3, ry, a, H4, ex, g, q3⟩ => ?_) hs
  subst ex
  obtain rfl : u = Value.ref a := rx
  exact d_setItem hu I3 g ry rv fun s4 I4 => ⟨σ, H4, I4, q3⟩
end



theorem dk_empty {P : Program} {w : World} {H : Hp} (h : Heap) (hb : sysModules < h.objs.size) : ObjOk P w H (h.push { cls := .type "dict", data := .dict #[] }) h.objs.size (.dK []) :=
  ⟨Nat.zero_le _, beq_eq_false_iff_ne.mpr (Ne.symm (Nat.ne_of_lt hb)), [], .nil, Heap.DictOf.new h⟩
def tDNewK : TE := fun _ H Q => ∀ p, H p = none → Q (.ref p) (upd H p (.dK []))
section
variable {X : Cx} {pos : Pos}
theorem pe_dnewK : PE X (.Dict [] [] pos) tDNewK := fun pins s σ H Q I h =>
  wpAny_Dict_empty ⟨.ref s.heap.objs.size, _, I.laid (a := s.heap.objs.size) (o := .dK []) (t' := s.toks) (fun _ _ q => Heap.get?_push_of_some _ q) (Nat.le_refl _) (dk_empty s.heap I.big), rfl, h _ (I.hok.fresh (Nat.le_refl _))⟩
end


structure M2 (X : Cx) (o : Expr) (m : Str) (apos : Pos) (e f : Expr) (cpos : Pos) : Prop where
  base : attributeBase o m X.env (eval o X.env) = eval o X.env
  few : ((backTo cpos (starEach [e, f] X.env)).all (fun x => !x.1) && (backToKw cpos (keywordEach [] X.env)).all (fun x => x.1.isSome)
    && decide (([e, f] : List Expr).length + ([] : List Keyword).length + (if ([] : List Keyword).isEmpty then 0 else 1) < 30)) = true
  line : (apos.endLine == cpos.line) = true
  trees : backTo cpos (starEach [e, f] X.env) = [(false, eval e X.env), (false, eval f X.env)]


def IsD (H : Hp) (a : Addr) : Prop := (∃ kvs, Rd H a (.dK kvs)) ∨ ∃ kvs, Rd H a (.dT kvs)
theorem isD_at {X : Cx} {pins : List (Addr × Obj)} {σ : St} {H : Hp} {s : Shared} {a : Addr} (I : Inv X pins σ H s) (d : IsD H a) :
    s.TypeIs (.ref a) "dict" ∧ (∀ b, Value.ref a = .ref b → ∃ ob, s.heap.get? b = some ob ∧ ob.dict = none) ∧ (a == sysModules) = false := by
  rcases d with ⟨kvs, e⟩ | ⟨kvs, e⟩
  · obtain ⟨_, hd, vs, _, dd⟩ := dk_rd I.hok e
    refine ⟨dd.typeIs, fun b q => ?_, hd⟩
    cases q
    obtain ⟨ob, _, _, h1, h2, _⟩ := dd
    exact ⟨ob, h1, h2.2.1⟩
  · obtain ⟨_, hd, xs, _, dd⟩ := dt_rd I.hok e
    refine ⟨dd.typeIs, fun b q => ?_, hd⟩
    cases q
    obtain ⟨ob, _, _, h1, h2, _⟩ := dd
    exact ⟨ob, h1, h2.2.1⟩

section
variable {X : Cx} {pins : List (Addr × Obj)} {σ : St} {H : Hp} {s : Shared} {a : Addr} {y d : V} {u r : Value} {o : Option V} {A : Around} {E : Value → Shared → Prop}

theorem d_get2 {Q : Value → Shared → Prop} (hu : A.units + 1 < cLine) (I : Inv X pins σ H s) (g : DGet H a y o) (ry : RelV y u) (rd : RelV d r) (h : ∀ w' s', Inv X pins σ H s' → RelV (o.getD d) w' → Q w' s') :
    wpAny (model X.prog X.w) A (call (.builtin "dict.get") [.ref a, u, r]) Q E s := by
  rcases g with ⟨kvs, k, e, ey, l⟩ | ⟨kvs, k, b, e, ey, eb, l⟩
  · subst ey
    obtain ⟨z, hd, vs, rel, dd⟩ := dk_rd I.hok e
    refine call_meetsIn PySem.F.slot_dict_get dd.typeIs PySem.F.entry_dict_get (PySem.F.args_dict_get_3 _ _ _) (meets_dict_get_default (mixKind X.prog X.w) a (kV_is ry) hd r) ⟨_, dd.mapOf, h _ _ (I.tok _) ?_⟩
    rw [l]
    exact (rel.val k).getD rd
  · subst ey
    cases (show u = Value.ref b from ry)
    obtain ⟨z, hd, xs, rel, dd⟩ := dt_rd I.hok e
    refine call_meetsIn PySem.F.slot_dict_get dd.typeIs PySem.F.entry_dict_get (PySem.F.args_dict_get_3 _ _ _) (meetsH_dict_get_default (tupleKind (mixKind X.prog X.w)) a b hd r) ⟨tupleKind_room_in1 hu, k, xs, key_of I.hok eb, dd, h _ _ (I.tok _) ?_⟩
    rw [l]
    exact (rel.val k).getD rd
end

def tDGet2 (td ty tx : TE) : TE := fun σ H Q => td σ H fun x H1 => ∃ a, x = .ref a ∧ IsD H1 a ∧ ty σ H1 fun y H2 => tx σ H2 fun z H3 => ∃ o, DGet H3 a y o ∧ Q (o.getD z) H3

section
variable {X : Cx} {o e f : Expr} {apos cpos : Pos} {td ty tx : TE}
theorem pe_dget2 (hu : X.A.units + 1 < cLine) (ho : PE X o td) (he : PE X e ty) (hf : PE X f tx) (m : M2 X o "get" apos e f cpos) : PE X (.Call (.Attribute o "get" apos) [e, f] [] cpos) (tDGet2 td ty tx) := by
  intro pins s σ H Q I h
  refine wpAny_Call_method m.base m.few m.line PySem.F.plainAttrs_dict PySem.F.slot_dict_get PySem.F.type_dict_get (thn (ho pins s σ H _ I h) fun u s1 ⟨x, H1, I1, rx, a, ex, d, q1⟩ => ?_)
  subst ex
  obtain rfl : u = Value.ref a := rx
  obtain ⟨t1, t2, _⟩ := isD_at I1 d
  refine ⟨t1, t2, ?_⟩
  rw [m.trees]
  refine Calls.callWith_builtin rfl (Calls.evalArgs_plain (Calls.spliced_cons (thn (he pins s1 σ H1 _ I1 q1) fun iv s2 ⟨y, H2, I2, ry, q2⟩ =>
    Calls.spliced_cons (thn (hf pins s2 σ H2 _ I2 q2) fun fv s3 ⟨z, H3, I3, rz, ov, g, q3⟩ => Calls.spliced_nil ?_))))
  exact d_get2 hu I3 g ry rz fun w' s4 I4 rw' => ⟨_, H3, I4, rw', q3⟩
end


section
variable {X : Cx} {pins : List (Addr × Obj)} {σ : St} {H : Hp} {s : Shared} {a : Addr} {kvs : List (Key × V)} {A : Around} {E : Value → Shared → Prop}
end


section
variable {X : Cx} {pins : List (Addr × Obj)} {σ : St} {H : Hp} {s : Shared} {a : Addr} {y : V} {u : Value} {A : Around} {E : Value → Shared → Prop}

end
end L2

set_option Elab.async false
set_option linter.all false
set_option maxRecDepth 100000
set_option maxHeartbeats 4000000

namespace L2
open PySem PySem.Spec PyProof.Rows


def closL : List (Str × NameKind) → List (Str × Addr) → List (Str × Addr) → List (Str × Addr)
  | [], _, acc => acc
  | (n, k) :: r, cells, acc => if k == .free then closL r cells ((n, (cells.lookup n).getD 0) :: acc) else closL r cells acc
theorem closL_for {env : Env} : ∀ (names : List (Str × NameKind)) (acc : List (Str × Addr)), (∀ y ∈ names, y.2 = .free → ∃ c, env.cells.lookup y.1 = some c) →
    (forIn names acc fun x r => (match x with | (name, kind) => if (kind == NameKind.free) = true then do let a ← cellOf env name; pure (ForInStep.yield ((name, a) :: r)) else pure (ForInStep.yield r) : Sem (ForInStep (List (Str × Addr))))) = (pure (closL names env.cells acc) : Sem (List (Str × Addr)))
  | [], acc, _ => rfl
  | (n, k) :: r, acc, h => by
    have ih := fun acc => closL_for (env := env) r acc fun y hy => h y (List.mem_cons_of_mem _ hy)
    rw [List.forIn_cons]
    unfold closL
    cases hk : (k == NameKind.free) with
    | true =>
      obtain ⟨c, hc⟩ := h (n, k) List.mem_cons_self (by simpa using hk)
      have hc : env.cells.lookup n = some c := hc
      have e : cellOf env n = pure c := by unfold cellOf; rw [hc]
      simp only [hk, if_true, e, pure_bind, hc, Option.getD_some]
      exact ih _
    | false =>
      simp only [hk, Bool.false_eq_true, if_false, pure_bind]
      exact ih _
theorem closL_eq {scope : Scope} {env : Env} (h : ∀ y ∈ scope.names, y.2 = .free → ∃ c, env.cells.lookup y.1 = some c) : closureFor scope env = pure (closL scope.names env.cells []) := by
  have e := closL_for (env := env) scope.names [] h
  unfold closureFor
  first
    | (rw [e]; rfl)
    | (simp only [e]; rfl)
    | exact (congrArg (fun t => t >>= fun r => pure r) e)
theorem closL_sub {cells : List (Str × Addr)} : ∀ (names : List (Str × NameKind)) (acc : List (Str × Addr)), (∀ y ∈ names, y.2 = .free → ∃ c, cells.lookup y.1 = some c) → (∀ x c, acc.lookup x = some c → cells.lookup x = some c) →
    ∀ x c, (closL names cells acc).lookup x = some c → cells.lookup x = some c
  | [], acc, _, h2 => h2
  | (n, k) :: r, acc, h, h2 => by
    unfold closL
    cases hk : (k == NameKind.free) with
    | true =>
      rw [if_pos rfl]
      refine closL_sub r _ (fun y hy => h y (List.mem_cons_of_mem _ hy)) fun x c e => ?_
      obtain ⟨c', hc⟩ := h (n, k) List.mem_cons_self (by simpa using hk)
      have hc : cells.lookup n = some c' := hc
      rw [List.lookup_cons] at e
      cases hx : x == n with
      | true =>
        have hx' : x = n := by simpa using hx
        rw [hx] at e
        rw [hx', hc]
        simpa [hc] using e
      | false =>
        rw [hx] at e
        exact h2 x c e
    | false =>
      rw [if_neg (by simp)]
      exact closL_sub r _ (fun y hy => h y (List.mem_cons_of_mem _ hy)) h2
theorem closL_acc {cells : List (Str × Addr)} {x : Str} : ∀ (names : List (Str × NameKind)) (acc : List (Str × Addr)), (acc.lookup x).isSome = true → ((closL names cells acc).lookup x).isSome = true
  | [], _, h => h
  | (n, k) :: r, acc, h => by
    unfold closL
    split
    · refine closL_acc r _ ?_
      rw [List.lookup_cons]
      cases x == n <;> simp [h]
    · exact closL_acc r _ h
theorem closL_has {cells : List (Str × Addr)} {x : Str} : ∀ (names : List (Str × NameKind)) (acc : List (Str × Addr)), (x, NameKind.free) ∈ names → ((closL names cells acc).lookup x).isSome = true
  | (n, k) :: r, acc, h => by
    unfold closL
    rcases List.mem_cons.mp h with e | e
    · cases e
      rw [if_pos (by rfl)]
      exact closL_acc r _ (by rw [List.lookup_cons]; simp)
    · split
      · exact closL_has r _ e
      · exact closL_has r _ e


def compCx (X : Cx) (N' : List Str) (scope : Scope) (C : Addr) (s : Shared) (H : Hp) (fp : List Addr) : Cx :=
  { X with N := N', s₀ := s, H₀ := H, env := compEnvC scope (closL scope.names X.env.cells []) C X.env, outer := X.stack, stack := X.stack, ex := fp, fn := fun _ => false, pn := [], xe := fun _ _ => False }
def cap (js : List (Option Nat)) (σ : St) : St := js.map fun o => o.bind fun j => (σ[j]?).join

def compOk (scope osc : Scope) (N' N : List Str) (js : List (Option Nat)) : Bool :=
  (scope.kind == .function) && (scope.names.all fun y => y.2 != .cell && (if y.2 == .local then scope.names.lookup y.1 == some .local else true) &&
    (if y.2 == .free then osc.names.lookup y.1 == some .cell || osc.names.lookup y.1 == some .free else true)) &&
  js.length == N'.length && ((js.zip N').all fun q => match q.1 with
    | none => true
    | some j => N[j]? == some q.2 && (osc.names.lookup q.2 == some .cell || osc.names.lookup q.2 == some .free) && scope.names.lookup q.2 == some .free)
structure CompOk (scope osc : Scope) (N' N : List Str) (js : List (Option Nat)) : Prop where
  kind : scope.kind = .function
  nocell : ∀ y ∈ scope.names, y.2 ≠ .cell
  names : ∀ y ∈ scope.names, y.2 = .local → scope.names.lookup y.1 = some .local
  free : ∀ y ∈ scope.names, y.2 = .free → osc.names.lookup y.1 = some .cell ∨ osc.names.lookup y.1 = some .free
  len : js.length = N'.length
  slots : ∀ (i j : Nat) (x : Str), js[i]? = some (some j) → N'[i]? = some x → N[j]? = some x ∧ (osc.names.lookup x = some .cell ∨ osc.names.lookup x = some .free) ∧ scope.names.lookup x = some .free
theorem compOk_of {scope osc : Scope} {N' N : List Str} {js : List (Option Nat)} (h : compOk scope osc N' N js = true) : CompOk scope osc N' N js := by
  unfold compOk at h
  rw [Bool.and_eq_true, Bool.and_eq_true, Bool.and_eq_true, List.all_eq_true, List.all_eq_true] at h
  obtain ⟨⟨⟨h1, h2⟩, h3⟩, h4⟩ := h
  refine ⟨by cases hk : scope.kind <;> first | rfl | (rw [hk] at h1; cases h1), fun y hy e => ?_, fun y hy e => ?_, fun y hy e => ?_, by simpa using h3, fun i j x e1 e2 => ?_⟩
  · have q := h2 y hy
    rw [e] at q
    simp at q
  · have q := h2 y hy
    rw [Bool.and_eq_true, Bool.and_eq_true] at q
    have q2 := q.1.2
    rw [e] at q2
    simpa using q2
  · have q := h2 y hy
    rw [Bool.and_eq_true, Bool.and_eq_true] at q
    have q2 := q.2
    rw [e] at q2
    simpa using q2
  · have hm : (some j, x) ∈ js.zip N' := by
      refine List.mem_of_getElem? (i := i) ?_
      rw [List.getElem?_zip_eq_some]
      exact ⟨e1, e2⟩
    have q := h4 _ hm
    simp only [Bool.and_eq_true, Bool.or_eq_true, beq_iff_eq] at q
    exact ⟨q.1.1, q.1.2, q.2⟩
theorem relabel_lookup {env : Env} : ∀ (names : List (Str × NameKind)) (x : Str), names.lookup x = some .free →
    ((names.map fun (n, k) => if (k == NameKind.free && env.scope.kind == .function && env.kindOf n == some .cell) then (n, NameKind.cell) else (n, k)).lookup x = some .cell ∨
      (names.map fun (n, k) => if (k == NameKind.free && env.scope.kind == .function && env.kindOf n == some .cell) then (n, NameKind.cell) else (n, k)).lookup x = some .free)
  | [], x, h => by simp at h
  | (n, k) :: r, x, h => by
    have ih := relabel_lookup (env := env) r x
    rw [List.map_cons]
    rw [List.lookup_cons] at h
    by_cases hb : (k == NameKind.free && env.scope.kind == .function && env.kindOf n == some .cell) = true
    · have e1 : (if (k == NameKind.free && env.scope.kind == .function && env.kindOf n == some .cell) = true then (n, NameKind.cell) else (n, k)) = (n, NameKind.cell) := if_pos hb
      simp only [e1, List.lookup_cons]
      cases hx : x == n with
      | true => exact .inl rfl
      | false =>
        rw [hx] at h
        exact ih h
    · have e1 : (if (k == NameKind.free && env.scope.kind == .function && env.kindOf n == some .cell) = true then (n, NameKind.cell) else (n, k)) = (n, k) := if_neg hb
      simp only [e1, List.lookup_cons]
      cases hx : x == n with
      | true =>
        rw [hx] at h
        exact .inr h
      | false =>
        rw [hx] at h
        exact ih h
theorem relabel_free {scope : Scope} {env : Env} : ∀ (names : List (Str × NameKind)) (x : Str), (∀ y ∈ names, y.2 ≠ .cell) →
    ((names.map fun (n, k) => if (k == NameKind.free && env.scope.kind == .function && env.kindOf n == some .cell) then (n, NameKind.cell) else (n, k)).lookup x = some .cell ∨
      (names.map fun (n, k) => if (k == NameKind.free && env.scope.kind == .function && env.kindOf n == some .cell) then (n, NameKind.cell) else (n, k)).lookup x = some .free) → (x, NameKind.free) ∈ names
  | [], x, _, h => by simp at h
  | (n, k) :: r, x, hc, h => by
    have ih := relabel_free (scope := scope) (env := env) r x fun y hy => hc y (List.mem_cons_of_mem _ hy)
    rw [List.map_cons] at h
    by_cases hb : (k == NameKind.free && env.scope.kind == .function && env.kindOf n == some .cell) = true
    · have hkf : k = .free := by
        rw [Bool.and_eq_true, Bool.and_eq_true] at hb
        simpa using hb.1.1
      have e1 : (if (k == NameKind.free && env.scope.kind == .function && env.kindOf n == some .cell) = true then (n, NameKind.cell) else (n, k)) = (n, NameKind.cell) := if_pos hb
      simp only [e1, List.lookup_cons] at h
      cases hx : x == n with
      | true =>
        have hx' : x = n := by simpa using hx
        rw [hx', hkf]
        exact List.mem_cons_self
      | false =>
        rw [hx] at h
        exact List.mem_cons_of_mem _ (ih h)
    · have e1 : (if (k == NameKind.free && env.scope.kind == .function && env.kindOf n == some .cell) = true then (n, NameKind.cell) else (n, k)) = (n, k) := if_neg hb
      simp only [e1, List.lookup_cons] at h
      cases hx : x == n with
      | true =>
        have hx' : x = n := by simpa using hx
        rw [hx] at h
        rcases h with h | h
        · exact absurd (Option.some.inj h) (hc (n, k) List.mem_cons_self)
        · have hkf : k = .free := Option.some.inj h
          rw [hx', hkf]
          exact List.mem_cons_self
      | false =>
        rw [hx] at h
        exact List.mem_cons_of_mem _ (ih h)

theorem Un.sameBut {fs ex : List Addr} {H H' : Hp} {h h1 h2 : Heap} {C : Addr} (u : Un fs ex H H' h h1) (hs : Heap.SameBut C h1 h2) (hC : h.objs.size ≤ C) : Un fs ex H H' h h2 := by
  have ne : ∀ b o, h.get? b = some o → b ≠ C := fun b o e => Nat.ne_of_lt (Nat.lt_of_lt_of_le (Heap.lt_size e) hC)
  refine ⟨fun b o e n hb hx => (hs.2 b (ne b o e)).trans (u.keep b o e n hb hx), fun b o e n hb hx => ?_, u.free, fun b o e hx => ?_, u.tups, u.frzs, u.tbls⟩
  · obtain ⟨sl, q⟩ := u.slot b o e n hb hx
    exact ⟨sl, (hs.2 b (ne b o e)).trans q⟩
  · obtain ⟨o', q⟩ := u.there b o e hx
    exact ⟨o', (hs.2 b (ne b o e)).trans q⟩

theorem thn0 {α : Type} {t : Sem α} {Q Q' : α → Shared → Prop} {M : Model} {A : Around} {E : Value → Shared → Prop} {s : Shared} (h : wpAny M A t Q (fun _ _ => False) s) (hQ : ∀ a s, Q a s → Q' a s) : wpAny M A t Q' E s := wpAny_mono h hQ fun _ _ f => f.elim

theorem comp_loop {prog : Program} {w : World} {A : Around} {R : Result → Shared → Prop} {s : Shared} {elt target iter : Expr} {ifs : List Expr} {scope : Scope} {pos : Pos} {it acc : Value} {env : Env} (I : Nat → Shared → Prop)
    (turn : ∀ n s, I n s → wpAny (model prog w) A (pyNext it) (fun r s₁ => match r with
      | none => R (.ok .next) s₁
      | some v => wpAny (model prog w) A (letOwnedTupleGo target it v) (fun _ s₂ => wpAny (model prog w) A (assign target env v) (fun _ s₃ =>
          wpAny (model prog w) A (forIn ifs true fun c r => if r = true then do let ok ← isTrue c env (eval c env); pure (ForInStep.yield ok) else pure (ForInStep.yield r)) (fun ok s₄ =>
            if ok = true then wpAny (model prog w) A (eval elt env) (fun x s₅ =>
              wpAny (model prog w) A (call (.builtin "list.append") [acc, x]) (fun _ s₆ => ∃ m, m < n ∧ I m s₆) (fun _ _ => False) s₅) (fun _ _ => False) s₄
            else ∃ m, m < n ∧ I m s₄) (fun _ _ => False) s₃) (fun _ _ => False) s₂) (fun _ _ => False) s₁) (fun _ _ => False) s)
    (n : Nat) (h : I n s) : codeAny (model prog w) A (.compLoop (.ListComp elt [⟨target, iter, ifs, 0⟩] scope pos) 0 it acc env) R s := by
  refine codeAny_loop rfl I (fun n s hI => ?_) n h
  show wpAny _ A ((compTurn (.ListComp elt [⟨target, iter, ifs, 0⟩] scope pos) 0 it acc env).onRaise (fun x => do noteFrame x env; theTreesLotGoes x)) _ _ s
  refine wpAny_noted ?_
  rw [compTurn_list]
  refine wpAny_bind (wpAny_standAt (wpAny_bind (thn0 (turn n s hI) fun r s₁ h₁ => ?_)))
  cases r with
  | none => exact wpAny_pure h₁
  | some v =>
    refine wpAny_bind (thn0 h₁ fun _ s₂ h₂ => wpAny_bind (thn0 h₂ fun _ s₃ h₃ => wpAny_bind (thn0 h₃ fun ok s₄ h₄ => ?_)))
    cases ok with
    | false => exact wpAny_pure ⟨rfl, h₄⟩
    | true =>
      exact wpAny_bind (wpAny_bind (thn0 h₄ fun x s₅ h₅ => wpAny_bind (thn0 h₅ fun _ s₆ h₆ => wpAny_pure (wpAny_pure ⟨rfl, h₆⟩))))


def PIf (X : Cx) (ifs : List Expr) (t : TT) : Prop :=
  ∀ (pins : List (Addr × Obj)) (s : Shared) (σ : St) (H : Hp) (Q : Bool → Hp → Prop), Inv X pins σ H s → t σ H Q →
    wpAny (model X.prog X.w) X.A (forIn ifs true fun c r => if r = true then do let ok ← isTrue c X.env (eval c X.env); pure (ForInStep.yield ok) else pure (ForInStep.yield r)) (TP X pins σ Q) X.xe s
def tYes : TT := fun _ H Q => Q true H
theorem pif_nil {X : Cx} : PIf X [] tYes := fun _ _ _ H _ I h => wpAny_tests_nil ⟨H, I, h⟩
theorem pif_one {X : Cx} {c : Expr} {t : TT} (h : PT X c t) : PIf X [c] t := fun pins s σ H Q I hq => wpAny_tests_one (h pins s σ H Q I hq)


def OwnG (js : List (Option Nat)) (g : TG) : Prop := ∀ (x : V) (σ : St) (H : Hp) (Q : St → Hp → Prop), σ.length = js.length → g x σ H Q → g x σ H fun σ' H' => Q σ' H' ∧ σ'.length = js.length ∧ ∀ (i j : Nat), js[i]? = some (some j) → σ'[i]? = σ[i]?
theorem own_name {js : List (Option Nat)} {i : Nat} (h : js[i]? = some none := by rfl) : OwnG js (gName i) := fun x σ H Q hl q => ⟨q, by rw [List.length_set]; exact hl, fun k j e => by
  rw [List.getElem?_set_ne]
  intro z
  subst z
  rw [h] at e
  cases e⟩
def CompW (J : It) (g : TG) (tif : TT) (te : TE) (js : List (Option Nat)) (σ : St) (Q : VK) (p : Addr) (H1 : Hp) : Prop :=
  ∃ W : Nat → Nat → List V → Hp → Prop, (∃ m, W 0 m [] (upd H1 p (.lst []))) ∧ ∀ i m acc H2, W i m acc H2 → H2 p = some (.lst acc) ∧
    ((J.stop i H2 ∧ Q (.ref p) H2) ∨ (J.go i H2 ∧ acc.length < sizeLine ∧ ∃ N : List V → Hp → Prop, (∀ acc' H', N acc' H' → ∃ m', m' < m ∧ W (i + 1) m' acc' H') ∧
      ∀ x H', J.yld i H2 x H' → g x (cap js σ) H' fun σ2 H3 => tif σ2 H3 fun c H4 =>
        if c = true then te σ2 H4 fun y H5 => H5 p = some (.lst acc) ∧ N (acc ++ [y]) (upd H5 p (.lst (acc ++ [y]))) else N acc H4))

def tComp (wi : TI) (g : TG) (tif : TT) (te : TE) (js : List (Option Nat)) : TE := fun σ H Q => wi σ H fun J H1 => ∀ p, H1 p = none → CompW J g tif te js σ Q p H1

theorem comp_core {X : Cx} {use : Option (Value → Sem Unit)} {Q' : Value → Shared → Prop} {Q : VK} {pins : List (Addr × Obj)} {s : Shared} {σ : St} {H : Hp} {elt target iter : Expr} {ifs : List Expr} {scope : Scope} {pos : Pos} {wi : TI} {g : TG} {tif : TT} {te : TE} {N' : List Str} {js : List (Option Nat)} (hok : compOk scope X.env.scope N' X.N js = true) (hc : X.calm = true)
    (hi : PI X target iter wi) (ho : OwnG js g) (hg : ∀ C s H fp, PG (compCx X N' scope C s H fp) target g) (hif : ∀ C s H fp, PIf (compCx X N' scope C s H fp) ifs tif) (he : ∀ C s H fp, PE (compCx X N' scope C s H fp) elt te)
    (hs : ∀ x, foldedSetIterable iter X.env x = pure x) (I : Inv X pins σ H s) (h : tComp wi g tif te js σ H Q)
    (hfin : ∀ (s2 : Shared) (H2 : Hp) (fp : List Addr) (C : Addr), Inv X pins σ H2 s2 → (∀ b ∈ fp, FpOk X pins H2 b) → s2.heap.objs.size ≤ C → ∀ (σ' : St) (H' : Hp) (s' : Shared), Inv (compCx X N' scope C s2 H2 fp) [] σ' H' s' → Q (.ref s2.heap.objs.size) H' →
      compPost (model X.prog X.w) X.A X.xe use Q' (.ref s2.heap.objs.size) C (.ok .next) s') :
    wpAny (model X.prog X.w) X.A (comprehension (.ListComp elt [⟨target, iter, ifs, 0⟩] scope pos) scope X.env (firstIterPos [⟨target, iter, ifs, 0⟩] pos) (newList []) false (eval iter X.env) use) Q' X.xe s := by
  have O := compOk_of hok
  have hfr : ∀ y ∈ scope.names, y.2 = .free → ∃ c, X.env.cells.lookup y.1 = some c := fun y hy e => I.ok.has y.1 (O.free y hy e)
  refine wpAny_comprehension_free (use := use) rfl hs (closL_eq hfr) O.kind O.names (thn (hi pins s σ H _ I h) fun v s1 h1 => thn h1 fun itv s2 h2 => ?_)
  obtain ⟨it, fp, tn, J, H2, e, I2, T, st2, f2, hq⟩ := h2
  subst e
  have hf0 : H2 s2.heap.objs.size = none := I2.hok.fresh (Nat.le_refl _)
  obtain ⟨W, ⟨m0, w0⟩, turn⟩ := hq _ hf0
  refine wpAny_newObj_type (wpAny_newFunctionEnv O.nocell (by intro y hy; simp at hy) (fun h₁ hns₁ hsb₁ => ?_) O.kind)
  dsimp only at hns₁ hsb₁ ⊢
  generalize hH2 : s2.heap.push { cls := .type "list", dict := none, data := .seq ([] : List Value).toArray } = B at hns₁ hsb₁ ⊢
  have hC : B.objs.size = s2.heap.objs.size + 1 := by rw [← hH2, Heap.size_push]
  have hCle : s2.heap.objs.size ≤ B.objs.size := by rw [hC]; exact Nat.le_succ _
  have old : ∀ b o, s2.heap.get? b = some o → h₁.get? b = some o := fun b o e => hsb₁.extBut b o (by rw [hC]; exact Nat.ne_of_lt (Nat.lt_succ_of_lt (Heap.lt_size e))) (Heap.get?_push_of_some _ (hH2 ▸ Heap.get?_push_of_some _ e))
  have hDC : s2.heap.objs.size ≠ B.objs.size := by rw [hC]; exact Nat.ne_of_lt (Nat.lt_succ_self _)
  have hacc : h₁.get? s2.heap.objs.size = some { cls := .type "list", dict := none, data := .seq ([] : List Value).toArray } := hsb₁.extBut _ _ hDC (Heap.get?_push_of_some _ (hH2 ▸ Heap.get?_push_size _ rfl))
  have fpO : ∀ b ∈ fp, b < s2.heap.objs.size := fun b hb => by
    obtain ⟨o, e, _⟩ := T.obj 0 _ st2 b hb
    exact Heap.lt_size e
  have sub : ∀ x c, (closL scope.names X.env.cells []).lookup x = some c → X.env.cells.lookup x = some c := closL_sub scope.names [] hfr (fun x c e => by cases e)
  have hasC : ∀ x, ((relabel scope X.env).names.lookup x = some .cell ∨ (relabel scope X.env).names.lookup x = some .free) → ∃ c, (closL scope.names X.env.cells []).lookup x = some c := fun x hx =>
    Option.isSome_iff_exists.mp (closL_has scope.names [] (relabel_free (scope := scope) (env := X.env) scope.names x O.nocell hx))
  -- the block's context at its begin
  have IY : ∀ t, Inv (compCx X N' scope B.objs.size s2 H2 fp) [] (cap js σ) (upd H2 s2.heap.objs.size (.lst [])) { s2 with heap := h₁, toks := t } := by
    intro t
    refine ⟨⟨I2.ok.mod, O.kind, I2.ok.glob, I2.ok.blt, hCle, fun x y c h1 h2 => I2.ok.inj x y c (sub x c h1) (sub y c h2), fun x hx => hasC x hx, fun x c h => (by cases h), I2.ok.hd, I2.ok.frames, .inl rfl, fun b hb => ⟨Nat.ne_of_lt (Nat.lt_of_lt_of_le (fpO b hb) hCle), fun x c e => (f2 b hb).2.2.2.2.1 x c (sub x c e)⟩,
      I2.bs, Nat.le_trans I2.ok.bsz I2.sz, fun b o e hb => ?_, fun b hb z => ?_, I2.stack, I2.stkFree⟩, rfl, I2.bare, Un.laid old (Nat.le_refl _) hf0, ⟨_, hns₁, fun i x v e1 e2 e3 => ?_⟩, fun x c e => ?_, ?_, fun x c e => ?_, fun p hp => absurd (show p ∈ ([] : List (Addr × Obj)) from hp) (by simp), ?_, ?_⟩
    · rcases (f2 b hb).2.2.2.1 with z | z
      · exact I2.ok.noex b o e z
      · exact absurd (Nat.lt_of_lt_of_le (Nat.lt_of_lt_of_le (Heap.lt_size e) I2.ok.bsz) z) (Nat.lt_irrefl _)
    · rcases List.mem_cons.mp (I2.stkSub b z) with q | q
      · exact (f2 b hb).2.1 q
      · exact (f2 b hb).2.2.1 q
    · have e1 : N'[i]? = some x := e1
      unfold cap at e2
      rw [List.getElem?_map] at e2
      cases q : js[i]? with
      | none => rw [q] at e2; cases e2
      | some o =>
        rw [q] at e2
        cases o with
        | none => cases e2
        | some j =>
          have e2 : (σ[j]?).join = some v := by simpa using e2
          have e2' : σ[j]? = some (some v) := by
            cases z : σ[j]? with
            | none => rw [z] at e2; cases e2
            | some a => rw [z] at e2; cases a with
              | none => cases e2
              | some a => cases e2; rfl
          obtain ⟨hN, hk, hsf⟩ := O.slots i j x q e1
          obtain ⟨m, hn, hl⟩ := I2.loc
          obtain ⟨u, r, l⟩ := hl j x v hN e2' (.inr hk)
          refine ⟨u, r, ?_⟩
          have hkX : X.env.kindOf x = some .cell ∨ X.env.kindOf x = some .free := hk
          rcases l with ⟨k, _⟩ | ⟨k, c, hc', hcell⟩
          · rcases hkX with z | z
            · rw [k] at z; cases z
            · rw [k] at z; cases z
          · have hky : (relabel scope X.env).names.lookup x = some .cell ∨ (relabel scope X.env).names.lookup x = some .free := relabel_lookup (env := X.env) scope.names x hsf
            obtain ⟨c2, hc2⟩ := hasC x hky
            have : c2 = c := by
              have := sub x c2 hc2
              rw [hc'] at this
              exact (Option.some.inj this).symm
            subst this
            obtain ⟨ob, ho, hd⟩ := hcell
            exact .inr ⟨hky, c2, hc2, ob, old _ _ ho, hd⟩
    · obtain ⟨v, ob, ho, hd⟩ := I2.cell x c (sub x c e)
      exact ⟨v, ob, old _ _ ho, hd⟩
    · show upd H2 s2.heap.objs.size (.lst []) B.objs.size = none
      rw [upd_ne (Ne.symm hDC)]
      exact I2.hok.fresh hCle
    · obtain ⟨v, ob, ho, hd⟩ := I2.cell x c (sub x c e)
      rw [upd_ne (Nat.ne_of_lt (Heap.lt_size ho))]
      exact I2.freeC x c (sub x c e)
    · exact I2.hok.laid old (Nat.le_refl _) ⟨Nat.zero_le _, [], 0, .nil, hacc⟩
    · unfold cap
      rw [List.length_map]
      exact O.len
  have hcl : (cap js σ).length = js.length := by unfold cap; rw [List.length_map]
  have fin : ∀ {σ' : St} {H' : Hp} {s' : Shared}, Inv (compCx X N' scope B.objs.size s2 H2 fp) [] σ' H' s' → Q (.ref s2.heap.objs.size) H' → compPost (model X.prog X.w) X.A X.xe use Q' (.ref s2.heap.objs.size) B.objs.size (.ok .next) s' :=
    fun {σ' H' s'} J q => hfin s2 H2 fp B.objs.size I2 f2 hCle σ' H' s' J q
  have loop : ∀ t, codeAny (model X.prog X.w) X.A (.compLoop (.ListComp elt [⟨target, iter, ifs, 0⟩] scope pos) 0 (.ref it) (.ref s2.heap.objs.size) (compEnvC scope (closL scope.names X.env.cells []) B.objs.size X.env))
      (compPost (model X.prog X.w) X.A X.xe use Q' (.ref s2.heap.objs.size) B.objs.size) { s2 with heap := h₁, toks := t } := by
    intro t
    have stat : ∀ {H' : Hp}, (∀ b ∈ fp, H' b = none) → ∀ b ∈ fp, FpOk (compCx X N' scope B.objs.size s2 H2 fp) [] H' b := fun hn b hb =>
      ⟨hn b hb, Nat.ne_of_lt (Nat.lt_of_lt_of_le (fpO b hb) hCle), (IY t).ok.exfs b hb, .inl hb, fun x c e => ((IY t).ok.exf b hb).2 x c e, fun p hp => absurd (show p ∈ ([] : List (Addr × Obj)) from hp) (by simp)⟩
    refine comp_loop (fun n s' => ∃ i acc H', Inv (compCx X N' scope B.objs.size s2 H2 fp) [] (cap js σ) H' s' ∧ tn i s'.heap ∧ (∀ b ∈ fp, H' b = none) ∧ W i n acc H') ?_ m0
      ⟨0, [], _, IY t, T.keep 0 _ _ st2 (fun b _ o e => old b o e), fun b hb => by rw [upd_ne (Nat.ne_of_lt (fpO b hb))]; exact (f2 b hb).1, w0⟩
    rintro n s3 ⟨i, acc, H3, I3, st3, fr3, w3⟩
    obtain ⟨hD, turn⟩ := turn i n acc H3 w3
    rcases turn with ⟨stop, qn⟩ | ⟨go, hlen, N, hN, step⟩
    · refine thn (T.done (compCx X N' scope B.objs.size s2 H2 fp) rfl rfl rfl hc i [] s3 (cap js σ) H3 (fun _ _ => False) I3 (stat fr3) st3 stop) fun r s4 ⟨hr, I4⟩ => ?_
      subst hr
      exact fin I4 qn
    · refine thn (T.item (compCx X N' scope B.objs.size s2 H2 fp) rfl rfl rfl hc i [] s3 (cap js σ) H3 (fun _ _ => False) I3 (stat fr3) st3 go) fun r s4 ⟨u, hr, h4⟩ => ?_
      subst hr
      refine thn h4 fun _ s5 ⟨x, H5, I5, r5, y5, st5, fr5⟩ => ?_
      have I5' := I5.pinned (stat fr5) (T.obj _ _ st5)
      refine thn (hg _ _ _ _ _ s5 (cap js σ) H5 x u _ I5' r5 (ho x (cap js σ) H5 _ hcl (step x H5 y5))) fun _ s6 ⟨σ6, H6, I6, q6, hl6, hk6⟩ => ?_
      refine thn (hif _ _ _ _ _ s6 σ6 H6 _ I6 q6) fun ok s7 ⟨H7, I7, q7⟩ => ?_
      have again : ∀ {H8 : Hp} {acc8 : List V} {s8 : Shared}, Inv (compCx X N' scope B.objs.size s2 H2 fp) ([] ++ pinsAt fp s5.heap) σ6 H8 s8 → N acc8 H8 →
          ∃ m, m < n ∧ ∃ i acc H', Inv (compCx X N' scope B.objs.size s2 H2 fp) [] (cap js σ) H' s8 ∧ tn i s8.heap ∧ (∀ b ∈ fp, H' b = none) ∧ W i m acc H' := by
        intro H8 acc8 s8 I8 n8
        obtain ⟨m', hm, w8⟩ := hN acc8 H8 n8
        refine ⟨m', hm, i + 1, acc8, H8, ?_, T.keep _ _ _ st5 fun b hb o e => (I8.pin (b, o) (List.mem_append_right _ (List.mem_append_right _ (mem_pinsAt hb e)))).1, fun b hb => ?_, w8⟩
        · refine Inv.weak I8.unpinned (by rw [hl6, hcl]) fun k v e => ?_
          have e' := e
          unfold cap at e
          rw [List.getElem?_map] at e
          cases q : js[k]? with
          | none => rw [q] at e; cases e
          | some o =>
            cases o with
            | none => rw [q] at e; cases e
            | some j => rw [hk6 k j q]; exact e'
        · obtain ⟨o, e, d⟩ := T.obj _ _ st5 b hb
          exact (I8.pin (b, o) (List.mem_append_right _ (List.mem_append_right _ (mem_pinsAt hb e)))).2.1
      cases ok with
      | false => exact again I7 q7
      | true =>
        refine thn (he _ _ _ _ _ s7 σ6 H7 _ I7 q7) fun y s8 ⟨yv, H8, I8, r8, hD8, q8⟩ => ?_
        refine thn (mt_append _ s8 σ6 H8 (.ref s2.heap.objs.size) [yv] (.ref s2.heap.objs.size) [y] (fun _ H9 => N (acc ++ [yv]) H9) I8 rfl (.cons r8 .nil) ⟨_, acc, yv, rfl, rfl, hD8, hlen, q8⟩) fun _ s9 ⟨_, H9, I9, _, q9⟩ => ?_
        exact again I9 q9
  exact codeAny_compStart_list (loop _) (T.self X.A 0 _ _ _ (T.keep 0 _ _ st2 (fun b _ o e => old b o e)) (loop _))
theorem pe_comp {X : Cx} {elt target iter : Expr} {ifs : List Expr} {scope : Scope} {pos : Pos} {wi : TI} {g : TG} {tif : TT} {te : TE} {N' : List Str} {js : List (Option Nat)} (hok : compOk scope X.env.scope N' X.N js = true) (hc : X.calm = true)
    (hi : PI X target iter wi) (ho : OwnG js g) (hg : ∀ C s H fp, PG (compCx X N' scope C s H fp) target g) (hif : ∀ C s H fp, PIf (compCx X N' scope C s H fp) ifs tif) (he : ∀ C s H fp, PE (compCx X N' scope C s H fp) elt te)
    (hs : ∀ x, foldedSetIterable iter X.env x = pure x := by intro _; rfl) : PE X (.ListComp elt [⟨target, iter, ifs, 0⟩] scope pos) (tComp wi g tif te js) := by
  intro pins s σ H Q I h
  rw [eval_ListComp]
  refine comp_core (use := none) hok hc hi ho hg hif he hs I h fun s2 H2 fp C I2 f2 hCle σ' H' s' J q => ?_
  obtain ⟨m, hn, _⟩ := J.loc
  refine ⟨m, hn, fun h' hs' => ⟨.ref s2.heap.objs.size, H', ?_, rfl, q⟩⟩
  refine I2.call' (s' := { s' with heap := h' }) (ch := fp) J.os (J.base.sameBut hs' hCle) (fun b ob e => ?_) J.bare fun b hb => ⟨(f2 b hb).2.2.2.1, (f2 b hb).2.1, (f2 b hb).2.2.2.2.1, (f2 b hb).2.2.2.2.2⟩
  refine (J.hok b ob e).stay (fun c w' hc q => (hs'.2 c ?_).trans q) (fun _ q => q) fun _ _ q => q
  have hfree : H' C = none := J.free
  intro hcC
  rw [hcC] at hc
  rcases hc with z | z
  · rw [← z, hfree] at e; cases e
  · rw [hfree] at z; cases z

theorem ps_setc {X : Cx} {i : Nat} {y : Str} {elt target iter : Expr} {ifs : List Expr} {scope : Scope} {pos py spos : Pos} {wi : TI} {g : TG} {tif : TT} {te : TE} {N' : List Str} {js : List (Option Nat)} (hN : X.N.Nodup) (hi' : X.N[i]? = some y) (hx : Loc X.env.scope y)
    (hok : compOk scope X.env.scope N' X.N js = true) (hc : X.calm = true)
    (hi : PI X target iter wi) (ho : OwnG js g) (hg : ∀ C s H fp, PG (compCx X N' scope C s H fp) target g) (hif : ∀ C s H fp, PIf (compCx X N' scope C s H fp) ifs tif) (he : ∀ C s H fp, PE (compCx X N' scope C s H fp) elt te)
    (hsw : swapsWith (.ListComp elt [⟨target, iter, ifs, 0⟩] scope pos) (some (.Name y py)) spos.line X.env = pure true)
    (hs : ∀ x, foldedSetIterable iter X.env x = pure x := by intro _; rfl) (hf : X.fn y = true ∨ X.env.scope.names.lookup y = some .local := by first | exact .inl rfl | exact .inr rfl | assumption) :
    PS X (.Assign [.Name y py] (.ListComp elt [⟨target, iter, ifs, 0⟩] scope pos) spos) (tAsg (tComp wi g tif te js) (gName i)) := by
  intro pins s σ H D I h
  rw [exec_Assign_Name_used _ _ _ _ hsw]
  refine wpAny_bind (wpAny_standAt (wpAny_bind ?_))
  show wpAny _ X.A (do let _ ← comprehension (.ListComp elt [⟨target, iter, ifs, 0⟩] scope pos) scope X.env _ (newList []) false (eval iter X.env) (some (assign (.Name y py) X.env))) _ _ s
  refine wpAny_bind (thn (comp_core (use := some (assign (.Name y py) X.env)) (Q' := fun _ s' => SP X pins D .next s') hok hc hi ho hg hif he hs I h fun s2 H2 fp C I2 f2 hCle σ' H' s' J q => ?_) fun _ s' q => ?_)
  · obtain ⟨m, hn, _⟩ := J.loc
    have I3 : Inv X pins σ H' s' := I2.call' (ch := fp) J.os J.base J.hok J.bare fun b hb => ⟨(f2 b hb).2.2.2.1, (f2 b hb).2.1, (f2 b hb).2.2.2.2.1, (f2 b hb).2.2.2.2.2⟩
    have hCL : C ≠ X.env.locals := fun z => absurd (Nat.lt_of_lt_of_le I2.lt hCle) (by rw [z]; exact Nat.lt_irrefl _)
    have hCc : ∀ x c, X.env.cells.lookup x = some c → c ≠ C := fun x c e z => by
      obtain ⟨v, ob, ho, _⟩ := I2.cell x c e
      exact absurd (Nat.lt_of_lt_of_le (Heap.lt_size ho) hCle) (by rw [z]; exact Nat.lt_irrefl _)
    have hCp : ∀ p ∈ X.pn ++ pins, p.1 ≠ C := fun p hp z => by
      have e := (I2.pin p hp).1
      exact absurd (Nat.lt_of_lt_of_le (Heap.lt_size e) hCle) (by rw [z]; exact Nat.lt_irrefl _)
    show wpAny _ X.A (assign (.Name y py) X.env (.ref s2.heap.objs.size)) _ _ s'
    refine wpAny_assign_Name (store_ok2 I3 hN hi' hx (v := .ref s2.heap.objs.size) rfl (fun s'' I4 ⟨a, hsb, ha⟩ => ?_) hf)
    have hna : C ≠ a := by
      rcases ha with z | z
      · rw [z]; exact hCL
      · exact (hCc _ _ z).symm
    refine ⟨m, hn.sameBut hsb hna, fun h' hs' => ⟨_, H', ?_, q⟩⟩
    exact I4.turned (t' := s''.toks) (h' := h') (it := C) (fun b o hb e => (hs'.2 b hb).trans e) J.free hCL (.inr (Nat.le_trans I2.sz hCle)) hCc hCp
  · exact wpAny_pure (wpAny_pure q)

end L2

set_option Elab.async false
set_option linter.all false
set_option maxRecDepth 100000
set_option maxHeartbeats 4000000
namespace L2
open PySem PySem.Spec PyProof.Rows


section
variable {X : Cx} {tg : Expr}
end
section
variable {g : TG} {tif : TT} {te : TE} {js : List (Option Nat)} {σ : St} {H : Hp} {Q : VK}

def cTurn (g : TG) (tif : TT) (te : TE) (σ : St) (p : Addr) (acc : List V) (N : List V → Hp → Prop) (x : V) (H : Hp) : Prop :=
  g x σ H fun σ2 H3 => tif σ2 H3 fun c H4 => if c = true then te σ2 H4 fun y H5 => H5 p = some (.lst acc) ∧ N (acc ++ [y]) (upd H5 p (.lst (acc ++ [y]))) else N acc H4
theorem comp_range {lo : Int} {n : Nat} {p : Addr} (hn : n ≤ 1000000) (Pv : Nat → List V → Hp → Prop) (h0 : Pv 0 [] (upd H p (.lst [])))
    (hl : ∀ i acc H2, i ≤ n → Pv i acc H2 → H2 p = some (.lst acc) ∧ acc.length ≤ i)
    (hs : ∀ i acc H2, i < n → Pv i acc H2 → cTurn g tif te (cap js σ) p acc (Pv (i + 1)) (.int (lo + i)) H2) (hd : ∀ acc H2, Pv n acc H2 → Q (.ref p) H2) :
    CompW (Itr lo n) g tif te js σ Q p H := by
  refine ⟨fun i m acc H => m = n - i ∧ i ≤ n ∧ Pv i acc H, ⟨n, by simp, Nat.zero_le _, h0⟩, ?_⟩
  rintro i m acc H2 ⟨rfl, hi, q⟩
  obtain ⟨q1, q2⟩ := hl i acc H2 hi q
  refine ⟨q1, ?_⟩
  by_cases hlt : i < n
  · refine .inr ⟨hlt, ?_, Pv (i + 1), fun acc' H' p' => ⟨n - (i + 1), by omega, rfl, hlt, p'⟩, fun x H' y => ?_⟩
    · have : (1000000 : Nat) < sizeLine := by decide
      omega
    · obtain ⟨e, y⟩ := y
      subst e y
      exact hs i acc _ hlt q
  · have e : i = n := by omega
    subst e
    exact .inl ⟨Nat.le_refl _, hd acc H2 q⟩
theorem comp_list {K : PySem.W.Frag} {a : Addr} {xs : List V} {p : Addr} (hn : xs.length ≤ 1000000) (Pv : Nat → List V → Hp → Prop) (h0 : Pv 0 [] (upd H p (.lst [])))
    (hl : ∀ i acc H2, i ≤ xs.length → Pv i acc H2 → H2 p = some (.lst acc) ∧ acc.length ≤ i ∧ SqL K H2 a xs)
    (hs : ∀ i x acc H2, xs[i]? = some x → Pv i acc H2 → cTurn g tif te (cap js σ) p acc (Pv (i + 1)) x H2) (hd : ∀ acc H2, Pv xs.length acc H2 → Q (.ref p) H2) :
    CompW (Itl K a) g tif te js σ Q p H := by
  refine ⟨fun i m acc H => m = xs.length - i ∧ i ≤ xs.length ∧ Pv i acc H, ⟨xs.length, by simp, Nat.zero_le _, h0⟩, ?_⟩
  rintro i m acc H2 ⟨rfl, hi, q⟩
  obtain ⟨q1, q2, q3⟩ := hl i acc H2 hi q
  refine ⟨q1, ?_⟩
  by_cases hlt : i < xs.length
  · refine .inr ⟨⟨xs, xs[i], q3, by simp [hlt]⟩, ?_, Pv (i + 1), fun acc' H' p' => ⟨xs.length - (i + 1), by omega, rfl, hlt, p'⟩, fun x H' y => ?_⟩
    · have : (1000000 : Nat) < sizeLine := by decide
      omega
    · obtain ⟨e, y⟩ := y
      subst e
      exact hs i x acc _ (y xs q3) q
  · have e : i = xs.length := by omega
    subst e
    exact .inl ⟨⟨xs, q3, Nat.le_refl _⟩, hd acc H2 q⟩
theorem comp_tup {K : PySem.W.Frag} {a : Addr} {xs : List V} {p : Addr} (hn : xs.length ≤ 1000000) (Pv : Nat → List V → Hp → Prop) (h0 : Pv 0 [] (upd H p (.lst [])))
    (hl : ∀ i acc H2, i ≤ xs.length → Pv i acc H2 → H2 p = some (.lst acc) ∧ acc.length ≤ i ∧ SqT K H2 a xs)
    (hs : ∀ i x acc H2, xs[i]? = some x → Pv i acc H2 → cTurn g tif te (cap js σ) p acc (Pv (i + 1)) x H2) (hd : ∀ acc H2, Pv xs.length acc H2 → Q (.ref p) H2) :
    CompW (Itt K a) g tif te js σ Q p H := by
  refine ⟨fun i m acc H => m = xs.length - i ∧ i ≤ xs.length ∧ Pv i acc H, ⟨xs.length, by simp, Nat.zero_le _, h0⟩, ?_⟩
  rintro i m acc H2 ⟨rfl, hi, q⟩
  obtain ⟨q1, q2, q3⟩ := hl i acc H2 hi q
  refine ⟨q1, ?_⟩
  by_cases hlt : i < xs.length
  · refine .inr ⟨⟨xs, xs[i], q3, by simp [hlt]⟩, ?_, Pv (i + 1), fun acc' H' p' => ⟨xs.length - (i + 1), by omega, rfl, hlt, p'⟩, fun x H' y => ?_⟩
    · have : (1000000 : Nat) < sizeLine := by decide
      omega
    · obtain ⟨e, y⟩ := y
      subst e
      exact hs i x acc _ (y xs q3) q
  · have e : i = xs.length := by omega
    subst e
    exact .inl ⟨⟨xs, q3, Nat.le_refl _⟩, hd acc H2 q⟩
end


section
variable {X : Cx}
theorem isSlice_of {h : Heap} {sl : Addr} {vl vu : Value} {lo hi : Option Int} (hs : h.IsSliceOf sl vl vu .none) (pl : IsPart vl lo) (pu : IsPart vu hi) : ∃ l u : Option (Int × Tok), l.map (·.1) = lo ∧ u.map (·.1) = hi ∧ h.IsSlice sl l u none := by
  obtain ⟨o, ho, hc, hd⟩ := hs
  cases pl with
  | none =>
    cases pu with
    | none => exact ⟨none, none, rfl, rfl, o, ho, hc, hd⟩
    | int j t => exact ⟨none, some (j, t), rfl, rfl, o, ho, hc, hd⟩
  | int i t =>
    cases pu with
    | none => exact ⟨some (i, t), none, rfl, rfl, o, ho, hc, hd⟩
    | int j t' => exact ⟨some (i, t), some (j, t'), rfl, rfl, o, ho, hc, hd⟩
def rSlS : V → Option Int → Option Int → Hp → VK → Prop := fun x lo hi H Q => ∃ z, x = .str z ∧ z.length ≤ sizeLine ∧ Q (.str (Txt.slice z lo hi)) H
theorem sl_str : SlR X rSlS := by
  intro pins s σ H x v vl vu lo hi sl Q I rx hs pl pu h
  obtain ⟨z, rfl, hz, q⟩ := h
  obtain ⟨t, rfl⟩ := rx
  obtain ⟨l, u, rfl, rfl, hsl⟩ := isSlice_of hs pl pu
  refine ⟨"str", _, F.slot_str_getitem.lookup, typeIs_str _ _ _, wpAny_getItem_str_slice (l := l) (u := u) (st := none) hsl rfl
    (post_val_or_str ⟨Nat.le_trans (Txt.slice_le z _ _) hz, fun t' k => ⟨.str (Txt.slice z (l.map (·.1)) (u.map (·.1))), H, I.tok _, ⟨_, rfl⟩, q⟩⟩)⟩
theorem strs_of {ys : List Str} : ∀ {us : List Value}, Vals (ys.map V.str) us → StrsAre us ys := by
  induction ys with
  | nil => intro us h; cases h; exact .nil
  | cons y r ih =>
    intro us h
    cases h with
    | cons r1 h =>
      obtain ⟨t, rfl⟩ := r1
      exact .cons y t (ih h)
def rJoin (K : PySem.W.Frag) : V → List V → Hp → VK → Prop := fun x xs H Q => ∃ sep p ys, x = .str sep ∧ xs = [.ref p] ∧ SqL K H p (ys.map V.str) ∧ (ys.map (·.length)).sum + ys.length * sep.length ≤ 16777216 ∧ Q (.str (Txt.join sep ys)) H
theorem mt_join : MtR X "str.join" (rJoin X.K) := by
  intro pins s σ H x xs v us Q I rx r h
  obtain ⟨sep, p, ys, rfl, rfl, hp, hl, q⟩ := h
  obtain ⟨t, rfl⟩ := rx
  obtain ⟨u, rfl, ru⟩ := vals1 r
  cases (show u = Value.ref p from ru)
  obtain ⟨its, rv, pl, hz⟩ := I.list hp
  exact join_list pl.isList (by simpa using strs_of rv) hl fun t' k => ⟨.str (Txt.join sep ys), H, I.tok _, ⟨_, rfl⟩, q⟩
theorem call_isinst : CallR X (.builtin "isinstance") (fun xs H Q => ∃ x c t b, xs = [x, .ty c] ∧ TyOf X.K H x t ∧ PySem.W.kitOne X.K t (.type c) = some b ∧ Q (.bl b) H) := by
  intro pins s σ H xs us Q I r h
  obtain ⟨x, c, t, b, rfl, ty, hk, q⟩ := h
  obtain ⟨u, w', rfl, rx, rc⟩ := vals2 r
  cases (show w' = Value.type c from rc)
  exact isinst_ok I rx ty hk fun tk => ⟨.bl b, H, I.tok _, rfl, q⟩
end


def litV : Expr → Option V
  | .Constant (.str x) _ _ => some (.str x)
  | .Constant (.int i) _ _ => some (.int i)
  | .Constant (.bool b) _ _ => some (.bl b)
  | .Constant .none _ _ => some .non
  | _ => none
def litsOf : List Expr → Option (List V)
  | [] => some []
  | e :: r => match litV e, litsOf r with
    | some v, some vs => some (v :: vs)
    | _, _ => none
theorem pe_lit {X : Cx} {e : Expr} {v : V} (h : litV e = some v) : PE X e (tC v) := by
  unfold litV at h
  split at h
  · cases h; exact pe_str
  · cases h; exact pe_int
  · cases h; exact pe_bl
  · cases h; exact pe_non
  · cases h
theorem star_lit {X : Cx} {e : Expr} {es : List Expr} {v : V} (h : litV e = some v) : starEach (e :: es) X.env = (false, eval e X.env) :: starEach es X.env := by
  unfold litV at h
  split at h <;> first | rfl | cases h
theorem pa_lits {X : Cx} : ∀ {es : List Expr} {vs : List V}, litsOf es = some vs → PA X es (fun _ H Q => Q vs H)
  | [], vs, h => by
    cases h
    exact pa_nil
  | e :: r, vs, h => by
    unfold litsOf at h
    split at h
    · rename_i v vs' h1 h2
      cases h
      exact pa_cons (pe_lit h1) (pa_lits h2) (star_lit h1)
    · cases h


theorem Same.tup {K : PySem.W.Frag} {H H' : Hp} {a : Addr} {xs : List V} (e : Same H H') (h : SqT K H a xs) : SqT K H' a xs := by
  rcases h with (h | ⟨o, h⟩) | h
  · exact .inl (.inl (e _ _ h))
  · exact .inl (.inr ⟨o, e _ _ h⟩)
  · exact .inr h
theorem Same.new {H : Hp} {p : Addr} {o : HO} (h : H p = none) : Same H (upd H p o) := fun b u e => by
  rw [upd_ne (ne_of_none e h)]
  exact e

theorem Same.upd {H H' : Hp} {p : Addr} {o : HO} (e : Same H H') (h : H p = none) : Same H (upd H' p o) := fun b u q => by
  rw [upd_ne (ne_of_none q h)]
  exact e b u q
end L2

set_option Elab.async false
set_option linter.all false
set_option maxRecDepth 100000
set_option maxHeartbeats 4000000
namespace L2
open PySem PySem.Spec PyProof.Rows


structure DefOk (K : PySem.W.Frag) (mg : Str → Option Value) (name : Str) (st : Stmt) (ps : List Str) (f : Addr) (fd : FuncData) : Prop where
  F : Fun K name name st f fd
  g : mg name = some (.ref f)
  b : Binds K fd ps []
section
variable {X : Cx} {k : Nat} {f : Addr} {fd : FuncData} {ps : List Str} {sp : Sp} {x : Str} {st : Stmt} {p pos : Pos} {e : Expr} {es : List Expr} {t : TA}
theorem callD (D : DefOk X.K X.mg x st ps f fd) (G : FnOk X.prog X.w X.K X.mg X.base CX0 k f fd ps sp) (hr : Room k X.A) (ha : PA X (e :: es) t) (hg : Gl X x := by rfl)
    (hdb : (x == ("__debug__" : Str)) = false := by decide) (he : starEach (e :: es) X.env = (false, eval e X.env) :: starEach es X.env := by rfl) (hpl : (backTo pos (starEach es X.env)).any (·.1) = false := by rfl) :
    PE X (.Call (.Name x p) (e :: es) [] pos) (tCall sp [] E0 t) := pe_call G hr hg D.g D.F.kp D.b .nil pass0 ha hdb he hpl
theorem pe_gint {z : Int} (h : ∃ t, X.mg x = some (.int z t)) (hg : Gl X x := by rfl) (hd : (x == ("__debug__" : Str)) = false := by decide) : PE X (.Name x pos) (tC (.int z)) := by
  obtain ⟨t, h⟩ := h
  exact pe_glob hg h ⟨t, rfl⟩ hd
theorem pe_gtuple {a : Addr} (h : X.mg x = some (.ref a)) (hg : Gl X x := by rfl) (hd : (x == ("__debug__" : Str)) = false := by decide) : PE X (.Name x pos) (tC (.ref a)) := pe_glob hg h rfl hd
end
theorem defOk_mk {K : PySem.W.Frag} {mg : Str → Option Value} {h : Heap} {name : Str} {st : Stmt} {ps : List Str} {f : Addr} {oc : Value} {od an : Option Addr} {osl : Array (Option Value)} {kV doc pm cdv ct : Value} (X : K.In h) (G : h.Ns mainGlobals mg)
    (a : PySem.W.nsIn K mainGlobals name = some (some (.ref f))) (l : K.lookup f = some ⟨oc, od, .func (PySem.W.fnOf name name (defArgs st) (defBody st) (defScope st) .none kV doc pm an cdv ct), osl⟩) (c : PySem.W.codeIn K cdv name = true) (k : PySem.W.keepIn K (.ref f) = true)
    (b : ∀ (kV doc pm : Value) (an : Option Addr) (cdv ct : Value) (us : List Value), us.length = ps.length → bindArgs (PySem.W.fnOf name name (defArgs st) (defBody st) (defScope st) .none kV doc pm an cdv ct) ⟨us, []⟩ = pure (ps.zip us)) :
    DefOk K mg name st ps f (PySem.W.fnOf name name (defArgs st) (defBody st) (defScope st) .none kV doc pm an cdv ct) :=
  ⟨fun_mk l c k, PySem.W.mg_of X G a, (fun_mk l c k).binds b⟩


theorem atI_some {α : Type} {xs : List α} {i : Int} (h0 : 0 ≤ i) (h1 : i < xs.length) : ∃ v, atI xs i = some v ∧ v ∈ xs := by
  have hi : i.toNat < xs.length := by omega
  refine ⟨xs[i.toNat], ?_, List.getElem_mem hi⟩
  have := atI_nat (xs := xs) (j := i.toNat) (v := xs[i.toNat]) (by simp [hi])
  have e : ((i.toNat : Nat) : Int) = i := by omega
  rwa [e] at this
theorem at_ints {ns : List Int} {i : Int} (h0 : 0 ≤ i) (h1 : i < ns.length) : ∃ z, atI (ns.map V.int) i = some (.int z) := by
  obtain ⟨v, e, hv⟩ := atI_some (xs := ns.map V.int) h0 (by rw [List.length_map]; exact h1)
  obtain ⟨z, _, rfl⟩ := List.mem_map.mp hv
  exact ⟨z, e⟩
theorem dec_true {p : Prop} [Decidable p] (h : decide p = true) : p := of_decide_eq_true h
end L2
namespace L2
open PySem PySem.Spec PyProof.Rows
theorem iteP {c A B : Prop} [Decidable c] (hc : c) (h : A) : if c then A else B := by
  rw [if_pos hc]
  exact h
theorem iteN {c A B : Prop} [Decidable c] (hc : ¬ c) (h : B) : if c then A else B := by
  rw [if_neg hc]
  exact h
end L2
namespace L2
open PySem
theorem bt_len : bootBuiltins "len" = some (.builtin "len") := by decide +kernel
theorem bt_isinstance : bootBuiltins "isinstance" = some (.builtin "isinstance") := by decide +kernel
theorem bt_max : bootBuiltins "max" = some (.builtin "max") := by decide +kernel
theorem bt_str : bootBuiltins "str" = some (.type "str") := by decide +kernel
theorem bt_int : bootBuiltins "int" = some (.type "int") := by decide +kernel
theorem bt_bool : bootBuiltins "bool" = some (.type "bool") := by decide +kernel
theorem bt_list : bootBuiltins "list" = some (.type "list") := by decide +kernel
theorem bt_tuple : bootBuiltins "tuple" = some (.type "tuple") := by decide +kernel
theorem bt_dict : bootBuiltins "dict" = some (.type "dict") := by decide +kernel
theorem bt_enumerate : bootBuiltins "enumerate" = some (.type "enumerate") := by decide +kernel
theorem falseN {b : Bool} (h : b = false) : ¬ b = true := by rw [h]; decide
end L2

set_option Elab.async false
set_option linter.all false
set_option maxRecDepth 100000
set_option maxHeartbeats 4000000
namespace L2
open PySem PySem.Spec PyProof.Rows


mutual
def DatV (K : PySem.W.Frag) (H : Hp) : PyData → V → Prop
  | .none, v => v = .non
  | .bool b, v => v = .bl b
  | .int i, v => v = .int i
  | .str x, v => v = .str x
  | .list ds, v => ∃ a xs, v = .ref a ∧ SqL K H a xs ∧ DatAll K H ds xs
  | .tuple ds, v => ∃ a xs, v = .ref a ∧ SqT K H a xs ∧ DatAll K H ds xs
  | .dict _, _ => False
def DatAll (K : PySem.W.Frag) (H : Hp) : List PyData → List V → Prop
  | [], xs => xs = []
  | d :: ds, xs => ∃ x r, xs = x :: r ∧ DatV K H d x ∧ DatAll K H ds r
end
section
variable {X : Cx} {pins : List (Addr × Obj)} {σ : St} {H : Hp} {s : Shared}
mutual
theorem reads_of (I : Inv X pins σ H s) : ∀ (d : PyData) (v : V) (u : Value), DatV X.K H d v → RelV v u → ∃ as, Reads s.heap u d as
  | .none, v, u, h, r => by
    unfold DatV at h
    subst h
    cases (show u = Value.none from r)
    exact ⟨_, .none⟩
  | .bool b, v, u, h, r => by
    unfold DatV at h
    subst h
    cases (show u = Value.bool b from r)
    exact ⟨_, .bool b⟩
  | .int i, v, u, h, r => by
    unfold DatV at h
    subst h
    obtain ⟨t, rfl⟩ := (show ∃ t, u = Value.int i t from r)
    exact ⟨_, .int i t⟩
  | .str x, v, u, h, r => by
    unfold DatV at h
    subst h
    obtain ⟨t, rfl⟩ := (show ∃ t, u = Value.str x t from r)
    exact ⟨_, .str x t⟩
  | .list ds, v, u, h, r => by
    unfold DatV at h
    obtain ⟨a, xs, rfl, hq, hd⟩ := h
    cases (show u = Value.ref a from r)
    obtain ⟨its, rv, ⟨o, n, ho, hc, _, hdt⟩, _⟩ := I.list hq
    obtain ⟨as, ra⟩ := readsAll_of I ds xs its hd rv
    exact ⟨_, .list ho hc hdt (by simpa using ra)⟩
  | .tuple ds, v, u, h, r => by
    unfold DatV at h
    obtain ⟨a, xs, rfl, hq, hd⟩ := h
    cases (show u = Value.ref a from r)
    obtain ⟨its, rv, ⟨o, ho, hc, n, hdt⟩, _⟩ := I.tuple hq
    obtain ⟨as, ra⟩ := readsAll_of I ds xs its hd rv
    exact ⟨_, .tuple ho hc hdt (by simpa using ra)⟩
  | .dict _, v, u, h, r => by
    unfold DatV at h
    exact h.elim
theorem readsAll_of (I : Inv X pins σ H s) : ∀ (ds : List PyData) (xs : List V) (us : List Value), DatAll X.K H ds xs → Vals xs us → ∃ as, ReadsAll s.heap us ds as
  | [], xs, us, h, r => by
    unfold DatAll at h
    subst h
    cases r
    exact ⟨_, .nil⟩
  | d :: ds, xs, us, h, r => by
    unfold DatAll at h
    obtain ⟨x, rest, rfl, hd, hds⟩ := h
    cases r with
    | cons r1 r2 =>
      obtain ⟨as, ra⟩ := reads_of I d _ _ hd r1
      obtain ⟨bs, rb⟩ := readsAll_of I ds _ _ hds r2
      exact ⟨_, .cons ra rb⟩
end
end

def rEqD (K : PySem.W.Frag) : R2 := fun x y H Q => ∃ d e, DatV K H d x ∧ DatV K H e y ∧ SeqAt.shaped d = true ∧ SeqAt.shaped e = true ∧ Q (.bl (PyData.eqv d e)) H
def rNeD (K : PySem.W.Frag) : R2 := fun x y H Q => ∃ d e, DatV K H d x ∧ DatV K H e y ∧ SeqAt.shaped d = true ∧ SeqAt.shaped e = true ∧ Q (.bl (!PyData.eqv d e)) H
theorem op_eqD {X : Cx} (hu : X.A.units + 64 < cLine) : OpR X (compareOp .Eq) (rEqD X.K) := by
  intro pins s σ H x y v u Q I rx ry h
  obtain ⟨d, e, hd, he, sd, se, q⟩ := h
  obtain ⟨as, ra⟩ := reads_of I d x v hd rx
  obtain ⟨bs, rb⟩ := reads_of I e y u he ry
  exact SeqAt.compareEq_shaped ra rb sd se hu ⟨.bl _, H, I, rfl, q⟩
theorem op_neD {X : Cx} (hu : X.A.units + 64 < cLine) : OpR X (compareOp .NotEq) (rNeD X.K) := by
  intro pins s σ H x y v u Q I rx ry h
  obtain ⟨d, e, hd, he, sd, se, q⟩ := h
  obtain ⟨as, ra⟩ := reads_of I d x v hd rx
  obtain ⟨bs, rb⟩ := reads_of I e y u he ry
  exact SeqAt.compareNe_shaped ra rb sd se hu ⟨.bl _, H, I, rfl, q⟩


section
variable {prog : Program} {w : World} {A : Around} {E : Value → Shared → Prop}
end

end L2
namespace L2
open PySem PySem.Spec PyProof.Rows
theorem op_fdivB {X : Cx} : OpR X (binaryOp .FloorDiv) (rI (fun _ j => 0 < j ∧ j < 2 ^ 64) fun i j => .int (i / j)) := opI fun i j _ _ _ _ _ hc q => by
  have h1 : (0 : Int) < j := hc.1
  have h2 : j < 2 ^ 64 := hc.2
  refine floordiv_int (by omega) (by rw [Int.fdiv_eq_ediv_of_nonneg i (by omega)]; exact q) (.inl (PyProof.noPylong_of_log2 ?_))
  have h0 : j.natAbs ≠ 0 := by omega
  refine Nat.lt_trans (m := 64) ((Nat.log2_lt h0).mpr ?_) (by decide)
  have : (2 : Int) ^ 64 = ((2 ^ 64 : Nat) : Int) := by decide
  omega
end L2

set_option Elab.async false
set_option linter.all false
set_option maxRecDepth 100000
set_option maxHeartbeats 4000000
namespace PySem
theorem gx_keys_list : typeLookup (.type "list") "keys" = pure none := by rw [typeLookup_type, builtinLookup_eq_fast]; kernel_rfl
theorem gx_entry_loop : entryFor table "dict.update.loop" = some Builtin.«dict.update.loop» := entryFor_of_tree (by kernel_rfl)
theorem gx_plain_loop : plainId "dict.update.loop" = true := by decide +kernel
theorem gx_noKeys {prog : Program} {w : World} {A : Around} {E : Value → Shared → Prop} {s : Shared} {a : Addr} {o : Obj} {xs : Array Value} {k : Nat} {Q : Option Value → Shared → Prop}
    (hx : s.heap.get? a = some o) (hc : o.cls = .type "list") (hdat : o.data = .seq xs k) (hd : o.dict = none) (hA : A.handled = none)
    (h : ∀ h' tk, (∀ b ob, s.heap.get? b = some ob → h'.get? b = some ob) → Q none { s with heap := h', toks := tk }) :
    wpAny (model prog w) A (getAttr? (.ref a) "keys") Q E s := by
  obtain ⟨c, dct, dat, sl⟩ := o
  simp only at hc hdat hd
  subst hc hdat hd
  obtain ⟨hp, g, d, tk, os⟩ := s
  have hT : ∀ tk', (⟨hp, g, d, tk', os⟩ : Shared).TypeIs (.ref a) "list" := fun _ => ⟨_, hx, rfl⟩
  have f1 := sub_AttributeError
  have f3 := F.slot_list_getattribute.lookup
  have f4 := F.slot_list_getattribute.bind (.ref a)
  have f5 := am_list_getattr_none
  unfold getAttr? getAttrBy? getAttrBy
  repeat (any_goals (first | assumption | exact hT _ | ((with_reducible show wpAny _ _ (call (Value.builtin "list.__getattribute__") _ _) _ _ _); refine call_meets F.slot_list_getattribute (hT _) am_entry_list_getattribute (F.args_list_getattribute_2 _ _) (meets_getattribute_miss_list a xs k sl "keys" _ gx_keys_list (by decide +kernel) (by decide +kernel)) ⟨hx, hA, fun h' tk' e hx' => ?_⟩) | wp_step))
  obtain ⟨t', u', he⟩ := hx'.there
  try (show wpAny _ _ (getattributeRaised _ _ _ _ _ _ _) _ _ _)
  try unfold getattributeRaised
  repeat (any_goals (first | assumption | wp_step))
  all_goals (first | exact h _ _ hx'.keeps | trace_state)
end PySem
namespace L2
open PySem PySem.Spec PyProof.Rows
section
variable {X : Cx} {pins : List (Addr × Obj)} {σ : St} {H : Hp}
theorem paired_at {α β : Type} {F : α → β → Prop} : ∀ {l : List α} {m : List β}, Paired F l m → ∀ {i : Nat} (h1 : i < l.length) (h2 : i < m.length), F l[i] m[i]
  | _, _, .cons h _, 0, _, _ => h
  | _, _, .cons _ t, i + 1, h1, h2 => by
    have := paired_at t (i := i) (by simpa using h1) (by simpa using h2)
    simpa using this

theorem dict_loop {A : Around} {R : Result → Shared → Prop} {p D it : Addr} {ps : List Addr} {kvs : List (Key × V)} (hA : A.handled = none) (hpD : p ≠ D) (hS : SqL X.K H p (ps.map V.ref)) (hps : Paired (fun a (kv : Key × V) => SqT X.K H a [kV kv.1, kv.2]) ps kvs)
    (hD : H D = none) (hz : kvs.length ≤ 100000) (hit0 : it ≠ D)
    (hR : ∀ s', Inv X pins σ (upd H D (.dK (kvs.foldl (fun acc kv => putK acc kv.1 kv.2) []))) s' → R (.ok (.ret .none)) s') :
    ∀ (k i : Nat) (t : Tok) (s : Shared), kvs.length - i = k → i ≤ kvs.length → Inv X pins σ (upd H D (.dK ((kvs.take i).foldl (fun acc kv => putK acc kv.1 kv.2) []))) s → s.heap.IsListIter it p i →
      (∀ H', H' it = none → FpOk X pins H' it) → H it = none → codeAny (model X.prog X.w) A (.builtin "dict.update.loop" ⟨[.ref D, .ref it, .int (i : Nat) t, .none], []⟩) R s := by
  have sameD : ∀ o, Same H (upd H D o) := fun o => Same.new hD
  have hlen : ps.length = kvs.length := hps.length
  have flen : ∀ (l : List (Key × V)) (acc : List (Key × V)), (l.foldl (fun acc kv => putK acc kv.1 kv.2) acc).length ≤ acc.length + l.length := by
    intro l
    induction l with
    | nil => intro acc; simp
    | cons x r ih =>
      intro acc
      rw [List.foldl_cons]
      have h1 := ih (putK acc x.1 x.2)
      have h2 := length_putK acc x.1 x.2
      simp only [List.length_cons]
      omega
  have big : (100000 : Nat) < sizeLine := by decide
  intro k
  induction k with
  | zero =>
    intro i t s hk hi I hit hfp hHit
    have e : i = kvs.length := by omega
    subst e
    rw [List.take_length] at I
    obtain ⟨its, rv, pl, hz'⟩ := I.list ((sameD _).seq hS)
    obtain ⟨f0, f1, f2, f3, f4, f5⟩ := hfp (upd H D (.dK (kvs.foldl (fun acc kv => putK acc kv.1 kv.2) []))) (by rw [upd_ne hit0]; exact hHit)
    refine codeAny_builtin gx_entry_loop ?_
    rw [Around.under_plainId gx_plain_loop _]
    show wpAny _ A.in1 (pyNext (.ref it) >>= _) _ _ s
    have hl := rv.length
    rw [List.length_map] at hl
    refine wpAny_bind (wpAny_pyNext_list_end hA hit pl.isList (by simp; omega) fun h' eb => ?_)
    have I1 : Inv X pins σ (upd H D (.dK (kvs.foldl (fun acc kv => putK acc kv.1 kv.2) []))) { s with heap := h' } := I.turned (t' := s.toks) (fun b o hb e => eb b o hb e) f0 f1 f3 f4 f5
    show wpAny _ _ (Builtin.Dict.addKeywords D [] >>= _) _ _ _
    exact wpAny_bind (wpAny_pure (wpAny_pure (hR _ I1)))
  | succ k ih =>
    intro i t s hk hi I hit hfp hHit
    have hlt : i < kvs.length := by omega
    obtain ⟨its, rv, pl, hz'⟩ := I.list ((sameD _).seq hS)
    have hpi : (ps.map V.ref)[i]? = some (.ref (ps[i]'(by omega))) := by simp [show i < ps.length by omega]
    obtain ⟨u, hu, ru⟩ := rv.get hpi
    cases (show u = Value.ref _ from ru)
    obtain ⟨f0, f1, f2, f3, f4, f5⟩ := hfp (upd H D (.dK ((kvs.take i).foldl (fun acc kv => putK acc kv.1 kv.2) []))) (by rw [upd_ne hit0]; exact hHit)
    refine codeAny_builtin gx_entry_loop ?_
    rw [Around.under_plainId gx_plain_loop _]
    show wpAny _ A.in1 (pyNext (.ref it) >>= _) _ _ s
    refine wpAny_bind (wpAny_pyNext_list_item hit pl.isList (x := .ref ps[i]) (by simpa using hu) fun h' hit' sb => ?_)
    have I1 : Inv X pins σ (upd H D (.dK ((kvs.take i).foldl (fun acc kv => putK acc kv.1 kv.2) []))) { s with heap := h' } := I.turned (t' := s.toks) (fun b o hb e => (sb.2 b hb).trans e) f0 f1 f3 f4 f5
    have hpair : SqT X.K H ps[i] [kV (kvs[i]).1, (kvs[i]).2] := paired_at hps (by omega) hlt
    obtain ⟨its2, rv2, ⟨o2, ho2, hc2, n2, hd2⟩, _⟩ := I1.tuple ((sameD _).tup hpair)
    cases rv2 with
    | cons r1 rr =>
      cases rr with
      | cons r2 rr =>
        cases rr
        rename_i ku vu
        refine wpAny_bind (wpAny_holding (wpAny_bind (wpAny_tryCatch ?_)))
        show wpAny _ _ (Builtin.Dict.pairItems (.ref ps[i])) _ _ _
        unfold Builtin.Dict.pairItems
        refine wpAny_bind (wpAny_typeOf (T := "tuple") ⟨o2, ho2, hc2⟩ ?_)
        rw [if_pos (by decide)]
        refine wpAny_bind ?_
        show wpAny _ _ (load ps[i] >>= _) _ _ _
        refine wpAny_bind (wpAny_load ho2 ?_)
        rw [hd2]
        refine wpAny_pure (wpAny_pure ?_)
        show wpAny _ _ (holding [ku, vu] (dictSet D ku vu)) _ _ _
        refine wpAny_holding ?_
        obtain ⟨z, hd, vs, rel, dd⟩ := dk_of I1.hok upd_same
        have hl1 := flen (kvs.take i) []
        have hl2 : (kvs.take i).length ≤ kvs.length := by rw [List.length_take]; omega
        simp only [List.length_nil, Nat.zero_add] at hl1
        have hzv : vs.length ≤ sizeLine := by rw [← rel.length]; exact z
        refine wpAny_dictSet_pairs (hsz := hzv) (kV_is r1) dd fun h2 dd2 hs2 => ?_
        have he : ∃ q, h2.get? D = some q := let ⟨q, _, _, hq, _⟩ := dd2; ⟨q, hq⟩
        have hl3 : (putK ((kvs.take i).foldl (fun acc kv => putK acc kv.1 kv.2) []) (kvs[i]).1 (kvs[i]).2).length ≤ sizeLine := by
          have := length_putK ((kvs.take i).foldl (fun acc kv => putK acc kv.1 kv.2) []) (kvs[i]).1 (kvs[i]).2
          omega
        have I2 := d_write (t' := ({ s with heap := h' } : Shared).toks + 1) I1 (by rw [upd_same]; exact True.intro) hs2 he (dk_new hl3 hd (rel.put (kvs[i]).1 r2) dd2)
        rw [upd_upd] at I2
        have e3 : (kvs.take (i + 1)).foldl (fun acc kv => putK acc kv.1 kv.2) [] = putK ((kvs.take i).foldl (fun acc kv => putK acc kv.1 kv.2) []) (kvs[i]).1 (kvs[i]).2 := by
          rw [List.take_add_one, List.foldl_append]
          simp [hlt]
        rw [← e3] at I2
        have hit2 : h2.IsListIter it p (i + 1) := by
          obtain ⟨oi, hoi, ri⟩ := hit'
          exact ⟨oi, (hs2.2 it hit0).trans hoi, ri⟩
        refine wpAny_pure ⟨plainId_quiet gx_plain_loop _, ?_⟩
        have := ih (i + 1) 0 _ (by omega) (by omega) I2 hit2 hfp hHit
        exact this
end
end L2

set_option Elab.async false
set_option linter.all false
set_option maxRecDepth 100000
set_option maxHeartbeats 4000000
namespace L2
open PySem PySem.Spec PyProof.Rows
section
variable {X : Cx}

def rDictOf (K : PySem.W.Frag) : List V → Hp → VK → Prop := fun xs H Q => ∃ (p : Addr) (ps : List Addr) (kvs : List (Key × V)), xs = [.ref p] ∧ SqL K H p (ps.map V.ref) ∧ Paired (fun a (kv : Key × V) => SqT K H a [kV kv.1, kv.2]) ps kvs ∧ kvs.length ≤ 100000 ∧
  ∀ d, H d = none → Q (.ref d) (upd H d (.dK (kvs.foldl (fun acc kv => putK acc kv.1 kv.2) [])))
theorem call_dict_of (hc : X.calm = true) : CallR X (.type "dict") (rDictOf X.K) := by
  intro pins s σ H xs us Q I r h
  obtain ⟨p, ps, kvs, rfl, hS, hps, hz, q⟩ := h
  obtain ⟨u, rfl, ru⟩ := vals1 r
  cases (show u = Value.ref p from ru)
  have hA := I.ok.hd hc
  have hD : H s.heap.objs.size = none := I.hok.fresh (Nat.le_refl _)
  obtain ⟨its, rv, pl, _⟩ := I.list hS
  have hplt : p < s.heap.objs.size := pl.lt
  have I0 : Inv X pins σ (upd H s.heap.objs.size (.dK [])) { s with heap := s.heap.push { cls := .type "dict", data := .dict #[] } } :=
    I.laid (a := s.heap.objs.size) (o := .dK []) (t' := s.toks) (fun _ _ q => Heap.get?_push_of_some _ q) (Nat.le_refl _) (dk_empty s.heap I.big)
  refine callType_codes (Q₁ := fun obj s₁ => obj = .ref s.heap.objs.size ∧ s₁ = { s with heap := s.heap.push { cls := .type "dict", data := .dict #[] } }) PySem.F.kt_called_dict (PySem.F.kt_typeCall_dict_1 _) PySem.F.entry_dict_init (kt_code_dict_new _ ⟨rfl, rfl⟩) ?_
  rintro obj s₁ ⟨rfl, rfl⟩
  have hnew : (s.heap.push { cls := .type "dict", data := .dict #[] }).DictOf (mixKind X.prog X.w) s.heap.objs.size [] := Heap.DictOf.new s.heap
  refine ⟨hnew.typeIs, PySem.F.args_dict_init_2 _ _, ?_⟩
  unfold Builtin.«dict.__init__»
  refine wpAny_bind ?_
  unfold Builtin.Dict.selfAndRest
  refine wpAny_bind (wpAny_notOrdered_dict hnew.typeIs ?_)
  show wpAny _ _ (pure (s.heap.objs.size, [Value.ref p])) _ _ _
  refine wpAny_pure ?_
  show wpAny _ _ (Builtin.Dict.updateFrom "dict.__init__" s.heap.objs.size (.ref p) [] .none) _ _ _
  unfold Builtin.Dict.updateFrom
  obtain ⟨o, n, ho, hcl, hdi, hda⟩ := pl
  have ho1 : (s.heap.push { cls := .type "dict", data := .dict #[] }).get? p = some o := Heap.get?_push_of_some _ ho
  refine wpAny_bind (wpAny_typeOf (T := "list") ⟨o, ho1, hcl⟩ ?_)
  rw [if_pos (by decide)]
  refine wpAny_bind (gx_noKeys (s := { s with heap := s.heap.push { cls := .type "dict", data := .dict #[] } }) ho1 hcl hda hdi hA fun h' tk hk => ?_)
  have I1 : Inv X pins σ (upd H s.heap.objs.size (.dK [])) { s with heap := h', toks := tk } := I0.kept hk
  rw [if_pos (by rfl)]
  refine wpAny_bind (wpAny_rule ?_)
  have ho2 : h'.get? p = some o := hk _ _ ho1
  refine wpAny_bind (wpAny_pyIter_list (s := { s with heap := h', toks := tk }) (items := its.toArray) ⟨o, ho2, hcl, n, hda⟩ ?_)
  have I2 : Inv X pins σ (upd H s.heap.objs.size (.dK [])) { s with heap := h'.push { cls := .type "list_iterator", data := .fields #[.ref p, .int 0 0] }, toks := tk } := I1.kept (t' := tk) fun b o e => Heap.get?_push_of_some _ e
  have hsz : s.heap.objs.size < h'.objs.size := by
    have e : (s.heap.push { cls := .type "dict", data := .dict #[] }).get? s.heap.objs.size = some { cls := .type "dict", data := .dict #[] } := Heap.get?_push_size _ rfl
    exact Heap.lt_size (hk _ _ e)
  have hit0 : h'.objs.size ≠ s.heap.objs.size := Nat.ne_of_gt hsz
  have hHit : H h'.objs.size = none := I.hok.fresh (Nat.le_of_lt hsz)
  refine wpAny_pure ⟨plainId_quiet gx_plain_loop _, ?_⟩
  refine dict_loop (A := X.A.in1) (it := h'.objs.size) hA (Nat.ne_of_lt hplt) hS hps hD hz hit0 (fun s' J => ⟨rfl, .ref s.heap.objs.size, _, J, rfl, q _ hD⟩) kvs.length 0 0 _ (by omega) (Nat.zero_le _) (by simpa using I2) ⟨_, Heap.get?_push_size _ rfl, rfl, rfl⟩ (fun H' hn => I1.fpOk (Nat.le_refl _) hn) hHit
theorem vals_at : ∀ (xs : List V) (us : List Value), xs.length = us.length → (∀ (i : Nat) (x : V) (u : Value), xs[i]? = some x → us[i]? = some u → RelV x u) → Vals xs us
  | [], [], _, _ => .nil
  | [], _ :: _, h, _ => by simp at h
  | _ :: _, [], h, _ => by simp at h
  | x :: xs, u :: us, h, k => .cons (k 0 x u rfl rfl) (vals_at xs us (by simpa using h) fun i y v e1 e2 => k (i + 1) y v (by simpa using e1) (by simpa using e2))
theorem is_rel {P : Program} {w : World} {k : Key} {v : Value} (h : (mixKind P w).is k v = true) : RelV (kV k) v := by
  rcases keyIs_shape (show keyIs k v = true from h) with ⟨i, t, rfl, rfl⟩ | ⟨x, t, rfl, rfl⟩
  · exact ⟨t, rfl⟩
  · exact ⟨t, rfl⟩
theorem keys_vals {P : Program} {w : World} {kvs : List (Key × V)} {vs : List (Key × Value)} {acc : Array Value} (rel : KV kvs vs) (h : ItemsOf (fun i v => ∃ k x, vs[i]? = some (k, x) ∧ (mixKind P w).is k v = true) acc vs.length) :
    Vals (kvs.map fun kv => kV kv.1) acc.toList := by
  have hl := rel.length
  have el : acc.toList.length = acc.size := by simp
  have hlen : (kvs.map fun kv => kV kv.1).length = acc.toList.length := by rw [List.length_map, el, h.1]; exact hl
  refine vals_at _ _ hlen fun i x u e1 e2 => ?_
  obtain ⟨k, y, e3, e4⟩ := h.2 i u (by simpa using e2)
  rw [List.getElem?_map] at e1
  cases e5 : kvs[i]? with
  | none => rw [e5] at e1; cases e1
  | some kv =>
    rw [e5] at e1
    have e1 : kV kv.1 = x := by simpa using e1
    have e6 : kv.1 = k := by
      have h1 : i < kvs.length := (List.getElem?_eq_some_iff.mp e5).1
      have h2 : i < vs.length := by omega
      have e7 := paired_at rel h1 h2
      have e8 : kvs[i] = kv := by have := List.getElem?_eq_some_iff.mp e5; exact this.2
      have e9 : vs[i] = (k, y) := by have := List.getElem?_eq_some_iff.mp e3; exact this.2
      rw [e8, e9] at e7
      exact e7.1
    rw [← e1, e6]
    exact is_rel e4

theorem call_list_dk (hc : X.calm = true) : CallR X (.type "list") (fun xs H Q => ∃ d kvs, xs = [.ref d] ∧ H d = some (.dK kvs) ∧ ∀ l, H l = none → Q (.ref l) (upd H l (.lst (kvs.map fun kv => kV kv.1)))) := by
  intro pins s σ H xs us Q I r h
  obtain ⟨d, kvs, rfl, hd, q⟩ := h
  obtain ⟨u, rfl, ru⟩ := vals1 r
  cases (show u = Value.ref d from ru)
  obtain ⟨z, lo, vs, rel, dd⟩ := dk_of I.hok hd
  have hlen := rel.length
  obtain ⟨ep, dat⟩ : ∃ ep, s.heap.DictAt (mixKind X.prog X.w) d vs ep := dd.dictAt
  refine PySem.W.kdl_call (PySem.W.kdl_dict (knd := mixKind X.prog X.w) (kvs := vs) (ep := ep) lo) (I.ok.hd hc) dat (by rw [← hlen]; exact z) fun h' tk acc' c' hk hS hit => ?_
  have hv : Vals (kvs.map fun kv => kV kv.1) acc'.toList := keys_vals rel hit
  refine ⟨.ref s.heap.objs.size, _, I.laid (a := s.heap.objs.size) (o := .lst (kvs.map fun kv => kV kv.1)) hk (Nat.le_refl _) ⟨by rw [List.length_map]; exact z, acc'.toList, c', hv, by simpa using hS⟩, rfl, q _ (I.hok.fresh (Nat.le_refl _))⟩
end
end L2

set_option Elab.async false
set_option linter.all false
set_option maxRecDepth 100000
set_option maxHeartbeats 4000000
namespace L2
open PySem PySem.Spec PyProof.Rows PySem.W
section
variable {prog : Program} {w : World} {A : Around} {E : Value → Shared → Prop} {s : Shared} {δ : Type} {R : δ → Value → Prop} {a : Addr} {D : List (Str × δ)} {k : Str} {tk : Tok} {d : δ}
theorem tab_typeIs (T : KTD.TabOf R s.heap a D) : s.TypeIs (.ref a) "dict" := let ⟨_, o, _, _, ho, hc, _⟩ := T; ⟨o, ho, hc.1⟩
theorem getItem_tab {Q : Value → Shared → Prop} (T : KTD.TabOf R s.heap a D) (hd : KTD.datumAt k D = some d) (h : ∀ v, R d v → Q v { s with toks := s.toks + 1 }) :
    wpAny (model prog w) A (getItem (.ref a) (.str k tk)) Q E s := by
  have ty := tab_typeIs T
  obtain ⟨_, o, es, ep, ho, hc, hdt, hr⟩ := T
  unfold getItem
  try with_reducible refine wpAny_holding ?_
  refine wpAny_bind (wpAny_sequenceKey ty (by decide) ?_)
  refine wpAny_bind (wpAny_callSpecial?_slot (name := Str.ofString "__getitem__") ty slot_dict_getitem
    (wpAny_call_entry slot_dict_getitem ty entry_dict_getitem ?_ (args_dict_getitem _ _)))
  show wpAny _ _ (dictGet a (.str k tk) >>= _) _ _ s
  refine wpAny_bind ?_
  unfold dictGet
  try with_reducible refine wpAny_holding ?_
  refine wpAny_bind (wpAny_pyHash_str (wpAny_bind (KTD.kt_dictFind_strs (s := { s with toks := s.toks + 1 }) ho hdt (by obtain ⟨l⟩ := es; simpa using hr.exact) ?_)))
  have hq : ∃ v, findBy (fun k v => v.isStr k) es k = some v ∧ R d v := by
    have hf : findBy (fun k v => v.isStr k) es k = (es.toList.find? fun e => e.key.isStr k).map (·.val) := by
      obtain ⟨l⟩ := es
      simp [findBy]
    rw [hf]
    exact hr.find_some hd
  obtain ⟨v, hv, hR⟩ := hq
  rw [findBy_of_findIdx?] at hv
  cases hi : es.findIdx? fun e => e.key.isStr k with
  | none => rw [hi] at hv; cases hv
  | some i =>
    rw [hi] at hv
    have hv : es[i]?.map (·.val) = some v := hv
    refine wpAny_bind (wpAny_dictEntries (s := { s with toks := s.toks + 1 }) ho hdt (wpAny_pure ?_))
    show wpAny _ _ _ _ _ _
    rw [hv]
    exact wpAny_pure ⟨v, rfl, wpAny_pure (h v hR)⟩
end

def TabK (K : PySem.W.Frag) (d : Addr) (rows : List (Str × List V)) : Prop :=
  ∃ (o : Obj) (es : Array DictEntry) (ep : Nat), K.lookup d = some o ∧ (d == sysModules) = false ∧ o.ExactDict ∧ o.data = .dict es ep ∧ KTD.Rows (fun (xs : List V) v => ∃ a, v = .ref a ∧ ∀ H : Hp, SqT K H a xs) es.toList rows
def rIxTab (K : PySem.W.Frag) : R2 := fun x y H Q => ∃ d rows k xs, x = .ref d ∧ y = .str k ∧ TabK K d rows ∧ KTD.datumAt k rows = some xs ∧ ∀ a, SqT K H a xs → Q (.ref a) H
theorem ix_tab {X : Cx} : IxR X (rIxTab X.K) := by
  intro value slice pins s σ H x y v u Q I rx ry h hs
  obtain ⟨d, rows, k, xs, rfl, rfl, ⟨o, es, ep, ho, lo, hc, hd, hr⟩, hk, q⟩ := h
  cases (show v = Value.ref d from rx)
  obtain ⟨t, rfl⟩ := (show ∃ t, u = Value.str k t from ry)
  have T : KTD.TabOf (fun (xs : List V) v => ∃ a, v = .ref a ∧ ∀ H : Hp, SqT X.K H a xs) s.heap d rows := ⟨lo, o, es, ep, I.kIn d o ho, hc, hd, hr⟩
  refine tail_any (tab_typeIs T) slot_dict_getitem.lookup (getItem_tab T hk fun v hv => ?_) hs
  obtain ⟨a, rfl, hsq⟩ := hv
  exact ⟨.ref a, H, I.tok _, rfl, q a (hsq H)⟩
end L2

set_option Elab.async false
set_option linter.all false
set_option maxRecDepth 100000
set_option maxHeartbeats 4000000
namespace L2
open PySem PySem.Spec PyProof.Rows

def relLook : V → Value → Bool
  | .non, .none => true
  | .bl b, .bool c => b == c
  | .int i, .int j _ => i == j
  | .str x, .str y _ => x == y
  | _, _ => false
theorem rel_of_look : ∀ {x : V} {v : Value}, relLook x v = true → RelV x v := by
  intro x v h
  unfold relLook at h
  split at h
  · rfl
  · obtain rfl := beq_iff_eq.mp h; rfl
  · obtain rfl := beq_iff_eq.mp h; exact ⟨_, rfl⟩
  · obtain rfl := beq_iff_eq.mp h; exact ⟨_, rfl⟩
  · cases h
def relsLook : List V → List Value → Bool
  | [], [] => true
  | x :: xs, v :: vs => relLook x v && relsLook xs vs
  | _, _ => false
theorem rels_of_look : ∀ {xs : List V} {vs : List Value}, relsLook xs vs = true → Vals xs vs
  | [], [], _ => .nil
  | x :: xs, v :: vs, h => by
    simp only [relsLook, Bool.and_eq_true] at h
    exact .cons (rel_of_look h.1) (rels_of_look h.2)
  | [], _ :: _, h => by simp [relsLook] at h
  | _ :: _, [], h => by simp [relsLook] at h
def tupLook (K : PySem.W.Frag) (xs : List V) (v : Value) : Bool := match v with
  | .ref a => match K.lookup a with
    | some o => o.cls == .type "tuple" && (match o.data with | .seq its _ => decide (its.size ≤ sizeLine) && relsLook xs its.toList | _ => false)
    | none => false
  | _ => false
theorem tup_of_look {K : PySem.W.Frag} (xs : List V) (v : Value) (h : tupLook K xs v = true) : ∃ a, v = .ref a ∧ ∀ H : Hp, SqT K H a xs := by
  unfold tupLook at h
  split at h
  · rename_i a
    split at h
    · rename_i o ho
      rw [Bool.and_eq_true] at h
      obtain ⟨h1, h2⟩ := h
      split at h2
      · rename_i its n hd
        rw [Bool.and_eq_true] at h2
        exact ⟨a, rfl, fun H => .inr ⟨o, its, n, ho, beq_iff_eq.mp h1, hd, of_decide_eq_true h2.1, rels_of_look h2.2⟩⟩
      · cases h2
    · cases h
  · cases h
theorem tabK_of_look {K : PySem.W.Frag} {d : Addr} {rows : List (Str × List V)} (h : KTD.tabLook (tupLook K) (fun a => K.lookup a) d rows = true) : TabK K d rows := by
  simp only [KTD.tabLook, Bool.and_eq_true] at h
  obtain ⟨h0, hl⟩ := h
  split at hl
  · rename_i o ho
    simp only [Bool.and_eq_true] at hl
    obtain ⟨⟨⟨e1, e2⟩, e3⟩, e4⟩ := hl
    split at e4
    · rename_i es ep hd
      exact ⟨o, es, ep, ho, by simpa using h0, ⟨beq_iff_eq.mp e1, by simpa using e2, by simpa using e3⟩, hd, KTD.rows_of_look tup_of_look e4⟩
    · cases e4
  · cases hl
end L2
namespace L2
open PySem

def isLitL : Expr → Option (List V)
  | .List es _ => litsOf es
  | _ => none
theorem pe_litL {X : Cx} {e : Expr} {vs : List V} (h : isLitL e = some vs) : PE X e (tLst fun _ H Q => Q vs H) := by
  unfold isLitL at h
  split at h
  · exact pe_lst (pa_lits h)
  · cases h
end L2

set_option Elab.async false
set_option linter.all false
set_option maxRecDepth 100000
set_option maxHeartbeats 4000000
namespace L2
open PySem PySem.Spec PyProof.Rows

section
variable {prog : Program} {w : World} {A : Around} {E : Value → Shared → Prop} {s : Shared}
theorem gx_nextOf_tup {it t : Addr} {i : Nat} {items : Array Value} {x : Value} {Q : Value → Shared → Prop} (hit : s.heap.IsTupleIter it t i) (ht : s.heap.IsTuple t items) (hx : items[i]? = some x)
    (hQ : ∀ h', h'.IsTupleIter it t (i + 1) → Heap.SameBut it s.heap h' → Q x { s with heap := h' }) : wpAny (model prog w) A (Builtin.SmallTypes.nextOf (.ref it)) Q E s := by
  obtain ⟨⟨o, ho, hc, hd⟩, ⟨ol, hol, _, nl, hdl⟩⟩ := (⟨id hit, ht⟩ : _ ∧ _)
  unfold Builtin.SmallTypes.nextOf; refine wpAny_bind (wpAny_callSpecial?_slot (name := Str.ofString "__next__") hit.typeIs F.slot_tuple_iterator_next (wpAny_call_entry F.slot_tuple_iterator_next hit.typeIs F.entry_tuple_iterator_next ?_ (F.args_tuple_iterator_next_1 _)))
  show wpAny (model prog w) _ (field (.ref it) 0 >>= _) _ _ s; refine wpAny_bind (wpAny_field ho hd (x := .ref t) rfl ?_)
  show wpAny (model prog w) _ (if (Value.ref t == Value.none) = true then _ else _) _ _ s; rw [if_neg (by exact Bool.false_ne_true)]
  show wpAny (model prog w) _ (field (.ref it) 1 >>= _) _ _ s; refine wpAny_bind (wpAny_field ho hd (x := .int i 0) rfl ?_)
  show wpAny (model prog w) _ (seqItems? (.ref t) >>= _) _ _ s; refine wpAny_bind (wpAny_seqItems hol hdl ?_); simp only [Int.toNat_natCast, hx]
  refine wpAny_bind (wpAny_setField ho hd (by simp) (wpAny_pure ⟨x, rfl, wpAny_pure (hQ _ ⟨_, Heap.get?_update_self _ ho (Obj.isFreed_of_fields (Obj.data_mapFields hd _)), (Obj.cls_mapFields ..).trans hc, by rw [Obj.data_mapFields hd]; simp [rawInt]⟩ (Heap.SameBut.update ..))⟩))
theorem gx_nextOf_tup_end {it t : Addr} {i : Nat} {items : Array Value} {Q : Value → Shared → Prop} (hh : A.handled = none) (hit : s.heap.IsTupleIter it t i) (ht : s.heap.IsTuple t items) (hx : items[i]? = none)
    (hE : ∀ h' e, Heap.ExtBut it s.heap h' → (∃ o, h'.get? e = some o ∧ o.cls = .type "StopIteration") → E (.ref e) { s with heap := h' }) : wpAny (model prog w) A (Builtin.SmallTypes.nextOf (.ref it)) Q E s := by
  obtain ⟨⟨o, ho, hc, hd⟩, ⟨ol, hol, _, nl, hdl⟩⟩ := (⟨id hit, ht⟩ : _ ∧ _)
  unfold Builtin.SmallTypes.nextOf; refine wpAny_bind (wpAny_callSpecial?_slot (name := Str.ofString "__next__") hit.typeIs F.slot_tuple_iterator_next (wpAny_call_entry F.slot_tuple_iterator_next hit.typeIs F.entry_tuple_iterator_next ?_ (F.args_tuple_iterator_next_1 _)))
  show wpAny (model prog w) _ (field (.ref it) 0 >>= _) _ _ s; refine wpAny_bind (wpAny_field ho hd (x := .ref t) rfl ?_)
  show wpAny (model prog w) _ (if (Value.ref t == Value.none) = true then _ else _) _ _ s; rw [if_neg (by exact Bool.false_ne_true)]
  show wpAny (model prog w) _ (field (.ref it) 1 >>= _) _ _ s; refine wpAny_bind (wpAny_field ho hd (x := .int i 0) rfl ?_)
  show wpAny (model prog w) _ (seqItems? (.ref t) >>= _) _ _ s; refine wpAny_bind (wpAny_seqItems hol hdl ?_); simp only [Int.toNat_natCast, hx]
  refine wpAny_bind (wpAny_rule (wpAny_bind (wpAny_setField ho hd (by simp) ?_))); show wpAny (model prog w) _ (newExc (.type "StopIteration") [] >>= _) _ _ _
  refine wpAny_bind ?_; simp only [newExc, newTuple]; refine wpAny_bind (wpAny_newObj_type ?_ (by size_fits))
  refine wpAny_bind (m := firstArgMember _ _) (wpAny_of_eq (a := Value.none) (by first | rfl | (simp only [firstArgMember]; rfl)) (wpAny_newObj_type ?_ (by size_fits)))
  simp only [raiseNew]; refine wpAny_bind (wpAny_handled ?_); first | rw [show A.in1.handled = none from hh] | rw [hh]
  refine wpAny_bind (wpAny_pure (wpAny_throw (hE _ _ (((Heap.SameBut.update ..).extBut.push _).push _) ⟨_, Heap.get?_push_size _ rfl, rfl⟩)))
end
theorem gx_draws_tup {prog : Program} {w : World} {A : Around} (hh : A.handled = none) (it t : Addr) (hne : t ≠ it) (items : Array Value) :
    Draws prog w A it [it, t] items.size (fun i v => items[i]? = some v) (fun i h => h.IsTupleIter it t i ∧ h.IsTuple t items) where
  live := fun _ _ ⟨⟨o, ho, _⟩, _⟩ => ⟨o, ho⟩
  frame := fun _ _ _ ⟨⟨o, ho, r⟩, ⟨o2, ho2, r2⟩⟩ hk => ⟨⟨o, hk it (by simp) o ho, r⟩, ⟨o2, hk t (by simp) o2 ho2, r2⟩⟩
  item := fun i s Q E hi ⟨s1, s2⟩ hQ => gx_nextOf_tup s1 s2 (x := items[i]) (by simp [hi]) fun h' hit' hs' => hQ _ h' s.toks (by simp [hi]) ⟨hit', s2.extBut hs'.extBut hne⟩ hs'
  done := fun s Q E ⟨s1, s2⟩ hE => gx_nextOf_tup_end hh s1 s2 (by simp) hE
end L2

namespace L2
open PySem PySem.Spec PyProof.Rows

section
variable {X : Cx} {pins : List (Addr × Obj)} {σ : St} {H : Hp} {s : Shared} {h' : Heap}
theorem Inv.turnedL {t' : Nat} {ch : List Addr} (I : Inv X pins σ H s) (k : ∀ b o, b ∉ ch → s.heap.get? b = some o → h'.get? b = some o) (hf : ∀ b ∈ ch, FpOk X pins H b) : Inv X pins σ H { s with heap := h', toks := t' } := by
  have nit : ∀ b u, H b = some u → b ∉ ch := fun b u e z => by rw [(hf b z).1] at e; cases e
  refine I.step (g' := s.gens) (d' := s.drawn) (ch := ch) (fun b hb => ⟨(hf b hb).2.2.2.1, (hf b hb).2.1, (hf b hb).2.2.2.2.1, (hf b hb).2.2.2.2.2⟩) (fun b o _ _ hc e _ => k b o hc e) (fun b o _ _ hc e _ => ⟨o.slots, k b o hc e⟩) (fun _ _ _ _ n => n) (fun b o hc e => ⟨o, k b o hc e⟩) (fun _ _ e => e) (fun _ _ _ e => e) (fun b ps e => ⟨#[], by rw [e]; simp⟩) (fun m hm => ?_) (fun b u e => ?_) I.bare
  · obtain ⟨o, es, ep, ho, r⟩ := hm
    exact ⟨o, es, ep, k _ _ (fun z => (hf _ z).2.1 rfl) ho, r⟩
  · have key : ∀ c, c = b ∨ H c = some (.own b) → c ∉ ch := fun c hc => by
      rcases hc with z | z
      · subst z; exact nit _ u e
      · exact nit c _ z
    exact (I.hok b u e).stay (fun c v hc q => k c v (key c hc) q) (fun _ q => q) fun _ _ q => q

theorem Inv.turnLaid {t' : Nat} {ch : List Addr} {a : Addr} {o : HO} (I : Inv X pins σ H s) (k : ∀ b o, b ∉ ch → s.heap.get? b = some o → h'.get? b = some o) (hf : ∀ b ∈ ch, FpOk X pins H b) (hp : s.heap.objs.size ≤ a) (new : ObjOk X.prog X.w (upd H a o) h' a o) :
    Inv X pins σ (upd H a o) { s with heap := h', toks := t' } := by
  have nit : ∀ b u, H b = some u → b ∉ ch := fun b u e z => by rw [(hf b z).1] at e; cases e
  have hn : H a = none := I.hok.fresh hp
  refine I.step (g' := s.gens) (d' := s.drawn) (ch := ch) (fun b hb => ⟨(hf b hb).2.2.2.1, (hf b hb).2.1, (hf b hb).2.2.2.2.1, (hf b hb).2.2.2.2.2⟩) (fun b o _ _ hc e _ => k b o hc e) (fun b o _ _ hc e _ => ⟨o.slots, k b o hc e⟩) (fun b u _ q n => by rw [upd_ne (fun z => by subst z; exact absurd (Nat.lt_of_lt_of_le (Heap.lt_size q) hp) (Nat.lt_irrefl _))]; exact n) (fun b o hc e => ⟨o, k b o hc e⟩) (fun b xs q => by rw [upd_ne (ne_of_none q hn)]; exact q) (fun b u xs q => by rw [upd_ne (ne_of_none q hn)]; exact q) (fun b ps q => ⟨#[], by rw [upd_ne (ne_of_none q hn), q]; simp⟩) (fun m hm => ?_) (fun b u e => ?_) I.bare
  · obtain ⟨o, es, ep, ho, r⟩ := hm
    exact ⟨o, es, ep, k _ _ (fun z => (hf _ z).2.1 rfl) ho, r⟩
  · by_cases hb : b = a
    · subst hb
      rw [upd_same] at e
      cases e
      exact new
    · rw [upd_ne hb] at e
      have key : ∀ c, c = b ∨ H c = some (.own b) → c ∉ ch := fun c hc => by
        rcases hc with z | z
        · subst z; exact nit _ u e
        · exact nit c _ z
      exact (I.hok b u e).stay (fun c v hc q => k c v (key c hc) q) (fun c q => (upd_ne (ne_of_none q hn)).trans q) fun c xs q => (upd_ne (ne_of_none q hn)).trans q
end

theorem gx_meets_enum_tup (l : Addr) (items : Array Value) (n : Nat) (dct : Option Addr) (sl : Array (Option Value)) :
    Meets (Builtin.«enumerate.__new__» ⟨[.type "enumerate", .ref l], []⟩) (fun _ R s => s.heap.get? l = some { cls := .type "tuple", dict := dct, data := .seq items n, slots := sl } ∧
      R (.ok (.ret (.ref (s.heap.push { cls := .type "tuple_iterator", data := .fields #[.ref l, .int 0 0] }).objs.size)))
        { s with heap := (s.heap.push { cls := .type "tuple_iterator", data := .fields #[.ref l, .int 0 0] }).push { cls := .type "enumerate", data := .fields #[.none, .bool false, .ref s.heap.objs.size, rawInt 0, .none, .none] } }) :=
  .of_wp fun prog w A R s h => by
    obtain ⟨h0, g0, d0, t0, o0⟩ := s
    obtain ⟨hl, h⟩ := h
    have hsub := sub_enumerate
    have hL : Heap.IsTuple (Shared.heap ⟨h0, g0, d0, t0, o0⟩) l items := ⟨_, hl, rfl, n, rfl⟩
    wp_walk using AutoSeq1.wpAny_loadPart' hl
    refine wpAny_stack_any fun st => wpAny_pure ?_
    split
    · rename_i c _ _ _ _ _
      cases (c == Value.type "enumerate") <;> (wp_walk using AutoSeq1.wpAny_loadPart' hl, wpAny_pyIter_tuple hL; exact ⟨_, rfl, h⟩)
    · wp_walk using AutoSeq1.wpAny_loadPart' hl, wpAny_pyIter_tuple hL; exact ⟨_, rfl, h⟩
theorem gx_call_enum_tup {prog : Program} {w : World} {A : Around} {E : Value → Shared → Prop} {s : Shared} {l : Addr} {items : Array Value} {Q : Value → Shared → Prop} (hL : s.heap.IsTuple l items)
    (h : ∀ h', IsEnum h' (s.heap.objs.size + 1) s.heap.objs.size 0 .none → h'.IsTupleIter s.heap.objs.size l 0 → (∀ b o, s.heap.get? b = some o → h'.get? b = some o) → Q (.ref (s.heap.objs.size + 1)) { s with heap := h' }) :
    wpAny (model prog w) A (call (.type "enumerate") [.ref l]) Q E s := by
  obtain ⟨⟨c, dct, dt, sl⟩, hl, hc, n, hd⟩ := hL
  cases (show c = .type "tuple" from hc); cases (show dt = .seq items n from hd)
  refine callType_new F.called_enumerate (by decide) (F.typeCall_enumerate_1 _) (F.newCall_enumerate_1 _) (fun obj => F.args_object_init_2 obj _) F.entry_enumerate_new (gx_meets_enum_tup l items n dct sl) ⟨hl, ?_⟩
  have hz : (s.heap.push { cls := .type "tuple_iterator", data := .fields #[.ref l, .int 0 0] }).objs.size = s.heap.objs.size + 1 := Heap.size_push ..
  have he : IsEnum ((s.heap.push { cls := .type "tuple_iterator", data := .fields #[.ref l, .int 0 0] }).push { cls := .type "enumerate", data := .fields #[.none, .bool false, .ref s.heap.objs.size, rawInt 0, .none, .none] }) (s.heap.objs.size + 1) s.heap.objs.size 0 .none := by
    have e := Heap.get?_push_size (s.heap.push { cls := .type "tuple_iterator", data := .fields #[.ref l, .int 0 0] }) (o := { cls := .type "enumerate", data := .fields #[.none, .bool false, .ref s.heap.objs.size, rawInt 0, .none, .none] }) rfl
    rw [hz] at e
    exact e
  show _ ∧ _
  rw [hz]
  exact ⟨⟨_, he, rfl⟩, h _ he ⟨_, Heap.get?_push_of_some _ (Heap.get?_push_size _ rfl), rfl, rfl⟩ fun b o x => Heap.get?_push_of_some _ (Heap.get?_push_of_some _ x)⟩

def Ite (K : PySem.W.Frag) (a : Addr) : It :=
  ⟨fun i H => ∃ xs x, SqT K H a xs ∧ xs[i]? = some x, fun i H y H' => ∃ b, y = .ref b ∧ H b = none ∧ ∀ xs x, SqT K H a xs → xs[i]? = some x → H' = upd H b (.tup [.int i, x]), fun i H => ∃ xs, SqT K H a xs ∧ xs.length = i⟩
theorem turn_enum {P : Program} {w : World} {K : PySem.W.Frag} {elts : List Expr} {k : Nat} {pos : Pos} (a e it : Addr) (hne : e ≠ it) : Turn P w K (.Tuple elts k pos) (Ite K a) [e, it] e (fun i h => (∃ old, IsEnum h e it i old) ∧ h.IsTupleIter it a i) where
  mem := by simp
  obj := fun i h st b hb => by
    obtain ⟨⟨old, he⟩, ⟨o, ho, hc, hd⟩⟩ := st
    rcases List.mem_cons.mp hb with z | z
    · subst z
      exact ⟨_, he, fun v z => by cases (show Data.fields _ = Data.cell v from z)⟩
    · have z : b = it := by simpa using z
      subst z
      exact ⟨o, ho, fun v z => by rw [hd] at z; cases z⟩
  keep := fun i h h' st kk => by
    obtain ⟨⟨old, he⟩, ⟨o, ho, r⟩⟩ := st
    exact ⟨⟨old, kk e (by simp) _ he⟩, ⟨o, kk it (by simp) o ho, r⟩⟩
  item := by
    intro X hP hw hK hc i pins s σ H E I hf st hg
    subst hP hw hK
    obtain ⟨⟨old, he⟩, hit⟩ := st
    obtain ⟨xs, x, hq, hx⟩ := hg
    obtain ⟨its, rv, p, hz⟩ := I.tuple hq
    have pt : s.heap.IsTuple a its.toArray := p
    obtain ⟨u, hu, ru⟩ := rv.get hx
    have hia : a ≠ it := fun z => by
      subst z
      obtain ⟨o1, h1, c1, _⟩ := hit
      obtain ⟨o2, h2, c2, _⟩ := pt
      rw [h1] at h2
      cases h2
      rw [c1] at c2
      injection c2 with c2
      exact absurd c2 (by decide)
    have hea : e ∉ [it, a] := fun z => by
      rcases List.mem_cons.mp z with z | z
      · exact hne z
      · have z : e = a := by simpa using z
        subst z
        obtain ⟨o2, h2, c2, _⟩ := pt
        rw [he] at h2
        cases h2
        injection (show Value.type "enumerate" = Value.type "tuple" from c2) with c2
        exact absurd c2 (by decide)
    have hlt : i < its.toArray.size := by
      have := (List.getElem?_eq_some_iff.mp hu).1
      simpa using this
    refine wpAny_pyNext_enum_itemD (gx_draws_tup (A := X.A.in1) (I.ok.hd hc) it a hia its.toArray) he ⟨hit, pt⟩ hlt hne hea fun y h' tk hy hout hst hT hsz hk => ?_
    refine ⟨_, rfl, wpAny_letOwnedTupleGo_enum hout fun h2 he2 hs2 => ?_⟩
    have hs2 : Heap.SameBut e h' h2 := hs2
    have hyu : y = u := by
      have hy : its.toArray[i]? = some y := hy
      have : its[i]? = some y := by simpa using hy
      rw [hu] at this
      exact (Option.some.inj this).symm
    subst hyu
    have helt : e < s.heap.objs.size := Heap.lt_size he
    have hfr : H s.heap.objs.size = none := I.hok.fresh (Nat.le_refl _)
    have hnS : s.heap.objs.size ≠ e := Nat.ne_of_gt helt
    have hT2 : h2.get? s.heap.objs.size = some { cls := .type "tuple", data := .seq #[.int i tk, y] } := (hs2.2 _ hnS).trans hT
    refine ⟨.ref s.heap.objs.size, upd H s.heap.objs.size (.tup [.int i, x]), I.turnLaid (t' := tk + 1) (ch := [e, it]) (fun b o hb q => ?_) hf (Nat.le_refl _) ?_, rfl, ⟨s.heap.objs.size, rfl, hfr, fun xs' x' hq' hx' => ?_⟩, ⟨⟨y, by exact_mod_cast he2⟩, ?_⟩, fun b hb => ?_⟩
    · have h1 : b ≠ e := fun z => hb (by simp [z])
      have h3 : b ≠ it := fun z => hb (by simp [z])
      exact (hs2.2 b h1).trans (hk b o h1 h3 q)
    · exact ⟨by show 2 ≤ sizeLine; decide, [.int i tk, y], .cons ⟨tk, rfl⟩ (.cons ru .nil), ⟨_, hT2, rfl, _, rfl⟩⟩
    · have := I.tuple_inj hq' hq
      subst this
      rw [hx] at hx'
      cases hx'
      rfl
    · obtain ⟨⟨o, ho, r⟩, _⟩ := hst
      exact ⟨o, (hs2.2 it hne.symm).trans ho, r⟩
    · have hb0 := (hf b hb).1
      rw [upd_ne]
      · exact hb0
      · intro z
        subst z
        obtain ⟨o, ho, _⟩ := hit
        rcases List.mem_cons.mp hb with z | z
        · exact hnS z
        · have z : s.heap.objs.size = it := by simpa using z
          exact absurd (Heap.lt_size ho) (by rw [← z]; exact Nat.lt_irrefl _)
  done := by
    intro X hP hw hK hc i pins s σ H E I hf st hg
    subst hP hw hK
    obtain ⟨⟨old, he⟩, hit⟩ := st
    obtain ⟨xs, hq, hx⟩ := hg
    obtain ⟨its, rv, p, hz⟩ := I.tuple hq
    have pt : s.heap.IsTuple a its.toArray := p
    have hl := rv.length
    have hia : a ≠ it := fun z => by
      subst z
      obtain ⟨o1, h1, c1, _⟩ := hit
      obtain ⟨o2, h2, c2, _⟩ := pt
      rw [h1] at h2
      cases h2
      rw [c1] at c2
      injection c2 with c2
      exact absurd c2 (by decide)
    have hi : i = its.toArray.size := by simp; omega
    refine wpAny_pyNext_enum_endD (gx_draws_tup (A := X.A.in1) (I.ok.hd hc) it a hia its.toArray) he (by rw [← hi]; exact ⟨hit, pt⟩) fun h' eb => ⟨rfl, ?_⟩
    exact I.turnedL (t' := s.toks) (ch := [e, it]) (fun b o hb q => eb b o (fun z => hb (by simp [z])) q) hf
  self := fun _ _ _ _ _ st h => by
    obtain ⟨⟨old, he⟩, _⟩ := st
    exact wpAny_pyIter_enum he h
end L2

namespace L2
open PySem PySem.Spec PyProof.Rows
section
variable {X : Cx}
theorem boot_enum : bootBuiltins "enumerate" = some (.type "enumerate") := bt_enumerate

def iEnumT (K : PySem.W.Frag) (ta : TA) : TI := fun σ H R => ta σ H fun vs H1 => ∃ a, vs = [.ref a] ∧ (∃ xs, SqT K H1 a xs) ∧ R (Ite K a) H1
theorem pi_enumT {a : Expr} {ta : TA} {p pos tpos : Pos} {elts : List Expr} {k : Nat} (hg : Gl X "enumerate") (hm : X.mg "enumerate" = none) (ha : PA X [a] ta) (hs : starEach [a] X.env = [(false, eval a X.env)] := by rfl) : PI X (.Tuple elts k tpos) (.Call (.Name "enumerate" p) [a] [] pos) (iEnumT X.K ta) := by
  intro pins s σ H R I h
  refine Call_ (ld_blt I hg hm boot_enum (PyProof.Rows.callWith_type1 (thn (ha pos pins s σ H _ I h) fun us s1 ⟨vs, H1, I1, r1, q1⟩ => ?_) hs rfl))
  obtain ⟨a, e, ⟨xs, hq⟩, q⟩ := q1
  subst e
  cases r1 with
  | cons r rr =>
    cases rr
    cases r
    obtain ⟨its, rv, p, hz⟩ := I1.tuple hq
    refine gx_call_enum_tup (show s1.heap.IsTuple a its.toArray from p) fun h' he hit hk => ?_
    refine wpAny_pyIter_enum he ?_
    refine ⟨s1.heap.objs.size + 1, [s1.heap.objs.size + 1, s1.heap.objs.size], _, _, H1, rfl, I1.kept (t' := s1.toks) hk, turn_enum a (s1.heap.objs.size + 1) s1.heap.objs.size (Nat.succ_ne_self _), ⟨⟨.none, he⟩, hit⟩, fun b hb => ?_, q⟩
    rcases List.mem_cons.mp hb with z | z
    · subst z
      exact I1.fpOk (Nat.le_succ _) (I1.hok.fresh (Nat.le_succ _))
    · have z : b = s1.heap.objs.size := by simpa using z
      subst z
      exact I1.fpOk (Nat.le_refl _) (I1.hok.fresh (Nat.le_refl _))

theorem for_enumT {K : PySem.W.Frag} {a : Addr} {xs : List V} {g : TG} {tb : TS} {D : Ends} {σ : St} {H : Hp} (Pv : Nat → St → Hp → Prop) (h0 : Pv 0 σ H) (hl : ∀ i σ H, i ≤ xs.length → Pv i σ H → SqT K H a xs)
    (hs : ∀ i x σ H b, xs[i]? = some x → Pv i σ H → H b = none → g (.ref b) σ (upd H b (.tup [.int i, x])) fun σ2 H2 => tb { D with nx := Pv (i + 1), ct := Pv (i + 1), bk := D.nx } σ2 H2) (hd : ∀ σ H, Pv xs.length σ H → D.nx σ H) :
    ∃ W : Nat → Nat → St → Hp → Prop, (∃ m, W 0 m σ H) ∧ ∀ i m σ H, W i m σ H → ((Ite K a).stop i H ∧ D.nx σ H) ∨ ((Ite K a).go i H ∧ ∃ N : St → Hp → Prop, (∀ σ' H', N σ' H' → ∃ m', m' < m ∧ W (i + 1) m' σ' H') ∧ ∀ x H', (Ite K a).yld i H x H' → g x σ H' fun σ2 H2 => tb { D with nx := N, ct := N, bk := D.nx } σ2 H2) := by
  refine ⟨fun i m σ H => m = xs.length - i ∧ i ≤ xs.length ∧ Pv i σ H, ⟨xs.length, by simp, Nat.zero_le _, h0⟩, ?_⟩
  rintro i m σ H ⟨rfl, hi, p⟩
  have q := hl i σ H hi p
  by_cases hlt : i < xs.length
  · refine .inr ⟨⟨xs, xs[i], q, by simp [hlt]⟩, Pv (i + 1), fun σ' H' p' => ⟨xs.length - (i + 1), by omega, rfl, hlt, p'⟩, fun x H' y => ?_⟩
    obtain ⟨b, rfl, hb, y⟩ := y
    rw [y xs xs[i] q (by simp [hlt])]
    exact hs i xs[i] σ H b (by simp [hlt]) p hb
  · have e : i = xs.length := by omega
    subst e
    exact .inl ⟨⟨xs, q, rfl⟩, hd σ H p⟩
end
end L2

set_option Elab.async false
set_option linter.all false
set_option maxRecDepth 100000
set_option maxHeartbeats 4000000
namespace L2
open PySem PySem.Spec PyProof.Rows
section
variable {X : Cx} {pins : List (Addr × Obj)} {σ : St} {H : Hp} {s : Shared}

theorem Inv.freeze {d : Addr} {kvs : List (Key × V)} (I : Inv X pins σ H s) (e : H d = some (.dK kvs)) : ∃ o, s.heap.get? d = some o ∧ Inv X pins σ (upd H d (.frz o (.dK kvs))) s := by
  obtain ⟨z, hd, vs, rel, ⟨o, es, ep, ho, r⟩⟩ := I.hok d _ e
  refine ⟨o, ho, ?_⟩
  have nd : ∀ b u, H b = some u → u ≠ .dK kvs → b ≠ d := fun b u q n z => by
    subst z
    rw [e] at q
    cases q
    exact n rfl
  refine I.step (g' := s.gens) (t' := s.toks) (d' := s.drawn) (h' := s.heap) (ch := []) (fun _ z => nomatch z) (fun b o _ _ _ q _ => q) (fun b o _ _ _ q _ => ⟨o.slots, q⟩) (fun b o _ _ n => ?_) (fun b o _ q => ⟨o, q⟩) (fun b xs q => ?_) (fun b o u q => ?_) (fun b ps q => ⟨#[], ?_⟩) (fun m hm => hm) (fun b u q => ?_) I.bare
  · rw [upd_ne (fun z => by subst z; rw [e] at n; cases n)]
    exact n
  · rw [upd_ne (nd b _ q (by intro z; cases z))]
    exact q
  · rw [upd_ne (nd b _ q (by intro z; cases z))]
    exact q
  · rw [upd_ne (nd b _ q (by intro z; cases z)), q]
    simp
  · have own : ∀ c b, H c = some (.own b) → (upd H d (.frz o (.dK kvs))) c = some (.own b) := fun c b q => (upd_ne (nd c _ q (by intro z; cases z))).trans q
    have tup : ∀ c xs, H c = some (.tup xs) → (upd H d (.frz o (.dK kvs))) c = some (.tup xs) := fun c xs q => (upd_ne (nd c _ q (by intro z; cases z))).trans q
    by_cases hb : b = d
    · subst hb
      rw [upd_same] at q
      cases q
      exact ⟨ho, (I.hok _ _ e).stay (fun _ _ _ q => q) (fun c q => own c _ q) tup⟩
    · rw [upd_ne hb] at q
      exact (I.hok b u q).stay (fun _ _ _ q => q) (fun c q => own c _ q) tup
end
theorem gx_entry_iiter : entryFor table "dict_itemiterator.__iter__" = some Builtin.«dict_keyiterator.__iter__» := entryFor_alias (id' := "dict_keyiterator.__iter__") (by kernel_rfl) (by first | rfl | decide +kernel | (unfold String.splitOn; simp +decide [String.splitOnAux])) (by decide +kernel) (by kernel_rfl)

def Itd (o : Obj) (d : Addr) (kvs : List (Key × V)) : It :=
  ⟨fun i H => H d = some (.frz o (.dK kvs)) ∧ i < kvs.length, fun i H y H' => ∃ b, y = .ref b ∧ H b = none ∧ ∀ kv, kvs[i]? = some kv → H' = upd H b (.tup [kV kv.1, kv.2]), fun i H => H d = some (.frz o (.dK kvs)) ∧ i = kvs.length⟩
theorem frz_at {X : Cx} {pins : List (Addr × Obj)} {σ : St} {H : Hp} {s : Shared} {o : Obj} {d : Addr} {kvs : List (Key × V)} (I : Inv X pins σ H s) (e : H d = some (.frz o (.dK kvs))) {es0 : Array DictEntry} {ep : Nat} (hep : o.data = .dict es0 ep) :
    ∃ vs, KV kvs vs ∧ s.heap.DictAt (mixKind X.prog X.w) d vs ep := by
  obtain ⟨h1, z, hd, vs, rel, ⟨o', es, ep', ho, hx, hdat, r⟩⟩ := I.hok d _ e
  rw [h1] at ho
  cases ho
  rw [hep] at hdat
  cases hdat
  exact ⟨vs, rel, o, es0, h1, hx, hep, r⟩
theorem turn_items {P : Program} {w : World} {K : PySem.W.Frag} {elts : List Expr} {k : Nat} {pos : Pos} (o : Obj) (d it : Addr) (kvs : List (Key × V)) (es0 : Array DictEntry) (ep : Nat) (hep : o.data = .dict es0 ep) :
    Turn P w K (.Tuple elts k pos) (Itd o d kvs) [it] it (fun i h => ∃ ok ov, IsItemIter h it d i kvs.length ep ok ov) where
  mem := by simp
  obj := fun i h st b hb => by
    obtain ⟨ok, ov, he⟩ := st
    have z : b = it := by simpa using hb
    subst z
    exact ⟨_, he, fun v z => by cases (show Data.fields _ = Data.cell v from z)⟩
  keep := fun i h h' st kk => by
    obtain ⟨ok, ov, he⟩ := st
    exact ⟨ok, ov, kk it (by simp) _ he⟩
  item := by
    intro X hP hw hK hc i pins s σ H E I hf st hg
    subst hP hw hK
    obtain ⟨ok, ov, he⟩ := st
    obtain ⟨hfz, hi⟩ := hg
    obtain ⟨vs, rel, hD⟩ := frz_at I hfz hep
    have hlen : kvs.length = vs.length := KV.length rel
    have hi' : i < vs.length := by omega
    have rk : kvs[i].1 = vs[i].1 ∧ RelV kvs[i].2 vs[i].2 := paired_at rel hi hi'
    refine wpAny_pyNext_items_item (knd := mixKind X.prog X.w) (k := vs[i].1) (v := vs[i].2) (kvs := vs) (by rw [← hlen]; exact he) hD (by simp [hi']) fun key h' hkey hout hT hsz hk => ?_
    refine ⟨_, rfl, wpAny_letOwnedTupleGo_items hout fun h2 he2 hs2 => ?_⟩
    have hs2 : Heap.SameBut it h' h2 := hs2
    have hilt : it < s.heap.objs.size := Heap.lt_size he
    have hnS : s.heap.objs.size ≠ it := Nat.ne_of_gt hilt
    have hfr : H s.heap.objs.size = none := I.hok.fresh (Nat.le_refl _)
    have hT2 : h2.get? s.heap.objs.size = some { cls := .type "tuple", data := .seq #[key, vs[i].2] } := (hs2.2 _ hnS).trans hT
    refine ⟨.ref s.heap.objs.size, upd H s.heap.objs.size (.tup [kV kvs[i].1, kvs[i].2]), I.turnLaid (t' := s.toks) (ch := [it]) (fun b o hb q => ?_) hf (Nat.le_refl _) ?_, rfl, ⟨s.heap.objs.size, rfl, hfr, fun kv hkv => ?_⟩, ⟨_, _, by rw [hlen]; exact he2⟩, fun b hb => ?_⟩
    · have h1 : b ≠ it := fun z => hb (by simp [z])
      exact (hs2.2 b h1).trans (hk b o h1 q)
    · exact ⟨by show 2 ≤ sizeLine; decide, [key, vs[i].2], .cons (by rw [rk.1]; exact is_rel hkey) (.cons rk.2 .nil), ⟨_, hT2, rfl, _, rfl⟩⟩
    · have : kvs[i] = kv := by simpa [hi] using hkv
      rw [← this]
    · have z : b = it := by simpa using hb
      subst z
      rw [upd_ne hnS.symm]
      exact (hf _ hb).1
  done := by
    intro X hP hw hK hc i pins s σ H E I hf st hg
    subst hP hw hK
    obtain ⟨ok, ov, he⟩ := st
    obtain ⟨hfz, hi⟩ := hg
    obtain ⟨vs, rel, hD⟩ := frz_at I hfz hep
    have hlen : kvs.length = vs.length := KV.length rel
    refine wpAny_pyNext_items_end (knd := mixKind X.prog X.w) (kvs := vs) (I.ok.hd hc) (by rw [← hlen]; exact he) hD (by simp; omega) fun h' eb => ⟨rfl, ?_⟩
    exact I.turnedL (t' := s.toks) (ch := [it]) (fun b o hb q => eb b o (fun z => hb (by simp [z])) q) hf
  self := fun A i s Q E st h => by
    obtain ⟨ok, ov, he⟩ := st
    have hT : s.TypeIs (.ref it) "dict_itemiterator" := ⟨_, he, rfl⟩
    exact wpAny_pyIter_slot hT F.slot_dict_itemiterator_iter (wpAny_call_entry F.slot_dict_itemiterator_iter hT gx_entry_iiter (show wpAny _ _ (ret (.ref it)) _ _ s from wpAny_pure ⟨_, rfl, "dict_itemiterator", _, hT, F.slot_dict_itemiterator_next.lookup, h⟩) (F.args_dict_itemiterator_iter_1 _))
section
variable {X : Cx}

def iItems (td : TE) : TI := fun σ H R => td σ H fun x H1 => ∃ d kvs, x = .ref d ∧ ((H1 d = some (.dK kvs) ∧ ∀ o, R (Itd o d kvs) (upd H1 d (.frz o (.dK kvs)))) ∨ ∃ o, H1 d = some (.frz o (.dK kvs)) ∧ R (Itd o d kvs) H1)
theorem pi_items {l : Expr} {td : TE} {apos cpos tpos : Pos} {elts : List Expr} {k : Nat} (hl : PE X l td) (hbase : attributeBase l "items" X.env (eval l X.env) = eval l X.env := by rfl) (hline : (apos.endLine == cpos.line) = true := by rfl) :
    PI X (.Tuple elts k tpos) (.Call (.Attribute l "items" apos) [] [] cpos) (iItems td) := by
  intro pins s σ H R I h
  refine wpAny_Call_method0_late hbase hline (thn (hl pins s σ H _ I h) fun v s1 ⟨x, H1, I1, r1, q1⟩ => ?_)
  obtain ⟨d, kvs, rfl, q1⟩ := q1
  cases r1
  have key : ∃ o H2, Inv X pins σ H2 s1 ∧ H2 d = some (.frz o (.dK kvs)) ∧ R (Itd o d kvs) H2 := by
    rcases q1 with ⟨e, q⟩ | ⟨o, e, q⟩
    · obtain ⟨o, ho, I2⟩ := I1.freeze e
      exact ⟨o, _, I2, upd_same, q o⟩
    · exact ⟨o, H1, I1, e, q⟩
  obtain ⟨o, H2, I2, e2, q⟩ := key
  obtain ⟨ho, z, hd, vs, rel, dd⟩ := I2.hok d _ e2
  obtain ⟨o', es, ep, ho', hx, hdat, r⟩ := id dd
  rw [ho] at ho'
  cases ho'
  refine ⟨"dict", "dict.items", PySem.F.plainAttrs_dict, PySem.F.slot_dict_items, PySem.F.type_dict_items, dd.typeIs, fun b q => ?_, Calls.callWith_builtin rfl (PySem.evalArgs_none ?_)⟩
  · cases q
    exact ⟨o, ho, hx.2.1⟩
  refine call_meetsIn PySem.F.slot_dict_items dd.typeIs PySem.F.entry_dict_items (PySem.F.args_dict_items_1 _) (meets_dict_items (mixKind X.prog X.w) d hd) ⟨⟨vs, dd⟩, ?_⟩
  have I3 : Inv X pins σ H2 { s1 with heap := s1.heap.push { cls := .type "dict_items", data := .fields #[.ref d] } } := I2.kept (t' := s1.toks) fun b o e => Heap.get?_push_of_some _ e
  obtain ⟨vs3, rel3, hD3⟩ := frz_at I3 e2 hdat
  refine wpAny_pyIter_items (knd := mixKind X.prog X.w) (kvs := vs3) (ep := ep) ⟨_, Heap.get?_push_size _ rfl, rfl, rfl⟩ hD3 ?_
  have hlen : kvs.length = vs3.length := KV.length rel3
  rw [← hlen]
  generalize hh3 : s1.heap.push { cls := .type "dict_items", data := .fields #[.ref d] } = h3 at I3 ⊢
  refine ⟨h3.objs.size, [h3.objs.size], _, _, H2, rfl, I3.kept (t' := s1.toks) fun b o e => Heap.get?_push_of_some _ e, turn_items o d h3.objs.size kvs es ep hdat, ⟨_, _, Heap.get?_push_size _ rfl⟩, fun b hb => ?_, q⟩
  have z : b = h3.objs.size := by simpa using hb
  subst z
  exact I3.fpOk (Nat.le_refl _) (I3.hok.fresh (Nat.le_refl _))
theorem for_items {o : Obj} {d : Addr} {kvs : List (Key × V)} {g : TG} {tb : TS} {D : Ends} {σ : St} {H : Hp} (Pv : Nat → St → Hp → Prop) (h0 : Pv 0 σ H) (hl : ∀ i σ H, i ≤ kvs.length → Pv i σ H → H d = some (.frz o (.dK kvs)))
    (hs : ∀ i kv σ H b, kvs[i]? = some kv → Pv i σ H → H b = none → g (.ref b) σ (upd H b (.tup [kV kv.1, kv.2])) fun σ2 H2 => tb { D with nx := Pv (i + 1), ct := Pv (i + 1), bk := D.nx } σ2 H2) (hd : ∀ σ H, Pv kvs.length σ H → D.nx σ H) :
    ∃ W : Nat → Nat → St → Hp → Prop, (∃ m, W 0 m σ H) ∧ ∀ i m σ H, W i m σ H → ((Itd o d kvs).stop i H ∧ D.nx σ H) ∨ ((Itd o d kvs).go i H ∧ ∃ N : St → Hp → Prop, (∀ σ' H', N σ' H' → ∃ m', m' < m ∧ W (i + 1) m' σ' H') ∧ ∀ x H', (Itd o d kvs).yld i H x H' → g x σ H' fun σ2 H2 => tb { D with nx := N, ct := N, bk := D.nx } σ2 H2) := by
  refine ⟨fun i m σ H => m = kvs.length - i ∧ i ≤ kvs.length ∧ Pv i σ H, ⟨kvs.length, by simp, Nat.zero_le _, h0⟩, ?_⟩
  rintro i m σ H ⟨rfl, hi, p⟩
  have q := hl i σ H hi p
  by_cases hlt : i < kvs.length
  · refine .inr ⟨⟨q, hlt⟩, Pv (i + 1), fun σ' H' p' => ⟨kvs.length - (i + 1), by omega, rfl, hlt, p'⟩, fun x H' y => ?_⟩
    obtain ⟨b, rfl, hb, y⟩ := y
    rw [y kvs[i] (by simp [hlt])]
    exact hs i kvs[i] σ H b (by simp [hlt]) p hb
  · have e : i = kvs.length := by omega
    subst e
    exact .inl ⟨⟨q, rfl⟩, hd σ H p⟩
end

section
variable {X : Cx} {o e f : Expr} {apos cpos : Pos} {td ty tx : TE}
def tDSetd (td ty tx : TE) : TE := fun σ H Q => td σ H fun x H1 => ∃ a, x = .ref a ∧ IsD H1 a ∧ ty σ H1 fun y H2 => tx σ H2 fun z H3 => ∃ kvs k, H3 a = some (.dK kvs) ∧ y = kV k ∧ kvs.length < sizeLine ∧
  (∀ v, valV kvs k = some v → Q v H3) ∧ (valV kvs k = none → Q z (upd H3 a (.dK (putK kvs k z))))
theorem pe_dsetd (ho : PE X o td) (he : PE X e ty) (hf : PE X f tx) (m : M2 X o "setdefault" apos e f cpos) : PE X (.Call (.Attribute o "setdefault" apos) [e, f] [] cpos) (tDSetd td ty tx) := by
  intro pins s σ H Q I h
  refine wpAny_Call_method m.base m.few m.line PySem.F.plainAttrs_dict PySem.F.slot_dict_setdefault PySem.F.type_dict_setdefault (thn (ho pins s σ H _ I h) fun u s1 ⟨x, H1, I1, rx, a, ex, d, q1⟩ => ?_)
  subst ex
  obtain rfl : u = Value.ref a := rx
  obtain ⟨t1, t2, _⟩ := isD_at I1 d
  refine ⟨t1, t2, ?_⟩
  rw [m.trees]
  refine Calls.callWith_builtin rfl (Calls.evalArgs_plain (Calls.spliced_cons (thn (he pins s1 σ H1 _ I1 q1) fun iv s2 ⟨y, H2, I2, ry, q2⟩ => Calls.spliced_cons (thn (hf pins s2 σ H2 _ I2 q2) fun fv s3 ⟨z, H3, I3, rz, kvs, k, ea, ey, hl, q3, q4⟩ => Calls.spliced_nil ?_))))
  subst ey
  obtain ⟨hz, hd, vs, rel, dd⟩ := dk_of I3.hok ea
  refine call_meetsIn PySem.F.slot_dict_setdefault dd.typeIs PySem.F.entry_dict_setdefault (PySem.F.args_dict_setdefault_3 _ _ _) (kt_meets_setdefault (mixKind X.prog X.w) a (kV_is ry) hd fv) ⟨vs, dd, by rw [← rel.length]; exact hz, fun v hv => ?_, fun hn h' dd' hs => ?_⟩
  · have rv := rel.val k
    rw [hv] at rv
    cases l : valV kvs k with
    | none => rw [l] at rv; exact absurd rv (by intro z; cases z)
    | some v' =>
      rw [l] at rv
      exact ⟨v', H3, I3.tok _, rv, q3 v' l⟩
  · have rv := rel.val k
    rw [hn] at rv
    have l : valV kvs k = none := by
      cases l : valV kvs k with
      | none => rfl
      | some v' => rw [l] at rv; exact absurd rv (by intro z; cases z)
    have hex : ∃ q, h'.get? a = some q := let ⟨q, _, _, hq, _⟩ := dd'; ⟨q, hq⟩
    have hlp : (putK kvs k z).length ≤ sizeLine := by have := length_putK kvs k z; omega
    exact ⟨z, _, d_write I3 (by rw [ea]; exact True.intro) hs hex (dk_new hlp hd (rel.put k rz) dd'), rz, q4 l⟩
end
end L2

set_option Elab.async false
set_option linter.all false
set_option maxRecDepth 100000
set_option maxHeartbeats 4000000
namespace L2
open PySem PySem.Spec PyProof.Rows


def Itn (hi : Int) (n : Nat) : It := ⟨fun i _ => i < n, fun i H x H' => H' = H ∧ x = .int (hi - i), fun i _ => n ≤ i⟩
theorem turn_down {P : Program} {w : World} {K : PySem.W.Frag} {tg : Expr} (it : Addr) (hi : Int) (n : Nat) : Turn P w K tg (Itn hi n) [it] it (fun i h => IsRangeIter h it (hi + (i : Nat) * (-1)) ((n : Int) - (i : Nat)) (-1)) where
  mem := by simp
  obj := fun i h st b hb => by
    have e : b = it := by simpa using hb
    subst e
    exact ⟨_, st, fun v z => by cases (show Data.fields _ = Data.cell v from z)⟩
  keep := fun i h h' st k => k it (by simp) _ st
  item := by
    intro X hP hw hK hc i pins s σ H E I hf st hg
    subst hP hw hK
    refine (Walks.range (prog := X.prog) (w := X.w) (I.ok.hd hc) it hi (-1) n).item i s _ _ hg st fun v h' tk hv st' kk => ?_
    obtain ⟨t, rfl⟩ := hv
    have I1 : Inv X pins σ H { s with heap := h', toks := tk } := I.turnedL (ch := [it]) (fun b o hb e => kk b o hb e) hf
    have e : hi + (i : Int) * (-1) = hi - (i : Int) := by omega
    exact ⟨_, rfl, go_of (s := { s with heap := h', toks := tk }) (n := "range_iterator") st' rfl rfl (by decide) ⟨.int (hi - i), H, I1, ⟨t, by rw [e]⟩, ⟨rfl, rfl⟩, st', fun b hb => (hf b hb).1⟩⟩
  done := by
    intro X hP hw hK hc i pins s σ H E I hf st hg
    subst hP hw hK
    exact wpAny_pyNext_range_end (I.ok.hd hc) st (by have : n ≤ i := hg; omega) fun h' eb => ⟨rfl, I.turnedL (t' := s.toks) (ch := [it]) (fun b o hb e => eb b o (fun z => hb (by simp [z])) e) hf⟩
  self := fun _ _ _ _ _ st h => wpAny_pyIter_rangeiter st h
theorem rangeSize_down (a b : Int) : Builtin.Range.rangeSize a b (-1) = if b < a then a - b else 0 := by
  unfold Builtin.Range.rangeSize
  rw [if_neg (by decide)]
  have : (-(-1) : Int) = 1 := by decide
  rw [this]
  rw [Int.ediv_one]
  by_cases h : b < a
  · rw [if_pos h, if_pos h]; omega
  · rw [if_neg h, if_neg h]
theorem small_down {a b : Int} (ha : -(2 ^ 60) ≤ a) (ha' : a < 2 ^ 60) (hb : -(2 ^ 60) ≤ b) (hb' : b < 2 ^ 60) : Builtin.Range.small a b (-1) = true := by
  unfold Builtin.Range.small
  rw [rangeSize_down]
  simp only [Builtin.Range.rangeFitsLong, Bool.and_eq_true, Bool.or_eq_true, decide_eq_true_eq, beq_iff_eq, show ¬ ((-1 : Int) > 0) by decide, if_false]
  by_cases h : b < a
  · simp only [if_pos h]; omega
  · simp only [if_neg h]; omega
section
variable {X : Cx} {tg : Expr}
def iDown (ta : TA) : TI := fun σ H R => ta σ H fun vs H1 => ∃ i j : Int, vs = [.int i, .int j, .int (-1)] ∧ (-(2 ^ 60) ≤ i ∧ i < 2 ^ 60 ∧ -(2 ^ 60) ≤ j ∧ j < 2 ^ 60) ∧ R (Itn i (i - j).toNat) H1
theorem pi_down {a b c : Expr} {ta : TA} {p pos : Pos} (hg : Gl X "range") (hm : X.mg "range" = none) (ha : PA X [a, b, c] ta) (hs : starEach [a, b, c] X.env = (false, eval a X.env) :: starEach [b, c] X.env := by rfl) (hs2 : (backTo pos (starEach [b, c] X.env)).any (·.1) = false := by rfl) :
    PI X tg (.Call (.Name "range" p) [a, b, c] [] pos) (iDown ta) := by
  intro pins s σ H R I h
  refine Call_ (ld_blt I hg hm boot_range (PyProof.Rows.callWith_type1 (thn (ha pos pins s σ H _ I h) fun us s1 ⟨vs, H1, I1, r1, q1⟩ => ?_) hs hs2))
  obtain ⟨i, j, e, ⟨q1, q2, q3, q4⟩, q⟩ := q1
  subst e
  cases r1 with
  | cons r rr =>
    cases rr with
    | cons r' rr =>
      cases rr with
      | cons r'' rr =>
        cases rr
        obtain ⟨t, rfl⟩ := r
        obtain ⟨t', rfl⟩ := r'
        obtain ⟨t'', rfl⟩ := r''
        refine call_range_3 (by decide) ?_ (.inl (PyProof.noPylong_small (by omega)))
        refine wpAny_pyIter_range (IsRange.new ..) (small_down q1 q2 q3 q4) ?_
        have I2 : Inv X pins σ H1 { s1 with heap := s1.heap.push { cls := .type "range", data := .fields #[.int i t, .int j t', .int (-1) t''] }, toks := s1.toks } := I1.kept fun b o e => Heap.get?_push_of_some _ e
        refine ⟨_, [(s1.heap.push { cls := .type "range", data := .fields #[.int i t, .int j t', .int (-1) t''] }).objs.size], _, _, H1, rfl, I2.kept (t' := s1.toks) fun b o e => Heap.get?_push_of_some _ e, turn_down _ i (i - j).toNat, ?_, fun b hb => ?_, q⟩
        · have e1 : i + ((0 : Nat) : Int) * (-1) = i := by omega
          have e2 : (((i - j).toNat : Nat) : Int) - ((0 : Nat) : Int) = Builtin.Range.rangeSize i j (-1) := by rw [rangeSize_down]; split <;> omega
          show IsRangeIter _ _ (i + ((0 : Nat) : Int) * (-1)) ((((i - j).toNat : Nat) : Int) - ((0 : Nat) : Int)) (-1)
          rw [e1, e2]
          exact Heap.get?_push_size _ rfl
        · have e : b = (s1.heap.push { cls := .type "range", data := .fields #[.int i t, .int j t', .int (-1) t''] }).objs.size := by simpa using hb
          subst e
          exact I2.fpOk (Nat.le_refl _) (I2.hok.fresh (Nat.le_refl _))
theorem for_down {hi : Int} {n : Nat} {g : TG} {tb : TS} {D : Ends} {σ : St} {H : Hp} (Pv : Nat → St → Hp → Prop) (h0 : Pv 0 σ H) (hs : ∀ i σ H, i < n → Pv i σ H → g (.int (hi - i)) σ H fun σ2 H2 => tb { D with nx := Pv (i + 1), ct := Pv (i + 1), bk := D.nx } σ2 H2) (hd : ∀ σ H, Pv n σ H → D.nx σ H) :
    ∃ W : Nat → Nat → St → Hp → Prop, (∃ m, W 0 m σ H) ∧ ∀ i m σ H, W i m σ H → ((Itn hi n).stop i H ∧ D.nx σ H) ∨ ((Itn hi n).go i H ∧ ∃ N : St → Hp → Prop, (∀ σ' H', N σ' H' → ∃ m', m' < m ∧ W (i + 1) m' σ' H') ∧ ∀ x H', (Itn hi n).yld i H x H' → g x σ H' fun σ2 H2 => tb { D with nx := N, ct := N, bk := D.nx } σ2 H2) := by
  refine ⟨fun i m σ H => m = n - i ∧ i ≤ n ∧ Pv i σ H, ⟨n, by simp, Nat.zero_le _, h0⟩, ?_⟩
  rintro i m σ H ⟨rfl, hi', p⟩
  by_cases hlt : i < n
  · refine .inr ⟨hlt, Pv (i + 1), fun σ' H' p' => ⟨n - (i + 1), by omega, rfl, hlt, p'⟩, fun x H' y => ?_⟩
    obtain ⟨e, y⟩ := y
    subst e y
    exact hs i σ _ hlt p
  · have e : i = n := by omega
    subst e
    exact .inl ⟨Nat.le_refl _, hd σ H p⟩
end
end L2

set_option Elab.async false
set_option linter.all false
set_option maxRecDepth 100000
set_option maxHeartbeats 4000000
namespace L2
open PySem PySem.Spec PyProof.Rows

theorem pss_cut {X : Cx} {st : Stmt} {rest : List Stmt} {t u : TS} (h1 : PS X st t) (h2 : PSs X rest u) : PSs X (st :: rest) (fun D σ H => ∃ M : St → Hp → Prop, t { D with nx := M } σ H ∧ ∀ σ' H', M σ' H' → u D σ' H') := by
  intro pins s σ H D I h
  obtain ⟨M, h, hm⟩ := h
  refine wpAny_execs_cons (thn (h1 pins s σ H { D with nx := M } I h) fun f s1 q => ?_)
  cases f with
  | next =>
    obtain ⟨σ', H', I', q⟩ := q
    exact h2 pins s1 σ' H' D I' (hm _ _ q)
  | ret v => exact q
  | brk => exact q
  | cont => exact q
end L2

set_option Elab.async false
set_option linter.all false
set_option maxRecDepth 100000
set_option maxHeartbeats 4000000
namespace L2
open PySem PySem.Spec PyProof.Rows

end L2

set_option Elab.async false
set_option linter.all false
set_option maxRecDepth 100000
set_option maxHeartbeats 4000000
namespace L2
open PySem PySem.Spec PyProof.Rows PySem.W

theorem Paired.len {α β : Type} {R : α → β → Prop} : ∀ {xs : List α} {ys : List β}, Paired R xs ys → xs.length = ys.length
  | _, _, .nil => rfl
  | _, _, .cons _ r => by rw [List.length_cons, List.length_cons, Paired.len r]
def selfV : V → Bool
  | .int _ => true
  | .ref _ => true
  | _ => false
end L2

set_option Elab.async false
set_option linter.all false
set_option maxRecDepth 100000
set_option maxHeartbeats 4000000
namespace L2
open PySem PySem.Spec PyProof.Rows

end L2

set_option Elab.async false
set_option linter.all false
set_option maxRecDepth 100000
set_option maxHeartbeats 4000000
namespace L2
open PySem PySem.Spec PyProof.Rows

def Lay (n : Nat) (d : PyData) : Prop := PyData.canLay0 d = true ∧ PyData.depth d ≤ n
theorem Lay.int {n : Nat} (i : Int) : Lay n (.int i) := ⟨by unfold PyData.canLay0; rfl, by unfold PyData.depth; exact Nat.zero_le _⟩
theorem Lay.bool {n : Nat} (b : Bool) : Lay n (.bool b) := ⟨by unfold PyData.canLay0; rfl, by unfold PyData.depth; exact Nat.zero_le _⟩
theorem Lay.none {n : Nat} : Lay n .none := ⟨by unfold PyData.canLay0; rfl, by unfold PyData.depth; exact Nat.zero_le _⟩
theorem Lay.str {n : Nat} {x : Str} (h : PyData.strOk x = true) : Lay n (.str x) := ⟨by unfold PyData.canLay0; exact h, by unfold PyData.depth; exact Nat.zero_le _⟩
theorem lays {n : Nat} : ∀ {ds : List PyData}, (∀ d ∈ ds, Lay n d) → PyData.canLayAll0 ds = true ∧ PyData.depthAll ds ≤ n
  | [], _ => ⟨by unfold PyData.canLayAll0; rfl, by unfold PyData.depthAll; exact Nat.zero_le _⟩
  | d :: ds, h => by
    have h1 := h d List.mem_cons_self
    have h2 := lays (fun x hx => h x (List.mem_cons_of_mem _ hx))
    constructor
    · unfold PyData.canLayAll0; rw [h1.1, h2.1]; rfl
    · unfold PyData.depthAll; exact Nat.max_le.mpr ⟨h1.2, h2.2⟩
theorem Lay.list {n : Nat} {ds : List PyData} (h : ∀ d ∈ ds, Lay n d) : Lay (n + 1) (.list ds) := by
  have h2 := lays h
  exact ⟨by unfold PyData.canLay0; exact h2.1, by unfold PyData.depth; have := h2.2; omega⟩
theorem Lay.tuple {n : Nat} {ds : List PyData} (h : ∀ d ∈ ds, Lay n d) : Lay (n + 1) (.tuple ds) := by
  have h2 := lays h
  exact ⟨by unfold PyData.canLay0; exact h2.1, by unfold PyData.depth; have := h2.2; omega⟩
theorem Lay.shaped {n : Nat} {d : PyData} (h : Lay n d) (hn : n ≤ 64) : SeqAt.shaped d = true := by
  unfold SeqAt.shaped
  rw [h.1, decide_eq_true (Nat.le_trans h.2 hn)]
  rfl
theorem Lay.refl {n : Nat} {d : PyData} (h : Lay n d) : PyData.eqv d d = true := SeqAt.eqv_refl d h.1
theorem Lay.mono {n m : Nat} {d : PyData} (h : Lay n d) (hn : n ≤ m) : Lay m d := ⟨h.1, Nat.le_trans h.2 hn⟩

theorem rEqD_same {K : PySem.W.Frag} {x y : V} {H : Hp} {Q : VK} {d : PyData} {n : Nat} (hn : n ≤ 64) (l : Lay n d) (hx : DatV K H d x) (hy : DatV K H d y) (q : Q (.bl true) H) : rEqD K x y H Q :=
  ⟨d, d, hx, hy, l.shaped hn, l.shaped hn, by rw [l.refl]; exact q⟩
mutual
theorem DatV.mono {K : PySem.W.Frag} {H H' : Hp} (e : Same H H') : ∀ (d : PyData) (v : V), DatV K H d v → DatV K H' d v
  | .none, v, h => by unfold DatV at h ⊢; exact h
  | .bool b, v, h => by unfold DatV at h ⊢; exact h
  | .int i, v, h => by unfold DatV at h ⊢; exact h
  | .str x, v, h => by unfold DatV at h ⊢; exact h
  | .list ds, v, h => by
    unfold DatV at h ⊢
    obtain ⟨a, xs, rfl, hq, hd⟩ := h
    exact ⟨a, xs, rfl, e.seq hq, DatAll.mono e ds xs hd⟩
  | .tuple ds, v, h => by
    unfold DatV at h ⊢
    obtain ⟨a, xs, rfl, hq, hd⟩ := h
    exact ⟨a, xs, rfl, e.tup hq, DatAll.mono e ds xs hd⟩
  | .dict _, v, h => by unfold DatV at h; exact h.elim
theorem DatAll.mono {K : PySem.W.Frag} {H H' : Hp} (e : Same H H') : ∀ (ds : List PyData) (xs : List V), DatAll K H ds xs → DatAll K H' ds xs
  | [], xs, h => by unfold DatAll at h ⊢; exact h
  | d :: ds, xs, h => by
    unfold DatAll at h ⊢
    obtain ⟨x, r, rfl, hd, hds⟩ := h
    exact ⟨x, r, rfl, DatV.mono e d x hd, DatAll.mono e ds r hds⟩
end

def ers (l : Addr) (H : Hp) : Hp := fun b => if b = l then none else H b
theorem ers_ne {l b : Addr} {H : Hp} (h : b ≠ l) : ers l H b = H b := by unfold ers; rw [if_neg h]
theorem ers_same {l : Addr} {H : Hp} : Same (ers l H) H := fun b o h => by
  unfold ers at h
  split at h
  · cases h
  · exact h
theorem ers_upd {l : Addr} {H : Hp} {o : HO} : ers l (upd H l o) = ers l H := by
  funext b
  unfold ers upd
  split <;> rfl
theorem Same.ers {l : Addr} {H H' : Hp} (e : Same H H') : Same (ers l H) (ers l H') := fun b o h => by
  unfold L2.ers at h ⊢
  split at h
  · cases h
  · rename_i hb
    rw [if_neg hb]
    exact e b o h
theorem ixI {n : Nat} {i : Int} (h0 : 0 ≤ i) (h : i < n) : ixN n i = some i.toNat := by
  unfold ixN
  rw [if_pos h0, if_pos h]
end L2
namespace L2
open PySem PySem.Spec PyProof.Rows

section
variable {g : TG} {tif : TT} {te : TE} {js : List (Option Nat)} {σ : St} {H : Hp} {Q : VK}
theorem comp_mapR {lo : Int} {n : Nat} {p : Addr} (f : Nat → V) (hn : n ≤ 1000000) (hp : H p = none)
    (hs : ∀ i H2 (R : VK), i < n → Same H H2 → R (f i) H2 → g (.int (lo + i)) (cap js σ) H2 fun σ2 H3 => tif σ2 H3 fun c H4 => if c = true then te σ2 H4 R else False)
    (hd : ∀ H2, Same H H2 → H2 p = some (.lst ((List.range n).map f)) → Q (.ref p) H2) (mono : ∀ x H2 (M M' : St → Hp → Prop), (∀ σ' H', M σ' H' → M' σ' H') → g x (cap js σ) H2 M → g x (cap js σ) H2 M' := by intro _ _ _ _ h z; exact h _ _ z) (mon2 : ∀ σ2 H2 (M M' : Bool → Hp → Prop), (∀ c H', M c H' → M' c H') → tif σ2 H2 M → tif σ2 H2 M' := by intro _ _ _ _ h z; exact h _ _ z) :
    CompW (Itr lo n) g tif te js σ Q p H := by
  refine comp_range hn (fun i acc H2 => Same H H2 ∧ H2 p = some (.lst acc) ∧ acc = (List.range i).map f) ⟨Same.new hp, upd_same, rfl⟩ ?_ ?_ ?_
  · rintro i acc H2 hi ⟨s2, e2, rfl⟩
    exact ⟨e2, by rw [List.length_map, List.length_range]; exact Nat.le_refl _⟩
  · rintro i acc H2 hi ⟨s2, e2, rfl⟩
    refine mono _ _ _ _ (fun σ' H' z => ?_) (hs i H2 (fun y H5 => H5 p = some (.lst ((List.range i).map f)) ∧ (Same H (upd H5 p (.lst ((List.range i).map f ++ [y]))) ∧ upd H5 p (.lst ((List.range i).map f ++ [y])) p = some (.lst ((List.range i).map f ++ [y])) ∧ (List.range i).map f ++ [y] = (List.range (i + 1)).map f)) hi s2 ⟨e2, s2.upd hp, upd_same, ?_⟩)
    · refine mon2 _ _ _ _ (fun c H'' zz => ?_) z
      cases c with
      | true => exact zz
      | false => exact zz.elim
    · rw [List.range_succ, List.map_append]
      rfl
  · rintro acc H2 ⟨s2, e2, rfl⟩
    exact hd H2 s2 e2
end
end L2
namespace Gx
open PySem L2
theorem le0 : 0 ≤ sizeLine := by decide
theorem le1 : 1 ≤ sizeLine := by decide
theorem le2 : 2 ≤ sizeLine := by decide
theorem le3 : 3 ≤ sizeLine := by decide
theorem le4 : 4 ≤ sizeLine := by decide
theorem lt_line {n : Nat} (h : n < 1000000) : n ≤ sizeLine := by
  have : (1000000 : Nat) < sizeLine := by decide
  omega
theorem at0 {x : V} {r : List V} : atI (x :: r) 0 = some x := by
  unfold atI ixN
  rw [if_pos (by decide), if_pos (by simp)]
  rfl
theorem vq {Q : VK} {H : Hp} {x y : V} (h : x = y) (q : Q y H) : Q x H := by subst h; exact q
theorem pw48 : ((2 : Int) ^ (48 : Int).toNat) = 281474976710656 := by decide
theorem pos48 : (0 : Int) < (2 : Int) ^ (48 : Int).toNat := by decide
theorem sg_len : ((("+-*/<=&|^" : Str).cps.toList.length : Nat) : Int) = 9 := by decide +kernel
theorem sg_fit : ("+-*/<=&|^" : Str).length ≤ sizeLine := by decide +kernel
theorem emod_bd (z n : Int) (h : 0 < n) : 0 ≤ z % n ∧ z % n < n := ⟨Int.emod_nonneg _ (by omega), Int.emod_lt_of_pos _ h⟩
theorem map_at {α : Type} {es : List α} {f : α → V} {i : Nat} {x : V} (h : (es.map f)[i]? = some x) : ∃ e, es[i]? = some e ∧ e ∈ es ∧ x = f e := by
  rw [List.getElem?_map] at h
  cases he : es[i]? with
  | none => rw [he] at h; cases h
  | some e => rw [he] at h; cases h; exact ⟨e, rfl, List.mem_of_getElem? he, rfl⟩
end Gx

set_option Elab.async false
set_option linter.all false
set_option maxRecDepth 100000
set_option maxHeartbeats 4000000
namespace L2
open PySem PySem.Spec PyProof.Rows

section
variable {X : Cx} {tg : Expr}
end
section
variable {g : TG} {tif : TT} {te : TE} {js : List (Option Nat)} {σ : St} {H : Hp} {Q : VK}
end

end L2
namespace Gx
open PySem L2

def tx (l : List Nat) : Str := ⟨l.toArray⟩
theorem tx_cps (l : List Nat) : (tx l).cps.toList = l := by unfold tx; simp
theorem tx_len (l : List Nat) : (tx l).length = l.length := by unfold tx Str.length; simp
theorem tx_app (a b : List Nat) : tx a ++ tx b = tx (a ++ b) := by
  show (⟨_ ++ _⟩ : Str) = _
  unfold tx
  simp
theorem tx_inj {a b : List Nat} (h : tx a = tx b) : a = b := by rw [← tx_cps a, h, tx_cps]
theorem join_cons (y : Str) (ys : List Str) : PySem.Txt.join "" (y :: ys) = y ++ PySem.Txt.join "" ys := by
  show PySem.Builtin.Str.glued ("" : Str) (y :: ys) = y ++ PySem.Builtin.Str.glued ("" : Str) ys
  rw [PySem.StrLaws.glued_eq_join, PySem.StrLaws.glued_eq_join]
  cases ys with
  | nil =>
    show y = y ++ Str.empty
    cases y
    show _ = (⟨_ ++ #[]⟩ : Str)
    simp
  | cons z zs =>
    show y ++ "" ++ Str.join "" (z :: zs) = _
    have : y ++ ("" : Str) = y := by
      cases y
      show (⟨_ ++ #[]⟩ : Str) = _
      simp
    rw [this]
theorem tx_join : ∀ (ls : List (List Nat)), PySem.Txt.join "" (ls.map tx) = tx ls.flatten
  | [] => by
    show PySem.Builtin.Str.glued ("" : Str) [] = _
    rw [PySem.StrLaws.glued_eq_join]
    rfl
  | l :: ls => by rw [List.map_cons, join_cons, tx_join ls, tx_app, List.flatten_cons]
end Gx

set_option Elab.async false
set_option linter.all false
set_option maxRecDepth 100000
set_option maxHeartbeats 4000000
namespace PySem
open PySem.SeqAt
end PySem
namespace L2
open PySem PySem.Spec PyProof.Rows

end L2

set_option Elab.async false
set_option linter.all false
set_option maxRecDepth 100000
set_option maxHeartbeats 4000000
namespace L2
open PySem PySem.Spec PyProof.Rows


def ItE (K : PySem.W.Frag) (a : Addr) : It :=
  ⟨fun i H => ∃ xs x, SqL K H a xs ∧ xs[i]? = some x, fun i H y H' => ∃ b, y = .ref b ∧ H b = none ∧ ∀ xs x, SqL K H a xs → xs[i]? = some x → H' = upd H b (.tup [.int i, x]), fun i H => ∃ xs, SqL K H a xs ∧ xs.length = i⟩
theorem turn_enumL {P : Program} {w : World} {K : PySem.W.Frag} {elts : List Expr} {k : Nat} {pos : Pos} (a e it : Addr) (hne : e ≠ it) : Turn P w K (.Tuple elts k pos) (ItE K a) [e, it] e (fun i h => (∃ old, IsEnum h e it i old) ∧ h.IsListIter it a i) where
  mem := by simp
  obj := fun i h st b hb => by
    obtain ⟨⟨old, he⟩, ⟨o, ho, hc, hd⟩⟩ := st
    rcases List.mem_cons.mp hb with z | z
    · subst z
      exact ⟨_, he, fun v z => by cases (show Data.fields _ = Data.cell v from z)⟩
    · have z : b = it := by simpa using z
      subst z
      exact ⟨o, ho, fun v z => by rw [hd] at z; cases z⟩
  keep := fun i h h' st kk => by
    obtain ⟨⟨old, he⟩, ⟨o, ho, r⟩⟩ := st
    exact ⟨⟨old, kk e (by simp) _ he⟩, ⟨o, kk it (by simp) o ho, r⟩⟩
  item := by
    intro X hP hw hK hc i pins s σ H E I hf st hg
    subst hP hw hK
    obtain ⟨⟨old, he⟩, hit⟩ := st
    obtain ⟨xs, x, hq, hx⟩ := hg
    obtain ⟨its, rv, p, hz⟩ := I.list hq
    have pt : s.heap.IsList a its.toArray := p.isList
    obtain ⟨u, hu, ru⟩ := rv.get hx
    have hia : a ≠ it := fun z => by
      subst z
      obtain ⟨o1, h1, c1, _⟩ := hit
      obtain ⟨o2, h2, c2, _⟩ := pt
      rw [h1] at h2
      cases h2
      rw [c1] at c2
      injection c2 with c2
      exact absurd c2 (by decide)
    have hea : e ∉ [it, a] := fun z => by
      rcases List.mem_cons.mp z with z | z
      · exact hne z
      · have z : e = a := by simpa using z
        subst z
        obtain ⟨o2, h2, c2, _⟩ := pt
        rw [he] at h2
        cases h2
        injection (show Value.type "enumerate" = Value.type "list" from c2) with c2
        exact absurd c2 (by decide)
    have hlt : i < its.toArray.size := by
      have := (List.getElem?_eq_some_iff.mp hu).1
      simpa using this
    refine wpAny_pyNext_enum_itemD (Draws.list (A := X.A.in1) (I.ok.hd hc) it a hia its.toArray) he ⟨hit, pt⟩ hlt hne hea fun y h' tk hy hout hst hT hsz hk => ?_
    refine ⟨_, rfl, wpAny_letOwnedTupleGo_enum hout fun h2 he2 hs2 => ?_⟩
    have hs2 : Heap.SameBut e h' h2 := hs2
    have hyu : y = u := by
      have hy : its.toArray[i]? = some y := hy
      have : its[i]? = some y := by simpa using hy
      rw [hu] at this
      exact (Option.some.inj this).symm
    subst hyu
    have helt : e < s.heap.objs.size := Heap.lt_size he
    have hfr : H s.heap.objs.size = none := I.hok.fresh (Nat.le_refl _)
    have hnS : s.heap.objs.size ≠ e := Nat.ne_of_gt helt
    have hT2 : h2.get? s.heap.objs.size = some { cls := .type "tuple", data := .seq #[.int i tk, y] } := (hs2.2 _ hnS).trans hT
    refine ⟨.ref s.heap.objs.size, upd H s.heap.objs.size (.tup [.int i, x]), I.turnLaid (t' := tk + 1) (ch := [e, it]) (fun b o hb q => ?_) hf (Nat.le_refl _) ?_, rfl, ⟨s.heap.objs.size, rfl, hfr, fun xs' x' hq' hx' => ?_⟩, ⟨⟨y, by exact_mod_cast he2⟩, ?_⟩, fun b hb => ?_⟩
    · have h1 : b ≠ e := fun z => hb (by simp [z])
      have h3 : b ≠ it := fun z => hb (by simp [z])
      exact (hs2.2 b h1).trans (hk b o h1 h3 q)
    · exact ⟨by show 2 ≤ sizeLine; decide, [.int i tk, y], .cons ⟨tk, rfl⟩ (.cons ru .nil), ⟨_, hT2, rfl, _, rfl⟩⟩
    · have := I.list_inj hq' hq
      subst this
      rw [hx] at hx'
      cases hx'
      rfl
    · obtain ⟨⟨o, ho, r⟩, _⟩ := hst
      exact ⟨o, (hs2.2 it hne.symm).trans ho, r⟩
    · have hb0 := (hf b hb).1
      rw [upd_ne]
      · exact hb0
      · intro z
        subst z
        obtain ⟨o, ho, _⟩ := hit
        rcases List.mem_cons.mp hb with z | z
        · exact hnS z
        · have z : s.heap.objs.size = it := by simpa using z
          exact absurd (Heap.lt_size ho) (by rw [← z]; exact Nat.lt_irrefl _)
  done := by
    intro X hP hw hK hc i pins s σ H E I hf st hg
    subst hP hw hK
    obtain ⟨⟨old, he⟩, hit⟩ := st
    obtain ⟨xs, hq, hx⟩ := hg
    obtain ⟨its, rv, p, hz⟩ := I.list hq
    have pt : s.heap.IsList a its.toArray := p.isList
    have hl := rv.length
    have hia : a ≠ it := fun z => by
      subst z
      obtain ⟨o1, h1, c1, _⟩ := hit
      obtain ⟨o2, h2, c2, _⟩ := pt
      rw [h1] at h2
      cases h2
      rw [c1] at c2
      injection c2 with c2
      exact absurd c2 (by decide)
    have hi : i = its.toArray.size := by simp; omega
    refine wpAny_pyNext_enum_endD (Draws.list (A := X.A.in1) (I.ok.hd hc) it a hia its.toArray) he (by rw [← hi]; exact ⟨hit, pt⟩) fun h' eb => ⟨rfl, ?_⟩
    exact I.turnedL (t' := s.toks) (ch := [e, it]) (fun b o hb q => eb b o (fun z => hb (by simp [z])) q) hf
  self := fun _ _ _ _ _ st h => by
    obtain ⟨⟨old, he⟩, _⟩ := st
    exact wpAny_pyIter_enum he h
end L2

namespace L2
open PySem PySem.Spec PyProof.Rows
section
variable {X : Cx}

def iEnumL (K : PySem.W.Frag) (ta : TA) : TI := fun σ H R => ta σ H fun vs H1 => ∃ a, vs = [.ref a] ∧ (∃ xs, SqL K H1 a xs) ∧ R (ItE K a) H1
theorem pi_enumL {a : Expr} {ta : TA} {p pos tpos : Pos} {elts : List Expr} {k : Nat} (hg : Gl X "enumerate") (hm : X.mg "enumerate" = none) (ha : PA X [a] ta) (hs : starEach [a] X.env = [(false, eval a X.env)] := by rfl) : PI X (.Tuple elts k tpos) (.Call (.Name "enumerate" p) [a] [] pos) (iEnumL X.K ta) := by
  intro pins s σ H R I h
  refine Call_ (ld_blt I hg hm boot_enum (PyProof.Rows.callWith_type1 (thn (ha pos pins s σ H _ I h) fun us s1 ⟨vs, H1, I1, r1, q1⟩ => ?_) hs rfl))
  obtain ⟨a, e, ⟨xs, hq⟩, q⟩ := q1
  subst e
  cases r1 with
  | cons r rr =>
    cases rr
    cases r
    obtain ⟨its, rv, p, hz⟩ := I1.list hq
    refine call_enumerate_list p.isList fun h' he hit _ hk => ?_
    refine wpAny_pyIter_enum he ?_
    refine ⟨s1.heap.objs.size + 1, [s1.heap.objs.size + 1, s1.heap.objs.size], _, _, H1, rfl, I1.kept (t' := s1.toks) hk, turn_enumL a (s1.heap.objs.size + 1) s1.heap.objs.size (Nat.succ_ne_self _), ⟨⟨.none, he⟩, hit⟩, fun b hb => ?_, q⟩
    rcases List.mem_cons.mp hb with z | z
    · subst z
      exact I1.fpOk (Nat.le_succ _) (I1.hok.fresh (Nat.le_succ _))
    · have z : b = s1.heap.objs.size := by simpa using z
      subst z
      exact I1.fpOk (Nat.le_refl _) (I1.hok.fresh (Nat.le_refl _))

theorem for_enumL {K : PySem.W.Frag} {a : Addr} {xs : List V} {g : TG} {tb : TS} {D : Ends} {σ : St} {H : Hp} (Pv : Nat → St → Hp → Prop) (h0 : Pv 0 σ H) (hl : ∀ i σ H, i ≤ xs.length → Pv i σ H → SqL K H a xs)
    (hs : ∀ i x σ H b, xs[i]? = some x → Pv i σ H → H b = none → g (.ref b) σ (upd H b (.tup [.int i, x])) fun σ2 H2 => tb { D with nx := Pv (i + 1), ct := Pv (i + 1), bk := D.nx } σ2 H2) (hd : ∀ σ H, Pv xs.length σ H → D.nx σ H) :
    ∃ W : Nat → Nat → St → Hp → Prop, (∃ m, W 0 m σ H) ∧ ∀ i m σ H, W i m σ H → ((ItE K a).stop i H ∧ D.nx σ H) ∨ ((ItE K a).go i H ∧ ∃ N : St → Hp → Prop, (∀ σ' H', N σ' H' → ∃ m', m' < m ∧ W (i + 1) m' σ' H') ∧ ∀ x H', (ItE K a).yld i H x H' → g x σ H' fun σ2 H2 => tb { D with nx := N, ct := N, bk := D.nx } σ2 H2) := by
  refine ⟨fun i m σ H => m = xs.length - i ∧ i ≤ xs.length ∧ Pv i σ H, ⟨xs.length, by simp, Nat.zero_le _, h0⟩, ?_⟩
  rintro i m σ H ⟨rfl, hi, p⟩
  have q := hl i σ H hi p
  by_cases hlt : i < xs.length
  · refine .inr ⟨⟨xs, xs[i], q, by simp [hlt]⟩, Pv (i + 1), fun σ' H' p' => ⟨xs.length - (i + 1), by omega, rfl, hlt, p'⟩, fun x H' y => ?_⟩
    obtain ⟨b, rfl, hb, y⟩ := y
    rw [y xs xs[i] q (by simp [hlt])]
    exact hs i xs[i] σ H b (by simp [hlt]) p hb
  · have e : i = xs.length := by omega
    subst e
    exact .inl ⟨⟨xs, q, rfl⟩, hd σ H p⟩
end
end L2

set_option Elab.async false
set_option linter.all false
set_option maxRecDepth 100000
set_option maxHeartbeats 4000000
namespace PySem
open Sem (wp)

def ItB (b : Bool) (h : Heap) (it l : Addr) (k : Nat) : Prop := match b with | true => h.IsTupleIter it l k | false => h.IsListIter it l k
def SqB (b : Bool) (h : Heap) (l : Addr) (xs : Array Value) : Prop := match b with | true => h.IsTuple l xs | false => h.IsList l xs
theorem ItB.at {b : Bool} {h h' : Heap} {it l : Addr} {k : Nat} (p : ItB b h it l k) (e : ∀ o, h.get? it = some o → h'.get? it = some o) : ItB b h' it l k := by
  cases b <;> (obtain ⟨o, ho, r⟩ := p; exact ⟨o, e o ho, r⟩)
theorem SqB.at {b : Bool} {h h' : Heap} {l : Addr} {xs : Array Value} (p : SqB b h l xs) (e : ∀ o, h.get? l = some o → h'.get? l = some o) : SqB b h' l xs := by
  cases b <;> (obtain ⟨o, ho, r⟩ := p; exact ⟨o, e o ho, r⟩)
theorem ItB.extBut {b : Bool} {h h' : Heap} {it l c : Addr} {k : Nat} (p : ItB b h it l k) (e : Heap.ExtBut c h h') (n : it ≠ c) : ItB b h' it l k := p.at fun o ho => e _ _ n ho
theorem SqB.extBut {b : Bool} {h h' : Heap} {l c : Addr} {xs : Array Value} (p : SqB b h l xs) (e : Heap.ExtBut c h h') (n : l ≠ c) : SqB b h' l xs := p.at fun o ho => e _ _ n ho
theorem ItB.lt {b : Bool} {h : Heap} {it l : Addr} {k : Nat} (p : ItB b h it l k) : it < h.objs.size := by
  cases b <;> (obtain ⟨o, ho, r⟩ := p; exact Heap.lt_size ho)
section
variable {prog : Program} {w : World} {A : Around} {E : Value → Shared → Prop} {s : Shared}
end
end PySem

set_option Elab.async false
set_option linter.all false
set_option maxRecDepth 100000
set_option maxHeartbeats 4000000
namespace PySem
open Sem (wp)

end PySem

set_option Elab.async false
set_option linter.all false
set_option maxRecDepth 100000
set_option maxHeartbeats 4000000
namespace PySem
open Sem (wp)
section
variable {prog : Program} {w : World} {A : Around} {E : Value → Shared → Prop} {s : Shared}
end
end PySem
namespace L2
open PySem PySem.Spec PyProof.Rows
theorem SqB.lt {b : Bool} {h : Heap} {l : Addr} {xs : Array Value} (p : SqB b h l xs) : l < h.objs.size := by
  cases b <;> (obtain ⟨o, ho, r⟩ := p; exact Heap.lt_size ho)

section
variable {X : Cx}
end
end L2

set_option Elab.async false
set_option linter.all false
set_option maxRecDepth 100000
set_option maxHeartbeats 4000000
namespace L2
open PySem PySem.Spec PyProof.Rows

structure ClsOk (K : PySem.W.Frag) (mg : Str → Option Value) (name : Str) (C : Addr) : Prop where
  cl : Cls K C
  g : mg name = some (.ref C)
structure IniOk (K : PySem.W.Frag) (C : Addr) (qual : Str) (st : Stmt) (ps : List Str) (f : Addr) (fd : FuncData) : Prop where
  F : Fun K "__init__" qual st f fd
  b : Binds K fd ps []
  M : Mk K C f
section
variable {X : Cx} {k : Nat} {C f : Addr} {fd : FuncData} {ps : List Str} {sp : Sp} {x m qual : Str} {st : Stmt} {p pos apos : Pos} {o e : Expr} {es : List Expr} {ta : TE} {t : TA}
theorem makeD (Cc : ClsOk X.K X.mg x C) (D : IniOk X.K C qual st ps f fd) (G : FnOk X.prog X.w X.K X.mg X.base CX0 k f fd ps sp) (hr : Room (k + 1) X.A) (ha : PA X (e :: es) t) (hg : Gl X x := by rfl)
    (hdb : (x == ("__debug__" : Str)) = false := by decide) (he : starEach (e :: es) X.env = (false, eval e X.env) :: starEach es X.env := by rfl) (hpl : (backTo pos (starEach es X.env)).any (·.1) = false := by rfl) :
    PE X (.Call (.Name x p) (e :: es) [] pos) (tMake C sp [] E0 t) := pe_make D.M G hr hg Cc.g D.b .nil pass0 ha hdb he hpl
theorem iniOk_mk {K : PySem.W.Frag} {C : Addr} {qual : Str} {st : Stmt} {ps : List Str} {f : Addr} {oc : Value} {od an : Option Addr} {osl : Array (Option Value)} {kV doc pm cdv ct : Value}
    (mk : PySem.W.makesIn K C = true) (kc : PySem.W.keepIn K (.ref C) = true) (a : PySem.W.findIn K (.ref C) "__init__" = some (some (.ref f))) (i : PySem.W.isFn K (.ref f) = true) (l : K.lookup f = some ⟨oc, od, .func (PySem.W.fnOf "__init__" qual (defArgs st) (defBody st) (defScope st) .none kV doc pm an cdv ct), osl⟩) (c : PySem.W.codeIn K cdv qual = true) (k : PySem.W.keepIn K (.ref f) = true)
    (b : ∀ (kV doc pm : Value) (an : Option Addr) (cdv ct : Value) (us : List Value), us.length = ps.length → bindArgs (PySem.W.fnOf "__init__" qual (defArgs st) (defBody st) (defScope st) .none kV doc pm an cdv ct) ⟨us, []⟩ = pure (ps.zip us)) :
    IniOk K C qual st ps f (PySem.W.fnOf "__init__" qual (defArgs st) (defBody st) (defScope st) .none kV doc pm an cdv ct) :=
  ⟨fun_mk l c k, (fun_mk l c k).binds b, ⟨mk, a, i, kc⟩⟩
end
theorem u1' {A : Around} (h : A.units + 64 < cLine) : A.units + 1 < cLine := by omega
end L2

set_option Elab.async false
set_option linter.all false
set_option maxRecDepth 100000
set_option maxHeartbeats 4000000
namespace L2
open PySem PySem.Spec PyProof.Rows

section
variable {prog : Program} {w : World} {A : Around} {E : Value → Shared → Prop} {s : Shared}
end
end L2

set_option Elab.async false
set_option linter.all false
set_option maxRecDepth 100000
set_option maxHeartbeats 4000000
namespace L2
open PySem PySem.Spec PyProof.Rows

def sB : Stmt → List Stmt
  | .For _ _ b _ _ => b
  | .While _ b _ _ => b
  | .If _ b _ _ => b
  | _ => []
def sO : Stmt → List Stmt
  | .If _ _ o _ => o
  | _ => []
section
variable {g : TG} {tif : TT} {te : TE} {js : List (Option Nat)} {σ : St} {H : Hp} {Q : VK}

end
end L2

set_option Elab.async false
set_option linter.all false
set_option maxRecDepth 100000
set_option maxHeartbeats 4000000
namespace L2
open PySem PySem.Spec PyProof.Rows

inductive WVar (i : Nat) (σ : St) (H : Hp) (Q : VK) : Prop
  | mk (v : V) (h : σ[i]? = some (some v)) (q : Q v H) : WVar i σ H Q
def cVar (i : Nat) : TE := fun σ H Q => WVar i σ H Q
theorem pvC {X : Cx} (i : Nat) {x : Str} {pos : Pos} (hN : X.N[i]? = some x := by rfl) (hv : Vis X.env.scope x := by first | exact Or.inl rfl | exact Or.inr (Or.inl rfl) | exact Or.inr (Or.inr rfl)) (hd : (x == ("__debug__" : Str)) = false := by decide)
    (hcd : (x == ("__classdict__" : Str)) = false := by decide) : PE X (.Name x pos) (cVar i) := fun pins s σ H Q I h => pv i hN hv hd hcd pins s σ H Q I (let ⟨v, e, q⟩ := h; ⟨v, e, q⟩)
inductive WIxL (K : PySem.W.Frag) (x y : V) (H : Hp) (Q : VK) : Prop
  | mk (p : Addr) (xs : List V) (i : Int) (v : V) (h1 : x = .ref p) (h2 : y = .int i) (h3 : SqL K H p xs) (h4 : atI xs i = some v) (q : Q v H) : WIxL K x y H Q
inductive WIxT (K : PySem.W.Frag) (x y : V) (H : Hp) (Q : VK) : Prop
  | mk (p : Addr) (xs : List V) (i : Int) (v : V) (h1 : x = .ref p) (h2 : y = .int i) (h3 : SqT K H p xs) (h4 : atI xs i = some v) (q : Q v H) : WIxT K x y H Q
def cIxL (K : PySem.W.Frag) : R2 := fun x y H Q => WIxL K x y H Q
def cIxT (K : PySem.W.Frag) : R2 := fun x y H Q => WIxT K x y H Q
theorem IxR.imp {X : Cx} {r r' : R2} (h : IxR X r) (f : ∀ x y H Q, r' x y H Q → r x y H Q) : IxR X r' := fun a b pins s σ H x y v u Q I r1 r2 q z => h a b pins s σ H x y v u Q I r1 r2 (f x y H Q q) z
theorem OpR.imp {X : Cx} {g : Value → Value → Sem Value} {r r' : R2} (h : OpR X g r) (f : ∀ x y H Q, r' x y H Q → r x y H Q) : OpR X g r' := fun pins s σ H x y v u Q I r1 r2 q => h pins s σ H x y v u Q I r1 r2 (f x y H Q q)
theorem CallR.imp {X : Cx} {g : Value} {r r' : List V → Hp → VK → Prop} (h : CallR X g r) (f : ∀ xs H Q, r' xs H Q → r xs H Q) : CallR X g r' := fun pins s σ H xs us Q I r1 q => h pins s σ H xs us Q I r1 (f xs H Q q)
theorem ixC_list {X : Cx} : IxR X (cIxL X.K) := ix_list.imp fun x y H Q h => let ⟨p, xs, i, v, h1, h2, h3, h4, q⟩ := h; ⟨p, xs, i, v, h1, h2, h3, h4, q⟩
theorem ixC_tup {X : Cx} : IxR X (cIxT X.K) := ix_tup.imp fun x y H Q h => let ⟨p, xs, i, v, h1, h2, h3, h4, q⟩ := h; ⟨p, xs, i, v, h1, h2, h3, h4, q⟩
inductive WI (C : Int → Int → Prop) (g : Int → Int → V) (x y : V) (H : Hp) (Q : VK) : Prop
  | mk (i j : Int) (h1 : x = .int i) (h2 : y = .int j) (h3 : C i j) (q : Q (g i j) H) : WI C g x y H Q
inductive WI0 (g : Int → Int → V) (x y : V) (H : Hp) (Q : VK) : Prop
  | mk (i j : Int) (h1 : x = .int i) (h2 : y = .int j) (q : Q (g i j) H) : WI0 g x y H Q
def cI (C : Int → Int → Prop) (g : Int → Int → V) : R2 := fun x y H Q => WI C g x y H Q
def cI0 (g : Int → Int → V) : R2 := fun x y H Q => WI0 g x y H Q
theorem opC1 {X : Cx} {f : Value → Value → Sem Value} {C : Int → Int → Prop} {g : Int → Int → V} (h : OpR X f (rI C g)) : OpR X f (cI C g) := h.imp fun x y H Q h => let ⟨i, j, h1, h2, h3, q⟩ := h; ⟨i, j, h1, h2, h3, q⟩
theorem opC0 {X : Cx} {f : Value → Value → Sem Value} {g : Int → Int → V} (h : OpR X f (rI0 g)) : OpR X f (cI0 g) := h.imp fun x y H Q h => let ⟨i, j, h1, h2, q⟩ := h; ⟨i, j, h1, h2, q⟩
inductive WLen (K : PySem.W.Frag) (xs : List V) (H : Hp) (Q : VK) : Prop
  | mk (p : Addr) (ys : List V) (h1 : xs = [.ref p]) (h2 : SqL K H p ys ∨ SqT K H p ys) (q : Q (.int ys.length) H) : WLen K xs H Q
def cLen (K : PySem.W.Frag) : List V → Hp → VK → Prop := fun xs H Q => WLen K xs H Q
theorem callC_len {X : Cx} : CallR X (.builtin "len") (cLen X.K) := call_len_seq.imp fun xs H Q h => let ⟨p, ys, h1, h2, q⟩ := h; ⟨p, ys, h1, h2, q⟩
inductive WApp (x : V) (vs : List V) (H : Hp) (Q : VK) : Prop
  | mk (l : Addr) (xs : List V) (y : V) (h1 : x = .ref l) (h2 : vs = [y]) (h3 : H l = some (.lst xs)) (h4 : xs.length < sizeLine) (q : Q .non (upd H l (.lst (xs ++ [y])))) : WApp x vs H Q
def cApp : V → List V → Hp → VK → Prop := fun x vs H Q => WApp x vs H Q
theorem mtC_append {X : Cx} : MtM X "list.append" cApp := fun pins s σ H x xs v us Q I r1 r2 q => mt_append pins s σ H x xs v us Q I r1 r2 (let ⟨l, xs, y, h1, h2, h3, h4, q⟩ := q; ⟨l, xs, y, h1, h2, h3, h4, q⟩)

inductive WBl (x : V) (H : Hp) (Q : Bool → Hp → Prop) : Prop
  | mk (k : Bool) (h : x = .bl k) (q : Q k H) : WBl x H Q
def cTest (t : TE) : TT := fun σ H Q => t σ H fun x H' => WBl x H' Q
section
variable {X : Cx} {a b : Expr} {ta tb : TE} {pos : Pos}
theorem ptC_cmpR {op : CmpOp} {r : R2} (ho : OpR X (compareOp op) r) (ha : PE X a ta) (hb : PE X b tb) (hm : behindInMarks op b = false) : PT X (.Compare a [op] [b] pos) (cTest (tOp r ta tb)) := by
  intro pins s σ H Q I h
  refine wpAny_isTrue_Compare1 (thn (ha pins s σ H _ I h) fun v s1 ⟨x, H1, I1, r1, q1⟩ => thn (hb pins s1 σ H1 _ I1 q1) fun u s2 ⟨y, H2, I2, r2, q2⟩ =>
    thn (ho pins s2 σ H2 x y v u _ I2 r1 r2 q2) fun c s3 ⟨z, H3, I3, r3, w⟩ => ?_) hm
  obtain ⟨k, e, q3⟩ := w
  subst e
  cases r3
  exact wpAny_truthy_bool ⟨H3, I3, q3⟩
theorem ptC_val {e : Expr} {t : TE} (h : PE X e t) (he : ∀ whole, isTrue e X.env whole = (do let v ← whole; standAt e.pos; holding [v] (truthy v)) := by intro _; rfl) : PT X e (cTest t) := by
  intro pins s σ H Q I hw
  refine isTrue_plain (thn (h pins s σ H _ I hw) fun v s1 ⟨x, H1, I1, r1, q1⟩ => ?_) (he _)
  obtain ⟨d, rfl, q⟩ := q1
  cases r1
  exact wpAny_truthy_bool ⟨H1, I1, q⟩
end
end L2

set_option Elab.async false
set_option linter.all false
set_option maxRecDepth 100000
set_option maxHeartbeats 4000000
namespace K12
open PySem L2

def step (acc : List Str) (s : Str) : List Str := if s ∈ acc then acc else acc ++ [s]
def onceL (ss : List Str) : List Str := ss.foldl step []
def strsOf (as : List V) : List Str := as.filterMap fun v => match v with | .str s => some s | _ => none
theorem strsOf_append (a b : List V) : strsOf (a ++ b) = strsOf a ++ strsOf b := List.filterMap_append ..
theorem strsOf_int (i : Int) : strsOf [.int i] = [] := rfl
theorem step_sub (acc : List Str) (s : Str) : ∀ x ∈ acc, x ∈ step acc s := fun x hx => by
  unfold step
  split
  · exact hx
  · exact List.mem_append_left _ hx
theorem step_has (acc : List Str) (s : Str) : s ∈ step acc s := by
  unfold step
  split
  · assumption
  · exact List.mem_append_right _ (by simp)
theorem fold_sub : ∀ (ss acc : List Str), ∀ x ∈ acc, x ∈ ss.foldl step acc
  | [], acc, x, hx => hx
  | s :: ss, acc, x, hx => fold_sub ss _ x (step_sub acc s x hx)
theorem fold_has : ∀ (ss acc : List Str), ∀ x ∈ ss, x ∈ ss.foldl step acc
  | s :: ss, acc, x, hx => by
    rcases List.mem_cons.mp hx with e | e
    · subst e
      exact fold_sub ss _ _ (step_has acc _)
    · exact fold_has ss _ x e
theorem fold_once : ∀ (B : List Str) (acc C : List Str), (B.foldl step C).foldl step acc = B.foldl step (C.foldl step acc)
  | [], acc, C => rfl
  | s :: B, acc, C => by
    rw [List.foldl_cons, fold_once B acc (step C s), List.foldl_cons]
    congr 1
    unfold step
    by_cases h : s ∈ C
    · rw [if_pos h]
      have h2 : s ∈ C.foldl step acc := fold_has C acc s h
      have h2' : s ∈ List.foldl (fun acc s => if s ∈ acc then acc else acc ++ [s]) acc C := h2
      rw [if_pos h2']
    · rw [if_neg h, List.foldl_append]
      rfl
theorem onceL_mid (A B C : List Str) : onceL (A ++ onceL B ++ C) = onceL (A ++ B ++ C) := by
  unfold onceL
  rw [List.foldl_append, List.foldl_append, List.foldl_append, List.foldl_append]
  have e := fold_once B (A.foldl step []) []
  rw [e]
  rfl
theorem step_len (acc : List Str) (s : Str) : (step acc s).length ≤ acc.length + 1 := by
  unfold step
  split
  · omega
  · simp
theorem onceL_len (ss : List Str) : (onceL ss).length ≤ ss.length := by
  have key : ∀ (ss acc : List Str), (ss.foldl step acc).length ≤ acc.length + ss.length := by
    intro ss
    induction ss with
    | nil => intro acc; simp
    | cons s ss ih =>
      intro acc
      have h1 := ih (step acc s)
      have h2 := step_len acc s
      rw [List.foldl_cons]
      simp only [List.length_cons]
      omega
  have := key ss []
  unfold onceL
  simpa using this

def tru (ss : List Str) : List (Key × V) := ss.map fun s => (Sum.inr s, V.bl true)
theorem tru_put (acc : List Str) (s : Str) : putK (tru acc) (Sum.inr s) (.bl true) = tru (step acc s) := by
  unfold putK step
  have e : ((tru acc).any fun kv => decide (kv.1 = (Sum.inr s : Key))) = decide (s ∈ acc) := by
    unfold tru
    rw [List.any_map]
    rw [Bool.eq_iff_iff, List.any_eq_true]
    simp only [Function.comp, decide_eq_true_eq]
    constructor
    · rintro ⟨x, hx, h⟩
      have : x = s := Sum.inr.inj h
      rw [← this]
      exact hx
    · intro h
      exact ⟨s, h, rfl⟩
  rw [e]
  by_cases h : s ∈ acc
  · rw [decide_eq_true h, if_pos rfl, if_pos h]
    unfold tru
    rw [List.map_map]
    apply List.map_congr_left
    intro x _
    show (if (Sum.inr x : Key) = Sum.inr s then ((Sum.inr x : Key), V.bl true) else (Sum.inr x, V.bl true)) = _
    split <;> rfl
  · rw [decide_eq_false h, if_neg (by decide), if_neg h]
    unfold tru
    rw [List.map_append]
    rfl
theorem tru_fold : ∀ (ss acc : List Str), (tru ss).foldl (fun acc kv => putK acc kv.1 kv.2) (tru acc) = tru (ss.foldl step acc)
  | [], acc => rfl
  | s :: ss, acc => by
    show (tru ss).foldl _ (putK (tru acc) (Sum.inr s) (.bl true)) = _
    rw [tru_put]
    exact tru_fold ss (step acc s)
theorem tru_once (ss : List Str) : (tru ss).foldl (fun acc kv => putK acc kv.1 kv.2) [] = tru (onceL ss) := tru_fold ss []
theorem tru_keys (ss : List Str) : ((tru ss).map fun kv => kV kv.1) = ss.map V.str := by
  unfold tru
  rw [List.map_map]
  rfl

theorem sqT_lst {K : PySem.W.Frag} {H : Hp} {a q : Addr} {xs l l' : List V} (h : SqT K H a xs) (hq : H q = some (.lst l)) : SqT K (upd H q (.lst l')) a xs := by
  rcases h with (h | ⟨o, h⟩) | h
  · exact .inl (.inl (by rw [upd_ne (ne_of h hq (by intro z; cases z))]; exact h))
  · exact .inl (.inr ⟨o, by rw [upd_ne (ne_of h hq (by intro z; cases z))]; exact h⟩)
  · exact .inr h

def Nm (s : Str) : Prop := s.length ≤ 1000 ∧ PyData.strOk s = true
end K12

namespace K12
open PySem L2 PySem.W PyProof.Rows

inductive RowS (K : PySem.W.Frag) (H : Hp) : List V → Option Str → List V → Prop
  | copy (x : Str) (a : V) : RowS K H [.str "copy", .str x, a] (some x) [a]
  | op (x s : Str) (a b : V) : RowS K H [.str "op", .str x, .str s, a, b] (some x) [a, b]
  | new (x : Str) : RowS K H [.str "new", .str x] (some x) []
  | get (x : Str) (a : V) (f : Str) : RowS K H [.str "get", .str x, a, .str f] (some x) [a]
  | put (a : V) (f : Str) (b : V) : RowS K H [.str "put", a, .str f, b] none [a, b]
  | call (x f : Str) (p : Addr) (as : List V) : SqT K H p as → RowS K H [.str "call", .str x, .str f, .ref p] (some x) as
  | out (a : V) : RowS K H [.str "out", a] none [a]
  | back (a : V) : RowS K H [.str "back", a] none [a]
  | ifs (a : V) : RowS K H [.str "if", a] none [a]
  | whl (a : V) : RowS K H [.str "while", a] none [a]
  | els : RowS K H [.str "else"] none []
  | fin : RowS K H [.str "end"] none []
theorem RowS.mono {K : PySem.W.Frag} {H H' : Hp} {xs : List V} {g : Option Str} {as : List V} (h : RowS K H xs g as) (e : Same H H') : RowS K H' xs g as := by
  cases h with
  | call x f p as hp => exact .call x f p as (e.tup hp)
  | copy x a => exact .copy x a
  | op x s a b => exact .op x s a b
  | new x => exact .new x
  | get x a f => exact .get x a f
  | put a f b => exact .put a f b
  | out a => exact .out a
  | back a => exact .back a
  | ifs a => exact .ifs a
  | whl a => exact .whl a
  | els => exact .els
  | fin => exact .fin
def tabl : List (Str × List V) := [("copy", [.int 2]), ("op", [.int 3, .int 4]), ("new", []), ("get", [.int 2]), ("put", [.int 1, .int 3]), ("out", [.int 1]), ("back", [.int 1]), ("if", [.int 1]), ("while", [.int 1]), ("else", []), ("end", [])]
def giving : List Str := ["copy", "op", "new", "get", "call"]
theorem row_places {K : PySem.W.Frag} {H : Hp} {xs : List V} {g : Option Str} {as : List V} (h : RowS K H xs g as) : ∃ kd : Str, atI xs 0 = some (.str kd) ∧
    ((kd = "call" ∧ ∃ p, atI xs 3 = some (.ref p) ∧ SqT K H p as) ∨ (kd ≠ "call" ∧ ∃ pl : List Int, KTD.datumAt kd tabl = some (pl.map V.int) ∧ pl.length = as.length ∧ ∀ (i : Nat) (a : V), as[i]? = some a → ∃ p, pl[i]? = some p ∧ atI xs p = some a)) := by
  cases h with
  | call x f p as hp => exact ⟨"call", rfl, .inl ⟨rfl, p, rfl, hp⟩⟩
  | copy x a => exact ⟨"copy", rfl, .inr ⟨by decide +kernel, [2], by decide +kernel, rfl, fun i a' e => by match i, e with | 0, e => exact ⟨2, rfl, e⟩⟩⟩
  | op x s a b => exact ⟨"op", rfl, .inr ⟨by decide +kernel, [3, 4], by decide +kernel, rfl, fun i a' e => by match i, e with | 0, e => exact ⟨3, rfl, e⟩ | 1, e => exact ⟨4, rfl, e⟩⟩⟩
  | new x => exact ⟨"new", rfl, .inr ⟨by decide +kernel, [], by decide +kernel, rfl, fun i a' e => by simp at e⟩⟩
  | get x a f => exact ⟨"get", rfl, .inr ⟨by decide +kernel, [2], by decide +kernel, rfl, fun i a' e => by match i, e with | 0, e => exact ⟨2, rfl, e⟩⟩⟩
  | put a f b => exact ⟨"put", rfl, .inr ⟨by decide +kernel, [1, 3], by decide +kernel, rfl, fun i a' e => by match i, e with | 0, e => exact ⟨1, rfl, e⟩ | 1, e => exact ⟨3, rfl, e⟩⟩⟩
  | out a => exact ⟨"out", rfl, .inr ⟨by decide +kernel, [1], by decide +kernel, rfl, fun i a' e => by match i, e with | 0, e => exact ⟨1, rfl, e⟩⟩⟩
  | back a => exact ⟨"back", rfl, .inr ⟨by decide +kernel, [1], by decide +kernel, rfl, fun i a' e => by match i, e with | 0, e => exact ⟨1, rfl, e⟩⟩⟩
  | ifs a => exact ⟨"if", rfl, .inr ⟨by decide +kernel, [1], by decide +kernel, rfl, fun i a' e => by match i, e with | 0, e => exact ⟨1, rfl, e⟩⟩⟩
  | whl a => exact ⟨"while", rfl, .inr ⟨by decide +kernel, [1], by decide +kernel, rfl, fun i a' e => by match i, e with | 0, e => exact ⟨1, rfl, e⟩⟩⟩
  | els => exact ⟨"else", rfl, .inr ⟨by decide +kernel, [], by decide +kernel, rfl, fun i a' e => by simp at e⟩⟩
  | fin => exact ⟨"end", rfl, .inr ⟨by decide +kernel, [], by decide +kernel, rfl, fun i a' e => by simp at e⟩⟩
def xv : Option Str → V
  | some x => .str x
  | none => .non
theorem row_gives {K : PySem.W.Frag} {H : Hp} {xs : List V} {g : Option Str} {as : List V} (h : RowS K H xs g as) : ∃ kd : Str, atI xs 0 = some (.str kd) ∧
    ((∃ x, g = some x ∧ inV (.str kd) (giving.map V.str) = true ∧ atI xs 1 = some (.str x)) ∨ (g = none ∧ inV (.str kd) (giving.map V.str) = false)) := by
  cases h with
  | call x f p as hp => exact ⟨"call", rfl, .inl ⟨x, rfl, by decide +kernel, rfl⟩⟩
  | copy x a => exact ⟨"copy", rfl, .inl ⟨x, rfl, by decide +kernel, rfl⟩⟩
  | op x s a b => exact ⟨"op", rfl, .inl ⟨x, rfl, by decide +kernel, rfl⟩⟩
  | new x => exact ⟨"new", rfl, .inl ⟨x, rfl, by decide +kernel, rfl⟩⟩
  | get x a f => exact ⟨"get", rfl, .inl ⟨x, rfl, by decide +kernel, rfl⟩⟩
  | put a f b => exact ⟨"put", rfl, .inr ⟨rfl, by decide +kernel⟩⟩
  | out a => exact ⟨"out", rfl, .inr ⟨rfl, by decide +kernel⟩⟩
  | back a => exact ⟨"back", rfl, .inr ⟨rfl, by decide +kernel⟩⟩
  | ifs a => exact ⟨"if", rfl, .inr ⟨rfl, by decide +kernel⟩⟩
  | whl a => exact ⟨"while", rfl, .inr ⟨rfl, by decide +kernel⟩⟩
  | els => exact ⟨"else", rfl, .inr ⟨rfl, by decide +kernel⟩⟩
  | fin => exact ⟨"end", rfl, .inr ⟨rfl, by decide +kernel⟩⟩
theorem giving_flat : (giving.map V.str).all flatV = true := by decide +kernel

def Atom (v : V) : Prop := (∃ s, v = .str s ∧ Nm s) ∨ ∃ i, v = .int i
structure RowD where
  r : Addr
  e : Addr
  a : Addr
  gx : Option Str
  as : List V
structure RowAt (K : PySem.W.Frag) (H : Hp) (d : RowD) : Prop where
  row : ∃ xs, SqT K H d.r xs ∧ RowS K H xs d.gx d.as
  ats : ∀ v ∈ d.as, Atom v
  len : d.as.length ≤ 10
  nm : ∀ x, d.gx = some x → Nm x
theorem RowAt.mono {K : PySem.W.Frag} {H H' : Hp} {d : RowD} (h : RowAt K H d) (e : Same H H') : RowAt K H' d :=
  ⟨let ⟨xs, h1, h2⟩ := h.row; ⟨xs, e.tup h1, h2.mono e⟩, h.ats, h.len, h.nm⟩
structure FunAt (K : PySem.W.Frag) (H : Hp) (f : Addr) (ps : List Str) (ds : List RowD) : Prop where
  fn : ∃ n b p r, SqT K H f [n, b, .ref p, .ref r] ∧ SqT K H p (ps.map V.str) ∧ SqT K H r (ds.map fun d => V.ref d.r)
  rows : ∀ d ∈ ds, RowAt K H d
  pn : ∀ s ∈ ps, Nm s
  pl : ps.length ≤ 100
  dl : ds.length ≤ 100
theorem FunAt.mono {K : PySem.W.Frag} {H H' : Hp} {f : Addr} {ps : List Str} {ds : List RowD} (h : FunAt K H f ps ds) (e : Same H H') : FunAt K H' f ps ds :=
  ⟨let ⟨n, b, p, r, h1, h2, h3⟩ := h.fn; ⟨n, b, p, r, e.tup h1, e.tup h2, e.tup h3⟩, fun d hd => (h.rows d hd).mono e, h.pn, h.pl, h.dl⟩
structure Built (K : PySem.W.Frag) (H : Hp) (b f : Addr) (ps : List Str) (ds : List RowD) : Prop where
  fa : FunAt K H f ps ds
  ob : ∃ p r, H b = some (.lst [.ref f, .ref p, .ref r]) ∧ H p = some (.lst (ps.map V.str)) ∧ H r = some (.lst (ds.map fun d => V.ref d.e))
  ents : ∀ d ∈ ds, H d.e = some (.lst [.ref d.r, xv d.gx, .ref d.a]) ∧ H d.a = some (.lst d.as)
theorem Built.mono {K : PySem.W.Frag} {H H' : Hp} {b f : Addr} {ps : List Str} {ds : List RowD} (h : Built K H b f ps ds) (e : Same H H') : Built K H' b f ps ds :=
  ⟨h.fa.mono e, let ⟨p, r, h1, h2, h3⟩ := h.ob; ⟨p, r, e _ _ h1, e _ _ h2, e _ _ h3⟩, fun d hd => ⟨e _ _ (h.ents d hd).1, e _ _ (h.ents d hd).2⟩⟩
def rowStrs (d : RowD) : List Str := d.gx.toList ++ strsOf d.as
def allOf (ps : List Str) (ds : List RowD) : List Str := ps ++ ds.flatMap rowStrs
theorem strsOf_len (as : List V) : (strsOf as).length ≤ as.length := List.length_filterMap_le _ _
end K12

set_option Elab.async false
set_option linter.all false
set_option maxRecDepth 100000
set_option maxHeartbeats 4000000
namespace K13
open PySem L2

def isO (s : Str) : Bool := decide (s = "if") || decide (s = "while")
def isE (s : Str) : Bool := decide (s = "else") || decide (s = "end")
def push (st : List Nat) (i : Nat) (s : Str) : List Nat := if isO s = true then i :: st else if s = "end" then st.tail else st
def kd (ks : List Str) (i : Nat) : Str := ks.getD i ""
def stk (ks : List Str) : Nat → List Nat
  | 0 => []
  | i + 1 => push (stk ks i) i (kd ks i)
theorem stk_succ (ks : List Str) (i : Nat) : stk ks (i + 1) = push (stk ks i) i (kd ks i) := rfl
theorem stk_lt (ks : List Str) : ∀ i, ∀ x ∈ stk ks i, x < i ∧ isO (kd ks x) = true
  | 0, x, h => by cases h
  | i + 1, x, h => by
    rw [stk_succ] at h
    unfold push at h
    split at h
    · rcases List.mem_cons.mp h with e | e
      · subst e
        exact ⟨Nat.lt_succ_self _, by assumption⟩
      · have := stk_lt ks i x e
        exact ⟨by omega, this.2⟩
    · split at h
      · have := stk_lt ks i x (List.mem_of_mem_tail h)
        exact ⟨by omega, this.2⟩
      · have := stk_lt ks i x h
        exact ⟨by omega, this.2⟩
theorem isO_not_end {s : Str} (h : isO s = true) : ¬ s = "end" := by
  intro e
  subst e
  revert h
  decide +kernel
theorem isO_not_else {s : Str} (h : isO s = true) : ¬ s = "else" := by
  intro e
  subst e
  revert h
  decide +kernel
theorem end_not_O : isO ("end" : Str) = false := by decide +kernel
structure Wf (ks : List Str) : Prop where
  open_ : ∀ i, i < ks.length → isE (kd ks i) = true → stk ks i ≠ []
  els : ∀ i b r, i < ks.length → kd ks i = "else" → stk ks i = b :: r → kd ks b = "if"
  shut : stk ks ks.length = []
  last : ∀ i, i + 1 = ks.length → kd ks i = "back"
  pos : 0 < ks.length


def At (ks : List Str) (b j d : Nat) : Prop := ∃ pre, stk ks j = pre ++ b :: stk ks b ∧ pre.length + 1 = d
theorem at_start {ks : List Str} {b : Nat} (h : isO (kd ks b) = true) : At ks b (b + 1) 1 := ⟨[], by rw [stk_succ]; unfold push; rw [if_pos h]; rfl, rfl⟩
theorem at_open {ks : List Str} {b j d : Nat} (h : At ks b j d) (ho : isO (kd ks j) = true) : At ks b (j + 1) (d + 1) := by
  obtain ⟨pre, e, l⟩ := h
  exact ⟨j :: pre, by rw [stk_succ]; unfold push; rw [if_pos ho, e]; rfl, by simp [l]⟩
theorem at_end {ks : List Str} {b j d : Nat} (h : At ks b j (d + 1)) (hd : 0 < d) (he : kd ks j = "end") : At ks b (j + 1) d := by
  obtain ⟨pre, e, l⟩ := h
  cases pre with
  | nil => simp at l; omega
  | cons p pre =>
    refine ⟨pre, ?_, by simpa using l⟩
    rw [stk_succ]
    unfold push
    rw [he, if_neg (by rw [end_not_O]; decide), if_pos rfl, e]
    rfl
theorem at_other {ks : List Str} {b j d : Nat} (h : At ks b j d) (ho : ¬ isO (kd ks j) = true) (he : ¬ kd ks j = "end") : At ks b (j + 1) d := by
  obtain ⟨pre, e, l⟩ := h
  exact ⟨pre, by rw [stk_succ]; unfold push; rw [if_neg ho, if_neg he, e], l⟩
theorem at_one {ks : List Str} {b j : Nat} (h : At ks b j 1) : stk ks j = b :: stk ks b := by
  obtain ⟨pre, e, l⟩ := h
  cases pre with
  | nil => exact e
  | cons p pre => simp at l
theorem at_lt {ks : List Str} (w : Wf ks) {b j d : Nat} (h : At ks b j d) (hj : j ≤ ks.length) : j < ks.length := by
  rcases Nat.lt_or_ge j ks.length with q | q
  · exact q
  · have e : j = ks.length := by omega
    subst e
    obtain ⟨pre, e, _⟩ := h
    rw [w.shut] at e
    simp at e
theorem at_pos {ks : List Str} {b j d : Nat} (h : At ks b j d) : 0 < d := by
  obtain ⟨pre, _, l⟩ := h
  omega

def Ends (ks : List Str) (b e : Nat) : Prop := b < e ∧ e < ks.length ∧ kd ks e = "end" ∧ stk ks e = b :: stk ks b ∧ ∀ j, b < j → j ≤ e → ∃ d, At ks b j d
theorem ends_from {ks : List Str} (w : Wf ks) {b : Nat} : ∀ (m j d : Nat), m = ks.length - j → j ≤ ks.length → b < j → (∀ i, b < i → i ≤ j → ∃ d, At ks b i d) → At ks b j d → ∃ e, j ≤ e ∧ Ends ks b e
  | 0, j, d, hm, hj, hb, hall, h => absurd (at_lt w h hj) (by omega)
  | m + 1, j, d, hm, hj, hb, hall, h => by
    have hlt := at_lt w h hj
    have go : ∀ d', At ks b (j + 1) d' → ∃ e, j ≤ e ∧ Ends ks b e := fun d' h' => by
      obtain ⟨e, he, q⟩ := ends_from w m (j + 1) d' (by omega) (by omega) (by omega) (fun i h1 h2 => by
        rcases Nat.lt_or_ge j i with z | z
        · have : i = j + 1 := by omega
          subst this
          exact ⟨d', h'⟩
        · exact hall i h1 z) h'
      exact ⟨e, by omega, q⟩
    by_cases ho : isO (kd ks j) = true
    · exact go _ (at_open h ho)
    by_cases he : kd ks j = "end"
    · have hp := at_pos h
      by_cases hd : d = 1
      · subst hd
        exact ⟨j, Nat.le_refl _, hb, hlt, he, at_one h, hall⟩
      · obtain ⟨d', rfl⟩ : ∃ d', d = d' + 1 := ⟨d - 1, by omega⟩
        exact go _ (at_end h (by omega) he)
    · exact go _ (at_other h ho he)
theorem ends_ex {ks : List Str} (w : Wf ks) {b : Nat} (hb : b < ks.length) (ho : isO (kd ks b) = true) : ∃ e, Ends ks b e := by
  obtain ⟨e, _, h⟩ := ends_from w (ks.length - (b + 1)) (b + 1) 1 rfl (by omega) (by omega) (fun i h1 h2 => by
    have : i = b + 1 := by omega
    subst this
    exact ⟨1, at_start ho⟩) (at_start ho)
  exact ⟨e, h⟩

def Hit (ks : List Str) (b k : Nat) : Prop := isE (kd ks k) = true ∧ (stk ks k).head? = some b
theorem hit_lt {ks : List Str} {b k : Nat} (h : Hit ks b k) : b < k ∧ isO (kd ks b) = true := stk_lt ks k b (List.mem_of_mem_head? h.2)
theorem hit_end {ks : List Str} {b e : Nat} (h : Ends ks b e) : Hit ks b e := by
  refine ⟨?_, ?_⟩
  · rw [h.2.2.1]; decide +kernel
  · rw [h.2.2.2.1]; rfl
theorem gone {ks : List Str} {b e : Nat} (h : Ends ks b e) : ∀ j, e < j → b ∉ stk ks j
  | 0, hj, _ => by omega
  | j + 1, hj, hm => by
    rcases Nat.lt_or_ge e j with q | q
    · have ih := gone h j q
      rw [stk_succ] at hm
      unfold push at hm
      split at hm
      · rcases List.mem_cons.mp hm with z | z
        · have := h.1
          omega
        · exact ih z
      · split at hm
        · exact ih (List.mem_of_mem_tail hm)
        · exact ih hm
    · have e1 : j = e := by omega
      subst e1
      rw [stk_succ] at hm
      unfold push at hm
      rw [h.2.2.1, if_neg (by rw [end_not_O]; decide), if_pos rfl, h.2.2.2.1] at hm
      have := (stk_lt ks b b hm).1
      omega
theorem hit_le {ks : List Str} {b e k : Nat} (h : Ends ks b e) (hk : Hit ks b k) : k ≤ e := by
  rcases Nat.lt_or_ge e k with q | q
  · exact absurd (List.mem_of_mem_head? hk.2) (gone h k q)
  · exact q
def one (ks : List Str) (i : Nat) : List (Nat × Nat) := if isE (kd ks i) = true then (match stk ks i with | [] => [] | b :: _ => [(i, b)]) else []
def prs (ks : List Str) : Nat → List (Nat × Nat)
  | 0 => []
  | i + 1 => prs ks i ++ one ks i
def lastOf (L : List (Nat × Nat)) (b : Nat) : Option Nat := L.foldl (fun acc p => if p.2 = b then some p.1 else acc) none
def firstOf (L : List (Nat × Nat)) (b : Nat) : Option Nat := L.foldl (fun acc p => if acc.isSome = true then acc else if p.2 = b then some p.1 else none) none
theorem one_cases (ks : List Str) (i : Nat) : (∃ b, one ks i = [(i, b)] ∧ Hit ks b i) ∨ (one ks i = [] ∧ ∀ b, ¬ Hit ks b i) := by
  unfold one Hit
  by_cases h : isE (kd ks i) = true
  · rw [if_pos h]
    cases q : stk ks i with
    | nil => exact .inr ⟨rfl, fun b z => by simp at z⟩
    | cons b r => exact .inl ⟨b, rfl, h, rfl⟩
  · rw [if_neg h]
    exact .inr ⟨rfl, fun b z => h z.1⟩
theorem lastOf_snoc (L : List (Nat × Nat)) (p : Nat × Nat) (b : Nat) : lastOf (L ++ [p]) b = if p.2 = b then some p.1 else lastOf L b := by unfold lastOf; rw [List.foldl_append]; rfl
theorem firstOf_snoc (L : List (Nat × Nat)) (p : Nat × Nat) (b : Nat) : firstOf (L ++ [p]) b = if (firstOf L b).isSome = true then firstOf L b else if p.2 = b then some p.1 else none := by unfold firstOf; rw [List.foldl_append]; rfl
theorem hit_inj {ks : List Str} {b b' k : Nat} (h : Hit ks b k) (h' : Hit ks b' k) : b = b' := by
  have := h.2.symm.trans h'.2
  simpa using this
theorem last_spec (ks : List Str) (b : Nat) : ∀ i, (∀ m, lastOf (prs ks i) b = some m → m < i ∧ Hit ks b m ∧ ∀ k, m < k → k < i → ¬ Hit ks b k) ∧ (lastOf (prs ks i) b = none → ∀ k, k < i → ¬ Hit ks b k)
  | 0 => ⟨fun m h => (by cases h), fun _ k hk => (by omega)⟩
  | i + 1 => by
    obtain ⟨ih1, ih2⟩ := last_spec ks b i
    show (∀ m, lastOf (prs ks i ++ one ks i) b = some m → _) ∧ (lastOf (prs ks i ++ one ks i) b = none → _)
    rcases one_cases ks i with ⟨b', e, hh⟩ | ⟨e, hn⟩
    · rw [e, lastOf_snoc]
      by_cases hb : b' = b
      · rw [if_pos hb]
        subst hb
        exact ⟨fun m h => by cases h; exact ⟨Nat.lt_succ_self _, hh, fun k h1 h2 => by omega⟩, fun h => by cases h⟩
      · rw [if_neg hb]
        refine ⟨fun m h => ?_, fun h k hk => ?_⟩
        · obtain ⟨h1, h2, h3⟩ := ih1 m h
          refine ⟨by omega, h2, fun k q1 q2 hk => ?_⟩
          rcases Nat.lt_or_ge k i with z | z
          · exact h3 k q1 z hk
          · have : k = i := by omega
            subst this
            exact hb (hit_inj hh hk)
        · intro hk'
          rcases Nat.lt_or_ge k i with z | z
          · exact ih2 h k z hk'
          · have : k = i := by omega
            subst this
            exact hb (hit_inj hh hk')
    · rw [e, List.append_nil]
      refine ⟨fun m h => ?_, fun h k hk hk' => ?_⟩
      · obtain ⟨h1, h2, h3⟩ := ih1 m h
        refine ⟨by omega, h2, fun k q1 q2 hk => ?_⟩
        rcases Nat.lt_or_ge k i with z | z
        · exact h3 k q1 z hk
        · have : k = i := by omega
          subst this
          exact hn b hk
      · rcases Nat.lt_or_ge k i with z | z
        · exact ih2 h k z hk'
        · have : k = i := by omega
          subst this
          exact hn b hk'
theorem first_spec (ks : List Str) (b : Nat) : ∀ i, (∀ m, firstOf (prs ks i) b = some m → m < i ∧ Hit ks b m ∧ ∀ k, k < m → ¬ Hit ks b k) ∧ (firstOf (prs ks i) b = none → ∀ k, k < i → ¬ Hit ks b k)
  | 0 => ⟨fun m h => (by cases h), fun _ k hk => (by omega)⟩
  | i + 1 => by
    obtain ⟨ih1, ih2⟩ := first_spec ks b i
    show (∀ m, firstOf (prs ks i ++ one ks i) b = some m → _) ∧ (firstOf (prs ks i ++ one ks i) b = none → _)
    rcases one_cases ks i with ⟨b', e, hh⟩ | ⟨e, hn⟩
    · rw [e, firstOf_snoc]
      cases hf : firstOf (prs ks i) b with
      | some m0 =>
        rw [if_pos (show (some m0).isSome = true from rfl)]
        obtain ⟨h1, h2, h3⟩ := ih1 m0 hf
        exact ⟨fun m h => by cases h; exact ⟨by omega, h2, h3⟩, fun h => by cases h⟩
      | none =>
        rw [if_neg (show ¬ (none : Option Nat).isSome = true by decide)]
        have hno := ih2 hf
        by_cases hb : b' = b
        · rw [if_pos hb]
          subst hb
          exact ⟨fun m h => by cases h; exact ⟨Nat.lt_succ_self _, hh, fun k hk => hno k hk⟩, fun h => by cases h⟩
        · rw [if_neg hb]
          refine ⟨fun m h => (by cases h), fun _ k hk hk' => ?_⟩
          rcases Nat.lt_or_ge k i with z | z
          · exact hno k z hk'
          · have : k = i := by omega
            subst this
            exact hb (hit_inj hh hk')
    · rw [e, List.append_nil]
      refine ⟨fun m h => ?_, fun h k hk hk' => ?_⟩
      · obtain ⟨h1, h2, h3⟩ := ih1 m h
        exact ⟨by omega, h2, h3⟩
      · rcases Nat.lt_or_ge k i with z | z
        · exact ih2 h k z hk'
        · have : k = i := by omega
          subst this
          exact hn b hk'
theorem last_end {ks : List Str} {b e : Nat} (h : Ends ks b e) : lastOf (prs ks ks.length) b = some e := by
  obtain ⟨h1, h2⟩ := last_spec ks b ks.length
  cases q : lastOf (prs ks ks.length) b with
  | none => exact absurd (hit_end h) (h2 q e h.2.1)
  | some m =>
    obtain ⟨q1, q2, q3⟩ := h1 m q
    have := hit_le h q2
    rcases Nat.lt_or_ge m e with z | z
    · exact absurd (hit_end h) (q3 e z h.2.1)
    · have : m = e := by omega
      rw [this]

def First (ks : List Str) (b f : Nat) : Prop := f < ks.length ∧ Hit ks b f ∧ ∀ k, k < f → ¬ Hit ks b k
theorem first_uniq {ks : List Str} {b f f' : Nat} (h : First ks b f) (h' : First ks b f') : f = f' := by
  rcases Nat.lt_trichotomy f f' with z | z | z
  · exact absurd h.2.1 (h'.2.2 f z)
  · exact z
  · exact absurd h'.2.1 (h.2.2 f' z)
theorem first_of {ks : List Str} {b f : Nat} (h : First ks b f) : firstOf (prs ks ks.length) b = some f := by
  obtain ⟨h1, h2⟩ := first_spec ks b ks.length
  cases q : firstOf (prs ks ks.length) b with
  | none => exact absurd h.2.1 (h2 q f h.1)
  | some m =>
    obtain ⟨q1, q2, q3⟩ := h1 m q
    rw [first_uniq (⟨q1, q2, q3⟩ : First ks b m) h]
theorem first_none {ks : List Str} {b : Nat} (h : ¬ isO (kd ks b) = true) : firstOf (prs ks ks.length) b = none := by
  obtain ⟨h1, h2⟩ := first_spec ks b ks.length
  cases q : firstOf (prs ks ks.length) b with
  | none => rfl
  | some m => exact absurd (hit_lt (h1 m q).2.1).2 h

inductive Beh (ks : List Str) : Nat → Nat → Prop
  | els {k b e r : Nat} : kd ks (k + 1) = "else" → (stk ks (k + 1)).head? = some b → Ends ks b e → Beh ks e r → Beh ks k r
  | whl {k b : Nat} : kd ks (k + 1) = "end" → (stk ks (k + 1)).head? = some b → kd ks b = "while" → Beh ks k b
  | fin {k b r : Nat} : kd ks (k + 1) = "end" → (stk ks (k + 1)).head? = some b → ¬ kd ks b = "while" → Beh ks (k + 1) r → Beh ks k r
  | oth {k : Nat} : ¬ kd ks (k + 1) = "else" → ¬ kd ks (k + 1) = "end" → Beh ks k (k + 1)
theorem els_fin : ¬ (("else" : Str) = "end") := by decide +kernel
theorem back_ne : ¬ (("back" : Str) = "else") ∧ ¬ (("back" : Str) = "end") := by decide +kernel
theorem isO_not_E {s : Str} (h : isO s = true) : ¬ isE s = true := by
  unfold isE
  rw [decide_eq_false (isO_not_else h), decide_eq_false (isO_not_end h)]
  decide
theorem isE_or {s : Str} (h1 : ¬ s = "else") (h2 : ¬ s = "end") : ¬ isE s = true := by
  unfold isE
  rw [decide_eq_false h1, decide_eq_false h2]
  decide
inductive Due (ks : List Str) : Nat → Option (List Nat) → Prop
  | no {k : Nat} : isE (kd ks k) = true → Due ks k none
  | back {k : Nat} : kd ks k = "back" → Due ks k (some [])
  | two {k f r1 r2 : Nat} : isO (kd ks k) = true → First ks k f → Beh ks k r1 → Beh ks f r2 → Due ks k (some [r1, r2])
  | one {k r : Nat} : ¬ isE (kd ks k) = true → ¬ kd ks k = "back" → ¬ isO (kd ks k) = true → Beh ks k r → Due ks k (some [r])
theorem back_E : ¬ isE ("back" : Str) = true := by decide +kernel
theorem back_O : ¬ isO ("back" : Str) = true := by decide +kernel
theorem first_ex {ks : List Str} {b e : Nat} (h : Ends ks b e) : ∃ f, First ks b f := by
  obtain ⟨h1, h2⟩ := first_spec ks b ks.length
  cases q : firstOf (prs ks ks.length) b with
  | none => exact absurd (hit_end h) (h2 q e h.2.1)
  | some m =>
    obtain ⟨q1, q2, q3⟩ := h1 m q
    exact ⟨m, q1, q2, q3⟩
theorem not_last {ks : List Str} (w : Wf ks) {k : Nat} (hk : k < ks.length) (h : ¬ kd ks k = "back") : k + 1 < ks.length := by
  rcases Nat.lt_or_ge (k + 1) ks.length with z | z
  · exact z
  · exact absurd (w.last k (by omega)) h
theorem first_last {ks : List Str} (w : Wf ks) {b f : Nat} (h : First ks b f) : f + 1 < ks.length := by
  refine not_last w h.1 fun z => ?_
  have := h.2.1.1
  rw [z] at this
  exact back_E this
theorem kd_left {ks ys : List Str} {i : Nat} (h : i < ks.length) : kd (ks ++ ys) i = kd ks i := by
  unfold kd
  rw [List.getD_eq_getElem?_getD, List.getD_eq_getElem?_getD, List.getElem?_append_left h]
theorem kd_right (ks ys : List Str) (i : Nat) : kd (ks ++ ys) (ks.length + i) = kd ys i := by
  unfold kd
  rw [List.getD_eq_getElem?_getD, List.getD_eq_getElem?_getD, List.getElem?_append_right (Nat.le_add_right _ _), Nat.add_sub_cancel_left]
theorem kd_last (ks : List Str) (x : Str) : kd (ks ++ [x]) ks.length = x := by
  have := kd_right ks [x] 0
  rw [Nat.add_zero] at this
  rw [this]
  rfl
theorem stk_left (ks ys : List Str) : ∀ i, i ≤ ks.length → stk (ks ++ ys) i = stk ks i
  | 0, _ => rfl
  | i + 1, h => by
    rw [stk_succ, stk_succ, stk_left ks ys i (by omega), kd_left (by omega)]

structure Good (ks os : List Str) : Prop where
  open_ : ∀ i, i < ks.length → isE (kd ks i) = true → stk ks i ≠ []
  els : ∀ i b r, i < ks.length → kd ks i = "else" → stk ks i = b :: r → kd ks b = "if"
  len : (stk ks ks.length).length = os.length
  mt : ∀ (i b : Nat), (stk ks ks.length)[i]? = some b → os[i]? = some "if" → kd ks b = "if"
theorem good_nil : Good [] [] := ⟨fun i h => absurd h (Nat.not_lt_zero i), fun i _ _ h => absurd h (Nat.not_lt_zero i), rfl, fun i b h => by cases h⟩
theorem stk_snoc (ks : List Str) (x : Str) : stk (ks ++ [x]) (ks ++ [x]).length = push (stk ks ks.length) ks.length x := by
  rw [List.length_append]
  show stk (ks ++ [x]) (ks.length + 1) = _
  rw [stk_succ, stk_left _ _ _ (Nat.le_refl _), kd_last]
theorem Good.snoc {ks os os' : List Str} {x : Str} (g : Good ks os) (ho : isE x = true → os ≠ []) (he : x = "else" → ∃ r, os = ("if" : Str) :: r)
    (hl : (push (stk ks ks.length) ks.length x).length = os'.length) (hm : ∀ (i b : Nat), (push (stk ks ks.length) ks.length x)[i]? = some b → os'[i]? = some "if" → kd (ks ++ [x]) b = "if") : Good (ks ++ [x]) os' := by
  have hn : (ks ++ [x]).length = ks.length + 1 := by rw [List.length_append]; rfl
  refine ⟨fun i h hE => ?_, fun i b r h hE hs => ?_, by rw [stk_snoc]; exact hl, by rw [stk_snoc]; exact hm⟩
  · rw [stk_left _ _ _ (by omega)]
    rcases Nat.lt_or_ge i ks.length with z | z
    · rw [kd_left z] at hE
      exact g.open_ i z hE
    · have : i = ks.length := by omega
      subst this
      rw [kd_last] at hE
      intro e
      have := g.len
      rw [e] at this
      exact ho hE (List.length_eq_zero_iff.mp this.symm)
  · rw [stk_left _ _ _ (by omega)] at hs
    rcases Nat.lt_or_ge i ks.length with z | z
    · rw [kd_left z] at hE
      have hb := (stk_lt ks i b (by rw [hs]; exact List.mem_cons_self)).1
      rw [kd_left (by omega)]
      exact g.els i b r z hE hs
    · have : i = ks.length := by omega
      subst this
      rw [kd_last] at hE
      obtain ⟨r', e⟩ := he hE
      have hb := (stk_lt ks ks.length b (by rw [hs]; exact List.mem_cons_self)).1
      rw [kd_left hb]
      exact g.mt 0 b (by rw [hs]; rfl) (by rw [e]; rfl)
theorem Good.keep {ks os : List Str} (g : Good ks os) (x : Str) {i b : Nat} (h : (stk ks ks.length)[i]? = some b) (h' : os[i]? = some "if") : kd (ks ++ [x]) b = "if" := by
  have hb := (stk_lt ks ks.length b (List.mem_of_getElem? h)).1
  rw [kd_left hb]
  exact g.mt i b h h'
theorem Good.plain {ks os : List Str} {x : Str} (g : Good ks os) (h1 : ¬ isO x = true) (h2 : ¬ isE x = true) (h3 : ¬ x = "end") : Good (ks ++ [x]) os := by
  have e : push (stk ks ks.length) ks.length x = stk ks ks.length := by unfold push; rw [if_neg h1, if_neg h3]
  refine g.snoc (fun z => absurd z h2) (fun z => absurd (by rw [z]; decide +kernel) h2) (by rw [e, g.len]) ?_
  rw [e]
  intro i b h h'
  exact g.keep x h h'
theorem Good.fin {ks r : List Str} {o : Str} (g : Good ks (o :: r)) : Good (ks ++ [("end" : Str)]) r := by
  have e : push (stk ks ks.length) ks.length "end" = (stk ks ks.length).tail := by unfold push; rw [if_neg (by decide +kernel), if_pos rfl]
  have l := g.len
  rw [List.length_cons] at l
  refine g.snoc (fun _ => List.cons_ne_nil _ _) (fun z => absurd z.symm els_fin) (by rw [e, List.length_tail]; omega) ?_
  rw [e]
  intro i b h h'
  rw [List.getElem?_tail] at h
  exact g.keep _ h (by simpa using h')
theorem Good.ends {ks : List Str} : ∀ {os : List Str}, Good ks os → ∀ j, j ≤ os.length → Good (ks ++ List.replicate j ("end" : Str)) (os.drop j)
  | os, g, 0, _ => by simpa using g
  | os, g, j + 1, h => by
    have ih := Good.ends g j (by omega)
    have e : os.drop j = os[j] :: os.drop (j + 1) := List.drop_eq_getElem_cons (by omega)
    rw [e] at ih
    have := ih.fin
    rw [List.append_assoc] at this
    rw [List.replicate_succ']
    exact this
theorem Good.back {ks : List Str} (g : Good ks []) : Wf (ks ++ [("back" : Str)]) := by
  have hs : stk ks ks.length = [] := List.length_eq_zero_iff.mp g.len
  have g' := g.plain back_O back_E (by decide +kernel)
  refine ⟨g'.open_, g'.els, List.length_eq_zero_iff.mp g'.len, fun i h => ?_, by rw [List.length_append]; exact Nat.succ_pos _⟩
  have : i = ks.length := by rw [List.length_append] at h; simpa using h
  rw [this, kd_last]
end K13

set_option Elab.async false
set_option linter.all false
set_option maxRecDepth 100000
set_option maxHeartbeats 4000000
namespace K12
open PySem L2
section
variable {P : Program} {w : World} {K : PySem.W.Frag} {mg : Str → Option Value} {base : Heap}

def Gives (H : Hp) (Q : VK) (vs : List V) : Prop := ∀ l H', Same H H' → H l = none → H' l = some (.lst vs) → Q (.ref l) H'
def sp_gives (K : PySem.W.Frag) : Sp := fun vs H Q _ => ∃ (r : Addr) (xs : List V) (g : Option Str) (as : List V), vs = [.ref r] ∧ SqT K H r xs ∧ RowS K H xs g as ∧ Q (xv g) H
def sp_atoms_of (K : PySem.W.Frag) : Sp := fun vs H Q _ => ∃ (r : Addr) (xs : List V) (g : Option Str) (as : List V), vs = [.ref r] ∧ SqT K H r xs ∧ RowS K H xs g as ∧ as.length ≤ 10 ∧ Gives H Q as
def sp_each_once (K : PySem.W.Frag) : Sp := fun vs H Q _ => ∃ (p : Addr) (ss : List Str), vs = [.ref p] ∧ SqL K H p (ss.map V.str) ∧ ss.length ≤ 5000 ∧ Gives H Q ((onceL ss).map V.str)
def sp_reads (K : PySem.W.Frag) : Sp := fun vs H Q _ => ∃ (r : Addr) (xs : List V) (g : Option Str) (as : List V), vs = [.ref r] ∧ SqT K H r xs ∧ RowS K H xs g as ∧ as.length ≤ 10 ∧ (∀ v ∈ as, Atom v) ∧ Gives H Q ((onceL (strsOf as)).map V.str)
def sp_names_of (K : PySem.W.Frag) : Sp := fun vs H Q _ => ∃ (f : Addr) (ps : List Str) (ds : List RowD), vs = [.ref f] ∧ FunAt K H f ps ds ∧ Gives H Q ((onceL (allOf ps ds)).map V.str)
def sp_l_due (K : PySem.W.Frag) : Sp := fun vs H Q _ => ∃ (b f : Addr) (ps : List Str) (ds : List RowD), vs = [.ref b] ∧ Built K H b f ps ds ∧ Gives H Q ((onceL (allOf ps ds)).map V.str)
def sp_law (K : PySem.W.Frag) : Sp := fun vs H Q _ => ∃ (a : Addr) (ns : List Int), vs = [.ref a] ∧ SqL K H a (ns.map V.int) ∧ ns.length ≤ 63 ∧ ∀ H', Q (.bl true) H'
def rIsi (K : PySem.W.Frag) : List V → Hp → VK → Prop := fun xs H Q => ∃ x c t b, xs = [x, .ty c] ∧ TyOf K H x t ∧ PySem.W.kitOne K t (.type c) = some b ∧ Q (.bl b) H
theorem lt_line {n : Nat} (h : n < 1000000) : n ≤ sizeLine := by
  have : (1000000 : Nat) < sizeLine := by decide
  omega
theorem lt_line' {n : Nat} (h : n < 1000000) : n < sizeLine := by
  have : (1000000 : Nat) < sizeLine := by decide
  omega
theorem le0 : 0 ≤ sizeLine := by decide
theorem le1 : 1 ≤ sizeLine := by decide
theorem le2 : 2 ≤ sizeLine := by decide
theorem le3 : 3 ≤ sizeLine := by decide
theorem le4 : 4 ≤ sizeLine := by decide
theorem once_row {fs P G B : List Str} (h : onceL fs = onceL P) : onceL (fs ++ G ++ onceL B) = onceL (P ++ (G ++ B)) := by
  have e := onceL_mid (fs ++ G) B []
  rw [List.append_nil, List.append_nil] at e
  rw [e, List.append_assoc]
  unfold onceL at h ⊢
  rw [List.foldl_append, h, ← List.foldl_append]
def lets : Str := "abcdefghijklmnopqrstuvwxyz"
theorem lets_ok : PyData.strOk lets = true := by decide +kernel
theorem z_len : ("z" : Str).length = 1 := by decide +kernel
theorem rowS_lst {K : PySem.W.Frag} {H : Hp} {q : Addr} {l l' : List V} {xs : List V} {g : Option Str} {as : List V} (h : RowS K H xs g as) (hq : H q = some (.lst l)) : RowS K (upd H q (.lst l')) xs g as := by
  cases h with
  | call x f p as hp => exact .call x f p as (sqT_lst hp hq)
  | copy x a => exact .copy x a
  | op x s a b => exact .op x s a b
  | new x => exact .new x
  | get x a f => exact .get x a f
  | put a f b => exact .put a f b
  | out a => exact .out a
  | back a => exact .back a
  | ifs a => exact .ifs a
  | whl a => exact .whl a
  | els => exact .els
  | fin => exact .fin
theorem rowAt_lst {K : PySem.W.Frag} {H : Hp} {q : Addr} {l l' : List V} {d : RowD} (h : RowAt K H d) (hq : H q = some (.lst l)) : RowAt K (upd H q (.lst l')) d :=
  ⟨let ⟨xs, h1, h2⟩ := h.row; ⟨xs, sqT_lst h1 hq, rowS_lst h2 hq⟩, h.ats, h.len, h.nm⟩
end
end K12

set_option Elab.async false
set_option linter.all false
set_option maxRecDepth 100000
set_option maxHeartbeats 4000000
namespace K13
open PySem L2

structure RowsAt (K : PySem.W.Frag) (H : Hp) (a : Addr) (ks : List Str) : Prop where
  ex : ∃ rs : List Addr, SqT K H a (rs.map V.ref) ∧ rs.length = ks.length ∧ ∀ i r, rs[i]? = some r → ∃ rest, SqT K H r (V.str (kd ks i) :: rest)
theorem RowsAt.mono {K : PySem.W.Frag} {H H' : Hp} {a : Addr} {ks : List Str} (h : RowsAt K H a ks) (e : Same H H') : RowsAt K H' a ks :=
  ⟨let ⟨rs, h1, h2, h3⟩ := h.ex; ⟨rs, e.tup h1, h2, fun i r q => let ⟨rest, z⟩ := h3 i r q; ⟨rest, e.tup z⟩⟩⟩
theorem at0 {x : V} {r : List V} : atI (x :: r) 0 = some x := by
  unfold atI ixN
  rw [if_pos (by decide), if_pos (by simp)]
  rfl
theorem ixk {K : PySem.W.Frag} {H : Hp} {Q : VK} {a : Addr} {ks : List Str} {i : Int} (h : RowsAt K H a ks) (h0 : 0 ≤ i) (h1 : i < ks.length) (q : Q (.str (kd ks i.toNat)) H) : rIxT K (.ref a) (.int i) H fun x H1 => rIxT K x (.int 0) H1 Q := by
  obtain ⟨rs, e1, e2, e3⟩ := h.ex
  have hi : i.toNat < rs.length := by omega
  obtain ⟨rest, hr⟩ := e3 i.toNat rs[i.toNat] (by simp [hi])
  refine ⟨a, _, i, .ref rs[i.toNat], rfl, rfl, e1, ?_, rs[i.toNat], _, 0, _, rfl, rfl, hr, at0, q⟩
  have e : atI (rs.map V.ref) i = some (V.ref rs[i.toNat]) := by
    unfold atI ixN
    rw [if_pos h0, if_pos (by rw [List.length_map]; omega), Option.bind_some, List.getElem?_map]
    simp [hi]
  exact e
theorem u1 {A : Around} (h : A.units + 64 < cLine) : A.units + 1 < cLine := by omega

def bgOf (L : List (Nat × Nat)) : List (Key × V) := L.map fun p => (Sum.inl (p.1 : Int), V.int (p.2 : Int))
def bg (ks : List Str) (i : Nat) : List (Key × V) := bgOf (prs ks i)
theorem prs_lt (ks : List Str) : ∀ i, ∀ p ∈ prs ks i, p.1 < i
  | 0, p, h => by cases h
  | i + 1, p, h => by
    rcases List.mem_append.mp h with h | h
    · have := prs_lt ks i p h
      omega
    · rcases one_cases ks i with ⟨b, e, _⟩ | ⟨e, _⟩
      · rw [e] at h
        have : p = (i, b) := by simpa using h
        rw [this]
        exact Nat.lt_succ_self _
      · rw [e] at h
        cases h
theorem bg_new (ks : List Str) (i : Nat) : valV (bg ks i) (Sum.inl (i : Int) : Key) = none := by
  have h := valV_any (Sum.inl (i : Int) : Key) (bg ks i)
  cases q : valV (bg ks i) (Sum.inl (i : Int) : Key) with
  | none => rfl
  | some v =>
    rw [q] at h
    obtain ⟨kv, hm, e⟩ := List.any_eq_true.mp h
    obtain ⟨p, hp, rfl⟩ := List.mem_map.mp hm
    have e := of_decide_eq_true e
    have : (p.1 : Int) = (i : Int) := Sum.inl.inj e
    have := prs_lt ks i p hp
    omega
theorem bg_put {ks : List Str} {i b : Nat} (h : Hit ks b i) : putK (bg ks i) (Sum.inl (i : Int) : Key) (V.int (b : Int)) = bg ks (i + 1) := by
  rw [putK_new _ (bg_new ks i)]
  rcases one_cases ks i with ⟨b', e, h'⟩ | ⟨e, h'⟩
  · show bgOf (prs ks i) ++ _ = bgOf (prs ks i ++ one ks i)
    rw [e, hit_inj h h']
    unfold bgOf
    rw [List.map_append]
    rfl
  · exact absurd h (h' b)
theorem bg_same {ks : List Str} {i : Nat} (h : ¬ isE (kd ks i) = true) : bg ks (i + 1) = bg ks i := by
  rcases one_cases ks i with ⟨b', e, h'⟩ | ⟨e, h'⟩
  · exact absurd h'.1 h
  · show bgOf (prs ks i ++ one ks i) = _
    rw [e, List.append_nil]
    rfl
theorem prs_len (ks : List Str) : ∀ i, (prs ks i).length ≤ i
  | 0 => Nat.le_refl _
  | i + 1 => by
    have := prs_len ks i
    show (prs ks i ++ one ks i).length ≤ i + 1
    rw [List.length_append]
    rcases one_cases ks i with ⟨b', e, h'⟩ | ⟨e, h'⟩ <;> rw [e] <;> simp <;> omega
theorem bg_len (ks : List Str) (i : Nat) : (bg ks i).length ≤ i := by unfold bg bgOf; rw [List.length_map]; exact prs_len ks i
def stkV (ks : List Str) (i : Nat) : List V := (stk ks i).reverse.map fun (n : Nat) => V.int (n : Int)
theorem stkV_len (ks : List Str) : ∀ i, (stkV ks i).length ≤ i := by
  intro i
  unfold stkV
  rw [List.length_map, List.length_reverse]
  induction i with
  | zero => exact Nat.le_refl _
  | succ i ih =>
    rw [stk_succ]
    unfold push
    split
    · simp; omega
    · split
      · simp; omega
      · omega
theorem inO (s : Str) : inV (.str s) [V.str "if", V.str "while"] = isO s := by
  show ((("if" : Str) == s) || ((("while" : Str) == s) || false)) = isO s
  unfold isO
  rw [Bool.or_false]
  congr 1 <;> (rw [Bool.eq_iff_iff, beq_iff_eq, decide_eq_true_eq]; exact eq_comm)
theorem inE (s : Str) : inV (.str s) [V.str "else", V.str "end"] = isE s := by
  show ((("else" : Str) == s) || ((("end" : Str) == s) || false)) = isE s
  unfold isE
  rw [Bool.or_false]
  congr 1 <;> (rw [Bool.eq_iff_iff, beq_iff_eq, decide_eq_true_eq]; exact eq_comm)
theorem le0 : 0 ≤ sizeLine := by decide
theorem le1 : 1 ≤ sizeLine := by decide
theorem le2 : 2 ≤ sizeLine := by decide
theorem lt_line' {n : Nat} (h : n < 1000000) : n < sizeLine := by
  have : (1000000 : Nat) < sizeLine := by decide
  omega
theorem stkV_top {ks : List Str} {i b : Nat} {r : List Nat} (h : stk ks i = b :: r) : atI (stkV ks i) (-1) = some (.int (b : Int)) ∧ (stkV ks i)[(stkV ks i).length - 1]? = some (.int (b : Int)) ∧ (stkV ks i).dropLast = r.reverse.map fun (n : Nat) => V.int (n : Int) := by
  have e : stkV ks i = (r.reverse.map fun (n : Nat) => V.int (n : Int)) ++ [V.int (b : Int)] := by
    unfold stkV
    rw [h, List.reverse_cons, List.map_append]
    rfl
  rw [e]
  refine ⟨?_, by simp, by simp⟩
  unfold atI ixN
  rw [if_neg (by decide), if_pos (by simp; omega), Option.bind_some]
  have : ((-1 : Int) + (((r.reverse.map fun (n : Nat) => V.int (n : Int)) ++ [V.int (b : Int)]).length : Int)).toNat = (r.reverse.map fun (n : Nat) => V.int (n : Int)).length := by
    rw [List.length_append]
    simp
    omega
  rw [this]
  simp
theorem sqT_frz {K : PySem.W.Frag} {H : Hp} {a q : Addr} {xs : List V} {kvs : List (Key × V)} {o : HO} (h : SqT K H a xs) (hq : H q = some (.dK kvs)) : SqT K (upd H q o) a xs := by
  rcases h with (h | ⟨o, h⟩) | h
  · exact .inl (.inl (by rw [upd_ne (ne_of h hq (by intro z; cases z))]; exact h))
  · exact .inl (.inr ⟨o, by rw [upd_ne (ne_of h hq (by intro z; cases z))]; exact h⟩)
  · exact .inr h
theorem RowsAt.frz {K : PySem.W.Frag} {H : Hp} {a q : Addr} {ks : List Str} {kvs : List (Key × V)} {o : HO} (h : RowsAt K H a ks) (hq : H q = some (.dK kvs)) : RowsAt K (upd H q o) a ks :=
  ⟨let ⟨rs, h1, h2, h3⟩ := h.ex; ⟨rs, sqT_frz h1 hq, h2, fun i r z => let ⟨rest, y⟩ := h3 i r z; ⟨rest, sqT_frz y hq⟩⟩⟩
def BehL (H : Hp) (l : Addr) (ks : List Str) : Prop := ∃ bs, H l = some (.lst bs) ∧ bs.length = ks.length ∧ ∀ k, k + 1 < ks.length → ∃ r : Nat, Beh ks k r ∧ bs[k]? = some (.int (r : Int))
def nones (n : Nat) : List V := (List.replicate n [V.non]).flatten
theorem nones_len (n : Nat) : (nones n).length = n := by unfold nones; rw [len_rep]; simp
theorem bg_at {ks : List Str} {b k : Nat} (n : Nat) (hk : k < n) (h : Hit ks b k) : valV (bg ks n) (Sum.inl (k : Int) : Key) = some (.int (b : Int)) := by
  induction n with
  | zero => omega
  | succ n ih =>
    rcases Nat.lt_or_ge k n with z | z
    · rcases one_cases ks n with ⟨b', e, h'⟩ | ⟨e, h'⟩
      · rw [← bg_put h', valV_put, if_neg (fun z' => by have : (k : Int) = (n : Int) := Sum.inl.inj z'; omega)]
        exact ih z
      · have : bg ks (n + 1) = bg ks n := by
          show bgOf (prs ks n ++ one ks n) = _
          rw [e, List.append_nil]
          rfl
        rw [this]
        exact ih z
    · have : k = n := by omega
      subst this
      rw [← bg_put h, valV_put, if_pos rfl]
theorem prs_at {ks : List Str} {n i : Nat} {kv : Key × V} (h : (bg ks n)[i]? = some kv) : ∃ p : Nat × Nat, (prs ks n)[i]? = some p ∧ kv = (Sum.inl (p.1 : Int), V.int (p.2 : Int)) := by
  unfold bg bgOf at h
  rw [List.getElem?_map] at h
  cases q : (prs ks n)[i]? with
  | none => rw [q] at h; cases h
  | some p => rw [q] at h; exact ⟨p, rfl, by simpa using h.symm⟩
def natsV (l : List Nat) : List V := l.map fun (n : Nat) => V.int (n : Int)
def ValO (H : Hp) (v : V) : Option (List Nat) → Prop
  | none => v = .non
  | some l => ∃ p, v = .ref p ∧ H p = some (.tup (natsV l))
theorem ValO.mono {H H' : Hp} {v : V} {o : Option (List Nat)} (h : ValO H v o) (e : Same H H') : ValO H' v o := by
  cases o with
  | none => exact h
  | some l => obtain ⟨p, h1, h2⟩ := h; exact ⟨p, h1, e _ _ h2⟩
theorem ValO.lst {H : Hp} {q : Addr} {l l' : List V} {v : V} {o : Option (List Nat)} (h : ValO H v o) (hq : H q = some (.lst l)) : ValO (upd H q (.lst l')) v o := by
  cases o with
  | none => exact h
  | some l => obtain ⟨p, h1, h2⟩ := h; exact ⟨p, h1, by rw [upd_ne (ne_of h2 hq (by intro z; cases z))]; exact h2⟩
def FoundN (H : Hp) (l : Addr) (ks : List Str) (i : Nat) : Prop := ∃ vs : List V, H l = some (.lst vs) ∧ vs.length = i ∧ ∀ k v, vs[k]? = some v → ∃ o, Due ks k o ∧ ValO H v o
theorem FoundN.mono {H H' : Hp} {l : Addr} {ks : List Str} {i : Nat} (h : FoundN H l ks i) (e : Same H H') : FoundN H' l ks i :=
  let ⟨vs, h1, h2, h3⟩ := h; ⟨vs, e _ _ h1, h2, fun k v q => let ⟨o, d, z⟩ := h3 k v q; ⟨o, d, z.mono e⟩⟩
theorem FoundN.push {H : Hp} {l : Addr} {ks : List Str} {i : Nat} {vs : List V} {v : V} {o : Option (List Nat)} (h1 : H l = some (.lst vs)) (h2 : vs.length = i) (h3 : ∀ k v, vs[k]? = some v → ∃ o, Due ks k o ∧ ValO H v o) (hd : Due ks i o) (hv : ValO H v o) : FoundN (upd H l (.lst (vs ++ [v]))) l ks (i + 1) := by
  refine ⟨_, upd_same, by rw [List.length_append, h2]; rfl, fun k v' q => ?_⟩
  rcases Nat.lt_or_ge k vs.length with z | z
  · rw [List.getElem?_append_left z] at q
    obtain ⟨o', d, y⟩ := h3 k v' q
    exact ⟨o', d, y.lst h1⟩
  · rw [List.getElem?_append_right z] at q
    have hk : k - vs.length = 0 := by
      rcases Nat.eq_zero_or_pos (k - vs.length) with y | y
      · exact y
      · rw [List.getElem?_eq_none (by simp; omega)] at q
        cases q
    rw [hk] at q
    have hv' : v = v' := by simpa using q
    subst hv'
    have : k = i := by omega
    subst this
    exact ⟨o, hd, hv.lst h1⟩
def rIsi (K : PySem.W.Frag) : List V → Hp → VK → Prop := fun xs H Q => ∃ x c t b, xs = [x, .ty c] ∧ TyOf K H x t ∧ PySem.W.kitOne K t (.type c) = some b ∧ Q (.bl b) H
section
variable {P : Program} {w : World} {K : PySem.W.Frag} {mg : Str → Option Value} {base : Heap}

def sp_begins_of (K : PySem.W.Frag) : Sp := fun vs H Q _ => ∃ (a : Addr) (ks : List Str), vs = [.ref a] ∧ RowsAt K H a ks ∧ Wf ks ∧ ks.length ≤ 1000 ∧ ∀ d H', Same H H' → H d = none → H' d = some (.dK (bg ks ks.length)) → Q (.ref d) H'
def sp_firsts_behind (K : PySem.W.Frag) : Sp := fun vs H Q _ => ∃ (a d : Addr) (ks : List Str), vs = [.ref a, .ref d] ∧ RowsAt K H a ks ∧ Wf ks ∧ ks.length ≤ 1000 ∧ H d = some (.dK (bg ks ks.length)) ∧ ∀ l o H', Same (upd H d (.frz o (.dK (bg ks ks.length)))) H' → H l = none → BehL H' l ks → Q (.ref l) H'
def sp_ways (K : PySem.W.Frag) : Sp := fun vs H Q _ => ∃ (a : Addr) (ks : List Str), vs = [.ref a] ∧ RowsAt K H a ks ∧ Wf ks ∧ ks.length ≤ 1000 ∧ ∀ l H', Same H H' → H l = none → FoundN H' l ks ks.length → Q (.ref l) H'
def sp_l_due (K : PySem.W.Frag) : Sp := fun vs H Q _ => ∃ (a : Addr) (ks : List Str) (k : Nat) (o : Option (List Nat)), vs = [.ref a, .int k] ∧ RowsAt K H a ks ∧ Wf ks ∧ k < ks.length ∧ Due ks k o ∧ ∀ v H', Same H H' → ValO H' v o → Q v H'
theorem lt_line {n : Nat} (h : n < 1000000) : n ≤ sizeLine := by
  have : (1000000 : Nat) < sizeLine := by decide
  omega
theorem eq_str (s t : Str) : decide (V.str s = V.str t) = decide (s = t) := by
  by_cases h : s = t
  · rw [h, decide_eq_true rfl, decide_eq_true rfl]
  · rw [decide_eq_false h, decide_eq_false fun z => h (V.str.inj z)]
theorem vq {Q : VK} {H : Hp} {x y : V} (h : x = y) (q : Q y H) : Q x H := by subst h; exact q

theorem sqT_lst {K : PySem.W.Frag} {H : Hp} {a q : Addr} {xs l : List V} {o : HO} (h : SqT K H a xs) (hq : H q = some (.lst l)) : SqT K (upd H q o) a xs := by
  rcases h with (h | ⟨o, h⟩) | h
  · exact .inl (.inl (by rw [upd_ne (ne_of h hq (by intro z; cases z))]; exact h))
  · exact .inl (.inr ⟨o, by rw [upd_ne (ne_of h hq (by intro z; cases z))]; exact h⟩)
  · exact .inr h
def RowsL (K : PySem.W.Frag) (H : Hp) (vs : List V) (ks : List Str) : Prop := ∃ rs : List Addr, vs = rs.map V.ref ∧ rs.length = ks.length ∧ ∀ i r, rs[i]? = some r → ∃ rest, SqT K H r (V.str (kd ks i) :: rest)
theorem RowsL.mono {H H' : Hp} {vs : List V} {ks : List Str} (h : RowsL K H vs ks) (e : Same H H') : RowsL K H' vs ks :=
  let ⟨rs, h1, h2, h3⟩ := h; ⟨rs, h1, h2, fun i r q => let ⟨rest, z⟩ := h3 i r q; ⟨rest, e.tup z⟩⟩
theorem RowsL.lst {H : Hp} {q : Addr} {l vs : List V} {o : HO} {ks : List Str} (h : RowsL K H vs ks) (hq : H q = some (.lst l)) : RowsL K (upd H q o) vs ks :=
  let ⟨rs, h1, h2, h3⟩ := h; ⟨rs, h1, h2, fun i r q => let ⟨rest, z⟩ := h3 i r q; ⟨rest, sqT_lst z hq⟩⟩
theorem RowsL.len {H : Hp} {vs : List V} {ks : List Str} (h : RowsL K H vs ks) : vs.length = ks.length := by
  obtain ⟨rs, rfl, h2, _⟩ := h
  rw [List.length_map, h2]
theorem RowsL.nil {H : Hp} : RowsL K H [] [] := ⟨[], rfl, rfl, fun i r q => by cases q⟩
theorem RowsL.app {H : Hp} {vs us : List V} {ks js : List Str} (h : RowsL K H vs ks) (g : RowsL K H us js) : RowsL K H (vs ++ us) (ks ++ js) := by
  obtain ⟨rs, rfl, h2, h3⟩ := h
  obtain ⟨ts, rfl, g2, g3⟩ := g
  refine ⟨rs ++ ts, by rw [List.map_append], by rw [List.length_append, List.length_append, h2, g2], fun i r q => ?_⟩
  rcases Nat.lt_or_ge i rs.length with z | z
  · rw [List.getElem?_append_left z] at q
    rw [kd_left (by omega)]
    exact h3 i r q
  · rw [List.getElem?_append_right z] at q
    obtain ⟨j, rfl⟩ := Nat.exists_eq_add_of_le z
    rw [Nat.add_sub_cancel_left] at q
    rw [h2, kd_right]
    exact g3 j r q
theorem RowsL.one {H : Hp} {r : Addr} {x : Str} {rest : List V} (h : SqT K H r (V.str x :: rest)) : RowsL K H [V.ref r] [x] :=
  ⟨[r], rfl, rfl, fun i r' q => by
    cases i with
    | zero =>
      have : r = r' := by simpa using q
      subst this
      exact ⟨rest, h⟩
    | succ i => cases q⟩
theorem RowsL.push {H : Hp} {r : Addr} {x : Str} {rest vs : List V} {ks : List Str} (g : RowsL K H vs ks) (h : SqT K H r (V.str x :: rest)) : RowsL K H (vs ++ [V.ref r]) (ks ++ [x]) := g.app (.one h)
theorem RowsL.at {H : Hp} {a : Addr} {vs : List V} {ks : List Str} (g : RowsL K H vs ks) (h : SqT K H a vs) : RowsAt K H a ks := by
  obtain ⟨rs, rfl, h2, h3⟩ := g
  exact ⟨rs, h, h2, h3⟩
theorem RowsAt.rl {H : Hp} {a : Addr} {ks : List Str} (g : RowsAt K H a ks) : ∃ vs, SqT K H a vs ∧ RowsL K H vs ks :=
  let ⟨rs, h1, h2, h3⟩ := g.ex; ⟨_, h1, rs, rfl, h2, h3⟩
theorem RowsL.rep {H : Hp} {r : Addr} {x : Str} {rest : List V} (h : SqT K H r (V.str x :: rest)) : ∀ n, RowsL K H (List.replicate n [V.ref r]).flatten (List.replicate n x)
  | 0 => .nil
  | n + 1 => by
    rw [List.replicate_succ, List.replicate_succ, List.flatten_cons]
    exact RowsL.app (.one h) (RowsL.rep h n)
def sp_law (K : PySem.W.Frag) : Sp := fun vs H Q _ => ∃ (a : Addr) (ns : List Int), vs = [.ref a] ∧ SqL K H a (ns.map V.int) ∧ ns.length ≤ 63 ∧ ∀ H', Q (.bl true) H'
theorem le3 : 3 ≤ sizeLine := by decide
theorem le4 : 4 ≤ sizeLine := by decide
def Nm (s : Str) : Prop := PyData.strOk s = true
theorem pw48 : (0 : Int) < (2 : Int) ^ (48 : Int).toNat := by decide
theorem RowsAt.lst {H : Hp} {a q : Addr} {l : List V} {o : HO} {ks : List Str} (h : RowsAt K H a ks) (hq : H q = some (.lst l)) : RowsAt K (upd H q o) a ks :=
  let ⟨_, h1, h2⟩ := h.rl; (h2.lst hq).at (sqT_lst h1 hq)
end
end K13

set_option Elab.async false
set_option linter.all false
set_option maxRecDepth 100000
set_option maxHeartbeats 4000000
namespace Fl
open PySem L2 Gx

structure Rw where
  r : Addr
  k : Str
  c : Str
structure Fd where
  name : Str
  fa : Addr
  ra : Addr
  rs : List Rw
def RowK (K : PySem.W.Frag) (H : Hp) (w : Rw) : Prop := ∃ rest, SqT K H w.r (V.str w.k :: rest) ∧ (w.k = "call" → ∃ x y, rest = [x, .str w.c, y])
theorem RowK.mono {K : PySem.W.Frag} {H H' : Hp} {w : Rw} (e : Same H H') (h : RowK K H w) : RowK K H' w := let ⟨rest, h1, h2⟩ := h; ⟨rest, e.tup h1, h2⟩
structure FnAt (K : PySem.W.Frag) (H : Hp) (f : Fd) : Prop where
  fn : ∃ fo pa, SqT K H f.fa [.str f.name, fo, .ref pa, .ref f.ra]
  rw_ : SqT K H f.ra (f.rs.map fun w => V.ref w.r)
  rk : ∀ w ∈ f.rs, RowK K H w
  fu : ∃ ps ds, K12.FunAt K H f.fa ps ds
  wf : K13.Wf (f.rs.map (·.k))
  len : f.rs.length ≤ 100
theorem FnAt.mono {K : PySem.W.Frag} {H H' : Hp} {f : Fd} (e : Same H H') (h : FnAt K H f) : FnAt K H' f :=
  ⟨let ⟨a, b, z⟩ := h.fn; ⟨a, b, e.tup z⟩, e.tup h.rw_, fun w hw => (h.rk w hw).mono e, let ⟨a, b, z⟩ := h.fu; ⟨a, b, z.mono e⟩, h.wf, h.len⟩
theorem FnAt.rows {K : PySem.W.Frag} {H : Hp} {f : Fd} (h : FnAt K H f) : K13.RowsAt K H f.ra (f.rs.map (·.k)) := by
  refine ⟨f.rs.map (·.r), by rw [List.map_map]; exact h.rw_, by rw [List.length_map, List.length_map], fun i r hr => ?_⟩
  rw [List.getElem?_map] at hr
  cases e : f.rs[i]? with
  | none => rw [e] at hr; cases hr
  | some w =>
    rw [e] at hr
    cases hr
    obtain ⟨rest, h1, _⟩ := h.rk w (List.mem_of_getElem? e)
    refine ⟨rest, ?_⟩
    have : K13.kd (f.rs.map (·.k)) i = w.k := by
      unfold K13.kd
      rw [List.getD_eq_getElem?_getD, List.getElem?_map, e]
      rfl
    rw [this]
    exact h1

def look (fns : List Fd) (g : Str) : Option Fd := fns.find? fun f => decide (f.name = g)
def rowsD (fns : List Fd) : List (Key × V) := fns.map fun f => (Sum.inr f.name, V.ref f.ra)
structure FS (C : Addr) (H : Hp) (x dx : Addr) (fs : List (Str × V)) (d : Nat → Addr) (kv : Nat → List (Key × V)) : Prop where
  ob : H x = some (.ins C dx fs)
  dc : ∀ j, j < 6 → H (d j) = some (.dK (kv j))
theorem FS.mono {C : Addr} {H H' : Hp} {x dx : Addr} {fs : List (Str × V)} {d : Nat → Addr} {kv : Nat → List (Key × V)} (e : Same H H') (h : FS C H x dx fs d kv) : FS C H' x dx fs d kv := ⟨e _ _ h.ob, fun j hj => e _ _ (h.dc j hj)⟩
theorem FS.put {C : Addr} {H : Hp} {x dx : Addr} {fs : List (Str × V)} {d : Nat → Addr} {kv : Nat → List (Key × V)} (h : FS C H x dx fs d kv) (inj : ∀ i j, i < 6 → j < 6 → d i = d j → i = j) (j : Nat) (hj : j < 6) (k' : List (Key × V)) : FS C (upd H (d j) (.dK k')) x dx fs d (fun i => if i = j then k' else kv i) := by
  refine ⟨?_, fun i hi => ?_⟩
  · rw [upd_ne (ne_of h.ob (h.dc j hj) (by intro z; cases z))]; exact h.ob
  · by_cases e : i = j
    · subst e
      rw [upd_same, if_pos rfl]
    · rw [upd_ne (fun z => e (inj i j hi hj z)), if_neg e]
      exact h.dc i hi
def flds (v : V) (d : Nat → Addr) : List (Str × V) := putF "ways_in" (.ref (d 5)) (putF "names_in" (.ref (d 4)) (putF "rows_of" (.ref (d 3)) (putF "params_of" (.ref (d 2)) (putF "folded_of" (.ref (d 1)) (putF "number_of" (.ref (d 0)) (putF "last" v []))))))
theorem lk_number (v : V) (d : Nat → Addr) : (flds v d).lookup ("number_of" : Str) = some (.ref (d 0)) := by
  unfold flds
  rw [lookup_putF, if_neg (by decide +kernel), lookup_putF, if_neg (by decide +kernel), lookup_putF, if_neg (by decide +kernel), lookup_putF, if_neg (by decide +kernel), lookup_putF, if_neg (by decide +kernel), lookup_putF, if_pos rfl]
theorem lk_folded (v : V) (d : Nat → Addr) : (flds v d).lookup ("folded_of" : Str) = some (.ref (d 1)) := by
  unfold flds
  rw [lookup_putF, if_neg (by decide +kernel), lookup_putF, if_neg (by decide +kernel), lookup_putF, if_neg (by decide +kernel), lookup_putF, if_neg (by decide +kernel), lookup_putF, if_pos rfl]
theorem lk_params (v : V) (d : Nat → Addr) : (flds v d).lookup ("params_of" : Str) = some (.ref (d 2)) := by
  unfold flds
  rw [lookup_putF, if_neg (by decide +kernel), lookup_putF, if_neg (by decide +kernel), lookup_putF, if_neg (by decide +kernel), lookup_putF, if_pos rfl]
theorem lk_rows (v : V) (d : Nat → Addr) : (flds v d).lookup ("rows_of" : Str) = some (.ref (d 3)) := by
  unfold flds
  rw [lookup_putF, if_neg (by decide +kernel), lookup_putF, if_neg (by decide +kernel), lookup_putF, if_pos rfl]
theorem lk_names (v : V) (d : Nat → Addr) : (flds v d).lookup ("names_in" : Str) = some (.ref (d 4)) := by
  unfold flds
  rw [lookup_putF, if_neg (by decide +kernel), lookup_putF, if_pos rfl]
theorem lk_ways (v : V) (d : Nat → Addr) : (flds v d).lookup ("ways_in" : Str) = some (.ref (d 5)) := by
  unfold flds
  rw [lookup_putF, if_pos rfl]
def FlowsAt (K : PySem.W.Frag) (C : Addr) (H : Hp) (x : Addr) (fns : List Fd) : Prop := ∃ dx v d kv, FS C H x dx (flds v d) d kv ∧ kv 3 = rowsD fns ∧ ∀ f ∈ fns, FnAt K H f
theorem FlowsAt.mono {K : PySem.W.Frag} {C : Addr} {H H' : Hp} {x : Addr} {fns : List Fd} (e : Same H H') (h : FlowsAt K C H x fns) : FlowsAt K C H' x fns :=
  let ⟨dx, v, d, kv, h1, h2, h3⟩ := h; ⟨dx, v, d, kv, h1.mono e, h2, fun f hf => (h3 f hf).mono e⟩
def dd (d0 d1 d2 d3 d4 d5 : Addr) : Nat → Addr
  | 0 => d0
  | 1 => d1
  | 2 => d2
  | 3 => d3
  | 4 => d4
  | _ => d5
theorem new_ne {H : Hp} {a b : Addr} {o : HO} (h : upd H a o b = none) : b ≠ a ∧ H b = none := by
  have hn : b ≠ a := fun z => by rw [z, upd_same] at h; cases h
  rw [upd_ne hn] at h
  exact ⟨hn, h⟩
theorem upd_at {H : Hp} {a b : Addr} {o o' : HO} (h : H b = some o) (hn : b ≠ a) : upd H a o' b = some o := by rw [upd_ne hn]; exact h
theorem fld_len (f : Str) (v : V) (l : List (Str × V)) (k : Nat) (h : l.length ≤ k) : (putF f v l).length ≤ k + 1 := Nat.le_trans (length_putF f v l) (by omega)
theorem at_ref {α : Type} {l : List α} {f : α → V} {r : Int} {a : α} (h0 : 0 ≤ r) (h : l[r.toNat]? = some a) : atI (l.map f) r = some (f a) := by
  obtain ⟨j, rfl⟩ := Int.eq_ofNat_of_zero_le h0
  refine atI_nat ?_
  rw [Int.toNat_natCast] at h
  rw [List.getElem?_map, h]
  rfl
end Fl

set_option Elab.async false
set_option linter.all false
set_option maxRecDepth 100000
set_option maxHeartbeats 4000000
namespace L2
open PySem

def hl (H : Hp) : Hp := fun b => match H b with
  | some (.lst xs) => some (.lst xs)
  | some (.tup xs) => some (.tup xs)
  | _ => none
theorem hl_same {H : Hp} : Same (hl H) H := fun b o h => by
  unfold hl at h
  split at h
  · rename_i e; rw [e]; exact h
  · rename_i e; rw [e]; exact h
  · cases h
theorem hl_lst {H : Hp} {b : Addr} {xs : List V} (h : H b = some (.lst xs)) : hl H b = some (.lst xs) := by unfold hl; rw [h]
theorem hl_tup {H : Hp} {b : Addr} {xs : List V} (h : H b = some (.tup xs)) : hl H b = some (.tup xs) := by unfold hl; rw [h]
theorem Same.hl {H H' : Hp} (e : Same H H') : Same (hl H) (hl H') := fun b o h => by
  have h1 := hl_same _ _ h
  have h2 := e _ _ h1
  unfold L2.hl at h ⊢
  rw [h1] at h
  rw [h2]
  exact h

theorem hl_upd {H : Hp} {a : Addr} {o : HO} (h : ∀ xs, H a ≠ some (.lst xs) ∧ H a ≠ some (.tup xs)) (ho : ∀ xs, o ≠ .lst xs ∧ o ≠ .tup xs) : hl (upd H a o) = hl H := by
  funext b
  unfold hl upd
  by_cases hb : b = a
  · subst hb
    rw [if_pos rfl]
    cases o with
    | lst xs => exact absurd rfl (ho xs).1
    | tup xs => exact absurd rfl (ho xs).2
    | _ =>
      cases e : H b with
      | none => rfl
      | some u => cases u with
        | lst xs => exact absurd e (h xs).1
        | tup xs => exact absurd e (h xs).2
        | _ => rfl
  · rw [if_neg hb]
theorem hl_dK {H : Hp} {a : Addr} {kvs kvs' : List (Key × V)} (h : H a = some (.dK kvs)) : hl (upd H a (.dK kvs')) = hl H :=
  hl_upd (fun xs => ⟨(by rw [h]; intro z; cases z), (by rw [h]; intro z; cases z)⟩) fun xs => ⟨(by intro z; cases z), (by intro z; cases z)⟩
end L2
namespace K13
open PySem L2
theorem FoundN.hl {H : Hp} {l : Addr} {ks : List Str} {i : Nat} (h : FoundN H l ks i) : FoundN (L2.hl H) l ks i := by
  obtain ⟨vs, h1, h2, h3⟩ := h
  refine ⟨vs, hl_lst h1, h2, fun k v q => ?_⟩
  obtain ⟨o, d, z⟩ := h3 k v q
  refine ⟨o, d, ?_⟩
  cases o with
  | none => exact z
  | some l => obtain ⟨p, z1, z2⟩ := z; exact ⟨p, z1, hl_tup z2⟩
end K13
namespace F2
open PySem L2 Gx Fl
structure Fd where
  name : Str
  fo : V
  fa : Addr
  pa : Addr
  ra : Addr
  ps : List Str
  rs : List Rw
  ds : List K12.RowD
structure FnAt (K : PySem.W.Frag) (H : Hp) (f : Fd) : Prop where
  fn : SqT K H f.fa [.str f.name, f.fo, .ref f.pa, .ref f.ra]
  pr : SqT K H f.pa (f.ps.map V.str)
  rw_ : SqT K H f.ra (f.rs.map fun w => V.ref w.r)
  rk : ∀ w ∈ f.rs, RowK K H w
  fu : K12.FunAt K H f.fa f.ps f.ds
  wf : K13.Wf (f.rs.map (·.k))
  len : f.rs.length ≤ 100
theorem FnAt.mono {K : PySem.W.Frag} {H H' : Hp} {f : Fd} (e : Same H H') (h : FnAt K H f) : FnAt K H' f :=
  ⟨e.tup h.fn, e.tup h.pr, e.tup h.rw_, fun w hw => (h.rk w hw).mono e, h.fu.mono e, h.wf, h.len⟩
def toF (f : Fd) : Fl.Fd := ⟨f.name, f.fa, f.ra, f.rs⟩
theorem FnAt.old {K : PySem.W.Frag} {H : Hp} {f : Fd} (h : FnAt K H f) : Fl.FnAt K H (toF f) := ⟨⟨_, _, h.fn⟩, h.rw_, h.rk, ⟨_, _, h.fu⟩, h.wf, h.len⟩

def nms (f : Fd) : List Str := K12.onceL (K12.allOf f.ps f.ds)
def kds (f : Fd) : List Str := f.rs.map (·.k)

def kD (g : Nat → Fd → V) (fns : List Fd) : List (Key × V) := fns.mapIdx fun i f => (Sum.inr f.name, g i f)
theorem kD_snoc (g : Nat → Fd → V) (fns : List Fd) (f : Fd) : kD g (fns ++ [f]) = kD g fns ++ [(Sum.inr f.name, g fns.length f)] := by
  unfold kD
  rw [List.mapIdx_append]
  simp
theorem kD_congr {g g' : Nat → Fd → V} {fns : List Fd} (h : ∀ i f, i < fns.length → g i f = g' i f) : kD g fns = kD g' fns := by
  unfold kD
  refine List.ext_getElem (by simp) fun i h1 h2 => ?_
  simp only [List.getElem_mapIdx]
  rw [h i _ (by simpa using h1)]
theorem kD_none (g : Nat → Fd → V) {fns : List Fd} {s : Str} (h : s ∉ fns.map (·.name)) : valV (kD g fns) (Sum.inr s : Key) = none := by
  unfold valV
  rw [Option.map_eq_none_iff, List.find?_eq_none]
  intro kv hkv z
  unfold kD at hkv
  obtain ⟨i, hi, e⟩ := List.mem_mapIdx.mp hkv
  subst e
  have z : (Sum.inr fns[i].name : Key) = Sum.inr s := by simpa using z
  exact h (List.mem_map.mpr ⟨fns[i], List.getElem_mem hi, Sum.inr.inj z⟩)
theorem not_before {fns : List Fd} {f : Fd} {i : Nat} (h : fns[i]? = some f) (nd : (fns.map (·.name)).Nodup) : f.name ∉ (fns.take i).map (·.name) := by
  intro z
  obtain ⟨g, hg, e⟩ := List.mem_map.mp z
  obtain ⟨j, hj⟩ := List.getElem?_of_mem hg
  have hji : j < i := by
    have := (List.getElem?_eq_some_iff.mp hj).1
    rw [List.length_take] at this
    omega
  rw [List.getElem?_take_of_lt hji] at hj
  have h1 : (fns.map (·.name))[i]? = some f.name := by rw [List.getElem?_map, h]; rfl
  have h2 : (fns.map (·.name))[j]? = some f.name := by rw [List.getElem?_map, hj]; exact congrArg some e
  have := (List.getElem?_inj (List.getElem?_eq_some_iff.mp h2).1 nd).mp (h2.trans h1.symm)
  omega
theorem kD_put {g g' : Nat → Fd → V} {fns : List Fd} {f : Fd} {i : Nat} {v : V} (h : fns[i]? = some f) (nd : (fns.map (·.name)).Nodup) (hg : ∀ j f, j < i → g j f = g' j f) (hv : v = g' i f) : putK (kD g (fns.take i)) (Sum.inr f.name : Key) v = kD g' (fns.take (i + 1)) := by
  have hi : i < fns.length := (List.getElem?_eq_some_iff.mp h).1
  have hl : (fns.take i).length = i := by rw [List.length_take]; omega
  rw [putK_new _ (kD_none g (not_before h nd)), List.take_add_one, h]
  show _ = kD g' (fns.take i ++ [f])
  rw [kD_snoc, hl, ← hv, kD_congr (g := g) (g' := g') fun j f hj => hg j f (by omega)]
theorem kD_at (g : Nat → Fd → V) : ∀ {fns : List Fd} {i : Nat} {f : Fd}, (fns.map (·.name)).Nodup → fns[i]? = some f → valV (kD g fns) (Sum.inr f.name : Key) = some (g i f) := by
  intro fns i f nd h
  have hi : i < fns.length := (List.getElem?_eq_some_iff.mp h).1
  have key : ∀ k, i < k → k ≤ fns.length → valV (kD g (fns.take k)) (Sum.inr f.name : Key) = some (g i f) := by
    intro k
    induction k with
    | zero => intro h0; exact absurd h0 (Nat.not_lt_zero _)
    | succ k ih =>
      intro hk hk'
      obtain ⟨f', hf'⟩ : ∃ f', fns[k]? = some f' := ⟨fns[k], List.getElem?_eq_getElem (by omega)⟩
      rw [← kD_put (g := g) (g' := g) hf' nd (fun _ _ _ => rfl) rfl, valV_put]
      by_cases e : i = k
      · subst e
        rw [h] at hf'
        cases hf'
        rw [if_pos rfl]
      · have hn : ¬ (Sum.inr f.name : Key) = Sum.inr f'.name := fun z => not_before hf' nd (List.mem_map.mpr ⟨f, List.mem_of_getElem? (by rw [List.getElem?_take_of_lt (show i < k by omega)]; exact h), Sum.inr.inj z⟩)
        rw [if_neg hn]
        exact ih (by omega) (by omega)
  have := key fns.length hi (Nat.le_refl _)
  rw [List.take_length] at this
  exact this

structure FlowsAt (K : PySem.W.Frag) (C : Addr) (H : Hp) (x : Addr) (fns : List Fd) : Prop where
  all : ∀ f ∈ fns, FnAt K H f
  nd : (fns.map (·.name)).Nodup
  ob : ∃ dx fz d kv, ∃ nl wl : Nat → Addr, fns[fns.length - 1]? = some fz ∧ FS C H x dx (flds (V.str fz.name) d) d kv ∧ kv 0 = kD (fun i _ => .int i) fns ∧ kv 1 = kD (fun _ f => f.fo) fns ∧ kv 2 = kD (fun _ f => .ref f.pa) fns ∧ kv 3 = kD (fun _ f => .ref f.ra) fns ∧
    kv 4 = kD (fun i _ => .ref (nl i)) fns ∧ kv 5 = kD (fun i _ => .ref (wl i)) fns ∧ ∀ i f, fns[i]? = some f → H (nl i) = some (.lst ((nms f).map V.str)) ∧ K13.FoundN H (wl i) (kds f) (kds f).length
theorem FlowsAt.mono {K : PySem.W.Frag} {C : Addr} {H H' : Hp} {x : Addr} {fns : List Fd} (e : Same H H') (h : FlowsAt K C H x fns) : FlowsAt K C H' x fns := by
  obtain ⟨dx, fz, d, kv, nl, wl, h0, h1, h2, h3, h4, h5, h6, h7, h8⟩ := h.ob
  exact ⟨fun f hf => (h.all f hf).mono e, h.nd, ⟨dx, fz, d, kv, nl, wl, h0, h1.mono e, h2, h3, h4, h5, h6, h7, fun i f hi => ⟨e _ _ (h8 i f hi).1, (h8 i f hi).2.mono e⟩⟩⟩
end F2

set_option Elab.async false
set_option linter.all false
set_option maxRecDepth 100000
set_option maxHeartbeats 4000000
namespace K21
open PySem L2
abbrev wide : Int := 281474976710656
def bw (s : Str) (a b : Int) : Int := if s = "&" then Builtin.bitAnd a b else if s = "|" then Builtin.bitOr a b else Builtin.bitXor a b
def bitOf (s : Str) (x y : Int) : Int := if s = "&" then x * y else if s = "|" then x + y - x * y else (x + y) % 2
theorem mod2 (x : Int) : x % 2 = 0 ∨ x % 2 = 1 := by omega
theorem bitOf_01 (s : Str) (a b : Int) : 0 ≤ bitOf s (a % 2) (b % 2) ∧ bitOf s (a % 2) (b % 2) ≤ 1 := by
  unfold bitOf
  rcases mod2 a with h | h <;> rcases mod2 b with h' | h' <;> rw [h, h'] <;> (split; decide; split <;> decide)
theorem halves {x y : Int} (hx : 0 ≤ x) (hy : 0 ≤ y) : Builtin.bitAnd x y = 2 * Builtin.bitAnd (x / 2) (y / 2) + (x % 2) * (y % 2) := by
  obtain ⟨n, rfl⟩ := Int.eq_ofNat_of_zero_le hx
  obtain ⟨m, rfl⟩ := Int.eq_ofNat_of_zero_le hy
  rw [PyProof.Rows.bitAnd_pp hx hy, PyProof.Rows.bitAnd_pp (by omega) (by omega)]
  have e1 : (Int.ofNat n).toNat = n := rfl
  have e2 : (Int.ofNat m).toNat = m := rfl
  have e3 : ((n : Int) / 2).toNat = n / 2 := by omega
  have e4 : ((m : Int) / 2).toNat = m / 2 := by omega
  have a1 : ((n &&& m) / 2) = (n / 2) &&& (m / 2) := Nat.and_div_two
  have a2 : (n &&& m) % 2 = (n % 2) * (m % 2) := by
    have h1 := Nat.and_mod_two_eq_one (a := n) (b := m)
    rcases Nat.mod_two_eq_zero_or_one n with h | h <;> rcases Nat.mod_two_eq_zero_or_one m with h' | h' <;> rw [h, h'] at h1 ⊢ <;> omega
  have a3 := Nat.div_add_mod (n &&& m) 2
  show ((n &&& m : Nat) : Int) = _
  rw [e3, e4, ← a1]
  have a4 : ((n : Int) % 2) * ((m : Int) % 2) = (((n % 2) * (m % 2) : Nat) : Int) := by
    rw [Int.natCast_mul]
    rfl
  show _ = 2 * (((n &&& m) / 2 : Nat) : Int) + ((n : Int) % 2) * ((m : Int) % 2)
  rw [a4, ← a2]
  omega
theorem bw_step (s : Str) {a b : Int} (ha : 0 ≤ a) (hb : 0 ≤ b) : bw s a b = 2 * bw s (a / 2) (b / 2) + bitOf s (a % 2) (b % 2) := by
  have h := halves ha hb
  unfold bw bitOf
  split
  · exact h
  · split
    · rw [PyProof.Rows.bitOr_and, PyProof.Rows.bitOr_and, h]
      omega
    · have e : ∀ x y : Int, Builtin.bitXor x y = x + y - 2 * Builtin.bitAnd x y := fun x y => by
        unfold Builtin.bitXor
        rw [PyProof.Rows.bitOr_and]
        omega
      rw [e, e, h]
      rcases mod2 a with p | p <;> rcases mod2 b with p' | p' <;> rw [p, p'] <;> omega
theorem bw_zero (s : Str) : bw s 0 0 = 0 := by
  unfold bw
  split
  · rfl
  · split <;> rfl
theorem bw_bound (s : Str) : ∀ (n : Nat) {a b : Int}, 0 ≤ a → 0 ≤ b → a < 2 ^ n → b < 2 ^ n → 0 ≤ bw s a b ∧ bw s a b < 2 ^ n
  | 0, a, b, h1, h2, h3, h4 => by
    have e1 : a = 0 := by simp at h3; omega
    have e2 : b = 0 := by simp at h4; omega
    subst e1 e2
    rw [bw_zero]
    decide
  | n + 1, a, b, h1, h2, h3, h4 => by
    rw [Int.pow_succ] at h3 h4 ⊢
    have ih := bw_bound s n (a := a / 2) (b := b / 2) (by omega) (by omega) (by omega) (by omega)
    have st := bw_step s h1 h2
    have bb := bitOf_01 s a b
    omega
def valOf (s : Str) (a b : Int) : Int :=
  if s = "+" then (a + b) % wide else if s = "-" then (a - b) % wide else if s = "*" then (a * b) % wide else if s = "/" then (if b = 0 then 0 else a / b)
  else if s = "<" then (if a < b then 1 else 0) else if s = "=" then (if a = b then 1 else 0) else bw s a b
theorem val_bound (s : Str) {a b : Int} (ha : 0 ≤ a) (hb : 0 ≤ b) (ha' : a < wide) (hb' : b < wide) : 0 ≤ valOf s a b ∧ valOf s a b < wide := by
  have m : ∀ z : Int, 0 ≤ z % wide ∧ z % wide < wide := fun z => ⟨Int.emod_nonneg _ (by decide), Int.emod_lt_of_pos _ (by decide)⟩
  unfold valOf
  split
  · exact m _
  split
  · exact m _
  split
  · exact m _
  split
  · split
    · decide
    · have h1 : 0 ≤ a / b := Int.ediv_nonneg ha hb
      have h2 : a / b ≤ a := Int.ediv_le_self b ha
      omega
  split
  · split <;> decide
  split
  · split <;> decide
  exact bw_bound s 48 ha hb ha' hb'
end K21

set_option Elab.async false
set_option linter.all false
set_option maxRecDepth 100000
set_option maxHeartbeats 4000000
namespace Rk2
open PySem L2 K21

inductive Tr where
  | box (k : Int) : Tr
  | num (v : Int) : Tr
  | op (s : Str) (l r : Tr) : Tr
  deriving DecidableEq
def lvs : Tr → List (Bool × Int)
  | .box k => [(true, k)]
  | .num v => [(false, v)]
  | .op _ l r => lvs l ++ lvs r
def dp : Tr → Nat
  | .box _ => 0
  | .num _ => 0
  | .op _ l r => max (dp l) (dp r) + 1
def leaf : Tr → Bool
  | .op _ _ _ => false
  | _ => true
def RAt (H : Hp) : Tr → V → Prop
  | .box k, v => ∃ p, v = .ref p ∧ H p = some (.tup [.str "box", .int k])
  | .num n, v => ∃ p, v = .ref p ∧ H p = some (.tup [.str "num", .int n])
  | .op s l r, v => ∃ p x y, v = .ref p ∧ H p = some (.tup [.str s, x, y]) ∧ ¬ s = "box" ∧ ¬ s = "num" ∧ RAt H l x ∧ RAt H r y
theorem RAt.mono {H H' : Hp} (e : Same H H') : ∀ {t : Tr} {v : V}, RAt H t v → RAt H' t v
  | .box k, v, h => let ⟨p, h1, h2⟩ := h; ⟨p, h1, e _ _ h2⟩
  | .num n, v, h => let ⟨p, h1, h2⟩ := h; ⟨p, h1, e _ _ h2⟩
  | .op s l r, v, h => let ⟨p, x, y, h1, h2, h3, h4, h5, h6⟩ := h; ⟨p, x, y, h1, e _ _ h2, h3, h4, RAt.mono e h5, RAt.mono e h6⟩
theorem tup_lst {H : Hp} {a q : Addr} {xs l : List V} {o : HO} (h : H a = some (.tup xs)) (hq : H q = some (.lst l)) : (upd H q o) a = some (.tup xs) := by
  rw [upd_ne (ne_of h hq (by intro z; cases z))]
  exact h
theorem RAt.lst {H : Hp} {q : Addr} {l : List V} {o : HO} (hq : H q = some (.lst l)) : ∀ {t : Tr} {v : V}, RAt H t v → RAt (upd H q o) t v
  | .box k, v, h => let ⟨p, h1, h2⟩ := h; ⟨p, h1, tup_lst h2 hq⟩
  | .num n, v, h => let ⟨p, h1, h2⟩ := h; ⟨p, h1, tup_lst h2 hq⟩
  | .op s l r, v, h => let ⟨p, x, y, h1, h2, h3, h4, h5, h6⟩ := h; ⟨p, x, y, h1, tup_lst h2 hq, h3, h4, RAt.lst hq h5, RAt.lst hq h6⟩
theorem RAt.upd {H : Hp} {q : Addr} {o o' : HO} (hq : H q = some o') (hn : ∀ xs, o' ≠ .tup xs) : ∀ {t : Tr} {v : V}, RAt H t v → RAt (upd H q o) t v
  | .box k, v, h => let ⟨p, h1, h2⟩ := h; ⟨p, h1, by rw [upd_ne (ne_of h2 hq (fun z => hn _ z.symm))]; exact h2⟩
  | .num n, v, h => let ⟨p, h1, h2⟩ := h; ⟨p, h1, by rw [upd_ne (ne_of h2 hq (fun z => hn _ z.symm))]; exact h2⟩
  | .op s l r, v, h => let ⟨p, x, y, h1, h2, h3, h4, h5, h6⟩ := h; ⟨p, x, y, h1, by rw [upd_ne (ne_of h2 hq (fun z => hn _ z.symm))]; exact h2, h3, h4, RAt.upd hq hn h5, RAt.upd hq hn h6⟩

def Ps {α : Type} (R : α → V → Prop) : List V → List α → Prop
  | [], [] => True
  | v :: us, t :: ts => R t v ∧ Ps R us ts
  | _, _ => False
variable {α : Type} {R R' : α → V → Prop}
theorem Ps.imp (f : ∀ t v, R t v → R' t v) : ∀ {us : List V} {ts : List α}, Ps R us ts → Ps R' us ts
  | [], [], _ => trivial
  | v :: us, t :: ts, h => ⟨f _ _ h.1, Ps.imp f h.2⟩
  | [], _ :: _, h => h.elim
  | _ :: _, [], h => h.elim
theorem Ps.len : ∀ {us : List V} {ts : List α}, Ps R us ts → us.length = ts.length
  | [], [], _ => rfl
  | v :: us, t :: ts, h => by rw [List.length_cons, List.length_cons, Ps.len h.2]
  | [], _ :: _, h => h.elim
  | _ :: _, [], h => h.elim
theorem Ps.app : ∀ {us us' : List V} {ts ts' : List α}, Ps R us ts → Ps R us' ts' → Ps R (us ++ us') (ts ++ ts')
  | [], _, [], _, _, h => h
  | v :: us, _, t :: ts, _, h, h' => ⟨h.1, Ps.app h.2 h'⟩
  | [], _, _ :: _, _, h, _ => h.elim
  | _ :: _, _, [], _, h, _ => h.elim
theorem Ps.take : ∀ {us : List V} {ts : List α} (n : Nat), Ps R us ts → Ps R (us.take n) (ts.take n)
  | _, _, 0, _ => by simp [Ps]
  | [], [], n + 1, _ => trivial
  | v :: us, t :: ts, n + 1, h => ⟨h.1, Ps.take n h.2⟩
  | [], _ :: _, _ + 1, h => h.elim
  | _ :: _, [], _ + 1, h => h.elim
theorem Ps.drop : ∀ {us : List V} {ts : List α} (n : Nat), Ps R us ts → Ps R (us.drop n) (ts.drop n)
  | _, _, 0, h => h
  | [], [], n + 1, _ => trivial
  | v :: us, t :: ts, n + 1, h => Ps.drop n h.2
  | [], _ :: _, _ + 1, h => h.elim
  | _ :: _, [], _ + 1, h => h.elim
theorem Ps.at : ∀ {us : List V} {ts : List α} {n : Nat}, Ps R us ts → n < ts.length → ∃ u t, us[n]? = some u ∧ ts[n]? = some t ∧ R t u
  | v :: us, t :: ts, 0, h, _ => ⟨v, t, rfl, rfl, h.1⟩
  | v :: us, t :: ts, n + 1, h, hn => by
    obtain ⟨u, t', h1, h2, h3⟩ := Ps.at (n := n) h.2 (by simpa using hn)
    exact ⟨u, t', by simpa using h1, by simpa using h2, h3⟩
  | [], [], _, _, hn => absurd hn (Nat.not_lt_zero _)
  | [], _ :: _, _, h, _ => h.elim
  | _ :: _, [], _, h, _ => h.elim
def all (ts : List Tr) : List (Bool × Int) := (ts.map lvs).flatten
def bxs : List (Bool × Int) → List Int
  | [] => []
  | (true, k) :: r => k :: bxs r
  | (false, _) :: r => bxs r
theorem bxs_app : ∀ (a b : List (Bool × Int)), bxs (a ++ b) = bxs a ++ bxs b
  | [], b => rfl
  | (true, k) :: r, b => by
    show k :: bxs (r ++ b) = _
    rw [bxs_app r b]
    rfl
  | (false, _) :: r, b => bxs_app r b
theorem bxs_mem (k : Int) : ∀ (a : List (Bool × Int)), k ∈ bxs a ↔ (true, k) ∈ a
  | [] => by simp [bxs]
  | (true, j) :: r => by simp [bxs, bxs_mem k r]
  | (false, j) :: r => by simp [bxs, bxs_mem k r]
theorem one_char (c : Nat) : ¬ (⟨#[c]⟩ : Str) = "box" ∧ ¬ (⟨#[c]⟩ : Str) = "num" := by
  refine ⟨fun z => ?_, fun z => ?_⟩
  · have := congrArg Str.length z
    exact absurd this (by show ¬ (1 = Str.length "box"); decide +kernel)
  · have := congrArg Str.length z
    exact absurd this (by show ¬ (1 = Str.length "num"); decide +kernel)

def pairD (s : Str) (k : Int) : PyData := .tuple [.str s, .int k]
theorem datV_pair {K : PySem.W.Frag} {H : Hp} {p : Addr} {s : Str} {k : Int} (h : SqT K H p [.str s, .int k]) : DatV K H (pairD s k) (.ref p) := by
  unfold pairD DatV
  refine ⟨p, _, rfl, h, ?_⟩
  unfold DatAll
  refine ⟨_, _, rfl, (by unfold DatV; rfl), ?_⟩
  unfold DatAll
  refine ⟨_, _, rfl, (by unfold DatV; rfl), ?_⟩
  unfold DatAll
  rfl
theorem eqv_pair (s s' : Str) (k b : Int) : PyData.eqv (pairD s k) (pairD s' b) = (decide (s = s') && decide (k = b)) := by
  unfold pairD PyData.eqv PyData.eqvAll
  unfold PyData.eqvAll PyData.eqv
  unfold PyData.eqvAll
  rw [Bool.eq_iff_iff]
  simp
theorem inBN (s : Str) : inV (.str s) [V.str "box", V.str "num"] = (decide (s = "box") || decide (s = "num")) := by
  show ((("box" : Str) == s) || ((("num" : Str) == s) || false)) = _
  rw [Bool.or_false]
  congr 1 <;> (rw [Bool.eq_iff_iff, beq_iff_eq, decide_eq_true_eq]; exact eq_comm)

theorem RAt.head {H : Hp} {tr : Tr} {v : V} (h : RAt H tr v) : ∃ p hd rest, v = .ref p ∧ H p = some (.tup (.str hd :: rest)) ∧ (hd = "num" → ∃ k, tr = .num k ∧ rest = [.int k]) ∧ (¬ hd = "num" → ∀ k, tr ≠ .num k) := by
  cases tr with
  | box k =>
    obtain ⟨p, rfl, e⟩ := h
    exact ⟨p, _, _, rfl, e, fun z => absurd z (by decide +kernel), fun _ k z => by cases z⟩
  | num k =>
    obtain ⟨p, rfl, e⟩ := h
    exact ⟨p, _, _, rfl, e, fun _ => ⟨k, rfl, rfl⟩, fun z => absurd rfl z⟩
  | op s l r =>
    obtain ⟨p, x, y, rfl, e, n1, n2, _, _⟩ := h
    exact ⟨p, _, _, rfl, e, fun z => absurd z n2, fun _ k z => by cases z⟩
def tog (s : Str) : Tr → Tr → Tr
  | .num x, .num y => .num (valOf s x y)
  | a, b => .op s a b
theorem tog_op {s : Str} {a b : Tr} (h : (∀ k, a ≠ .num k) ∨ ∀ k, b ≠ .num k) : tog s a b = .op s a b := by
  unfold tog
  split
  · rcases h with h | h
    · exact absurd rfl (h _)
    · exact absurd rfl (h _)
  · rfl

def okl (l : List (Bool × Int)) : Prop := ∀ v, (false, v) ∈ l → 0 ≤ v ∧ v < wide
theorem okl_num {v : Int} (h : okl (lvs (.num v))) : 0 ≤ v ∧ v < wide := h v List.mem_cons_self
theorem vq {Q : VK} {H : Hp} {x y : V} (h : x = y) (q : Q y H) : Q x H := by subst h; exact q
theorem pw48 : ((2 : Int) ^ (48 : Int).toNat) = wide := by decide
theorem pos48 : (0 : Int) < (2 : Int) ^ (48 : Int).toNat := by decide
theorem le0 : 0 ≤ sizeLine := by decide
theorem le1 : 1 ≤ sizeLine := by decide
theorem le2 : 2 ≤ sizeLine := by decide
theorem le3 : 3 ≤ sizeLine := by decide
theorem le4 : 4 ≤ sizeLine := by decide
theorem lt_line {n : Nat} (h : n < 1000000) : n ≤ sizeLine := by
  have : (1000000 : Nat) < sizeLine := by decide
  omega
theorem lt_line' {n : Nat} (h : n < 1000000) : n < sizeLine := by
  have : (1000000 : Nat) < sizeLine := by decide
  omega
theorem at0 {x : V} {r : List V} : atI (x :: r) 0 = some x := by
  unfold atI ixN
  rw [if_pos (by decide), if_pos (by simp)]
  rfl
theorem ok_box : PyData.strOk "box" = true := by decide +kernel
theorem ok_num : PyData.strOk "num" = true := by decide +kernel
theorem num_box : ¬ (("num" : Str) = "box") := by decide +kernel
theorem box_num : ¬ (("box" : Str) = "num") := by decide +kernel
theorem sg_len : ((("+-*/<=&|^" : Str).cps.toList.length : Nat) : Int) = 9 := by decide +kernel
theorem sg_fit : ("+-*/<=&|^" : Str).length ≤ sizeLine := by decide +kernel
def Sg (s : Str) : Prop := ¬ s = "box" ∧ ¬ s = "num"
theorem sg_at {i : Int} (h0 : 0 ≤ i) (h1 : i < 9) : ∃ ch, atI ("+-*/<=&|^" : Str).cps.toList i = some ch := by
  obtain ⟨ch, hch, _⟩ := atI_some (xs := ("+-*/<=&|^" : Str).cps.toList) (i := i) h0 (by rw [sg_len]; exact h1)
  exact ⟨ch, hch⟩
theorem u1 {A : Around} (h : A.units + 64 < cLine) : A.units + 1 < cLine := by omega

theorem okl_app {a b : List (Bool × Int)} (h : okl (a ++ b)) : okl a ∧ okl b := ⟨fun v hv => h v (List.mem_append.mpr (.inl hv)), fun v hv => h v (List.mem_append.mpr (.inr hv))⟩
def PAt (H : Hp) (t : Tr × Int × Int) (v : V) : Prop := ∃ p x, v = .ref p ∧ H p = some (.tup [x, .int t.2.1, .int t.2.2]) ∧ RAt H t.1 x
theorem PAt.mono {H H' : Hp} {t : Tr × Int × Int} {v : V} (h : PAt H t v) (e : Same H H') : PAt H' t v := let ⟨p, x, h1, h2, h3⟩ := h; ⟨p, x, h1, e _ _ h2, h3.mono e⟩
theorem PAt.upd {H : Hp} {q : Addr} {o o' : HO} {t : Tr × Int × Int} {v : V} (h : PAt H t v) (hq : H q = some o') (hn : ∀ xs, o' ≠ .tup xs) : PAt (upd H q o) t v :=
  let ⟨p, x, h1, h2, h3⟩ := h; ⟨p, x, h1, by rw [upd_ne (ne_of h2 hq (fun z => hn _ z.symm))]; exact h2, h3.upd hq hn⟩
theorem no_dk {l : List (Key × V)} : ∀ xs, HO.dK l ≠ .tup xs := fun xs z => by cases z
theorem putK_len (kvs : List (Key × V)) (k : Key) (v : V) : (putK kvs k v).length ≤ kvs.length + 1 := by
  unfold putK
  split
  · rw [List.length_map]; omega
  · rw [List.length_append]; exact Nat.le_refl _
end Rk2

set_option Elab.async false
set_option linter.all false
set_option maxRecDepth 100000
set_option maxHeartbeats 4000000
namespace Rk2
open PySem L2 K21

def pt (g : Int → Option Tr) : Tr → Tr
  | .num v => .num v
  | .box k => (g k).getD (.box k)
  | .op s l r => tog s (pt g l) (pt g r)
def NV (H : Hp) (kvs : List (Key × V)) (g : Int → Option Tr) : Prop := ∀ k, match g k with | none => valV kvs (Sum.inl k : Key) = none | some t => ∃ x, valV kvs (Sum.inl k : Key) = some x ∧ RAt H t x
theorem NV.no {H : Hp} {kvs : List (Key × V)} {g : Int → Option Tr} (h : NV H kvs g) {k : Int} (e : g k = none) : valV kvs (Sum.inl k : Key) = none := by
  have := h k
  rw [e] at this
  exact this
theorem NV.yes {H : Hp} {kvs : List (Key × V)} {g : Int → Option Tr} (h : NV H kvs g) {k : Int} {t : Tr} (e : g k = some t) : ∃ x, valV kvs (Sum.inl k : Key) = some x ∧ RAt H t x := by
  have := h k
  rw [e] at this
  exact this
theorem NV.of {H : Hp} {kvs : List (Key × V)} {g : Int → Option Tr} (h1 : ∀ k, g k = none → valV kvs (Sum.inl k : Key) = none) (h2 : ∀ k t, g k = some t → ∃ x, valV kvs (Sum.inl k : Key) = some x ∧ RAt H t x) : NV H kvs g := fun k => by
  cases e : g k with
  | none => exact h1 k e
  | some t => exact h2 k t e
theorem NV.mono {H H' : Hp} {kvs : List (Key × V)} {g : Int → Option Tr} (h : NV H kvs g) (s : Same H H') : NV H' kvs g :=
  .of (fun k e => h.no e) fun k t e => let ⟨x, h1, h2⟩ := h.yes e; ⟨x, h1, h2.mono s⟩
theorem NV.upd {H : Hp} {q : Addr} {o o' : HO} {kvs : List (Key × V)} {g : Int → Option Tr} (h : NV H kvs g) (hq : H q = some o') (hn : ∀ xs, o' ≠ .tup xs) : NV (upd H q o) kvs g :=
  .of (fun k e => h.no e) fun k t e => let ⟨x, h1, h2⟩ := h.yes e; ⟨x, h1, h2.upd hq hn⟩
def setG (g : Int → Option Tr) (k : Int) (t : Tr) : Int → Option Tr := fun j => if j = k then some t else g j
theorem NV.put {H : Hp} {kvs : List (Key × V)} {g : Int → Option Tr} (h : NV H kvs g) {k : Int} {t : Tr} {x : V} (r : RAt H t x) : NV H (putK kvs (Sum.inl k : Key) x) (setG g k t) := by
  refine .of (fun j e => ?_) fun j t' e => ?_
  · unfold setG at e
    split at e
    · cases e
    · rename_i hj
      rw [valV_put, if_neg (fun z => hj (Sum.inl.inj z))]
      exact h.no e
  · unfold setG at e
    split at e
    · rename_i hj
      cases e
      exact ⟨x, by rw [valV_put, if_pos (by rw [hj])], r⟩
    · rename_i hj
      obtain ⟨y, h1, h2⟩ := h.yes e
      exact ⟨y, by rw [valV_put, if_neg (fun z => hj (Sum.inl.inj z))]; exact h1, h2⟩
theorem okl_tog {s : Str} {a b : Tr} (ha : okl (lvs a)) (hb : okl (lvs b)) : okl (lvs (tog s a b)) := by
  unfold tog
  split
  · rename_i x y
    have h1 := okl_num ha
    have h2 := okl_num hb
    have h3 := val_bound s h1.1 h2.1 h1.2 h2.2
    intro v hv
    have := List.mem_singleton.mp hv
    cases this
    exact h3
  · intro v hv
    rcases List.mem_append.mp hv with hv | hv
    · exact ha v hv
    · exact hb v hv
theorem okl_pt {g : Int → Option Tr} (hg : ∀ k t, g k = some t → okl (lvs t)) : ∀ {tr : Tr}, okl (lvs tr) → okl (lvs (pt g tr))
  | .num v, h => h
  | .box k, h => by
    show okl (lvs ((g k).getD (.box k)))
    cases e : g k with
    | none => exact h
    | some t => exact hg k t e
  | .op s l r, h => okl_tog (okl_pt hg (okl_app h).1) (okl_pt hg (okl_app h).2)
theorem dp_tog' {s : Str} {a b : Tr} {n : Nat} (h1 : dp a ≤ n) (h2 : dp b ≤ n) : dp (tog s a b) ≤ n + 1 := by
  unfold tog
  split
  · exact Nat.zero_le _
  · show max (dp a) (dp b) + 1 ≤ n + 1
    omega
theorem dp_pt {g : Int → Option Tr} {m : Nat} (hg : ∀ k t, g k = some t → dp t ≤ m) : ∀ (tr : Tr), dp (pt g tr) ≤ dp tr + m
  | .num v => Nat.zero_le _
  | .box k => by
    show dp ((g k).getD (.box k)) ≤ _
    cases e : g k with
    | none => exact Nat.zero_le _
    | some t => have := hg k t e; show dp t ≤ 0 + m; omega
  | .op s l r => by
    have h1 := dp_pt hg l
    have h2 := dp_pt hg r
    have := dp_tog' (s := s) (a := pt g l) (b := pt g r) (n := max (dp l) (dp r) + m) (by omega) (by omega)
    show dp (tog s (pt g l) (pt g r)) ≤ max (dp l) (dp r) + 1 + m
    omega
end Rk2

set_option Elab.async false
set_option linter.all false
set_option maxRecDepth 100000
set_option maxHeartbeats 4000000
namespace Rk2
open PySem L2 K21

theorem okl_one {v : Int} (h0 : 0 ≤ v) (h1 : v < wide) : okl (lvs (.num v)) := fun w hw => by
  have h := List.mem_singleton.mp hw
  cases h
  exact ⟨h0, h1⟩
theorem okl_box (k : Int) : okl (lvs (.box k)) := fun w hw => by
  have h := List.mem_singleton.mp hw
  cases h
theorem two_at {x y i : Int} (h0 : 0 ≤ i) (h1 : i < 2) : atI [V.int x, V.int y] i = some (.int (if i = 0 then x else y)) := by
  have : i = 0 ∨ i = 1 := by omega
  rcases this with e | e <;> subst e <;> rfl
theorem RAt.self {H : Hp} {t : Tr} {v : V} (h : RAt H t v) : selfV v = true := by
  obtain ⟨p, _, _, rfl, _⟩ := h.head
  rfl

def QAt (H : Hp) (t : Tr × Tr) (v : V) : Prop := ∃ p x y, v = .ref p ∧ H p = some (.tup [x, y]) ∧ RAt H t.1 x ∧ RAt H t.2 y
theorem QAt.mono {H H' : Hp} {t : Tr × Tr} {v : V} (h : QAt H t v) (e : Same H H') : QAt H' t v := let ⟨p, x, y, h1, h2, h3, h4⟩ := h; ⟨p, x, y, h1, e _ _ h2, h3.mono e, h4.mono e⟩
theorem QAt.upd {H : Hp} {q : Addr} {o o' : HO} {t : Tr × Tr} {v : V} (h : QAt H t v) (hq : H q = some o') (hn : ∀ xs, o' ≠ .tup xs) : QAt (upd H q o) t v :=
  let ⟨p, x, y, h1, h2, h3, h4⟩ := h; ⟨p, x, y, h1, by rw [upd_ne (ne_of h2 hq (fun z => hn _ z.symm))]; exact h2, h3.upd hq hn, h4.upd hq hn⟩
end Rk2

set_option Elab.async false
set_option linter.all false
set_option maxRecDepth 100000
set_option maxHeartbeats 4000000
namespace K41
open PySem L2 Gx Fl
structure RR where
  w : Rw
  d : K12.RowD
def RRok (K : PySem.W.Frag) (H : Hp) (x : RR) : Prop := x.w.r = x.d.r ∧ RowK K H x.w ∧ K12.RowAt K H x.d
theorem at_i (i : Int) : K12.Atom (.int i) := .inr ⟨i, rfl⟩
theorem at_s {s : Str} (h : K12.Nm s) : K12.Atom (.str s) := .inl ⟨s, rfl, h⟩
theorem mem1 {p : V → Prop} {a : V} (h : p a) : ∀ v ∈ [a], p v := fun v hv => by rw [List.mem_singleton.mp hv]; exact h
def rcall (r : Addr) (nm f : Str) (as : List V) : RR := ⟨⟨r, "call", f⟩, ⟨r, 0, 0, some nm, as⟩⟩
def rone (k : Str) (r : Addr) (a : V) : RR := ⟨⟨r, k, ""⟩, ⟨r, 0, 0, none, [a]⟩⟩
theorem ok_call {K : PySem.W.Frag} {H : Hp} {r q : Addr} {nm f : Str} {as : List V} (h : SqT K H r [.str "call", .str nm, .str f, .ref q]) (hn : K12.Nm nm) (hq : SqT K H q as) (ha : ∀ v ∈ as, K12.Atom v) (hl : as.length ≤ 10) : RRok K H (rcall r nm f as) :=
  ⟨rfl, ⟨_, h, fun _ => ⟨_, _, rfl⟩⟩, ⟨⟨_, h, .call nm f q as hq⟩, ha, hl, fun x hx => by cases hx; exact hn⟩⟩
theorem ok_out {K : PySem.W.Frag} {H : Hp} {r : Addr} {a : V} (h : SqT K H r [.str "out", a]) (ha : K12.Atom a) : RRok K H (rone "out" r a) :=
  ⟨rfl, ⟨_, h, fun z => absurd z (by show ¬ (("out" : Str) = "call"); decide +kernel)⟩, ⟨⟨_, h, .out a⟩, mem1 ha, by show 1 ≤ 10; decide, fun x hx => by cases hx⟩⟩
theorem ok_back {K : PySem.W.Frag} {H : Hp} {r : Addr} {a : V} (h : SqT K H r [.str "back", a]) (ha : K12.Atom a) : RRok K H (rone "back" r a) :=
  ⟨rfl, ⟨_, h, fun z => absurd z (by show ¬ (("back" : Str) = "call"); decide +kernel)⟩, ⟨⟨_, h, .back a⟩, mem1 ha, by show 1 ≤ 10; decide, fun x hx => by cases hx⟩⟩
theorem good_rep {ks os : List Str} {x : Str} (g : K13.Good ks os) (h1 : ¬ K13.isO x = true) (h2 : ¬ K13.isE x = true) (h3 : ¬ x = "end") : ∀ n, K13.Good (ks ++ List.replicate n x) os
  | 0 => by rw [List.replicate_zero, List.append_nil]; exact g
  | n + 1 => by rw [List.replicate_succ', ← List.append_assoc]; exact (good_rep g h1 h2 h3 n).plain h1 h2 h3
def lc (z : Int) : Nat := K12.lets.cps.toList.getD z.toNat 0
theorem lets26 : K12.lets.cps.toList.length = 26 := by decide +kernel
theorem lc_at {z : Int} (h0 : 0 ≤ z) (h1 : z < 26) : atI K12.lets.cps.toList z = some (lc z) := by
  obtain ⟨j, rfl⟩ := Int.eq_ofNat_of_zero_le h0
  have hj : j < K12.lets.cps.toList.length := by rw [lets26]; omega
  refine atI_nat ?_
  unfold lc
  rw [Int.toNat_natCast, List.getD_eq_getElem?_getD, List.getElem?_eq_getElem hj]
  rfl
theorem lc_mem {z : Int} (h0 : 0 ≤ z) (h1 : z < 26) : lc z ∈ K12.lets.cps.toList := by
  have hj : z.toNat < K12.lets.cps.toList.length := by rw [lets26]; omega
  unfold lc
  rw [List.getD_eq_getElem?_getD, List.getElem?_eq_getElem hj]
  exact List.getElem_mem hj
theorem lc_inj {x y : Int} (x0 : 0 ≤ x) (x1 : x < 26) (y0 : 0 ≤ y) (y1 : y < 26) (h : lc x = lc y) : x = y := by
  have key : ∀ i < 26, ∀ j < 26, K12.lets.cps.toList.getD i 0 = K12.lets.cps.toList.getD j 0 → i = j := by decide +kernel
  have := key x.toNat (by omega) y.toNat (by omega) h
  omega
theorem ok_lets {l : List Nat} (h : ∀ c ∈ l, c ∈ K12.lets.cps.toList) : PyData.strOk (tx l) = true := by
  have hz := K12.lets_ok
  unfold PyData.strOk at hz ⊢
  rw [Array.all_eq_true'] at hz ⊢
  intro x hx
  have hx : x ∈ l := by simpa [tx] using hx
  exact hz x (by simpa using h x hx)
def tkV : List V := [V.str "fn", V.str "in", V.str "new", V.str "get", V.str "put", V.str "call", V.str "out", V.str "if", V.str "while", V.str "else", V.str "end", V.str "back"]
def bse (W : List Nat) (a : Nat) (z : Int) (k : Nat) : List Nat := W.take a ++ [lc ((z + k) % 26)] ++ W.drop a
def nmk (W : List Nat) (a : Nat) (z : Int) (k : Nat) : Str := if inV (.str (tx (bse W a z k))) tkV = true then tx (bse W a z k ++ [120]) else tx (bse W a z k)
theorem bse_len (W : List Nat) (a : Nat) (z : Int) (k : Nat) : (bse W a z k).length = W.length + 1 := by
  unfold bse
  rw [List.length_append, List.length_append, List.length_take, List.length_drop]
  simp
  omega
theorem bse_inj {W : List Nat} {a : Nat} {z : Int} {i j : Nat} (hi : i < 26) (hj : j < 26) (h : bse W a z i = bse W a z j) : i = j := by
  unfold bse at h
  rw [List.append_assoc, List.append_assoc] at h
  have h := List.append_cancel_left h
  have h := (List.cons.inj h).1
  have b1 := emod_bd (z + i) 26 (by decide)
  have b2 := emod_bd (z + j) 26 (by decide)
  have := lc_inj b1.1 b1.2 b2.1 b2.2 h
  omega
theorem nmk_inj {W : List Nat} {a : Nat} {z : Int} {i j : Nat} (hi : i < 26) (hj : j < 26) (h : nmk W a z i = nmk W a z j) : i = j := by
  have l1 := bse_len W a z i
  have l2 := bse_len W a z j
  unfold nmk at h
  split at h
  · split at h
    · have := tx_inj h
      exact bse_inj hi hj (List.append_cancel_right this)
    · have := congrArg List.length (tx_inj h)
      rw [List.length_append] at this
      simp at this
      omega
  · split at h
    · have := congrArg List.length (tx_inj h)
      rw [List.length_append] at this
      simp at this
      omega
    · exact bse_inj hi hj (tx_inj h)
theorem nmk_nm {W : List Nat} {a : Nat} {z : Int} {k : Nat} (hW : ∀ c ∈ W, c ∈ K12.lets.cps.toList) (hl : W.length ≤ 10) : K12.Nm (nmk W a z k) := by
  have b1 := emod_bd (z + k) 26 (by decide)
  have hm : ∀ c ∈ bse W a z k, c ∈ K12.lets.cps.toList := fun c hc => by
    unfold bse at hc
    rcases List.mem_append.mp hc with h | h
    · rcases List.mem_append.mp h with h | h
      · exact hW c (List.mem_of_mem_take h)
      · rw [List.mem_singleton.mp h]; exact lc_mem b1.1 b1.2
    · exact hW c (List.mem_of_mem_drop h)
  have l1 := bse_len W a z k
  unfold nmk
  split
  · refine ⟨by rw [tx_len, List.length_append, l1]; simp; omega, ok_lets fun c hc => ?_⟩
    rcases List.mem_append.mp hc with h | h
    · exact hm c h
    · rw [List.mem_singleton.mp h]; decide +kernel
  · exact ⟨by rw [tx_len, l1]; omega, ok_lets hm⟩
theorem tx_to {l : List Nat} {j : Nat} (h : j ≤ l.length) : PySem.Txt.slice (tx l) none (some (j : Int)) = tx (l.take j) := by
  have := PyProof.Rows.slice_closes_to (x := tx l) (j := (j : Int)) ⟨by omega, by rw [tx_cps]; omega⟩
  rw [beq_iff_eq, tx_cps] at this
  rw [this]
  simp [tx]
theorem tx_from {l : List Nat} {j : Nat} (h : j ≤ l.length) : PySem.Txt.slice (tx l) (some (j : Int)) none = tx (l.drop j) := by
  have := PyProof.Rows.slice_from_eq (x := tx l) (i := (j : Int)) (b := (l.length : Int)) (by omega) (by rw [tx_len]; omega) (by rw [tx_len])
  rw [this, tx_cps]
  have e : ((l.length : Int) - (j : Int)).toNat = (l.drop j).length := by rw [List.length_drop]; omega
  rw [e, Int.toNat_natCast, List.take_length]
  rfl

theorem FnAt.lst {K : PySem.W.Frag} {H : Hp} {f : Fd} {u : Addr} {l l' : List V} (h : FnAt K H f) (hu : H u = some (.lst l)) : FnAt K (upd H u (.lst l')) f := by
  refine ⟨?_, K13.sqT_lst h.rw_ hu, fun w hw => ?_, ?_, h.wf, h.len⟩
  · obtain ⟨a, b, z⟩ := h.fn
    exact ⟨a, b, K13.sqT_lst z hu⟩
  · obtain ⟨rest, h1, h2⟩ := h.rk w hw
    exact ⟨rest, K13.sqT_lst h1 hu, h2⟩
  · obtain ⟨ps, ds, z⟩ := h.fu
    obtain ⟨n, b, pp, r, z1, z2, z3⟩ := z.fn
    exact ⟨ps, ds, ⟨n, b, pp, r, K13.sqT_lst z1 hu, K13.sqT_lst z2 hu, K13.sqT_lst z3 hu⟩, fun d hd => K12.rowAt_lst (z.rows d hd) hu, z.pn, z.pl, z.dl⟩
end K41

set_option Elab.async false
set_option linter.all false
set_option maxRecDepth 100000
set_option maxHeartbeats 4000000
namespace Bg
open PySem L2 Gx Rk2

def trD : Tr → PyData
  | .box k => .tuple [.str "box", .int k]
  | .num v => .tuple [.str "num", .int v]
  | .op s l r => .tuple [.str s, trD l, trD r]
def sgOk : Tr → Prop
  | .op s l r => PyData.strOk s = true ∧ sgOk l ∧ sgOk r
  | _ => True
theorem trD_lay : ∀ {t : Tr}, sgOk t → Lay (dp t + 1) (trD t)
  | .box k, _ => by
    unfold trD dp
    refine Lay.tuple fun d hd => ?_
    rcases List.mem_cons.mp hd with rfl | hd
    · exact Lay.str ok_box
    · cases List.mem_singleton.mp hd; exact Lay.int _
  | .num v, _ => by
    unfold trD dp
    refine Lay.tuple fun d hd => ?_
    rcases List.mem_cons.mp hd with rfl | hd
    · exact Lay.str ok_num
    · cases List.mem_singleton.mp hd; exact Lay.int _
  | .op s l r, h => by
    have h1 := trD_lay h.2.1
    have h2 := trD_lay h.2.2
    unfold trD dp
    refine Lay.tuple fun d hd => ?_
    rcases List.mem_cons.mp hd with rfl | hd
    · exact Lay.str h.1
    · rcases List.mem_cons.mp hd with rfl | hd
      · exact h1.mono (by have := Nat.le_max_left (dp l) (dp r); omega)
      · cases List.mem_singleton.mp hd; exact h2.mono (by have := Nat.le_max_right (dp l) (dp r); omega)
theorem datV_tr {K : PySem.W.Frag} {H : Hp} : ∀ {t : Tr} {v : V}, RAt H t v → DatV K H (trD t) v
  | .box k, v, h => by
    obtain ⟨p, rfl, e⟩ := h
    unfold trD DatV
    refine ⟨p, _, rfl, SqT.of e, ?_⟩
    unfold DatAll
    refine ⟨_, _, rfl, by unfold DatV; rfl, ?_⟩
    unfold DatAll
    refine ⟨_, _, rfl, by unfold DatV; rfl, ?_⟩
    unfold DatAll
    rfl
  | .num k, v, h => by
    obtain ⟨p, rfl, e⟩ := h
    unfold trD DatV
    refine ⟨p, _, rfl, SqT.of e, ?_⟩
    unfold DatAll
    refine ⟨_, _, rfl, by unfold DatV; rfl, ?_⟩
    unfold DatAll
    refine ⟨_, _, rfl, by unfold DatV; rfl, ?_⟩
    unfold DatAll
    rfl
  | .op s l r, v, h => by
    obtain ⟨p, x, y, rfl, e, n1, n2, hx, hy⟩ := h
    have ix := datV_tr (K := K) hx
    have iy := datV_tr (K := K) hy
    unfold trD DatV
    refine ⟨p, _, rfl, SqT.of e, ?_⟩
    unfold DatAll
    refine ⟨_, _, rfl, by unfold DatV; rfl, ?_⟩
    unfold DatAll
    refine ⟨_, _, rfl, ix, ?_⟩
    unfold DatAll
    refine ⟨_, _, rfl, iy, ?_⟩
    unfold DatAll
    rfl
theorem eqv_pair' (s s' : Str) (k b : Int) : PyData.eqv (.tuple [.str s, .int k]) (.tuple [.str s', .int b]) = (decide (s = s') && decide (k = b)) := eqv_pair s s' k b
theorem eqv_box (t : Tr) (k : Int) : PyData.eqv (trD t) (trD (.box k)) = decide (t = .box k) := by
  cases t with
  | box j =>
    refine (eqv_pair' _ _ _ _).trans ?_
    rw [decide_eq_true rfl, Bool.true_and, Bool.eq_iff_iff, decide_eq_true_eq, decide_eq_true_eq]
    exact ⟨fun e => by rw [e], fun e => Tr.box.inj e⟩
  | num v =>
    refine (eqv_pair' _ _ _ _).trans ?_
    rw [decide_eq_false num_box, Bool.false_and]
    exact (decide_eq_false (fun z => by cases z)).symm
  | op s l r =>
    rw [decide_eq_false (by intro z; cases z)]
    unfold trD PyData.eqv PyData.eqvAll
    unfold PyData.eqvAll
    unfold PyData.eqvAll
    rw [Bool.and_false, Bool.and_false]
theorem eqv_num (t : Tr) (k : Int) : PyData.eqv (trD t) (trD (.num k)) = decide (t = .num k) := by
  cases t with
  | num j =>
    refine (eqv_pair' _ _ _ _).trans ?_
    rw [decide_eq_true rfl, Bool.true_and, Bool.eq_iff_iff, decide_eq_true_eq, decide_eq_true_eq]
    exact ⟨fun e => by rw [e], fun e => Tr.num.inj e⟩
  | box v =>
    refine (eqv_pair' _ _ _ _).trans ?_
    rw [decide_eq_false box_num, Bool.false_and]
    exact (decide_eq_false (fun z => by cases z)).symm
  | op s l r =>
    rw [decide_eq_false (by intro z; cases z)]
    unfold trD PyData.eqv PyData.eqvAll
    unfold PyData.eqvAll
    unfold PyData.eqvAll
    rw [Bool.and_false, Bool.and_false]

structure Fr where
  a : Addr
  g : Str
  r : Int
def frD (f : Fr) : PyData := .tuple [.str f.g, .int f.r]
def chD (fr : List Fr) : PyData := .tuple (fr.map frD)
def ChAt (K : PySem.W.Frag) (H : Hp) (c : Addr) (fr : List Fr) : Prop := SqT K H c (fr.map fun f => V.ref f.a) ∧ ∀ f ∈ fr, SqT K H f.a [.str f.g, .int f.r] ∧ PyData.strOk f.g = true
theorem ChAt.mono {K : PySem.W.Frag} {H H' : Hp} {c : Addr} {fr : List Fr} (h : ChAt K H c fr) (e : Same H H') : ChAt K H' c fr := ⟨e.tup h.1, fun f hf => ⟨e.tup (h.2 f hf).1, (h.2 f hf).2⟩⟩
theorem datAll_fr {K : PySem.W.Frag} {H : Hp} : ∀ {fr : List Fr}, (∀ f ∈ fr, SqT K H f.a [.str f.g, .int f.r]) → DatAll K H (fr.map frD) (fr.map fun f => V.ref f.a)
  | [], _ => by rw [List.map_nil]; unfold DatAll; rfl
  | f :: fr, h => by
    rw [List.map_cons]
    unfold DatAll
    exact ⟨_, _, rfl, datV_pair (h f List.mem_cons_self), datAll_fr fun g hg => h g (List.mem_cons_of_mem _ hg)⟩
theorem ChAt.dat {K : PySem.W.Frag} {H : Hp} {c : Addr} {fr : List Fr} (h : ChAt K H c fr) : DatV K H (chD fr) (.ref c) := by
  unfold chD DatV
  exact ⟨c, _, rfl, h.1, datAll_fr fun f hf => (h.2 f hf).1⟩
theorem ChAt.lay {K : PySem.W.Frag} {H : Hp} {c : Addr} {fr : List Fr} (h : ChAt K H c fr) : Lay 2 (chD fr) := by
  unfold chD
  refine Lay.tuple fun d hd => ?_
  obtain ⟨f, hf, rfl⟩ := List.mem_map.mp hd
  unfold frD
  refine Lay.tuple fun d hd => ?_
  rcases List.mem_cons.mp hd with rfl | hd
  · exact Lay.str (h.2 f hf).2
  · cases List.mem_singleton.mp hd; exact Lay.int _
theorem eqv_ch (fr : List Fr) (a : Addr) (g : Str) (r : Int) : PyData.eqv (chD fr) (chD [⟨a, g, r⟩]) = decide (fr.map (fun f => (f.g, f.r)) = [(g, r)]) := by
  cases fr with
  | nil =>
    unfold chD PyData.eqv
    rw [List.map_nil, List.map_cons, List.map_nil]
    unfold PyData.eqvAll
    rw [decide_eq_false (by intro z; cases z)]
  | cons f rest =>
    unfold chD PyData.eqv
    rw [List.map_cons, List.map_cons, List.map_nil, List.map_cons]
    unfold PyData.eqvAll
    rw [show PyData.eqv (frD f) (frD ⟨a, g, r⟩) = (decide (f.g = g) && decide (f.r = r)) from eqv_pair' _ _ _ _]
    cases rest with
    | nil =>
      rw [List.map_nil]
      unfold PyData.eqvAll
      rw [Bool.and_true, Bool.eq_iff_iff]
      simp
    | cons f2 rest =>
      rw [List.map_cons]
      unfold PyData.eqvAll
      rw [Bool.and_false, decide_eq_false (by intro z; cases z)]

def gN (m : Int) : Int → Option Tr := fun k => if m ≤ k ∧ k < 128 then some (.num 0) else none
def emp (m : Int) (t : Tr) : List Int := (bxs (lvs t)).filter fun k => decide (m ≤ k)
def gE (m : Int) (t : Tr) : Int → Option Tr := fun k => if k ∈ emp m t then some (.num 0) else none
theorem pt_congr {g g' : Int → Option Tr} : ∀ {t : Tr}, (∀ k, (true, k) ∈ lvs t → g k = g' k) → pt g t = pt g' t
  | .num v, _ => rfl
  | .box k, h => by unfold pt; rw [h k List.mem_cons_self]
  | .op s l r, h => by
    unfold pt
    rw [pt_congr (t := l) fun k hk => h k (List.mem_append.mpr (.inl hk)), pt_congr (t := r) fun k hk => h k (List.mem_append.mpr (.inr hk))]
theorem pt_begin {m : Int} {t : Tr} (h : ∀ k, (true, k) ∈ lvs t → k < 128) : pt (gE m t) t = pt (gN m) t := by
  refine pt_congr fun k hk => ?_
  unfold gE gN emp
  have h1 : k ∈ List.filter (fun k => decide (m ≤ k)) (bxs (lvs t)) ↔ m ≤ k ∧ k < 128 := by
    rw [List.mem_filter, decide_eq_true_eq, bxs_mem]
    exact ⟨fun z => ⟨z.2, h k hk⟩, fun z => ⟨hk, z.1⟩⟩
  by_cases c : m ≤ k ∧ k < 128
  · rw [if_pos (h1.mpr c), if_pos c]
  · rw [if_neg (fun z => c (h1.mp z)), if_neg c]
theorem gE_ok {m : Int} {t : Tr} : ∀ k u, gE m t k = some u → okl (lvs u) := fun k u h => by
  unfold gE at h
  split at h
  · cases h; exact okl_one (by decide) (by decide)
  · cases h
theorem gN_ok {m : Int} : ∀ k u, gN m k = some u → okl (lvs u) := fun k u h => by
  unfold gN at h
  split at h
  · cases h; exact okl_one (by decide) (by decide)
  · cases h
theorem gN_dp {m : Int} : ∀ k u, gN m k = some u → dp u ≤ 0 := fun k u h => by
  unfold gN at h
  split at h
  · cases h; exact Nat.le_refl _
  · cases h
theorem sgOk_tog {s : Str} (hs : PyData.strOk s = true) {a b : Tr} (ha : sgOk a) (hb : sgOk b) : sgOk (tog s a b) := by
  cases a <;> cases b <;> first | exact trivial | exact ⟨hs, ha, hb⟩
theorem sgOk_pt {g : Int → Option Tr} (hg : ∀ k u, g k = some u → sgOk u) : ∀ {t : Tr}, sgOk t → sgOk (pt g t)
  | .num v, _ => trivial
  | .box k, _ => by
    unfold pt
    cases e : g k with
    | none => exact trivial
    | some u => exact hg k u e
  | .op s l r, h => sgOk_tog h.1 (sgOk_pt hg h.2.1) (sgOk_pt hg h.2.2)
theorem gN_sg {m : Int} : ∀ k u, gN m k = some u → sgOk u := fun k u h => by
  unfold gN at h
  split at h
  · cases h; exact trivial
  · cases h
theorem bxs_len : ∀ l : List (Bool × Int), (bxs l).length ≤ l.length
  | [] => Nat.le_refl _
  | (true, k) :: r => Nat.succ_le_succ (bxs_len r)
  | (false, _) :: r => Nat.le_succ_of_le (bxs_len r)
theorem lvs_len : ∀ t : Tr, (lvs t).length ≤ 2 ^ dp t
  | .box _ => Nat.le_refl _
  | .num _ => Nat.le_refl _
  | .op s l r => by
    have h1 := lvs_len l
    have h2 := lvs_len r
    have h3 : 2 ^ dp l ≤ 2 ^ max (dp l) (dp r) := Nat.pow_le_pow_right (by decide) (Nat.le_max_left _ _)
    have h4 : 2 ^ dp r ≤ 2 ^ max (dp l) (dp r) := Nat.pow_le_pow_right (by decide) (Nat.le_max_right _ _)
    show (lvs l ++ lvs r).length ≤ 2 ^ (max (dp l) (dp r) + 1)
    rw [List.length_append, Nat.pow_succ]
    omega

def VAt (H : Hp) : Option Tr → V → Prop
  | none, v => v = .non
  | some t, v => RAt H t v
theorem VAt.mono {H H' : Hp} {o : Option Tr} {v : V} (h : VAt H o v) (e : Same H H') : VAt H' o v := by
  cases o with
  | none => exact h
  | some t => exact RAt.mono e h
theorem VAt.lst {H : Hp} {q : Addr} {l : List V} {o : HO} (hq : H q = some (.lst l)) {u : Option Tr} {v : V} (h : VAt H u v) : VAt (upd H q o) u v := by
  cases u with
  | none => exact h
  | some t => exact RAt.lst hq h
def TOk (t : Tr) : Prop := okl (lvs t) ∧ sgOk t ∧ dp t ≤ 8 ∧ ∀ k, (true, k) ∈ lvs t → 0 ≤ k ∧ k < 128
def TOk' (n : Nat) (t : Tr) : Prop := okl (lvs t) ∧ sgOk t ∧ dp t ≤ n ∧ ∀ k, (true, k) ∈ lvs t → 0 ≤ k ∧ k < 128
theorem TOk'.ok {n : Nat} {t : Tr} (h : TOk' n t) (hn : n ≤ 8) : TOk t := ⟨h.1, h.2.1, Nat.le_trans h.2.2.1 hn, h.2.2.2⟩
theorem tok_box {n : Nat} {k : Int} (h : 0 ≤ k ∧ k < 128) : TOk' n (.box k) := ⟨okl_box k, trivial, Nat.zero_le _, fun j hj => by cases List.mem_singleton.mp hj; exact h⟩
theorem tok_num {n : Nat} {v : Int} (h0 : 0 ≤ v) (h1 : v < K21.wide) : TOk' n (.num v) := ⟨okl_one h0 h1, trivial, Nat.zero_le _, fun j hj => by cases List.mem_singleton.mp hj⟩
theorem tok_op {n : Nat} {s : Str} {a b : Tr} (hs : PyData.strOk s = true) (ha : TOk' n a) (hb : TOk' n b) : TOk' (n + 1) (.op s a b) :=
  ⟨fun v hv => (List.mem_append.mp hv).elim (ha.1 v) (hb.1 v), ⟨hs, ha.2.1, hb.2.1⟩, Nat.succ_le_succ (Nat.max_le.mpr ⟨ha.2.2.1, hb.2.2.1⟩), fun k hk => (List.mem_append.mp hk).elim (ha.2.2.2 k) (hb.2.2.2 k)⟩
theorem TOk'.mono {n m : Nat} {t : Tr} (h : TOk' n t) (hn : n ≤ m) : TOk' m t := ⟨h.1, h.2.1, Nat.le_trans h.2.2.1 hn, h.2.2.2⟩
theorem sg_ok {i : Int} {ch : Nat} (h : atI ("+-*/<=&|^" : Str).cps.toList i = some ch) : PyData.strOk (⟨#[ch]⟩ : Str) = true := by
  have hm : ch ∈ ("+-*/<=&|^" : Str).cps.toList := by
    unfold atI at h
    cases e : ixN ("+-*/<=&|^" : Str).cps.toList.length i with
    | none => rw [e] at h; cases h
    | some j => rw [e] at h; exact List.mem_of_getElem? h
  have key : ∀ c ∈ ("+-*/<=&|^" : Str).cps.toList, PyData.strOk (⟨#[c]⟩ : Str) = true := by decide +kernel
  exact key ch hm
theorem emod_bd' (a b : Int) (h : 0 < b) : 0 ≤ a % b ∧ a % b < b := ⟨Int.emod_nonneg _ (Int.ne_of_gt h), Int.emod_lt_of_pos _ h⟩
def BxL (bs : List Int) : Prop := bs.length = 8 ∧ ∀ b ∈ bs, 0 ≤ b ∧ b < 128
theorem bx_at {bs : List Int} (h : BxL bs) (z : Int) : ∃ b, (0 : Int) < ((bs.map V.int).length : Nat) ∧ atI (bs.map V.int) (z % ((bs.map V.int).length : Nat)) = some (.int b) ∧ 0 ≤ b ∧ b < 128 := by
  have hl : (bs.map V.int).length = 8 := by rw [List.length_map]; exact h.1
  have hz := emod_bd' z ((bs.map V.int).length : Nat) (by omega)
  obtain ⟨j, ej⟩ := Int.eq_ofNat_of_zero_le hz.1
  have hj : j < bs.length := by have := h.1; omega
  refine ⟨bs[j], by omega, ?_, (h.2 _ (List.getElem_mem hj)).1, (h.2 _ (List.getElem_mem hj)).2⟩
  rw [ej]
  refine atI_nat ?_
  rw [List.getElem?_map, List.getElem?_eq_getElem hj]
  rfl
def begun (m : Int) (k : Nat) : Tr := if (k : Int) < m then .box k else .num 0
theorem eqv_begun (t : Tr) (m : Int) (k : Nat) : PyData.eqv (trD t) (trD (begun m k)) = decide (t = begun m k) := by
  by_cases h : (k : Int) < m
  · have e : begun m k = .box k := if_pos h
    rw [e]
    exact eqv_box _ _
  · have e : begun m k = .num 0 := if_neg h
    rw [e]
    exact eqv_num _ _
theorem lay_begun (m : Int) (k : Nat) : Lay 1 (trD (begun m k)) := by
  by_cases h : (k : Int) < m
  · have e : begun m k = .box k := if_pos h
    rw [e]
    exact trD_lay (t := .box k) trivial
  · have e : begun m k = .num 0 := if_neg h
    rw [e]
    exact trD_lay (t := .num 0) trivial
def Holds (wait : Prop) (ch : List (Str × Int)) (name : Str) (m : Int) (view : List (Option Tr)) : Prop := ¬ wait ∧ ch = [(name, 0)] ∧ ∀ k t, view[k]? = some (some t) → pt (gN m) t = begun m k

def BgAt (K : PySem.W.Frag) (H : Hp) (sA mA : Addr) (kd : Str) (fr : List Fr) (view : List (Option Tr)) : Prop :=
  ∃ (s0 ac m0 ca va v0 : Addr) (u0 : V) (sr ar mr vr us : List V), SqL K H sA (.ref s0 :: sr) ∧ SqT K H s0 [u0, .ref ac] ∧ SqT K H ac (.str kd :: ar) ∧ SqL K H mA (.ref m0 :: mr) ∧ SqT K H m0 [.ref ca, .ref va] ∧ ChAt K H ca fr ∧ SqL K H va (.ref v0 :: vr) ∧ SqL K H v0 us ∧ Ps (VAt H) us view ∧ view.length ≤ 100 ∧ ∀ t, some t ∈ view → TOk t
theorem BgAt.mono {K : PySem.W.Frag} {H H' : Hp} {sA mA : Addr} {kd : Str} {fr : List Fr} {view : List (Option Tr)} (h : BgAt K H sA mA kd fr view) (e : Same H H') : BgAt K H' sA mA kd fr view := by
  obtain ⟨s0, ac, m0, ca, va, v0, u0, sr, ar, mr, vr, us, h1, h2, h3, h4, h5, h6, h7, h8, h9, h10, h11⟩ := h
  exact ⟨s0, ac, m0, ca, va, v0, u0, sr, ar, mr, vr, us, e.seq h1, e.tup h2, e.tup h3, e.seq h4, e.tup h5, h6.mono e, e.seq h7, e.seq h8, Ps.imp (fun _ _ z => VAt.mono z e) h9, h10, h11⟩

theorem nv_fold {H : Hp} : ∀ (ks : List Int) (kvs acc : List (Key × V)) (s : List Int), (kvs.map (·.1) = ks.map (fun k => (Sum.inl k : Key))) → (∀ kv ∈ kvs, RAt H (.num 0) kv.2) → NV H acc (fun k => if k ∈ s then some (.num 0) else none) →
    NV H (kvs.foldl (fun acc kv => putK acc kv.1 kv.2) acc) (fun k => if k ∈ s ++ ks then some (.num 0) else none)
  | [], [], acc, s, _, _, h => by rw [List.append_nil]; exact h
  | k :: ks, (k', v) :: kvs, acc, s, e, hv, h => by
    have e1 : k' = Sum.inl k := (List.cons.inj e).1
    subst e1
    have h2 := NV.put h (k := k) (hv _ List.mem_cons_self)
    have h3 := nv_fold ks kvs (putK acc (Sum.inl k : Key) v) (s ++ [k]) (List.cons.inj e).2 (fun kv hk => hv kv (List.mem_cons_of_mem _ hk)) (by
      have : (fun j => if j ∈ s ++ [k] then some (Tr.num 0) else none) = setG (fun j => if j ∈ s then some (Tr.num 0) else none) k (.num 0) := by
        funext j
        unfold setG
        by_cases c : j = k
        · rw [if_pos c, if_pos (List.mem_append.mpr (.inr (by rw [c]; exact List.mem_cons_self)))]
        · rw [if_neg c]
          show _ = (if j ∈ s then some (Tr.num 0) else none)
          by_cases c2 : j ∈ s
          · rw [if_pos c2, if_pos (List.mem_append.mpr (.inl c2))]
          · rw [if_neg c2, if_neg (fun z => (List.mem_append.mp z).elim c2 fun z => c (List.mem_singleton.mp z))]
      rw [this]
      exact h2)
    rw [List.append_assoc] at h3
    exact h3
  | [], _ :: _, _, _, e, _, _ => by cases e
  | _ :: _, [], _, _, e, _, _ => by cases e
end Bg

set_option Elab.async false
set_option linter.all false
set_option maxRecDepth 100000
set_option maxHeartbeats 4000000
namespace Bg
open PySem L2 Gx K41

def HasD (K : PySem.W.Frag) (H : Hp) (n : Nat) (v : V) : Prop := ∃ d, Lay n d ∧ DatV K H d v
def HasA (K : PySem.W.Frag) (H : Hp) (n : Nat) (xs : List V) : Prop := ∃ ds, (∀ d ∈ ds, Lay n d) ∧ DatAll K H ds xs
theorem HasD.mono {K : PySem.W.Frag} {H H' : Hp} {n : Nat} {v : V} (h : HasD K H n v) (e : Same H H') : HasD K H' n v := let ⟨d, l, z⟩ := h; ⟨d, l, DatV.mono e d v z⟩
theorem HasD.up {K : PySem.W.Frag} {H : Hp} {n m : Nat} {v : V} (h : HasD K H n v) (e : n ≤ m) : HasD K H m v := let ⟨d, l, z⟩ := h; ⟨d, l.mono e, z⟩
theorem HasD.str {K : PySem.W.Frag} {H : Hp} {n : Nat} {s : Str} (h : PyData.strOk s = true) : HasD K H n (.str s) := ⟨.str s, Lay.str h, by unfold DatV; rfl⟩
theorem HasD.int {K : PySem.W.Frag} {H : Hp} {n : Nat} {i : Int} : HasD K H n (.int i) := ⟨.int i, Lay.int i, by unfold DatV; rfl⟩
theorem HasD.bl {K : PySem.W.Frag} {H : Hp} {n : Nat} {b : Bool} : HasD K H n (.bl b) := ⟨.bool b, Lay.bool b, by unfold DatV; rfl⟩
theorem HasD.non {K : PySem.W.Frag} {H : Hp} {n : Nat} : HasD K H n .non := ⟨.none, Lay.none, by unfold DatV; rfl⟩
theorem HasA.nil {K : PySem.W.Frag} {H : Hp} {n : Nat} : HasA K H n [] := ⟨[], fun d h => (by cases h), by unfold DatAll; rfl⟩
theorem HasA.cons {K : PySem.W.Frag} {H : Hp} {n : Nat} {x : V} {xs : List V} (h : HasD K H n x) (t : HasA K H n xs) : HasA K H n (x :: xs) := by
  obtain ⟨d, l, z⟩ := h
  obtain ⟨ds, ls, zs⟩ := t
  refine ⟨d :: ds, fun e he => (List.mem_cons.mp he).elim (fun z => z ▸ l) (ls e), ?_⟩
  unfold DatAll
  exact ⟨_, _, rfl, z, zs⟩
theorem HasA.of {K : PySem.W.Frag} {H : Hp} {n : Nat} : ∀ {xs : List V}, (∀ x ∈ xs, HasD K H n x) → HasA K H n xs
  | [], _ => .nil
  | x :: xs, h => .cons (h x List.mem_cons_self) (HasA.of fun y hy => h y (List.mem_cons_of_mem _ hy))
theorem HasD.tup {K : PySem.W.Frag} {H : Hp} {n : Nat} {a : Addr} {xs : List V} (h : SqT K H a xs) (t : HasA K H n xs) : HasD K H (n + 1) (.ref a) := by
  obtain ⟨ds, ls, zs⟩ := t
  refine ⟨.tuple ds, Lay.tuple ls, ?_⟩
  unfold DatV
  exact ⟨a, xs, rfl, h, zs⟩
theorem HasD.lst {K : PySem.W.Frag} {H : Hp} {n : Nat} {a : Addr} {xs : List V} (h : SqL K H a xs) (t : HasA K H n xs) : HasD K H (n + 1) (.ref a) := by
  obtain ⟨ds, ls, zs⟩ := t
  refine ⟨.list ds, Lay.list ls, ?_⟩
  unfold DatV
  exact ⟨a, xs, rfl, h, zs⟩

def Twin (K : PySem.W.Frag) (H : Hp) (n : Nat) (x y : V) : Prop := ∃ d, Lay n d ∧ DatV K H d x ∧ DatV K H d y
def TwinA (K : PySem.W.Frag) (H : Hp) (n : Nat) (xs ys : List V) : Prop := ∃ ds, (∀ d ∈ ds, Lay n d) ∧ DatAll K H ds xs ∧ DatAll K H ds ys
theorem Twin.of {K : PySem.W.Frag} {H : Hp} {n : Nat} {x : V} (h : HasD K H n x) : Twin K H n x x := let ⟨d, l, z⟩ := h; ⟨d, l, z, z⟩
theorem Twin.up {K : PySem.W.Frag} {H : Hp} {n m : Nat} {x y : V} (h : Twin K H n x y) (e : n ≤ m) : Twin K H m x y := let ⟨d, l, z⟩ := h; ⟨d, l.mono e, z⟩
theorem TwinA.nil {K : PySem.W.Frag} {H : Hp} {n : Nat} : TwinA K H n [] [] := ⟨[], fun d h => (by cases h), (by unfold DatAll; rfl), (by unfold DatAll; rfl)⟩
theorem TwinA.cons {K : PySem.W.Frag} {H : Hp} {n : Nat} {x y : V} {xs ys : List V} (h : Twin K H n x y) (t : TwinA K H n xs ys) : TwinA K H n (x :: xs) (y :: ys) := by
  obtain ⟨d, l, z1, z2⟩ := h
  obtain ⟨ds, ls, zs1, zs2⟩ := t
  refine ⟨d :: ds, fun e he => (List.mem_cons.mp he).elim (fun z => z ▸ l) (ls e), ?_, ?_⟩
  · unfold DatAll
    exact ⟨_, _, rfl, z1, zs1⟩
  · unfold DatAll
    exact ⟨_, _, rfl, z2, zs2⟩
theorem TwinA.of {K : PySem.W.Frag} {H : Hp} {n : Nat} {xs : List V} (h : HasA K H n xs) : TwinA K H n xs xs := let ⟨ds, l, z⟩ := h; ⟨ds, l, z, z⟩
theorem TwinA.at {K : PySem.W.Frag} {H : Hp} {n : Nat} : ∀ {xs ys : List V}, xs.length = ys.length → (∀ (i : Nat) x y, xs[i]? = some x → ys[i]? = some y → Twin K H n x y) → TwinA K H n xs ys
  | [], [], _, _ => .nil
  | x :: xs, y :: ys, e, h => .cons (h 0 x y rfl rfl) (TwinA.at (by simpa using e) fun i a b ha hb => h (i + 1) a b (by simpa using ha) (by simpa using hb))
  | [], _ :: _, e, _ => by cases e
  | _ :: _, [], e, _ => by cases e
theorem Twin.tup {K : PySem.W.Frag} {H : Hp} {n : Nat} {a b : Addr} {xs ys : List V} (h1 : SqT K H a xs) (h2 : SqT K H b ys) (t : TwinA K H n xs ys) : Twin K H (n + 1) (.ref a) (.ref b) := by
  obtain ⟨ds, ls, z1, z2⟩ := t
  refine ⟨.tuple ds, Lay.tuple ls, ?_, ?_⟩
  · unfold DatV
    exact ⟨a, xs, rfl, h1, z1⟩
  · unfold DatV
    exact ⟨b, ys, rfl, h2, z2⟩
theorem Twin.lst {K : PySem.W.Frag} {H : Hp} {n : Nat} {a b : Addr} {xs ys : List V} (h1 : SqL K H a xs) (h2 : SqL K H b ys) (t : TwinA K H n xs ys) : Twin K H (n + 1) (.ref a) (.ref b) := by
  obtain ⟨ds, ls, z1, z2⟩ := t
  refine ⟨.list ds, Lay.list ls, ?_, ?_⟩
  · unfold DatV
    exact ⟨a, xs, rfl, h1, z1⟩
  · unfold DatV
    exact ⟨b, ys, rfl, h2, z2⟩
theorem Twin.eq {K : PySem.W.Frag} {H : Hp} {Q : VK} {n : Nat} {x y : V} (h : Twin K H n x y) (hn : n ≤ 64) (q : Q (.bl true) H) : rEqD K x y H Q := let ⟨d, l, z1, z2⟩ := h; rEqD_same hn l z1 z2 q
theorem VAt.has {K : PySem.W.Frag} {H : Hp} {o : Option Rk2.Tr} {v : V} (h : VAt H o v) (t : ∀ t, o = some t → TOk t) : HasD K H 9 v := by
  cases o with
  | none => rw [show v = .non from h]; exact .non
  | some tr => exact ⟨trD tr, (trD_lay (t tr rfl).2.1).mono (by have := (t tr rfl).2.2.1; omega), datV_tr h⟩
theorem ChAt.has {K : PySem.W.Frag} {H : Hp} {c : Addr} {fr : List Fr} (h : ChAt K H c fr) : HasD K H 2 (.ref c) := ⟨chD fr, h.lay, h.dat⟩
theorem sqT_eq {K : PySem.W.Frag} {H : Hp} {a : Addr} {xs ys : List V} (e : xs = ys) (h : SqT K H a xs) : SqT K H a ys := e ▸ h

theorem RRok.mono {K : PySem.W.Frag} {H H' : Hp} {x : RR} (h : RRok K H x) (e : Same H H') : RRok K H' x := ⟨h.1, h.2.1.mono e, h.2.2.mono e⟩
theorem fn_mk2 {K : PySem.W.Frag} {H : Hp} {nk : Str} {fa tr qC : Addr} {fo : V} {ps : List Str} (rr : List RR) (h1 : SqT K H fa [.str nk, fo, .ref qC, .ref tr]) (h2 : SqT K H tr (rr.map fun x => V.ref x.w.r)) (h3 : ∀ x ∈ rr, RRok K H x) (h4 : SqT K H qC (ps.map V.str)) (h5 : ∀ s ∈ ps, K12.Nm s) (h6 : ps.length ≤ 100) (h7 : rr.length ≤ 100) (wf : K13.Wf (rr.map fun x => x.w.k)) :
    F2.FnAt K H ⟨nk, fo, fa, qC, tr, ps, rr.map (·.w), rr.map (·.d)⟩ := by
  refine ⟨h1, h4, by show SqT K H tr ((rr.map (·.w)).map fun w => V.ref w.r); rw [List.map_map]; exact h2, fun w hw => ?_, ⟨⟨_, _, _, _, h1, h4, ?_⟩, fun d hd => ?_, h5, h6, by show (rr.map (·.d)).length ≤ 100; rw [List.length_map]; exact h7⟩, by show K13.Wf ((rr.map (·.w)).map (·.k)); rw [List.map_map]; exact wf, by show (rr.map (·.w)).length ≤ 100; rw [List.length_map]; exact h7⟩
  · obtain ⟨x, hx, rfl⟩ := List.mem_map.mp hw
    exact (h3 x hx).2.1
  · show SqT K H tr ((rr.map (·.d)).map fun d => V.ref d.r)
    rw [List.map_map]
    have : (rr.map fun x => V.ref x.w.r) = rr.map ((fun d => V.ref d.r) ∘ (·.d)) := List.map_congr_left fun x hx => by
      show V.ref x.w.r = V.ref x.d.r
      rw [(h3 x hx).1]
    rw [← this]
    exact h2
  · obtain ⟨x, hx, rfl⟩ := List.mem_map.mp hd
    exact (h3 x hx).2.2
def rcopyV (r : Addr) (nm : Str) (i : Int) : RR := ⟨⟨r, "copy", ""⟩, ⟨r, 0, 0, some nm, [.int i]⟩⟩
theorem ok_copyV {K : PySem.W.Frag} {H : Hp} {r : Addr} {nm : Str} {i : Int} (h : SqT K H r [.str "copy", .str nm, .int i]) (hn : K12.Nm nm) : RRok K H (rcopyV r nm i) :=
  ⟨rfl, ⟨_, h, fun z => absurd z (by show ¬ (("copy" : Str) = "call"); decide +kernel)⟩, ⟨⟨_, h, .copy nm _⟩, mem1 (at_i i), by show 1 ≤ 10; decide, fun x hx => by cases hx; exact hn⟩⟩
theorem wf_begin (n : Nat) : K13.Wf (("call" : Str) :: List.replicate n ("copy" : Str) ++ [("out" : Str), "back"]) := by
  have g0 := K13.good_nil.plain (x := "call") (by decide +kernel) (by decide +kernel) (by decide +kernel)
  have g1 := good_rep g0 (x := "copy") (by decide +kernel) (by decide +kernel) (by decide +kernel) n
  have g2 := g1.plain (x := "out") (by decide +kernel) (by decide +kernel) (by decide +kernel)
  have g3 := g2.back
  have e : ("call" : Str) :: List.replicate n ("copy" : Str) ++ [("out" : Str), "back"] = [] ++ [("call" : Str)] ++ List.replicate n ("copy" : Str) ++ [("out" : Str)] ++ [("back" : Str)] := by simp
  rw [e]
  exact g3
theorem wf_inner : K13.Wf [("copy" : Str), "back"] := (K13.good_nil.plain (x := "copy") (by decide +kernel) (by decide +kernel) (by decide +kernel)).back

def RowL (K : PySem.W.Frag) (H : Hp) (x : RR) : Prop := RRok K H x ∧ HasD K H 3 (.ref x.w.r)
theorem RowL.mono {K : PySem.W.Frag} {H H' : Hp} {x : RR} (h : RowL K H x) (e : Same H H') : RowL K H' x := ⟨RRok.mono h.1 e, h.2.mono e⟩
end Bg

set_option Elab.async false
set_option linter.all false
set_option maxRecDepth 100000
set_option maxHeartbeats 4000000
namespace K42
open PySem L2 Gx Fl Bg
def top (i : Nat) : Stmt := PySem.Challenge.pw_stopglass_k42_begins_that_hold.main.body.getD i (.Pass ⟨0, 0, 0, 0⟩)
abbrev s_names_of : Stmt := top 4
abbrev s_reads : Stmt := top 5
abbrev s_gives : Stmt := top 6
abbrev s_atoms_of : Stmt := top 7
abbrev s_each_once : Stmt := top 8
abbrev s_ways : Stmt := top 9
abbrev s_begins_of : Stmt := top 10
abbrev s_firsts_behind : Stmt := top 11
abbrev s_Flows_init : Stmt := inClass (top 12) 0
abbrev s_value : Stmt := top 15
abbrev s_is_leaf : Stmt := top 17
abbrev s_together : Stmt := top 18
abbrev s_put_through : Stmt := top 19
abbrev s_boxes_of : Stmt := top 20
abbrev s_begin_holds : Stmt := top 22
abbrev s_is_begin : Stmt := top 23
abbrev s_at_begin : Stmt := top 24
abbrev s_l_cell_at : Stmt := top 26
abbrev s_l_value : Stmt := top 27
abbrev s_l_names : Stmt := top 28
abbrev s_l_some : Stmt := top 29
abbrev s_l_through : Stmt := top 30
abbrev s_l_place : Stmt := top 31
abbrev s_l_view : Stmt := top 32
abbrev s_l_due : Stmt := top 33
abbrev s_law : Stmt := top 34
set_option genInjectivity false in
set_option genSizeOf false in
structure Adr where
  c_Flows : Addr
  a_names_of : Addr
  d_names_of : FuncData
  a_reads : Addr
  d_reads : FuncData
  a_gives : Addr
  d_gives : FuncData
  a_atoms_of : Addr
  d_atoms_of : FuncData
  a_each_once : Addr
  d_each_once : FuncData
  a_ways : Addr
  d_ways : FuncData
  a_begins_of : Addr
  d_begins_of : FuncData
  a_firsts_behind : Addr
  d_firsts_behind : FuncData
  a_Flows_init : Addr
  d_Flows_init : FuncData
  a_value : Addr
  d_value : FuncData
  a_is_leaf : Addr
  d_is_leaf : FuncData
  a_together : Addr
  d_together : FuncData
  a_put_through : Addr
  d_put_through : FuncData
  a_boxes_of : Addr
  d_boxes_of : FuncData
  a_begin_holds : Addr
  d_begin_holds : FuncData
  a_is_begin : Addr
  d_is_begin : FuncData
  a_at_begin : Addr
  d_at_begin : FuncData
  a_l_cell_at : Addr
  d_l_cell_at : FuncData
  a_l_value : Addr
  d_l_value : FuncData
  a_l_names : Addr
  d_l_names : FuncData
  a_l_some : Addr
  d_l_some : FuncData
  a_l_through : Addr
  d_l_through : FuncData
  a_l_place : Addr
  d_l_place : FuncData
  a_l_view : Addr
  d_l_view : FuncData
  a_l_due : Addr
  d_l_due : FuncData
  a_law : Addr
  d_law : FuncData
  a_GIVING : Addr
  a_TAB : Addr
structure Txt (K : PySem.W.Frag) (mg : Str → Option Value) (t : Adr) : Prop where
  names_of : DefOk K mg "names_of" s_names_of ["function"] t.a_names_of t.d_names_of
  reads : DefOk K mg "reads" s_reads ["row"] t.a_reads t.d_reads
  gives : DefOk K mg "gives" s_gives ["row"] t.a_gives t.d_gives
  atoms_of : DefOk K mg "atoms_of" s_atoms_of ["row"] t.a_atoms_of t.d_atoms_of
  each_once : DefOk K mg "each_once" s_each_once ["names"] t.a_each_once t.d_each_once
  ways : DefOk K mg "ways" s_ways ["rows"] t.a_ways t.d_ways
  begins_of : DefOk K mg "begins_of" s_begins_of ["rows"] t.a_begins_of t.d_begins_of
  firsts_behind : DefOk K mg "firsts_behind" s_firsts_behind ["rows", "begins"] t.a_firsts_behind t.d_firsts_behind
  Flows_init : IniOk K t.c_Flows "Flows.__init__" s_Flows_init ["self", "program"] t.a_Flows_init t.d_Flows_init
  value : DefOk K mg "value" s_value ["sign", "one", "other"] t.a_value t.d_value
  is_leaf : DefOk K mg "is_leaf" s_is_leaf ["one"] t.a_is_leaf t.d_is_leaf
  together : DefOk K mg "together" s_together ["sign", "left", "right"] t.a_together t.d_together
  put_through : DefOk K mg "put_through" s_put_through ["one", "news"] t.a_put_through t.d_put_through
  boxes_of : DefOk K mg "boxes_of" s_boxes_of ["one"] t.a_boxes_of t.d_boxes_of
  begin_holds : DefOk K mg "begin_holds" s_begin_holds ["program", "name", "spots", "marks"] t.a_begin_holds t.d_begin_holds
  is_begin : DefOk K mg "is_begin" s_is_begin ["flows", "name", "spots", "marks"] t.a_is_begin t.d_is_begin
  at_begin : DefOk K mg "at_begin" s_at_begin ["place", "count"] t.a_at_begin t.d_at_begin
  l_cell_at : DefOk K mg "_law_cell_at" s_l_cell_at ["_law_script", "_law_k"] t.a_l_cell_at t.d_l_cell_at
  l_value : DefOk K mg "_law_value" s_l_value ["_law_sign", "_law_one", "_law_other"] t.a_l_value t.d_l_value
  l_names : DefOk K mg "_law_names" s_l_names ["_law_cell", "_law_many"] t.a_l_names t.d_l_names
  l_some : DefOk K mg "_law_some" s_l_some ["_law_cell", "_law_boxes"] t.a_l_some t.d_l_some
  l_through : DefOk K mg "_law_through" s_l_through ["_law_one", "_law_news"] t.a_l_through t.d_l_through
  l_place : DefOk K mg "_law_place" s_l_place ["_law_number", "_law_k", "_law_many", "_law_boxes"] t.a_l_place t.d_l_place
  l_view : DefOk K mg "_law_view" s_l_view ["_law_cell", "_law_size", "_law_many", "_law_boxes"] t.a_l_view t.d_l_view
  l_due : DefOk K mg "_law_due" s_l_due ["_law_spots", "_law_marks", "_law_name", "_law_many"] t.a_l_due t.d_l_due
  law : DefOk K mg "law" s_law ["_law_script"] t.a_law t.d_law
  cl_Flows : ClsOk K mg "Flows" t.c_Flows
  n_Flows_last : NoAttr K t.c_Flows "last"
  n_Flows_number_of : NoAttr K t.c_Flows "number_of"
  n_Flows_folded_of : NoAttr K t.c_Flows "folded_of"
  n_Flows_params_of : NoAttr K t.c_Flows "params_of"
  n_Flows_rows_of : NoAttr K t.c_Flows "rows_of"
  n_Flows_names_in : NoAttr K t.c_Flows "names_in"
  n_Flows_ways_in : NoAttr K t.c_Flows "ways_in"
  c_WIDE : ∃ tk, mg "WIDE" = some (.int 281474976710656 tk)
  c_GIVING_KINDS : mg "GIVING_KINDS" = some (.ref t.a_GIVING)
  q_GIVING : ∀ H : Hp, SqT K H t.a_GIVING (K12.giving.map V.str)
  c_ATOM_PLACES : mg "ATOM_PLACES" = some (.ref t.a_TAB)
  q_TAB : TabK K t.a_TAB K12.tabl
  b_len : mg "len" = none
  b_list : mg "list" = none
  b_tuple : mg "tuple" = none
  b_isinstance : mg "isinstance" = none
  b_range : mg "range" = none
  b_all : mg "all" = none
  b_enumerate : mg "enumerate" = none
  b_dict : mg "dict" = none
  b_str : mg "str" = none
  b_zip : mg "zip" = none
  b_bool : mg "bool" = none
  b_int : mg "int" = none
  b_max : mg "max" = none
  bl : ∀ (s : Shared) (u : Value), BindsTo s t.d_law ⟨[u], []⟩ [("_law_script", u)]
section
variable {P : Program} {w : World} {K : PySem.W.Frag} {mg : Str → Option Value} {base : Heap} {t : Adr}
def sp_Flows_init (K : PySem.W.Frag) (t : Adr) : Sp := fun vs H Q _ => ∃ (x dx p : Addr) (fns : List F2.Fd), vs = [.ref x, .ref p] ∧ H x = some (.ins t.c_Flows dx []) ∧ SqL K (ers x H) p (fns.map fun f => V.ref f.fa) ∧ fns ≠ [] ∧ fns.length ≤ 12 ∧ (∀ f ∈ fns, F2.FnAt K (ers x H) f) ∧ (fns.map (·.name)).Nodup ∧
  ∀ H', Same (ers x H) H' → F2.FlowsAt K t.c_Flows H' x fns → Q .non H'
def sp_value (K : PySem.W.Frag) : Sp := fun vs H Q _ => ∃ (s : Str) (a b : Int), vs = [.str s, .int a, .int b] ∧ 0 ≤ a ∧ 0 ≤ b ∧ a < K21.wide ∧ b < K21.wide ∧ Q (.int (K21.valOf s a b)) H
def sp_l_value (K : PySem.W.Frag) : Sp := fun vs H Q _ => ∃ (s : Str) (a b : Int), vs = [.str s, .int a, .int b] ∧ 0 ≤ a ∧ 0 ≤ b ∧ a < K21.wide ∧ b < K21.wide ∧ Q (.int (K21.valOf s a b)) H
def sp_is_leaf (K : PySem.W.Frag) : Sp := fun vs H Q _ => ∃ (tr : Rk2.Tr) (v : V), vs = [v] ∧ Rk2.RAt H tr v ∧ ∀ H', Same H H' → Q (.bl (Rk2.leaf tr)) H'
def sp_together (K : PySem.W.Frag) : Sp := fun vs H Q _ => ∃ (s : Str) (tl tr : Rk2.Tr) (x y : V), vs = [.str s, x, y] ∧ Rk2.Sg s ∧ Rk2.RAt H tl x ∧ Rk2.RAt H tr y ∧ Rk2.okl (Rk2.lvs tl) ∧ Rk2.okl (Rk2.lvs tr) ∧ ∀ v H', Same H H' → Rk2.RAt H' (Rk2.tog s tl tr) v → Q v H'
def sp_put_through (K : PySem.W.Frag) (n : Nat) : Sp := fun vs H Q _ => ∃ (tr : Rk2.Tr) (v : V) (d : Addr) (kvs : List (Key × V)) (g : Int → Option Rk2.Tr), vs = [v, .ref d] ∧ Rk2.dp tr < n ∧ Rk2.RAt H tr v ∧ H d = some (.dK kvs) ∧ Rk2.NV H kvs g ∧ Rk2.okl (Rk2.lvs tr) ∧ (∀ k t, g k = some t → Rk2.okl (Rk2.lvs t)) ∧ ∀ v' H', Same H H' → Rk2.RAt H' (Rk2.pt g tr) v' → Q v' H'
def sp_l_through (K : PySem.W.Frag) (n : Nat) : Sp := fun vs H Q _ => ∃ (tr : Rk2.Tr) (v : V) (d : Addr) (kvs : List (Key × V)) (g : Int → Option Rk2.Tr), vs = [v, .ref d] ∧ Rk2.dp tr < n ∧ Rk2.RAt H tr v ∧ H d = some (.dK kvs) ∧ Rk2.NV H kvs g ∧ Rk2.okl (Rk2.lvs tr) ∧ (∀ k t, g k = some t → Rk2.okl (Rk2.lvs t)) ∧ ∀ v' H', Same H H' → Rk2.RAt H' (Rk2.pt g tr) v' → Q v' H'
def sp_boxes_of (K : PySem.W.Frag) (n : Nat) : Sp := fun vs H Q _ => ∃ (tr : Rk2.Tr) (v : V), vs = [v] ∧ Rk2.dp tr < n ∧ (Rk2.lvs tr).length ≤ 1000 ∧ Rk2.RAt H tr v ∧ ∀ l H', Same H H' → H l = none → H' l = some (.lst ((Rk2.bxs (Rk2.lvs tr)).map V.int)) → Q (.ref l) H'
def sp_at_begin (K : PySem.W.Frag) : Sp := fun vs H Q _ => ∃ (tr : Rk2.Tr) (v : V) (m : Int), vs = [v, .int m] ∧ Rk2.RAt H tr v ∧ TOk tr ∧ ∀ v' H', Same H H' → Rk2.RAt H' (Rk2.pt (gN m) tr) v' → Q v' H'
def sp_is_begin (K : PySem.W.Frag) (t : Adr) : Sp := fun vs H Q _ => ∃ (x sA mA : Addr) (fns : List F2.Fd) (f : F2.Fd) (kd : Str) (fr : List Bg.Fr) (view : List (Option Rk2.Tr)), vs = [.ref x, .str f.name, .ref sA, .ref mA] ∧ F2.FlowsAt K t.c_Flows H x fns ∧ f ∈ fns ∧ PyData.strOk f.name = true ∧ BgAt K H sA mA kd fr view ∧
  ∀ b H', Same H H' → (b = true ↔ Holds (kd = "wait") (fr.map fun f => (f.g, f.r)) f.name f.ps.length view) → Q (.bl b) H'
def sp_begin_holds (K : PySem.W.Frag) (t : Adr) : Sp := fun vs H Q _ => ∃ (p sA mA : Addr) (fns : List F2.Fd) (f : F2.Fd) (kd : Str) (fr : List Bg.Fr) (view : List (Option Rk2.Tr)), vs = [.ref p, .str f.name, .ref sA, .ref mA] ∧ SqL K H p (fns.map fun f => V.ref f.fa) ∧ fns.length ≤ 12 ∧ (∀ f ∈ fns, F2.FnAt K H f) ∧ (fns.map (·.name)).Nodup ∧ f ∈ fns ∧ PyData.strOk f.name = true ∧ BgAt K H sA mA kd fr view ∧
  ∀ b H', Same H H' → (b = true ↔ Holds (kd = "wait") (fr.map fun f => (f.g, f.r)) f.name f.ps.length view) → Q (.bl b) H'
def sp_l_cell_at (K : PySem.W.Frag) : Sp := fun vs H Q _ => ∃ (a : Addr) (ns : List Int) (k : Int), vs = [.ref a, .int k] ∧ SqL K H a (ns.map V.int) ∧ ns.length ≤ 63 ∧ 0 ≤ k ∧ ∀ z, Q (.int z) H
def sp_l_names (K : PySem.W.Frag) : Sp := fun vs H Q _ => ∃ (c : Int) (mn : Nat), vs = [.int c, .int mn] ∧ mn ≤ 20 ∧ ∀ ws : List Str, ws.length = mn → ws.Nodup → (∀ w ∈ ws, K12.Nm w) → K12.Gives H Q (ws.map V.str)
def sp_l_some (K : PySem.W.Frag) : Sp := fun vs H Q _ => ∃ (c : Int) (bl : Addr) (bs : List Int), vs = [.int c, .ref bl] ∧ SqL K H bl (bs.map V.int) ∧ BxL bs ∧ ∀ tr v H', Same H H' → Rk2.RAt H' tr v → TOk tr → Q v H'
def sp_l_place (K : PySem.W.Frag) : Sp := fun vs H Q _ => ∃ (n k m : Int) (bl : Addr), vs = [.int n, .int k, .int m, .ref bl] ∧ 0 ≤ n ∧ n < 1073741824 ∧ 0 ≤ k ∧ k < 100 ∧ 0 ≤ m ∧ m < 100 ∧ ∀ o v H', Same H H' → VAt H' o v → (∀ t, o = some t → TOk t) → Q v H'
def sp_l_view (K : PySem.W.Frag) : Sp := fun vs H Q _ => ∃ (c : Int) (sz : Nat) (m : Int) (bl : Addr) (bs : List Int), vs = [.int c, .int sz, .int m, .ref bl] ∧ sz ≤ 20 ∧ 0 ≤ m ∧ m < 100 ∧ SqL K H bl (bs.map V.int) ∧ BxL bs ∧ ∀ l us view H', Same H H' → H l = none → H' l = some (.lst us) → Rk2.Ps (VAt H') us view → view.length = sz → (∀ t, some t ∈ view → TOk t) → Q (.ref l) H'
def sp_l_due (K : PySem.W.Frag) : Sp := fun vs H Q _ => ∃ (sA mA : Addr) (name : Str) (m : Nat) (kd : Str) (fr : List Bg.Fr) (view : List (Option Rk2.Tr)), vs = [.ref sA, .ref mA, .str name, .int m] ∧ m ≤ 100 ∧ PyData.strOk name = true ∧ BgAt K H sA mA kd fr view ∧
  ∀ b H', Same H H' → (b = true ↔ Holds (kd = "wait") (fr.map fun f => (f.g, f.r)) name m view) → Q (.bl b) H'
def sp_law (K : PySem.W.Frag) : Sp := fun vs H Q _ => ∃ (a : Addr) (ns : List Int), vs = [.ref a] ∧ SqL K H a (ns.map V.int) ∧ ns.length ≤ 63 ∧ ∀ H', Q (.bl true) H'
def rIsi (K : PySem.W.Frag) : List V → Hp → VK → Prop := fun xs H Q => ∃ x c t b, xs = [x, .ty c] ∧ TyOf K H x t ∧ PySem.W.kitOne K t (.type c) = some b ∧ Q (.bl b) H
def rLstO (K : PySem.W.Frag) : List V → Hp → VK → Prop := fun xs H Q => ∃ p ys, xs = [.ref p] ∧ (SqL K H p ys ∨ SqT K H p ys) ∧ ∀ l, H l = none → Q (.ref l) (upd H l (.lst ys))
theorem u1 {A : Around} (h : A.units + 64 < cLine) : A.units + 1 < cLine := by omega
end
end K42

set_option Elab.async false
set_option linter.all false
set_option maxRecDepth 100000
set_option maxHeartbeats 4000000
namespace K42
open PySem L2 K12
section
variable {P : Program} {w : World} {K : PySem.W.Frag} {mg : Str → Option Value} {base : Heap} {t : Adr}
local macro_rules | `(tactic| walk_at "rd1") => `(tactic| first
  | refine ⟨_, rfl, ?_⟩
  | refine ⟨_, _, rfl, rfl, ?_⟩
  | refine ⟨rfl, ?_⟩
  | refine ⟨(show (0 : Int) < _ by decide), ?_⟩
  | refine ⟨⟨by decide, by decide⟩, ?_⟩
  | refine ⟨.inl ⟨by decide, by decide⟩, ?_⟩
  | refine ⟨.inr ⟨by decide, by decide⟩, ?_⟩
  | refine ⟨⟨by decide, by decide, by decide⟩, ?_⟩)
local macro_rules | `(tactic| walk_at "rd") => `(tactic| repeat walk_at "rd1")
theorem sc_gives : FnScope ["row"] ["row"] (defScope s_gives) := ⟨rfl, rfl, rfl, by decide +kernel, rfl, by decide +kernel, by decide +kernel⟩
theorem ok_gives (T : Txt K mg t) : FnOk P w K mg base CX0 1 t.a_gives t.d_gives ["row"] (K12.sp_gives K) := by
  refine T.gives.F.ok sc_gives (fun vs H Q E h => ?_) (fun cdv A outer s H vs Q E hr h => ?_)
  · obtain ⟨r, xs, g, as, rfl, hr, hrow, q⟩ := h
    rfl
  · obtain ⟨r, xs, g, as, rfl, hr, hrow, q⟩ := h
    refine ⟨_, (@pss_cons _ _ _ _ _ (@ps_ret _ _ _ _ (@pe_ifExp _ _ _ _ _ _ _ _ (@ptC_cmpR _ _ _ _ _ _ _ _ op_in_seq (@pe_ix _ _ _ _ _ _ _ (show IxR _ (cIxT K) from ixC_tup) (pvC 0) pe_int (fun _ _ => rfl)) (pe_gtuple T.c_GIVING_KINDS) (by with_unfolding_all rfl)) (@pe_ix _ _ _ _ _ _ _ (show IxR _ (cIxT K) from ixC_tup) (pvC 0) pe_int (fun _ _ => rfl)) pe_non)) pss_nil), ?_⟩
    obtain ⟨kd, h0, hc⟩ := row_gives hrow
    refine ⟨_, rfl, r, xs, _, _, rfl, rfl, hr, h0, t.a_GIVING, giving.map V.str, rfl, .inr (T.q_GIVING H), rfl, giving_flat, _, rfl, ?_⟩
    rcases hc with ⟨x, rfl, e, h1⟩ | ⟨rfl, e⟩
    · exact iteP e ⟨_, rfl, r, xs, _, _, rfl, rfl, hr, h1, q⟩
    · exact iteN (falseN e) q
end
end K42

set_option Elab.async false
set_option linter.all false
set_option maxRecDepth 100000
set_option maxHeartbeats 4000000
namespace K42
open PySem L2 K12
section
variable {P : Program} {w : World} {K : PySem.W.Frag} {mg : Str → Option Value} {base : Heap} {t : Adr}
local macro_rules | `(tactic| walk_at "rd1") => `(tactic| first
  | refine ⟨_, rfl, ?_⟩
  | refine ⟨_, _, rfl, rfl, ?_⟩
  | refine ⟨rfl, ?_⟩
  | refine ⟨(show (0 : Int) < _ by decide), ?_⟩
  | refine ⟨⟨by decide, by decide⟩, ?_⟩
  | refine ⟨.inl ⟨by decide, by decide⟩, ?_⟩
  | refine ⟨.inr ⟨by decide, by decide⟩, ?_⟩
  | refine ⟨⟨by decide, by decide, by decide⟩, ?_⟩)
local macro_rules | `(tactic| walk_at "rd") => `(tactic| repeat walk_at "rd1")
theorem sc_atoms_of : FnScope ["row"] ["row"] (defScope s_atoms_of) := ⟨rfl, rfl, rfl, by decide +kernel, rfl, by decide +kernel, by decide +kernel⟩
theorem ok_atoms_of (T : Txt K mg t) : FnOk P w K mg base CX0 1 t.a_atoms_of t.d_atoms_of ["row"] (K12.sp_atoms_of K) := by
  refine T.atoms_of.F.ok sc_atoms_of (fun vs H Q E h => ?_) (fun cdv A outer s H vs Q E hr h => ?_)
  · obtain ⟨r, xs, g, as, rfl, hr, hrow, hl, q⟩ := h
    rfl
  · skip
    refine (let W0 : TS := _; have hW0 : PSs (cxOf CX0 P w K mg base ["row"] "atoms_of" (defScope s_atoms_of) t.a_atoms_of cdv A outer s H E).nox ((defBody s_atoms_of).drop 1) W0 := (@pss_one _ _ _ (@ps_ret _ _ _ _ (pe_comp (N' := ["place", "row"]) (js := [none, some 0]) (by kernel_rfl) rfl (pi_tup (@pe_ix _ _ _ _ _ _ _ ix_tab (pe_gtuple T.c_ATOM_PLACES) (@pe_ix _ _ _ _ _ _ _ (show IxR _ (cIxT K) from ixC_tup) (pvC 0) pe_int (fun _ _ => rfl)) (fun _ _ => rfl))) own_name (fun _ _ _ _ => (pg_name (i := 0) (show (["place", "row"] : List Str).Nodup by decide +kernel) rfl (Or.inl rfl) (.inr rfl))) (fun _ _ _ _ => pif_nil) (fun _ _ _ _ => (@pe_ix _ _ _ _ _ _ _ (show IxR _ (cIxT K) from ixC_tup) (pvC 1) (pvC 0) (fun _ _ => rfl)))))); ?_)
    refine (let W1 : TS := _; have hW1 : PSs (cxOf CX0 P w K mg base ["row"] "atoms_of" (defScope s_atoms_of) t.a_atoms_of cdv A outer s H E).nox (sB ((defBody s_atoms_of).getD 0 (.Pass ⟨0, 0, 0, 0⟩))) W1 := (@pss_one _ _ _ (@ps_ret _ _ _ _ (pe_callTy call_list_of (by rfl) T.b_list bt_list (@pa_cons _ _ _ _ _ (@pe_ix _ _ _ _ _ _ _ (show IxR _ (cIxT K) from ixC_tup) (pvC 0) pe_int (fun _ _ => rfl)) pa_nil (by rfl))))); ?_)
    obtain ⟨r, xs, g, as, rfl, hr, hrow, hl, q⟩ := h
    refine ⟨_, (@pss_cons _ _ _ _ _ (@ps_if _ _ _ _ _ _ _ _ (@ptC_cmpR _ _ _ _ _ _ _ _ op_eq (@pe_ix _ _ _ _ _ _ _ (show IxR _ (cIxT K) from ixC_tup) (pvC 0) pe_int (fun _ _ => rfl)) pe_str (nomark _)) hW1 pss_nil) hW0), ?_⟩
    obtain ⟨kd, h0, hc⟩ := row_places hrow
    refine ⟨_, rfl, r, xs, _, _, rfl, rfl, hr, h0, rfl, _, rfl, ?_⟩
    rcases hc with ⟨rfl, p, h3, hp⟩ | ⟨hne, pl, hk, hpl, hat⟩
    · exact iteP (decide_eq_true rfl) ⟨_, rfl, r, xs, _, _, rfl, rfl, hr, h3, p, as, rfl, .inr hp, fun l hl => q l _ (Same.new hl) hl upd_same⟩
    · refine iteN (fun h => hne (V.str.inj (dec_true h))) ?_
      refine ⟨_, rfl, r, xs, _, _, rfl, rfl, hr, h0, t.a_TAB, tabl, _, _, rfl, rfl, T.q_TAB, hk, fun a ha => ?_⟩
      refine ⟨a, rfl, ⟨_, ha⟩, fun p hp => comp_tup (xs := pl.map V.int) (by rw [List.length_map]; omega) (fun i acc H2 => acc = as.take i ∧ H2 = upd H p (.lst acc)) ⟨rfl, rfl⟩ ?_ ?_ ?_⟩
      · rintro i acc H2 hi ⟨rfl, rfl⟩
        exact ⟨upd_same, by rw [List.length_take]; omega, (Same.new hp).tup ha⟩
      · rintro i x acc H2 hx ⟨rfl, rfl⟩
        have hi : i < as.length := by
          have := (List.getElem?_eq_some_iff.mp hx).1
          rw [List.length_map] at this
          omega
        obtain ⟨p1, hp1, hp2⟩ := hat i as[i] (by simp [hi])
        rw [List.getElem?_map, hp1] at hx
        have hx : V.int p1 = x := by simpa using hx
        subst hx
        refine ⟨_, rfl, _, rfl, r, xs, _, _, rfl, rfl, (Same.new hp).tup hr, hp2, upd_same, ?_, upd_upd⟩
        rw [List.take_add_one]
        simp [hi]
      · rintro acc H2 ⟨rfl, rfl⟩
        have e : (as.take (pl.map V.int).length) = as := by rw [List.length_map, hpl]; exact List.take_length
        exact q p _ (Same.new hp) hp (by rw [upd_same, e])
end
end K42

set_option Elab.async false
set_option linter.all false
set_option maxRecDepth 100000
set_option maxHeartbeats 4000000
namespace K42
open PySem L2 K12
section
variable {P : Program} {w : World} {K : PySem.W.Frag} {mg : Str → Option Value} {base : Heap} {t : Adr}
local macro_rules | `(tactic| walk_at "rd1") => `(tactic| first
  | refine ⟨_, rfl, ?_⟩
  | refine ⟨_, _, rfl, rfl, ?_⟩
  | refine ⟨rfl, ?_⟩
  | refine ⟨(show (0 : Int) < _ by decide), ?_⟩
  | refine ⟨⟨by decide, by decide⟩, ?_⟩
  | refine ⟨.inl ⟨by decide, by decide⟩, ?_⟩
  | refine ⟨.inr ⟨by decide, by decide⟩, ?_⟩
  | refine ⟨⟨by decide, by decide, by decide⟩, ?_⟩)
local macro_rules | `(tactic| walk_at "rd") => `(tactic| repeat walk_at "rd1")
theorem sc_each_once : FnScope ["names"] ["names"] (defScope s_each_once) := ⟨rfl, rfl, rfl, by decide +kernel, rfl, by decide +kernel, by decide +kernel⟩
theorem ok_each_once (T : Txt K mg t) : FnOk P w K mg base CX0 1 t.a_each_once t.d_each_once ["names"] (K12.sp_each_once K) := by
  refine T.each_once.F.ok sc_each_once (fun vs H Q E h => ?_) (fun cdv A outer s H vs Q E hr h => ?_)
  · obtain ⟨p0, ss, rfl, hS, hl, q⟩ := h
    rfl
  · obtain ⟨p0, ss, rfl, hS, hl, q⟩ := h
    refine ⟨_, (@pss_cons _ _ _ _ _ (@ps_ret _ _ _ _ (pe_callTy (call_list_dk rfl) (by rfl) T.b_list bt_list (@pa_cons _ _ _ _ _ (pe_callTy (call_dict_of rfl) (by rfl) T.b_dict bt_dict (@pa_cons _ _ _ _ _ (pe_comp (N' := ["name"]) (js := [none]) (by kernel_rfl) rfl (pi_list (pvC 0)) own_name (fun _ _ _ _ => (pg_name (i := 0) (show (["name"] : List Str).Nodup by decide +kernel) rfl (Or.inl rfl) (.inr rfl))) (fun _ _ _ _ => pif_nil) (fun _ _ _ _ => (@pe_tup _ _ _ _ _ (@pa_cons _ _ _ _ _ (pvC 0) (@pa_cons _ _ _ _ _ pe_bl pa_nil (by rfl)) (by rfl))))) pa_nil (by rfl))) pa_nil (by rfl)))) pss_nil), ?_⟩
    refine ⟨_, rfl, p0, rfl, ⟨_, hS⟩, fun p hp => comp_list (xs := ss.map V.str) (by rw [List.length_map]; omega) (fun i acc H2 => i ≤ ss.length ∧ Same H H2 ∧ H2 p = some (.lst acc) ∧ ∃ ps : List Addr, acc = ps.map V.ref ∧ Paired (fun a (kv : Key × V) => SqT K H2 a [kV kv.1, kv.2]) ps (tru (ss.take i))) ⟨Nat.zero_le _, Same.new hp, upd_same, [], rfl, .nil⟩ ?_ ?_ ?_⟩
    · rintro i acc H2 hi ⟨hi', s2, h2, ps, rfl, hps⟩
      refine ⟨h2, ?_, s2.seq hS⟩
      have := Paired.length hps
      rw [List.length_map, this]
      unfold tru
      rw [List.length_map, List.length_take]
      omega
    · rintro i x acc H2 hx ⟨hi', s2, h2, ps, rfl, hps⟩
      have hi : i < ss.length := by
        have := (List.getElem?_eq_some_iff.mp hx).1
        rw [List.length_map] at this
        exact this
      rw [List.getElem?_map] at hx
      have hx : V.str ss[i] = x := by simpa [hi] using hx
      subst hx
      refine ⟨_, rfl, (by show 2 ≤ sizeLine; decide), fun a ha => ?_⟩
      have hap : a ≠ p := fun z => by rw [z, h2] at ha; cases ha
      have e : (upd H2 a (.tup [V.str ss[i], V.bl true])) p = some (.lst (ps.map V.ref)) := by rw [upd_ne hap.symm]; exact h2
      refine ⟨e, hi, ?_, upd_same, ps ++ [a], by rw [List.map_append]; rfl, ?_⟩
      · exact (s2.trans (Same.new ha)).upd hp
      · have e2 : tru (ss.take (i + 1)) = tru (ss.take i) ++ [(Sum.inr ss[i], V.bl true)] := by
          unfold tru
          rw [List.take_add_one, List.map_append]
          simp [hi]
        rw [e2]
        refine Paired.snoc (Paired.mapP hps fun b kv z => sqT_lst ((Same.new ha).tup z) e) ?_
        exact SqT.of (by rw [upd_ne hap]; exact upd_same)
    · rintro acc H2 ⟨hi', s2, h2, ps, rfl, hps⟩
      have e0 : ss.take (ss.map V.str).length = ss := by rw [List.length_map]; exact List.take_length
      rw [e0] at hps
      refine ⟨p, ps, tru ss, rfl, SqL.of h2, hps, by unfold tru; rw [List.length_map]; omega, fun d hd => ?_⟩
      rw [tru_once]
      refine ⟨d, tru (onceL ss), rfl, upd_same, fun l hl' => ?_⟩
      rw [tru_keys]
      exact q l _ ((s2.trans (Same.new hd)).trans (Same.new hl')) (s2.free ((Same.new hd).free hl')) upd_same
end
end K42

set_option Elab.async false
set_option linter.all false
set_option maxRecDepth 100000
set_option maxHeartbeats 4000000
namespace K42
open PySem L2 K12
section
variable {P : Program} {w : World} {K : PySem.W.Frag} {mg : Str → Option Value} {base : Heap} {t : Adr}
local macro_rules | `(tactic| walk_at "rd1") => `(tactic| first
  | refine ⟨_, rfl, ?_⟩
  | refine ⟨_, _, rfl, rfl, ?_⟩
  | refine ⟨rfl, ?_⟩
  | refine ⟨(show (0 : Int) < _ by decide), ?_⟩
  | refine ⟨⟨by decide, by decide⟩, ?_⟩
  | refine ⟨.inl ⟨by decide, by decide⟩, ?_⟩
  | refine ⟨.inr ⟨by decide, by decide⟩, ?_⟩
  | refine ⟨⟨by decide, by decide, by decide⟩, ?_⟩)
local macro_rules | `(tactic| walk_at "rd") => `(tactic| repeat walk_at "rd1")
theorem sc_reads : FnScope ["row"] ["row"] (defScope s_reads) := ⟨rfl, rfl, rfl, by decide +kernel, rfl, by decide +kernel, by decide +kernel⟩
theorem ok_reads (T : Txt K mg t) : FnOk P w K mg base CX0 2 t.a_reads t.d_reads ["row"] (K12.sp_reads K) := by
  have G_each_once : FnOk P w K mg base CX0 1 t.a_each_once t.d_each_once ["names"] (K12.sp_each_once K) := ok_each_once T
  have G_atoms_of : FnOk P w K mg base CX0 1 t.a_atoms_of t.d_atoms_of ["row"] (K12.sp_atoms_of K) := ok_atoms_of T
  refine T.reads.F.ok sc_reads (fun vs H Q E h => ?_) (fun cdv A outer s H vs Q E hr h => ?_)
  · obtain ⟨r, xs, g, as, rfl, hrw, hrow, hl, hat, q⟩ := h
    rfl
  · obtain ⟨r, xs, g, as, rfl, hrw, hrow, hl, hat, q⟩ := h
    refine ⟨_, (@pss_cons _ _ _ _ _ (@ps_ret _ _ _ _ (callD T.each_once G_each_once (hr.mono (by decide)) (@pa_cons _ _ _ _ _ (pe_comp (N' := ["atom"]) (js := [none]) (by kernel_rfl) rfl (pi_list (callD T.atoms_of G_atoms_of (hr.mono (by decide)) (@pa_cons _ _ _ _ _ (pvC 0) pa_nil (by rfl)))) own_name (fun _ _ _ _ => (pg_name (i := 0) (show (["atom"] : List Str).Nodup by decide +kernel) rfl (Or.inl rfl) (.inr rfl))) (fun _ _ _ _ => (pif_one (ptC_val (pe_callB (show CallR _ (.builtin "isinstance") (rIsi K) from call_isinst) (by rfl) T.b_isinstance bt_isinstance (@pa_cons _ _ _ _ _ (pvC 0) (@pa_cons _ _ _ _ _ (pe_bltn (v := V.ty "str") rfl T.b_str bt_str rfl) pa_nil (by rfl)) (by rfl)))))) (fun _ _ _ _ => (pvC 0))) pa_nil (by rfl)))) pss_nil), ?_⟩
    refine ⟨_, rfl, r, xs, g, as, rfl, hrw, hrow, hl, fun l0 H1 s1 n1 e1 => ?_⟩
    refine ⟨l0, rfl, ⟨_, SqL.of e1⟩, fun p hp => comp_list (xs := as) (by omega) (fun i acc H2 => acc = (strsOf (as.take i)).map V.str ∧ H2 = upd H1 p (.lst acc)) ⟨rfl, rfl⟩ ?_ ?_ ?_⟩
    · rintro i acc H2 hi ⟨rfl, rfl⟩
      refine ⟨upd_same, ?_, (Same.new hp).seq (SqL.of e1)⟩
      have := strsOf_len (as.take i)
      rw [List.length_map]
      rw [List.length_take] at this
      omega
    · rintro i x acc H2 hx ⟨rfl, rfl⟩
      have hi : i < as.length := (List.getElem?_eq_some_iff.mp hx).1
      have e2 : strsOf (as.take (i + 1)) = strsOf (as.take i) ++ strsOf [x] := by
        rw [List.take_add_one, hx, strsOf_append]
        rfl
      rcases hat x (List.mem_of_getElem? hx) with ⟨s, rfl, hn⟩ | ⟨z, rfl⟩
      · refine ⟨_, rfl, _, _, _, true, rfl, .str _, rfl, _, rfl, ?_⟩
        refine ⟨_, rfl, upd_same, ?_, upd_upd⟩
        rw [e2, List.map_append]
        rfl
      · refine ⟨_, rfl, _, _, _, false, rfl, .int _, rfl, _, rfl, ?_⟩
        refine ⟨?_, ?_⟩
        · rw [e2, strsOf_int, List.append_nil]
        · rfl
    · rintro acc H2 ⟨rfl, rfl⟩
      rw [List.take_length]
      have hle := strsOf_len as
      exact ⟨p, strsOf as, rfl, SqL.of upd_same, by omega, fun l H3 s3 n3 e3 => q l H3 ((s1.trans (Same.new hp)).trans s3) (s1.free ((Same.new hp).free n3)) e3⟩
end
end K42

set_option Elab.async false
set_option linter.all false
set_option maxRecDepth 100000
set_option maxHeartbeats 4000000
namespace K42
open PySem L2 K12
section
variable {P : Program} {w : World} {K : PySem.W.Frag} {mg : Str → Option Value} {base : Heap} {t : Adr}
local macro_rules | `(tactic| walk_at "rd1") => `(tactic| first
  | refine ⟨_, rfl, ?_⟩
  | refine ⟨_, _, rfl, rfl, ?_⟩
  | refine ⟨rfl, ?_⟩
  | refine ⟨(show (0 : Int) < _ by decide), ?_⟩
  | refine ⟨⟨by decide, by decide⟩, ?_⟩
  | refine ⟨.inl ⟨by decide, by decide⟩, ?_⟩
  | refine ⟨.inr ⟨by decide, by decide⟩, ?_⟩
  | refine ⟨⟨by decide, by decide, by decide⟩, ?_⟩)
local macro_rules | `(tactic| walk_at "rd") => `(tactic| repeat walk_at "rd1")
theorem sc_names_of : FnScope ["function", "found", "row", "given"] ["function"] (defScope s_names_of) := ⟨rfl, rfl, rfl, by decide +kernel, rfl, by decide +kernel, by decide +kernel⟩
theorem ok_names_of (T : Txt K mg t) : FnOk P w K mg base CX0 3 t.a_names_of t.d_names_of ["function"] (K12.sp_names_of K) := by
  have G_each_once : FnOk P w K mg base CX0 1 t.a_each_once t.d_each_once ["names"] (K12.sp_each_once K) := ok_each_once T
  have G_gives : FnOk P w K mg base CX0 1 t.a_gives t.d_gives ["row"] (K12.sp_gives K) := ok_gives T
  have G_reads : FnOk P w K mg base CX0 2 t.a_reads t.d_reads ["row"] (K12.sp_reads K) := ok_reads T
  refine T.names_of.F.ok sc_names_of (fun vs H Q E h => ?_) (fun cdv A outer s H vs Q E hr h => ?_)
  · obtain ⟨f, ps, ds, rfl, hf, q⟩ := h
    rfl
  · skip
    refine (let W0 : TS := _; have hW0 : PSs (cxOf CX0 P w K mg base ["function", "found", "row", "given"] "names_of" (defScope s_names_of) t.a_names_of cdv A outer s H E).nox (((sB (((defBody s_names_of).drop 1).getD 0 (.Pass ⟨0, 0, 0, 0⟩))).drop 1).drop 1) W0 := (@pss_one _ _ _ (@ps_expr _ _ _ _ (pe_bm PySem.F.plainAttrs_list PySem.F.slot_list_extend PySem.F.type_list_extend mt_extend (pvC 1) (@pa_cons _ _ _ _ _ (callD T.reads G_reads (hr.mono (by decide)) (@pa_cons _ _ _ _ _ (pvC 2) pa_nil (by rfl))) pa_nil (by rfl))) (by rfl))); ?_)
    refine (let W1 : TS := _; have hW1 : PSs (cxOf CX0 P w K mg base ["function", "found", "row", "given"] "names_of" (defScope s_names_of) t.a_names_of cdv A outer s H E).nox (sB (((sB (((defBody s_names_of).drop 1).getD 0 (.Pass ⟨0, 0, 0, 0⟩))).drop 1).getD 0 (.Pass ⟨0, 0, 0, 0⟩))) W1 := (@pss_one _ _ _ (@ps_expr _ _ _ _ (pe_bm PySem.F.plainAttrs_list PySem.F.slot_list_append PySem.F.type_list_append mtC_append (pvC 1) (@pa_cons _ _ _ _ _ (pvC 3) pa_nil (by rfl))) (by rfl))); ?_)
    refine (let W2 : TS := _; have hW2 : PSs (cxOf CX0 P w K mg base ["function", "found", "row", "given"] "names_of" (defScope s_names_of) t.a_names_of cdv A outer s H E).nox ((sB (((defBody s_names_of).drop 1).getD 0 (.Pass ⟨0, 0, 0, 0⟩))).drop 1) W2 := (@pss_cons _ _ _ _ _ (@ps_if _ _ _ _ _ _ _ _ (pt_cmp (pc_notN (pvC 3))) hW1 pss_nil) hW0); ?_)
    refine (let W3 : TS := _; have hW3 : PSs (cxOf CX0 P w K mg base ["function", "found", "row", "given"] "names_of" (defScope s_names_of) t.a_names_of cdv A outer s H E).nox (sB (((defBody s_names_of).drop 1).getD 0 (.Pass ⟨0, 0, 0, 0⟩))) W3 := (@pss_cons _ _ _ _ _ (@ps_set _ _ 3 _ _ _ _ sc_names_of.nd rfl (Or.inl rfl) (callD T.gives G_gives (hr.mono (by decide)) (@pa_cons _ _ _ _ _ (pvC 2) pa_nil (by rfl))) (by rfl) (by first | exact .inl rfl | exact .inr rfl | assumption)) hW2); ?_)
    refine (let W4 : TS := _; have hW4 : PSs (cxOf CX0 P w K mg base ["function", "found", "row", "given"] "names_of" (defScope s_names_of) t.a_names_of cdv A outer s H E).nox ((defBody s_names_of).drop 1) W4 := (@pss_cons _ _ _ _ _ (ps_for PassesOwn.never rfl (pi_tup (@pe_ix _ _ _ _ _ _ _ (show IxR _ (cIxT K) from ixC_tup) (pvC 0) pe_int (fun _ _ => rfl))) (pg_name (i := 2) sc_names_of.nd rfl (Or.inl rfl)) hW3) (@pss_one _ _ _ (@ps_ret _ _ _ _ (callD T.each_once G_each_once (hr.mono (by decide)) (@pa_cons _ _ _ _ _ (pvC 1) pa_nil (by rfl)))))); ?_)
    obtain ⟨f, ps, ds, rfl, hf, q⟩ := h
    refine ⟨_, (@pss_cons _ _ _ _ _ (@ps_set _ _ 1 _ _ _ _ sc_names_of.nd rfl (Or.inl rfl) (pe_callTy call_list_of (by rfl) T.b_list bt_list (@pa_cons _ _ _ _ _ (@pe_ix _ _ _ _ _ _ _ (show IxR _ (cIxT K) from ixC_tup) (pvC 0) pe_int (fun _ _ => rfl)) pa_nil (by rfl))) (by rfl) (by first | exact .inl rfl | exact .inr rfl | assumption)) hW4), ?_⟩
    obtain ⟨n, b, pp, rr, hF, hP, hR⟩ := hf.fn
    refine ⟨_, rfl, f, _, _, _, rfl, rfl, hF, rfl, pp, _, rfl, .inr hP, fun l hl => ?_⟩
    refine ⟨_, rfl, f, _, _, _, rfl, rfl, (Same.new hl).tup hF, rfl, ?_⟩
    refine ⟨rr, rfl, ⟨_, (Same.new hl).tup hR⟩, for_tup (xs := ds.map fun d => V.ref d.r) (fun i σ H2 => Same H H2 ∧ ∃ v1 v2 fs, σ = [some (.ref f), some (.ref l), v1, v2] ∧ H2 l = some (.lst (List.map V.str fs)) ∧ onceL fs = onceL (ps ++ (ds.take i).flatMap rowStrs) ∧ fs.length ≤ 100 + 11 * i) ⟨Same.new hl, _, _, ps, rfl, upd_same, by simp, by have := hf.pl; omega⟩ ?_ ?_ ?_⟩
    · rintro i σ H2 hi ⟨s2, _⟩
      exact s2.tup hR
    · rintro i x σ H2 hx ⟨s2, v1, v2, fs, rfl, h2, ho, hlen⟩
      have hi : i < ds.length := by
        have := (List.getElem?_eq_some_iff.mp hx).1
        rw [List.length_map] at this
        exact this
      rw [List.getElem?_map] at hx
      have hx : V.ref ds[i].r = x := by simpa [hi] using hx
      subst hx
      have hd := hf.rows ds[i] (List.getElem_mem hi)
      have hds := hf.dl
      have ef : (ds.take (i + 1)).flatMap rowStrs = (ds.take i).flatMap rowStrs ++ rowStrs ds[i] := by
        rw [List.take_add_one, List.flatMap_append]
        simp [hi]
      have hol := onceL_len (strsOf ds[i].as)
      have hsl := strsOf_len ds[i].as
      have hal := hd.len
      obtain ⟨xs, hr1, hr2⟩ := (hd.mono s2).row
      refine ⟨_, rfl, ds[i].r, xs, _, _, rfl, hr1, hr2, ?_⟩
      refine ⟨_, rfl, _, rfl, ?_⟩
      cases hg : ds[i].gx with
      | none =>
        refine iteF ⟨_, rfl, .inl ⟨rfl, _, SqL.of h2⟩, _, rfl, ds[i].r, xs, _, _, rfl, hr1, hr2, hd.len, hd.ats, fun l4 H4 s4 n4 e4 => ?_⟩
        refine ⟨l, l4, _, _, rfl, rfl, s4 _ _ h2, e4, lt_line (by rw [List.length_map, List.length_map]; omega), ?_⟩
        refine ⟨(s2.trans s4).upd hl, _, _, fs ++ [] ++ onceL (strsOf ds[i].as), rfl, (by rw [upd_same, List.append_nil, List.map_append]), ?_, (by simp only [List.length_append, List.length_nil]; omega)⟩
        rw [once_row ho, ef, List.append_assoc]
        unfold rowStrs
        rw [hg]
        rfl
      | some x =>
        refine iteT ⟨_, rfl, .inl ⟨rfl, _, SqL.of h2⟩, _, rfl, l, _, _, rfl, rfl, h2, lt_line' (by rw [List.length_map]; omega), ?_⟩
        have s3 : Same H (upd H2 l (.lst (List.map V.str fs ++ [V.str x]))) := s2.upd hl
        obtain ⟨xs', hr1', hr2'⟩ := (hd.mono s3).row
        refine ⟨_, rfl, .inl ⟨rfl, _, SqL.of upd_same⟩, _, rfl, ds[i].r, xs', _, _, rfl, hr1', hr2', hd.len, hd.ats, fun l4 H4 s4 n4 e4 => ?_⟩
        refine ⟨l, l4, _, _, rfl, rfl, s4 _ _ upd_same, e4, lt_line (by simp only [List.length_append, List.length_map, List.length_cons, List.length_nil]; omega), ?_⟩
        refine ⟨(s3.trans s4).upd hl, _, _, fs ++ [x] ++ onceL (strsOf ds[i].as), rfl, (by rw [upd_same, List.map_append, List.map_append]; rfl), ?_, (by simp only [List.length_append, List.length_cons, List.length_nil]; omega)⟩
        rw [once_row ho, ef, List.append_assoc]
        unfold rowStrs
        rw [hg]
        rfl
    · rintro σ H2 ⟨s2, v1, v2, fs, rfl, h2, ho, hlen⟩
      rw [List.length_map, List.take_length] at ho
      rw [List.length_map] at hlen
      have hds := hf.dl
      refine ⟨_, rfl, l, fs, rfl, SqL.of h2, by omega, fun l3 H3 s3 n3 e3 => q l3 H3 (s2.trans s3) (s2.free n3) ?_⟩
      rw [e3, ho]
      rfl
end
end K42

set_option Elab.async false
set_option linter.all false
set_option maxRecDepth 100000
set_option maxHeartbeats 4000000
namespace K42
open PySem L2 K13
section
variable {P : Program} {w : World} {K : PySem.W.Frag} {mg : Str → Option Value} {base : Heap} {t : Adr}
local macro_rules | `(tactic| walk_at "rd1") => `(tactic| first
  | refine ⟨_, rfl, ?_⟩
  | refine ⟨_, _, rfl, rfl, ?_⟩
  | refine ⟨rfl, ?_⟩
  | refine ⟨(show (0 : Int) < _ by decide), ?_⟩
  | refine ⟨⟨by decide, by decide⟩, ?_⟩
  | refine ⟨.inl ⟨by decide, by decide⟩, ?_⟩
  | refine ⟨.inr ⟨by decide, by decide⟩, ?_⟩
  | refine ⟨⟨by decide, by decide, by decide⟩, ?_⟩)
local macro_rules | `(tactic| walk_at "rd") => `(tactic| repeat walk_at "rd1")
theorem sc_begins_of : FnScope ["rows", "opened", "begins", "k", "row"] ["rows"] (defScope s_begins_of) := ⟨rfl, rfl, rfl, by decide +kernel, rfl, by decide +kernel, by decide +kernel⟩
theorem ok_begins_of (T : Txt K mg t) : FnOk P w K mg base CX0 1 t.a_begins_of t.d_begins_of ["rows"] (K13.sp_begins_of K) := by
  refine T.begins_of.F.ok sc_begins_of (fun vs H Q E h => ?_) (fun cdv A outer s H vs Q E hr h => ?_)
  · obtain ⟨a, ks, rfl, hR, w, hn, q⟩ := h
    rfl
  · skip
    refine (let W0 : TS := _; have hW0 : PSs (cxOf CX0 P w K mg base ["rows", "opened", "begins", "k", "row"] "begins_of" (defScope s_begins_of) t.a_begins_of cdv A outer s H E).nox (sB ((sB ((((defBody s_begins_of).drop 1).drop 1).getD 0 (.Pass ⟨0, 0, 0, 0⟩))).getD 0 (.Pass ⟨0, 0, 0, 0⟩))) W0 := (@pss_one _ _ _ (@ps_expr _ _ _ _ (pe_bm PySem.F.plainAttrs_list PySem.F.slot_list_append PySem.F.type_list_append mtC_append (pvC 1) (@pa_cons _ _ _ _ _ (pvC 3) pa_nil (by rfl))) (by rfl))); ?_)
    refine (let W1 : TS := _; have hW1 : PSs (cxOf CX0 P w K mg base ["rows", "opened", "begins", "k", "row"] "begins_of" (defScope s_begins_of) t.a_begins_of cdv A outer s H E).nox (sB ((sO ((sB ((((defBody s_begins_of).drop 1).drop 1).getD 0 (.Pass ⟨0, 0, 0, 0⟩))).getD 0 (.Pass ⟨0, 0, 0, 0⟩))).getD 0 (.Pass ⟨0, 0, 0, 0⟩))) W1 := (@pss_one _ _ _ (ps_dput (u1' hr.units) (pvC 2) (pvC 3) (@pe_ix _ _ _ _ _ _ _ (show IxR _ (cIxL K) from ixC_list) (pvC 1) (pe_un un_neg pe_int) (fun _ _ => rfl)) (by rfl))); ?_)
    refine (let W2 : TS := _; have hW2 : PSs (cxOf CX0 P w K mg base ["rows", "opened", "begins", "k", "row"] "begins_of" (defScope s_begins_of) t.a_begins_of cdv A outer s H E).nox (sO ((sO ((sB ((((defBody s_begins_of).drop 1).drop 1).getD 0 (.Pass ⟨0, 0, 0, 0⟩))).getD 0 (.Pass ⟨0, 0, 0, 0⟩))).getD 0 (.Pass ⟨0, 0, 0, 0⟩))) W2 := (@pss_one _ _ _ (@ps_if _ _ _ _ _ _ _ _ (@ptC_cmpR _ _ _ _ _ _ _ _ op_eq (@pe_ix _ _ _ _ _ _ _ (show IxR _ (cIxT K) from ixC_tup) (pvC 4) pe_int (fun _ _ => rfl)) pe_str (nomark _)) (@pss_one _ _ _ (ps_dput (u1' hr.units) (pvC 2) (pvC 3) (pe_bm0 PySem.F.plainAttrs_list PySem.F.slot_list_pop PySem.F.type_list_pop mt_pop (pvC 1)) (by rfl))) pss_nil)); ?_)
    refine (let W3 : TS := _; have hW3 : PSs (cxOf CX0 P w K mg base ["rows", "opened", "begins", "k", "row"] "begins_of" (defScope s_begins_of) t.a_begins_of cdv A outer s H E).nox (sO ((sB ((((defBody s_begins_of).drop 1).drop 1).getD 0 (.Pass ⟨0, 0, 0, 0⟩))).getD 0 (.Pass ⟨0, 0, 0, 0⟩))) W3 := (@pss_one _ _ _ (@ps_if _ _ _ _ _ _ _ _ (@ptC_cmpR _ _ _ _ _ _ _ _ op_eq (@pe_ix _ _ _ _ _ _ _ (show IxR _ (cIxT K) from ixC_tup) (pvC 4) pe_int (fun _ _ => rfl)) pe_str (nomark _)) hW1 hW2)); ?_)
    refine (let W4 : TS := _; have hW4 : PSs (cxOf CX0 P w K mg base ["rows", "opened", "begins", "k", "row"] "begins_of" (defScope s_begins_of) t.a_begins_of cdv A outer s H E).nox (sB ((((defBody s_begins_of).drop 1).drop 1).getD 0 (.Pass ⟨0, 0, 0, 0⟩))) W4 := (@pss_one _ _ _ (@ps_if _ _ _ _ _ _ _ _ (@ptC_cmpR _ _ _ _ _ _ _ _ op_in_seq (@pe_ix _ _ _ _ _ _ _ (show IxR _ (cIxT K) from ixC_tup) (pvC 4) pe_int (fun _ _ => rfl)) (@pe_tup _ _ _ _ _ (@pa_cons _ _ _ _ _ pe_str (@pa_cons _ _ _ _ _ pe_str pa_nil (by rfl)) (by rfl))) (by with_unfolding_all rfl)) hW0 hW3)); ?_)
    refine (let W5 : TS := _; have hW5 : PSs (cxOf CX0 P w K mg base ["rows", "opened", "begins", "k", "row"] "begins_of" (defScope s_begins_of) t.a_begins_of cdv A outer s H E).nox (((defBody s_begins_of).drop 1).drop 1) W5 := (@pss_cons _ _ _ _ _ (ps_for PassesOwn.never rfl (pi_enumT rfl T.b_enumerate (@pa_cons _ _ _ _ _ (pvC 0) pa_nil (by rfl))) (pg_tup rfl (pgs_cons (pg_name (i := 3) sc_begins_of.nd rfl (Or.inl rfl)) (pgs_cons (pg_name (i := 4) sc_begins_of.nd rfl (Or.inl rfl)) pgs_nil))) hW4) (@pss_one _ _ _ (@ps_ret _ _ _ _ (pvC 2)))); ?_)
    refine (let W6 : TS := _; have hW6 : PSs (cxOf CX0 P w K mg base ["rows", "opened", "begins", "k", "row"] "begins_of" (defScope s_begins_of) t.a_begins_of cdv A outer s H E).nox ((defBody s_begins_of).drop 1) W6 := (@pss_cons _ _ _ _ _ (@ps_set _ _ 2 _ _ _ _ sc_begins_of.nd rfl (Or.inl rfl) pe_dnewK (by rfl) (by first | exact .inl rfl | exact .inr rfl | assumption)) hW5); ?_)
    obtain ⟨a, ks, rfl, hR, w, hn, q⟩ := h
    refine ⟨_, (@pss_cons _ _ _ _ _ (@ps_set _ _ 1 _ _ _ _ sc_begins_of.nd rfl (Or.inl rfl) (@pe_lst _ _ _ _ pa_nil) (by rfl) (by first | exact .inl rfl | exact .inr rfl | assumption)) hW6), ?_⟩
    refine ⟨le0, fun ol hol => fun d hd => ?_⟩
    obtain ⟨rs, e1, e2, e3⟩ := hR.ex
    have hdo : d ≠ ol := fun z => by rw [z, upd_same] at hd; cases hd
    have s0 : Same H (upd (upd H ol (.lst [])) d (.dK [])) := (Same.new hol).trans (Same.new hd)
    have hd0 : H d = none := (Same.new hol).free hd
    refine ⟨_, rfl, a, rfl, ⟨_, s0.tup e1⟩, for_enumT (xs := rs.map V.ref) (fun i σ H2 => i ≤ ks.length ∧ Same H H2 ∧ ∃ v3 v4, σ = [some (.ref a), some (.ref ol), some (.ref d), v3, v4] ∧ H2 ol = some (.lst (stkV ks i)) ∧ H2 d = some (.dK (bg ks i))) ⟨Nat.zero_le _, s0, _, _, rfl, by rw [upd_ne hdo.symm]; exact upd_same, upd_same⟩ ?_ ?_ ?_⟩
    · rintro i σ H2 hi ⟨_, s2, _⟩
      exact s2.tup e1
    · rintro i x σ H2 b hx ⟨hi', s2, v3, v4, rfl, ho, hg⟩ hb
      have hi : i < rs.length := by
        have := (List.getElem?_eq_some_iff.mp hx).1
        rw [List.length_map] at this
        exact this
      rw [List.getElem?_map] at hx
      have hx : V.ref rs[i] = x := by simpa [hi] using hx
      subst hx
      obtain ⟨rest, hrow⟩ := e3 i rs[i] (by simp [hi])
      have s3 : Same H (upd H2 b (.tup [.int i, .ref rs[i]])) := s2.trans (Same.new hb)
      have ho3 := Same.new (o := .tup [.int i, .ref rs[i]]) hb _ _ ho
      have hg3 := Same.new (o := .tup [.int i, .ref rs[i]]) hb _ _ hg
      have sl := stkV_len ks i
      have bl := bg_len ks i
      refine ⟨b, _, rfl, SqT.of upd_same, rfl, _, _, rfl, _, _, rfl, rfl, ?_⟩
      refine ⟨_, rfl, rs[i], _, _, _, rfl, rfl, s3.tup hrow, at0, le2, fun tw htw => ⟨tw, [V.str "if", V.str "while"], rfl, .inr (SqT.of upd_same), rfl, rfl, _, rfl, ?_⟩⟩
      have s4 := s3.trans (Same.new (o := .tup [V.str "if", V.str "while"]) htw)
      have ho4 := Same.new (o := .tup [V.str "if", V.str "while"]) htw _ _ ho3
      have hg4 := Same.new (o := .tup [V.str "if", V.str "while"]) htw _ _ hg3
      by_cases hO : isO (kd ks i) = true
      · refine iteP ((inO _).trans hO) ?_
        refine ⟨_, rfl, .inl ⟨rfl, _, SqL.of ho4⟩, _, rfl, ol, _, _, rfl, rfl, ho4, lt_line' (by omega), ?_⟩
        refine ⟨by omega, s4.upd hol, _, _, rfl, ?_, ?_⟩
        · rw [upd_same]
          have : stk ks (i + 1) = i :: stk ks i := by rw [stk_succ]; unfold push; rw [if_pos hO]
          unfold stkV
          rw [this, List.reverse_cons, List.map_append]
          rfl
        · rw [upd_ne hdo, bg_same (isO_not_E hO)]
          exact hg4
      refine iteN (fun z => hO ((inO _).symm.trans z)) ?_
      refine ⟨_, rfl, rs[i], _, _, _, rfl, rfl, s4.tup hrow, at0, rfl, _, rfl, ?_⟩
      by_cases h1 : kd ks i = "else"
      · refine iteP (decide_eq_true (congrArg V.str h1)) ?_
        have hE : isE (kd ks i) = true := by rw [h1]; decide +kernel
        obtain ⟨t, r, ht⟩ : ∃ t r, stk ks i = t :: r := by
          cases z : stk ks i with
          | nil => exact absurd z (w.open_ i (by omega) hE)
          | cons t r => exact ⟨t, r, rfl⟩
        obtain ⟨q1, q2, q3⟩ := stkV_top ht
        refine ⟨_, rfl, _, rfl, ol, _, _, _, rfl, rfl, SqL.of ho4, q1, _, rfl, _, rfl, d, _, rfl, DPut.k (k := Sum.inl (i : Int)) hg4 (lt_line' (by omega)), ?_⟩
        refine ⟨by omega, s4.upd hd0, _, _, rfl, ?_, ?_⟩
        · rw [upd_ne hdo.symm]
          have : stk ks (i + 1) = stk ks i := by rw [stk_succ]; unfold push; rw [if_neg hO, if_neg (by rw [h1]; exact els_fin)]
          unfold stkV
          rw [this]
          exact ho4
        · rw [upd_same, bg_put ⟨hE, by rw [ht]; rfl⟩]
      refine iteN (fun z => h1 (V.str.inj (dec_true z))) ?_
      refine ⟨_, rfl, rs[i], _, _, _, rfl, rfl, s4.tup hrow, at0, rfl, _, rfl, ?_⟩
      by_cases h2 : kd ks i = "end"
      · refine iteP (decide_eq_true (congrArg V.str h2)) ?_
        have hE : isE (kd ks i) = true := by rw [h2]; decide +kernel
        obtain ⟨t, r, ht⟩ : ∃ t r, stk ks i = t :: r := by
          cases z : stk ks i with
          | nil => exact absurd z (w.open_ i (by omega) hE)
          | cons t r => exact ⟨t, r, rfl⟩
        obtain ⟨q1, q2, q3⟩ := stkV_top ht
        refine ⟨_, rfl, .inl ⟨rfl, _, SqL.of ho4⟩, ol, _, _, rfl, rfl, ho4, q2, _, rfl, _, rfl, d, _, rfl, DPut.k (k := Sum.inl (i : Int)) (by rw [upd_ne hdo]; exact hg4) (lt_line' (by omega)), ?_⟩
        refine ⟨by omega, (s4.upd hol).upd hd0, _, _, rfl, ?_, ?_⟩
        · rw [upd_ne hdo.symm, upd_same, q3]
          have : stk ks (i + 1) = r := by rw [stk_succ]; unfold push; rw [if_neg hO, if_pos h2, ht]; rfl
          unfold stkV
          rw [this]
        · rw [upd_same, bg_put ⟨hE, by rw [ht]; rfl⟩]
      refine iteN (fun z => h2 (V.str.inj (dec_true z))) ?_
      refine ⟨by omega, s4, _, _, rfl, ?_, ?_⟩
      · have : stk ks (i + 1) = stk ks i := by rw [stk_succ]; unfold push; rw [if_neg hO, if_neg h2]
        unfold stkV
        rw [this]
        exact ho4
      · rw [bg_same (isE_or h1 h2)]
        exact hg4
    · rintro σ H2 ⟨_, s2, v3, v4, rfl, ho, hg⟩
      rw [List.length_map, e2] at hg
      exact ⟨_, rfl, q d H2 s2 hd0 hg⟩
end
end K42

set_option Elab.async false
set_option linter.all false
set_option maxRecDepth 100000
set_option maxHeartbeats 4000000
namespace K42
open PySem L2 K13
section
variable {P : Program} {w : World} {K : PySem.W.Frag} {mg : Str → Option Value} {base : Heap} {t : Adr}
local macro_rules | `(tactic| walk_at "rd1") => `(tactic| first
  | refine ⟨_, rfl, ?_⟩
  | refine ⟨_, _, rfl, rfl, ?_⟩
  | refine ⟨rfl, ?_⟩
  | refine ⟨(show (0 : Int) < _ by decide), ?_⟩
  | refine ⟨⟨by decide, by decide⟩, ?_⟩
  | refine ⟨.inl ⟨by decide, by decide⟩, ?_⟩
  | refine ⟨.inr ⟨by decide, by decide⟩, ?_⟩
  | refine ⟨⟨by decide, by decide, by decide⟩, ?_⟩)
local macro_rules | `(tactic| walk_at "rd") => `(tactic| repeat walk_at "rd1")
theorem sc_firsts_behind : FnScope ["rows", "begins", "ends", "k", "begin", "behind", "follower", "kind"] ["rows", "begins"] (defScope s_firsts_behind) := ⟨rfl, rfl, rfl, by decide +kernel, rfl, by decide +kernel, by decide +kernel⟩
theorem ok_firsts_behind (T : Txt K mg t) : FnOk P w K mg base CX0 1 t.a_firsts_behind t.d_firsts_behind ["rows", "begins"] (K13.sp_firsts_behind K) := by
  refine T.firsts_behind.F.ok sc_firsts_behind (fun vs H Q E h => ?_) (fun cdv A outer s H vs Q E hr h => ?_)
  · obtain ⟨a, d, ks, rfl, hR, w, hn, hd, q⟩ := h
    rfl
  · skip
    refine (let W0 : TS := _; have hW0 : PSs (cxOf CX0 P w K mg base ["rows", "begins", "ends", "k", "begin", "behind", "follower", "kind"] "firsts_behind" (defScope s_firsts_behind) t.a_firsts_behind cdv A outer s H E).nox (sB ((((sB (((((defBody s_firsts_behind).drop 1).drop 1).drop 1).getD 0 (.Pass ⟨0, 0, 0, 0⟩))).drop 1).drop 1).getD 0 (.Pass ⟨0, 0, 0, 0⟩))) W0 := (@pss_one _ _ _ (ps_asg (@pe_ix _ _ _ _ _ _ _ ix_list (pv 5) (pe_dget (u1' hr.units) (pv 2) (pe_dget (u1' hr.units) (pv 1) (pv 6) (fun _ _ => rfl)) (fun _ _ => rfl)) (fun _ _ => rfl)) (pg_sub (pv 5) (pv 3) set_list))); ?_)
    refine (let W1 : TS := _; have hW1 : PSs (cxOf CX0 P w K mg base ["rows", "begins", "ends", "k", "begin", "behind", "follower", "kind"] "firsts_behind" (defScope s_firsts_behind) t.a_firsts_behind cdv A outer s H E).nox (sO ((sO ((((sB (((((defBody s_firsts_behind).drop 1).drop 1).drop 1).getD 0 (.Pass ⟨0, 0, 0, 0⟩))).drop 1).drop 1).getD 0 (.Pass ⟨0, 0, 0, 0⟩))).getD 0 (.Pass ⟨0, 0, 0, 0⟩))) W1 := (@pss_one _ _ _ (@ps_if _ _ _ _ _ _ _ _ (@pt_cmpR _ _ _ _ _ _ _ _ op_eq (pv 7) pe_str (nomark _)) (@pss_one _ _ _ (ps_asg (@pe_ix _ _ _ _ _ _ _ ix_list (pv 5) (pv 6) (fun _ _ => rfl)) (pg_sub (pv 5) (pv 3) set_list))) (@pss_one _ _ _ (ps_asg (pv 6) (pg_sub (pv 5) (pv 3) set_list))))); ?_)
    refine (let W2 : TS := _; have hW2 : PSs (cxOf CX0 P w K mg base ["rows", "begins", "ends", "k", "begin", "behind", "follower", "kind"] "firsts_behind" (defScope s_firsts_behind) t.a_firsts_behind cdv A outer s H E).nox (sO ((((sB (((((defBody s_firsts_behind).drop 1).drop 1).drop 1).getD 0 (.Pass ⟨0, 0, 0, 0⟩))).drop 1).drop 1).getD 0 (.Pass ⟨0, 0, 0, 0⟩))) W2 := (@pss_one _ _ _ (@ps_if _ _ _ _ _ _ _ _ (@PW.pt _ _ _ (@pw_and _ _ _ _ _ _ _ (@pt_cmpR _ _ _ _ _ _ _ _ op_eq (pv 7) pe_str (nomark _)) (@pw_and1 _ _ _ _ (@pt_cmpR _ _ _ _ _ _ _ _ op_eq (@pe_ix _ _ _ _ _ _ _ ix_tup (@pe_ix _ _ _ _ _ _ _ ix_tup (pv 0) (pe_dget (u1' hr.units) (pv 1) (pv 6) (fun _ _ => rfl)) (fun _ _ => rfl)) pe_int (fun _ _ => rfl)) pe_str (nomark _))))) (@pss_one _ _ _ (ps_asg (pe_dget (u1' hr.units) (pv 1) (pv 6) (fun _ _ => rfl)) (pg_sub (pv 5) (pv 3) set_list))) hW1)); ?_)
    refine (let W3 : TS := _; have hW3 : PSs (cxOf CX0 P w K mg base ["rows", "begins", "ends", "k", "begin", "behind", "follower", "kind"] "firsts_behind" (defScope s_firsts_behind) t.a_firsts_behind cdv A outer s H E).nox ((sB (((((defBody s_firsts_behind).drop 1).drop 1).drop 1).getD 0 (.Pass ⟨0, 0, 0, 0⟩))).drop 1) W3 := (@pss_cons _ _ _ _ _ (@ps_set _ _ 7 _ _ _ _ sc_firsts_behind.nd rfl (Or.inl rfl) (@pe_ix _ _ _ _ _ _ _ ix_tup (@pe_ix _ _ _ _ _ _ _ ix_tup (pv 0) (pv 6) (fun _ _ => rfl)) pe_int (fun _ _ => rfl)) (by rfl) (by first | exact .inl rfl | exact .inr rfl | assumption)) (@pss_one _ _ _ (@ps_if _ _ _ _ _ _ _ _ (@pt_cmpR _ _ _ _ _ _ _ _ op_eq (pv 7) pe_str (nomark _)) hW0 hW2))); ?_)
    refine (let W4 : TS := _; have hW4 : PSs (cxOf CX0 P w K mg base ["rows", "begins", "ends", "k", "begin", "behind", "follower", "kind"] "firsts_behind" (defScope s_firsts_behind) t.a_firsts_behind cdv A outer s H E).nox (sB (((((defBody s_firsts_behind).drop 1).drop 1).drop 1).getD 0 (.Pass ⟨0, 0, 0, 0⟩))) W4 := (@pss_cons _ _ _ _ _ (@ps_set _ _ 6 _ _ _ _ sc_firsts_behind.nd rfl (Or.inl rfl) (@pe_op _ _ _ _ _ _ _ _ op_add (pv 3) pe_int) (by rfl) (by first | exact .inl rfl | exact .inr rfl | assumption)) hW3); ?_)
    refine (let W5 : TS := _; have hW5 : PSs (cxOf CX0 P w K mg base ["rows", "begins", "ends", "k", "begin", "behind", "follower", "kind"] "firsts_behind" (defScope s_firsts_behind) t.a_firsts_behind cdv A outer s H E).nox ((((defBody s_firsts_behind).drop 1).drop 1).drop 1) W5 := (@pss_cons _ _ _ _ _ (ps_for PassesOwn.never rfl (pi_down rfl T.b_range (@pa_cons _ _ _ _ _ (@pe_op _ _ _ _ _ _ _ _ op_sub (pe_callB call_len_seq (by rfl) T.b_len bt_len (@pa_cons _ _ _ _ _ (pv 0) pa_nil (by rfl))) pe_int) (@pa_cons _ _ _ _ _ (pe_un un_neg pe_int) (@pa_cons _ _ _ _ _ (pe_un un_neg pe_int) pa_nil (by rfl)) (by rfl)) (by rfl))) (pg_name (i := 3) sc_firsts_behind.nd rfl (Or.inl rfl)) hW4) (@pss_one _ _ _ (@ps_ret _ _ _ _ (pv 5)))); ?_)
    refine (let W6 : TS := _; have hW6 : PSs (cxOf CX0 P w K mg base ["rows", "begins", "ends", "k", "begin", "behind", "follower", "kind"] "firsts_behind" (defScope s_firsts_behind) t.a_firsts_behind cdv A outer s H E).nox (((defBody s_firsts_behind).drop 1).drop 1) W6 := (@pss_cons _ _ _ _ _ (@ps_set _ _ 5 _ _ _ _ sc_firsts_behind.nd rfl (Or.inl rfl) (@pe_op _ _ _ _ _ _ _ _ op_rep (@pe_lst _ _ _ _ (@pa_cons _ _ _ _ _ pe_non pa_nil (by rfl))) (pe_callB call_len_seq (by rfl) T.b_len bt_len (@pa_cons _ _ _ _ _ (pv 0) pa_nil (by rfl)))) (by rfl) (by first | exact .inl rfl | exact .inr rfl | assumption)) hW5); ?_)
    refine (let W7 : TS := _; have hW7 : PSs (cxOf CX0 P w K mg base ["rows", "begins", "ends", "k", "begin", "behind", "follower", "kind"] "firsts_behind" (defScope s_firsts_behind) t.a_firsts_behind cdv A outer s H E).nox ((defBody s_firsts_behind).drop 1) W7 := (@pss_cons _ _ _ _ _ (ps_for PassesOwn.never rfl (pi_items (pv 1)) (pg_tup rfl (pgs_cons (pg_name (i := 3) sc_firsts_behind.nd rfl (Or.inl rfl)) (pgs_cons (pg_name (i := 4) sc_firsts_behind.nd rfl (Or.inl rfl)) pgs_nil))) (@pss_one _ _ _ (ps_dput (u1' hr.units) (pv 2) (pv 4) (pv 3) (by rfl)))) hW6); ?_)
    obtain ⟨a, d, ks, rfl, hR, w, hn, hd, q⟩ := h
    refine ⟨_, (@pss_cons _ _ _ _ _ (@ps_set _ _ 2 _ _ _ _ sc_firsts_behind.nd rfl (Or.inl rfl) pe_dnewK (by rfl) (by first | exact .inl rfl | exact .inr rfl | assumption)) hW7), ?_⟩
    refine fun ed hed => ?_
    have hde : d ≠ ed := fun z => by rw [← z, hd] at hed; cases hed
    refine ⟨_, rfl, d, bg ks ks.length, rfl, .inl ⟨Same.new hed _ _ hd, fun o => ?_⟩⟩
    have sF : Same (upd H d (.frz o (.dK (bg ks ks.length)))) (upd (upd H ed (.dK [])) d (.frz o (.dK (bg ks ks.length)))) := fun b u h => by
      by_cases hb : b = d
      · subst hb
        rw [upd_same] at h ⊢
        exact h
      · rw [upd_ne hb] at h ⊢
        rw [upd_ne (fun z => by rw [z, hed] at h; cases h)]
        exact h
    have hF : (upd H d (.frz o (.dK (bg ks ks.length)))) d = some (.frz o (.dK (bg ks ks.length))) := upd_same
    have hedF : (upd H d (.frz o (.dK (bg ks ks.length)))) ed = none := by rw [upd_ne hde.symm]; exact hed
    have hRF : RowsAt K (upd H d (.frz o (.dK (bg ks ks.length)))) a ks := hR.frz hd
    have qF : ∀ l H', Same (upd H d (.frz o (.dK (bg ks ks.length)))) H' → (upd H d (.frz o (.dK (bg ks ks.length)))) l = none → BehL H' l ks → Q (.ref l) H' := fun l H' h1 h2 h3 => q l o H' h1 (by rw [upd_ne (fun z => by rw [z, hF] at h2; cases h2)] at h2; exact h2) h3
    generalize upd H d (.frz o (.dK (bg ks ks.length))) = HF at sF hF hedF hRF qF
    have bl := bg_len ks ks.length
    have pl := prs_len ks ks.length
    refine for_items (fun i σ H2 => i ≤ (bg ks ks.length).length ∧ Same HF H2 ∧ ∃ v3 v4 eds, σ = [some (.ref a), some (.ref d), some (.ref ed), v3, v4, none, none, none] ∧ H2 ed = some (.dK eds) ∧ eds.length ≤ i ∧ ∀ b : Nat, valV eds (Sum.inl (b : Int) : Key) = (lastOf ((prs ks ks.length).take i) b).map fun (m : Nat) => V.int (m : Int)) ⟨Nat.zero_le _, sF, _, _, [], rfl, by rw [upd_ne hde.symm]; exact upd_same, Nat.le_refl _, fun b => rfl⟩ ?_ ?_ ?_
    · rintro i σ H2 hi ⟨_, s2, _⟩
      exact s2 _ _ hF
    · rintro i kv σ H2 b hkv ⟨hi, s2, v3, v4, eds, rfl, he, hel, hv⟩ hb
      obtain ⟨p, hp, rfl⟩ := prs_at hkv
      have hlt := (List.getElem?_eq_some_iff.mp hkv).1
      have he3 := Same.new (o := .tup [V.int (p.1 : Int), V.int (p.2 : Int)]) hb _ _ he
      refine ⟨b, _, rfl, SqT.of upd_same, rfl, _, _, rfl, _, _, rfl, rfl, ?_⟩
      refine ⟨_, rfl, _, rfl, _, rfl, ed, _, rfl, DPut.k (k := Sum.inl (p.2 : Int)) he3 (lt_line' (by omega)), ?_⟩
      refine ⟨hlt, (s2.trans (Same.new hb)).upd hedF, _, _, _, rfl, upd_same, ?_, fun b' => ?_⟩
      · exact Nat.le_trans (length_putK _ _ _) (by omega)
      · rw [valV_put, List.take_add_one, hp]
        show _ = (lastOf ((prs ks ks.length).take i ++ [p]) b').map _
        rw [lastOf_snoc, hv b']
        by_cases h : p.2 = b'
        · rw [if_pos h, if_pos (by rw [h])]
          rfl
        · rw [if_neg h, if_neg (fun z => h (by have : (b' : Int) = (p.2 : Int) := Sum.inl.inj z; omega))]
    · rintro σ H2 ⟨_, s2, v3, v4, eds, rfl, he, hel, hv⟩
      have hv : ∀ b : Nat, valV eds (Sum.inl (b : Int) : Key) = (lastOf (prs ks ks.length) b).map fun (m : Nat) => V.int (m : Int) := fun b => by
        rw [hv b]
        unfold bg bgOf
        rw [List.length_map, List.take_length]
      obtain ⟨rs, r1, r2, r3⟩ := hRF.ex
      have rl : (rs.map V.ref).length = ks.length := by rw [List.length_map, r2]
      refine ⟨le1, fun nl hnl => ⟨_, rfl, a, _, rfl, .inr ((s2.trans (Same.new hnl)).tup r1), nl, _, _, rfl, rfl, upd_same, by omega, by rw [rl]; omega, by rw [rl]; exact lt_line (by simp; omega), fun bl hbl => ?_⟩⟩
      have s3 := (s2.trans (Same.new (o := .lst [V.non]) hnl)).trans (Same.new (o := .lst (List.replicate (((rs.map V.ref).length : Int).toNat) [V.non]).flatten) hbl)
      have hbF : HF bl = none := s2.free ((Same.new hnl).free hbl)
      have hbe : bl ≠ ed := fun z => by
        have := (Same.new hnl).free hbl
        rw [z, he] at this
        cases this
      have he3 := (Same.new (o := .lst (List.replicate (((rs.map V.ref).length : Int).toNat) [V.non]).flatten) hbl) _ _ ((Same.new (o := .lst [V.non]) hnl) _ _ he)
      refine ⟨_, rfl, a, _, rfl, .inr (s3.tup r1), _, _, rfl, rfl, _, rfl, _, rfl, (ks.length : Int) - 2, -1, by rw [rl], ⟨by omega, by omega, by omega, by omega⟩, ?_⟩
      have hnn : (((ks.length : Int) - 2) - -1).toNat = ks.length - 1 := by omega
      rw [hnn]
      refine for_down (fun i σ H4 => Same HF H4 ∧ ∃ v3 v4 v6 v7 bs, σ = [some (.ref a), some (.ref d), some (.ref ed), v3, v4, some (.ref bl), v6, v7] ∧ H4 ed = some (.dK eds) ∧ H4 bl = some (.lst bs) ∧ bs.length = ks.length ∧ ∀ k, k + 1 < ks.length → ks.length - 1 - i ≤ k → ∃ r : Nat, Beh ks k r ∧ bs[k]? = some (.int (r : Int))) ⟨s3, _, _, _, _, _, rfl, he3, upd_same, by rw [rl]; exact nones_len _, fun k h1 h2 => by omega⟩ ?_ ?_
      · rintro i σ H4 hi ⟨s4, v3, v4, v6, v7, bs, rfl, e4, b4, l4, hb4⟩
        obtain ⟨k, hk⟩ : ∃ k : Nat, k + 2 + i = ks.length := ⟨ks.length - 2 - i, by omega⟩
        have ek : ((ks.length : Int) - 2) - (i : Int) = (k : Int) := by omega
        rw [ek]
        have hR4 := hRF.mono s4
        have old : ∀ j, j + 1 < ks.length → k < j → ∃ r : Nat, Beh ks j r ∧ bs[j]? = some (.int (r : Int)) := fun j h1 h2 => hb4 j h1 (by omega)
        have fin : ∀ (r : Nat) (v3 v4 v6 v7 : Option V), Beh ks k r → Same HF (upd H4 bl (.lst (bs.set k (.int (r : Int))))) ∧ ∃ v3' v4' v6' v7' bs', ([some (.ref a), some (.ref d), some (.ref ed), v3, v4, some (.ref bl), v6, v7] : St) = [some (.ref a), some (.ref d), some (.ref ed), v3', v4', some (.ref bl), v6', v7'] ∧ (upd H4 bl (.lst (bs.set k (.int (r : Int))))) ed = some (.dK eds) ∧ (upd H4 bl (.lst (bs.set k (.int (r : Int))))) bl = some (.lst bs') ∧ bs'.length = ks.length ∧ ∀ j, j + 1 < ks.length → ks.length - 1 - (i + 1) ≤ j → ∃ r : Nat, Beh ks j r ∧ bs'[j]? = some (.int (r : Int)) := fun r v3 v4 v6 v7 hr => by
          refine ⟨s4.upd hbF, _, _, _, _, _, rfl, by rw [upd_ne hbe.symm]; exact e4, upd_same, by rw [List.length_set]; exact l4, fun j h1 h2 => ?_⟩
          by_cases hj : j = k
          · subst hj
            exact ⟨r, hr, by rw [List.getElem?_set_self (by omega)]⟩
          · obtain ⟨r', q1, q2⟩ := old j h1 (by omega)
            exact ⟨r', q1, by rw [List.getElem?_set_ne (fun z => hj z.symm)]; exact q2⟩
        have hix : ixN bs.length (k : Int) = some k := by
          unfold ixN
          rw [if_pos (by omega), if_pos (by omega), Int.toNat_natCast]
        have at_bs : ∀ j r : Nat, bs[j]? = some (.int (r : Int)) → atI bs (j : Int) = some (.int (r : Int)) := fun j r h => atI_nat h
        refine ⟨_, rfl, _, _, rfl, rfl, ?_⟩
        show gName 6 (V.int ((k : Int) + 1)) _ _ _
        rw [show ((k : Int) + 1) = ((k + 1 : Nat) : Int) by omega]
        refine ⟨_, rfl, _, rfl, ixk hR4 (by omega) (by omega) ?_⟩
        refine ⟨_, rfl, rfl, _, rfl, ?_⟩
        have top : isE (kd ks (k + 1)) = true → ∃ b, (stk ks (k + 1)).head? = some b := fun h => by
          cases z : stk ks (k + 1) with
          | nil => exact absurd z (w.open_ (k + 1) (by omega) h)
          | cons b r => exact ⟨b, rfl⟩
        have fz : Rd H4 d (.dK (bg ks ks.length)) := .inr ⟨o, s4 _ _ hF⟩
        by_cases h1 : kd ks (k + 1) = "else"
        · refine iteP (decide_eq_true (congrArg V.str h1)) ?_
          have hE : isE (kd ks (k + 1)) = true := by rw [h1]; decide +kernel
          obtain ⟨b, hb⟩ := top hE
          have hbo := hit_lt (⟨hE, hb⟩ : Hit ks b (k + 1))
          obtain ⟨e, hEn⟩ := ends_ex w (by omega) hbo.2
          have h5 : k + 1 ≤ e := hit_le hEn ⟨hE, hb⟩
          have h6 : e + 1 < ks.length := by
            rcases Nat.lt_or_ge (e + 1) ks.length with z | z
            · exact z
            · have := w.last e (by have := hEn.2.1; omega)
              rw [hEn.2.2.1] at this
              exact absurd this.symm back_ne.2
          obtain ⟨r, hr1, hr2⟩ := old e h6 (by omega)
          have g1 : DGet H4 d (.int ((k + 1 : Nat) : Int)) (some (.int (b : Int))) := .inl ⟨_, Sum.inl ((k + 1 : Nat) : Int), fz, rfl, (bg_at ks.length (by omega) ⟨hE, hb⟩).symm⟩
          have g2 : DGet H4 ed (.int (b : Int)) (some (.int (e : Int))) := .inl ⟨_, Sum.inl (b : Int), .inl e4, rfl, by rw [hv b, last_end hEn]; rfl⟩
          exact ⟨_, rfl, _, rfl, _, rfl, _, rfl, d, _, rfl, g1, ed, _, rfl, g2, bl, _, _, _, rfl, rfl, SqL.of b4, at_bs e r hr2, _, rfl, _, rfl, bl, _, _, _, rfl, rfl, b4, hix, fin r _ _ _ _ (.els h1 hb hEn hr1)⟩
        refine iteN (fun z => h1 (V.str.inj (dec_true z))) ?_
        refine ⟨_, rfl, rfl, _, rfl, ?_⟩
        by_cases h2 : kd ks (k + 1) = "end"
        · have hE : isE (kd ks (k + 1)) = true := by rw [h2]; decide +kernel
          obtain ⟨b, hb⟩ := top hE
          have hbo := hit_lt (⟨hE, hb⟩ : Hit ks b (k + 1))
          have g1 : DGet H4 d (.int ((k + 1 : Nat) : Int)) (some (.int (b : Int))) := .inl ⟨_, Sum.inl ((k + 1 : Nat) : Int), fz, rfl, (bg_at ks.length (by omega) ⟨hE, hb⟩).symm⟩
          refine iteP (decide_eq_true (congrArg V.str h2)) ?_
          refine ⟨_, rfl, _, rfl, _, rfl, d, _, rfl, g1, ixk hR4 (by omega) (by omega) ⟨rfl, _, rfl, ?_⟩⟩
          by_cases h3 : kd ks b = "while"
          · refine iteP (decide_eq_true (congrArg V.str h3)) ?_
            exact ⟨_, rfl, _, rfl, d, _, rfl, g1, _, rfl, _, rfl, bl, _, _, _, rfl, rfl, b4, hix, fin b _ _ _ _ (.whl h2 hb h3)⟩
          · refine iteN (fun z => h3 (V.str.inj (dec_true z))) ?_
            refine ⟨_, rfl, rfl, _, rfl, iteP (decide_eq_true (congrArg V.str h2)) ?_⟩
            have h6 : k + 1 + 1 < ks.length := by
              rcases Nat.lt_or_ge (k + 1 + 1) ks.length with z | z
              · exact z
              · have := w.last (k + 1) (by omega)
                rw [h2] at this
                exact absurd this.symm back_ne.2
            obtain ⟨r, hr1, hr2⟩ := old (k + 1) h6 (by omega)
            exact ⟨_, rfl, _, rfl, bl, _, _, _, rfl, rfl, SqL.of b4, at_bs (k + 1) r hr2, _, rfl, _, rfl, bl, _, _, _, rfl, rfl, b4, hix, fin r _ _ _ _ (.fin h2 hb h3 hr1)⟩
        · refine iteN (fun z => h2 (V.str.inj (dec_true z))) (iteF ?_)
          refine ⟨_, rfl, rfl, _, rfl, iteN (fun z => h2 (V.str.inj (dec_true z))) ?_⟩
          exact ⟨_, rfl, _, rfl, _, rfl, bl, _, _, _, rfl, rfl, b4, hix, fin (k + 1) _ _ _ _ (.oth h1 h2)⟩
      · rintro σ H4 ⟨s4, v3, v4, v6, v7, bs, rfl, e4, b4, l4, hb4⟩
        exact ⟨_, rfl, qF bl H4 s4 hbF ⟨bs, b4, l4, fun k h1 => hb4 k h1 (by omega)⟩⟩
end
end K42

set_option Elab.async false
set_option linter.all false
set_option maxRecDepth 100000
set_option maxHeartbeats 4000000
namespace K42
open PySem L2 K13
section
variable {P : Program} {w : World} {K : PySem.W.Frag} {mg : Str → Option Value} {base : Heap} {t : Adr}
local macro_rules | `(tactic| walk_at "rd1") => `(tactic| first
  | refine ⟨_, rfl, ?_⟩
  | refine ⟨_, _, rfl, rfl, ?_⟩
  | refine ⟨rfl, ?_⟩
  | refine ⟨(show (0 : Int) < _ by decide), ?_⟩
  | refine ⟨⟨by decide, by decide⟩, ?_⟩
  | refine ⟨.inl ⟨by decide, by decide⟩, ?_⟩
  | refine ⟨.inr ⟨by decide, by decide⟩, ?_⟩
  | refine ⟨⟨by decide, by decide, by decide⟩, ?_⟩)
local macro_rules | `(tactic| walk_at "rd") => `(tactic| repeat walk_at "rd1")
theorem sc_ways : FnScope ["rows", "begins", "behind", "turns", "k", "begin", "found", "row"] ["rows"] (defScope s_ways) := ⟨rfl, rfl, rfl, by decide +kernel, rfl, by decide +kernel, by decide +kernel⟩
theorem ok_ways (T : Txt K mg t) : FnOk P w K mg base CX0 2 t.a_ways t.d_ways ["rows"] (K13.sp_ways K) := by
  have G_begins_of : FnOk P w K mg base CX0 1 t.a_begins_of t.d_begins_of ["rows"] (K13.sp_begins_of K) := ok_begins_of T
  have G_firsts_behind : FnOk P w K mg base CX0 1 t.a_firsts_behind t.d_firsts_behind ["rows", "begins"] (K13.sp_firsts_behind K) := ok_firsts_behind T
  refine T.ways.F.ok sc_ways (fun vs H Q E h => ?_) (fun cdv A outer s H vs Q E hr h => ?_)
  · obtain ⟨a, ks, rfl, hR, w, hn, q⟩ := h
    rfl
  · skip
    refine (let W0 : TS := _; have hW0 : PSs (cxOf CX0 P w K mg base ["rows", "begins", "behind", "turns", "k", "begin", "found", "row"] "ways" (defScope s_ways) t.a_ways cdv A outer s H E).nox (sB ((sB (((((((defBody s_ways).drop 1).drop 1).drop 1).drop 1).drop 1).getD 0 (.Pass ⟨0, 0, 0, 0⟩))).getD 0 (.Pass ⟨0, 0, 0, 0⟩))) W0 := (@pss_one _ _ _ (@ps_expr _ _ _ _ (pe_bm PySem.F.plainAttrs_list PySem.F.slot_list_append PySem.F.type_list_append mt_append (pv 6) (@pa_cons _ _ _ _ _ pe_non pa_nil (by rfl))) (by rfl))); ?_)
    refine (let W1 : TS := _; have hW1 : PSs (cxOf CX0 P w K mg base ["rows", "begins", "behind", "turns", "k", "begin", "found", "row"] "ways" (defScope s_ways) t.a_ways cdv A outer s H E).nox (sB ((sO ((sB (((((((defBody s_ways).drop 1).drop 1).drop 1).drop 1).drop 1).getD 0 (.Pass ⟨0, 0, 0, 0⟩))).getD 0 (.Pass ⟨0, 0, 0, 0⟩))).getD 0 (.Pass ⟨0, 0, 0, 0⟩))) W1 := (@pss_one _ _ _ (@ps_expr _ _ _ _ (pe_bm PySem.F.plainAttrs_list PySem.F.slot_list_append PySem.F.type_list_append mt_append (pv 6) (@pa_cons _ _ _ _ _ (@pe_tup _ _ _ _ _ pa_nil) pa_nil (by rfl))) (by rfl))); ?_)
    refine (let W2 : TS := _; have hW2 : PSs (cxOf CX0 P w K mg base ["rows", "begins", "behind", "turns", "k", "begin", "found", "row"] "ways" (defScope s_ways) t.a_ways cdv A outer s H E).nox (sB ((sO ((sO ((sB (((((((defBody s_ways).drop 1).drop 1).drop 1).drop 1).drop 1).getD 0 (.Pass ⟨0, 0, 0, 0⟩))).getD 0 (.Pass ⟨0, 0, 0, 0⟩))).getD 0 (.Pass ⟨0, 0, 0, 0⟩))).getD 0 (.Pass ⟨0, 0, 0, 0⟩))) W2 := (@pss_one _ _ _ (@ps_expr _ _ _ _ (pe_bm PySem.F.plainAttrs_list PySem.F.slot_list_append PySem.F.type_list_append mt_append (pv 6) (@pa_cons _ _ _ _ _ (@pe_tup _ _ _ _ _ (@pa_cons _ _ _ _ _ (@pe_ix _ _ _ _ _ _ _ ix_list (pv 2) (pv 4) (fun _ _ => rfl)) (@pa_cons _ _ _ _ _ (@pe_ix _ _ _ _ _ _ _ ix_list (pv 2) (pe_dget (u1' hr.units) (pv 3) (pv 4) (fun _ _ => rfl)) (fun _ _ => rfl)) pa_nil (by rfl)) (by rfl))) pa_nil (by rfl))) (by rfl))); ?_)
    refine (let W3 : TS := _; have hW3 : PSs (cxOf CX0 P w K mg base ["rows", "begins", "behind", "turns", "k", "begin", "found", "row"] "ways" (defScope s_ways) t.a_ways cdv A outer s H E).nox (sO ((sO ((sO ((sB (((((((defBody s_ways).drop 1).drop 1).drop 1).drop 1).drop 1).getD 0 (.Pass ⟨0, 0, 0, 0⟩))).getD 0 (.Pass ⟨0, 0, 0, 0⟩))).getD 0 (.Pass ⟨0, 0, 0, 0⟩))).getD 0 (.Pass ⟨0, 0, 0, 0⟩))) W3 := (@pss_one _ _ _ (@ps_expr _ _ _ _ (pe_bm PySem.F.plainAttrs_list PySem.F.slot_list_append PySem.F.type_list_append mt_append (pv 6) (@pa_cons _ _ _ _ _ (@pe_tup _ _ _ _ _ (@pa_cons _ _ _ _ _ (@pe_ix _ _ _ _ _ _ _ ix_list (pv 2) (pv 4) (fun _ _ => rfl)) pa_nil (by rfl))) pa_nil (by rfl))) (by rfl))); ?_)
    refine (let W4 : TS := _; have hW4 : PSs (cxOf CX0 P w K mg base ["rows", "begins", "behind", "turns", "k", "begin", "found", "row"] "ways" (defScope s_ways) t.a_ways cdv A outer s H E).nox (sO ((sB (((((((defBody s_ways).drop 1).drop 1).drop 1).drop 1).drop 1).getD 0 (.Pass ⟨0, 0, 0, 0⟩))).getD 0 (.Pass ⟨0, 0, 0, 0⟩))) W4 := (@pss_one _ _ _ (@ps_if _ _ _ _ _ _ _ _ (@pt_cmpR _ _ _ _ _ _ _ _ op_eq (@pe_ix _ _ _ _ _ _ _ ix_tup (pv 7) pe_int (fun _ _ => rfl)) pe_str (nomark _)) hW1 (@pss_one _ _ _ (@ps_if _ _ _ _ _ _ _ _ (pt_cmp (pc_din (u1' hr.units) (pv 4) (pv 3))) hW2 hW3)))); ?_)
    refine (let W5 : TS := _; have hW5 : PSs (cxOf CX0 P w K mg base ["rows", "begins", "behind", "turns", "k", "begin", "found", "row"] "ways" (defScope s_ways) t.a_ways cdv A outer s H E).nox (sB (((((((defBody s_ways).drop 1).drop 1).drop 1).drop 1).drop 1).getD 0 (.Pass ⟨0, 0, 0, 0⟩))) W5 := (@pss_one _ _ _ (@ps_if _ _ _ _ _ _ _ _ (@pt_cmpR _ _ _ _ _ _ _ _ op_in_seq (@pe_ix _ _ _ _ _ _ _ ix_tup (pv 7) pe_int (fun _ _ => rfl)) (@pe_tup _ _ _ _ _ (@pa_cons _ _ _ _ _ pe_str (@pa_cons _ _ _ _ _ pe_str pa_nil (by rfl)) (by rfl))) (by with_unfolding_all rfl)) hW0 hW4)); ?_)
    refine (let W6 : TS := _; have hW6 : PSs (cxOf CX0 P w K mg base ["rows", "begins", "behind", "turns", "k", "begin", "found", "row"] "ways" (defScope s_ways) t.a_ways cdv A outer s H E).nox ((((((defBody s_ways).drop 1).drop 1).drop 1).drop 1).drop 1) W6 := (@pss_cons _ _ _ _ _ (ps_for PassesOwn.never rfl (pi_enumT rfl T.b_enumerate (@pa_cons _ _ _ _ _ (pv 0) pa_nil (by rfl))) (pg_tup rfl (pgs_cons (pg_name (i := 4) sc_ways.nd rfl (Or.inl rfl)) (pgs_cons (pg_name (i := 7) sc_ways.nd rfl (Or.inl rfl)) pgs_nil))) hW5) (@pss_one _ _ _ (@ps_ret _ _ _ _ (pv 6)))); ?_)
    refine (let W7 : TS := _; have hW7 : PSs (cxOf CX0 P w K mg base ["rows", "begins", "behind", "turns", "k", "begin", "found", "row"] "ways" (defScope s_ways) t.a_ways cdv A outer s H E).nox (((((defBody s_ways).drop 1).drop 1).drop 1).drop 1) W7 := (@pss_cons _ _ _ _ _ (@ps_set _ _ 6 _ _ _ _ sc_ways.nd rfl (Or.inl rfl) (@pe_lst _ _ _ _ pa_nil) (by rfl) (by first | exact .inl rfl | exact .inr rfl | assumption)) hW6); ?_)
    refine (let W8 : TS := _; have hW8 : PSs (cxOf CX0 P w K mg base ["rows", "begins", "behind", "turns", "k", "begin", "found", "row"] "ways" (defScope s_ways) t.a_ways cdv A outer s H E).nox ((((defBody s_ways).drop 1).drop 1).drop 1) W8 := (@pss_cons _ _ _ _ _ (ps_for PassesOwn.never rfl (pi_items (pv 1)) (pg_tup rfl (pgs_cons (pg_name (i := 4) sc_ways.nd rfl (Or.inl rfl)) (pgs_cons (pg_name (i := 5) sc_ways.nd rfl (Or.inl rfl)) pgs_nil))) (@pss_one _ _ _ (@ps_expr _ _ _ _ (pe_dsetd (pv 3) (pv 5) (pv 4) ⟨rfl, rfl, rfl, rfl⟩) (by rfl)))) hW7); ?_)
    refine (let W9 : TS := _; have hW9 : PSs (cxOf CX0 P w K mg base ["rows", "begins", "behind", "turns", "k", "begin", "found", "row"] "ways" (defScope s_ways) t.a_ways cdv A outer s H E).nox (((defBody s_ways).drop 1).drop 1) W9 := (@pss_cons _ _ _ _ _ (@ps_set _ _ 3 _ _ _ _ sc_ways.nd rfl (Or.inl rfl) pe_dnewK (by rfl) (by first | exact .inl rfl | exact .inr rfl | assumption)) hW8); ?_)
    refine (let W10 : TS := _; have hW10 : PSs (cxOf CX0 P w K mg base ["rows", "begins", "behind", "turns", "k", "begin", "found", "row"] "ways" (defScope s_ways) t.a_ways cdv A outer s H E).nox ((defBody s_ways).drop 1) W10 := (@pss_cons _ _ _ _ _ (@ps_set _ _ 2 _ _ _ _ sc_ways.nd rfl (Or.inl rfl) (callD T.firsts_behind G_firsts_behind (hr.mono (by decide)) (@pa_cons _ _ _ _ _ (pv 0) (@pa_cons _ _ _ _ _ (pv 1) pa_nil (by rfl)) (by rfl))) (by rfl) (by first | exact .inl rfl | exact .inr rfl | assumption)) hW9); ?_)
    obtain ⟨a, ks, rfl, hR, w, hn, q⟩ := h
    refine ⟨_, (@pss_cons _ _ _ _ _ (@ps_set _ _ 1 _ _ _ _ sc_ways.nd rfl (Or.inl rfl) (callD T.begins_of G_begins_of (hr.mono (by decide)) (@pa_cons _ _ _ _ _ (pv 0) pa_nil (by rfl))) (by rfl) (by first | exact .inl rfl | exact .inr rfl | assumption)) hW10), ?_⟩
    refine ⟨_, rfl, a, ks, rfl, hR, w, hn, fun d H1 s1 n1 e1 => ?_⟩
    refine ⟨_, rfl, _, rfl, a, d, ks, rfl, hR.mono s1, w, hn, e1, fun l o H2 s2 n2 hB => ?_⟩
    have s02 : Same H H2 := (s1.upd n1).trans s2
    have hdF : H2 d = some (.frz o (.dK (bg ks ks.length))) := s2 _ _ upd_same
    have hl0 : H l = none := s1.free n2
    refine fun td htd => ?_
    have bl := bg_len ks ks.length
    obtain ⟨bs, hb1, hb2, hb3⟩ := hB
    refine ⟨_, rfl, d, bg ks ks.length, rfl, .inr ⟨o, Same.new htd _ _ hdF, ?_⟩⟩
    refine for_items (fun i σ H3 => i ≤ (bg ks ks.length).length ∧ Same H2 H3 ∧ ∃ v4 v5 tds, σ = [some (.ref a), some (.ref d), some (.ref l), some (.ref td), v4, v5, none, none] ∧ H3 td = some (.dK tds) ∧ tds.length ≤ i ∧ ∀ b : Nat, valV tds (Sum.inl (b : Int) : Key) = (firstOf ((prs ks ks.length).take i) b).map fun (m : Nat) => V.int (m : Int)) ⟨Nat.zero_le _, Same.new htd, _, _, [], rfl, upd_same, Nat.le_refl _, fun b => rfl⟩ ?_ ?_ ?_
    · rintro i σ H3 hi ⟨_, s3, _⟩
      exact s3 _ _ hdF
    · rintro i kv σ H3 b hkv ⟨hi, s3, v4, v5, tds, rfl, he, hel, hv⟩ hb
      obtain ⟨p, hp, rfl⟩ := prs_at hkv
      have hlt := (List.getElem?_eq_some_iff.mp hkv).1
      have he3 := Same.new (o := .tup [V.int (p.1 : Int), V.int (p.2 : Int)]) hb _ _ he
      refine ⟨b, _, rfl, SqT.of upd_same, rfl, _, _, rfl, _, _, rfl, rfl, ?_⟩
      have tk : ∀ b', firstOf ((prs ks ks.length).take (i + 1)) b' = if (firstOf ((prs ks ks.length).take i) b').isSome = true then firstOf ((prs ks ks.length).take i) b' else if p.2 = b' then some p.1 else none := fun b' => by
        rw [List.take_add_one, hp]
        exact firstOf_snoc _ p b'
      refine ⟨_, rfl, td, rfl, .inl ⟨tds, .inl he3⟩, _, rfl, _, rfl, tds, Sum.inl (p.2 : Int), he3, rfl, lt_line' (by omega), fun v hv' => ?_, fun hv' => ?_⟩
      · refine ⟨hlt, s3.trans (Same.new hb), _, _, tds, rfl, he3, by omega, fun b' => ?_⟩
        rw [hv b', tk b']
        cases z : firstOf ((prs ks ks.length).take i) b' with
        | some m => rfl
        | none =>
          rw [if_neg (show ¬ (none : Option Nat).isSome = true by decide), if_neg]
          intro h
          rw [h, hv b', z] at hv'
          cases hv'
      · refine ⟨hlt, (s3.trans (Same.new hb)).upd htd, _, _, _, rfl, upd_same, Nat.le_trans (length_putK _ _ _) (by omega), fun b' => ?_⟩
        rw [valV_put, tk b']
        by_cases h : p.2 = b'
        · subst h
          have z : firstOf ((prs ks ks.length).take i) p.2 = none := by
            rw [hv p.2] at hv'
            cases y : firstOf ((prs ks ks.length).take i) p.2 with
            | none => rfl
            | some m => rw [y] at hv'; cases hv'
          rw [if_pos rfl, z, if_neg (show ¬ (none : Option Nat).isSome = true by decide), if_pos rfl]
          rfl
        · rw [if_neg (fun z => h (by have : (b' : Int) = (p.2 : Int) := Sum.inl.inj z; omega)), hv b', if_neg h]
          cases z : firstOf ((prs ks ks.length).take i) b' with
          | some m => rfl
          | none => rfl
    · rintro σ H3 ⟨_, s3, v4, v5, tds, rfl, he, hel, hv⟩
      have hv : ∀ b : Nat, valV tds (Sum.inl (b : Int) : Key) = (firstOf (prs ks ks.length) b).map fun (m : Nat) => V.int (m : Int) := fun b => by
        rw [hv b]
        unfold bg bgOf
        rw [List.length_map, List.take_length]
      obtain ⟨rs, r1, r2, r3⟩ := hR.ex
      refine ⟨le0, fun fl hfl => ?_⟩
      have s03 := s02.trans s3
      have hf2 : H3 fl = none := hfl
      have htf : td ≠ fl := fun z => by rw [← z, he] at hfl; cases hfl
      have hf0 : H fl = none := s03.free hfl
      refine ⟨_, rfl, a, rfl, ⟨_, (s03.trans (Same.new hfl)).tup r1⟩, for_enumT (xs := rs.map V.ref) (fun i σ H4 => i ≤ ks.length ∧ Same H3 H4 ∧ (∃ v4 v5 v7, σ = [some (.ref a), some (.ref d), some (.ref l), some (.ref td), v4, v5, some (.ref fl), v7]) ∧ FoundN H4 fl ks i) ⟨Nat.zero_le _, Same.new hfl, ⟨_, _, _, rfl⟩, ⟨[], upd_same, rfl, fun k v z => by simp at z⟩⟩ ?_ ?_ ?_⟩
      · rintro i σ H4 hi ⟨_, s4, _⟩
        exact (s03.trans s4).tup r1
      · rintro i x σ H4 b hx ⟨hi', s4, ⟨v4, v5, v7, rfl⟩, hF⟩ hb
        have hi : i < rs.length := by
          have := (List.getElem?_eq_some_iff.mp hx).1
          rw [List.length_map] at this
          exact this
        rw [List.getElem?_map] at hx
        have hx : V.ref rs[i] = x := by simpa [hi] using hx
        subst hx
        obtain ⟨rest, hrow⟩ := r3 i rs[i] (by simp [hi])
        have s5 := s4.trans (Same.new (o := .tup [.int i, .ref rs[i]]) hb)
        have hF5 := hF.mono (Same.new (o := .tup [.int i, .ref rs[i]]) hb)
        refine ⟨b, _, rfl, SqT.of upd_same, rfl, _, _, rfl, _, _, rfl, rfl, ?_⟩
        refine ⟨_, rfl, rs[i], _, _, _, rfl, rfl, (s03.trans s5).tup hrow, at0, le2, fun tw htw => ⟨tw, [V.str "else", V.str "end"], rfl, .inr (SqT.of upd_same), rfl, rfl, _, rfl, ?_⟩⟩
        have s6 := s5.trans (Same.new (o := .tup [V.str "else", V.str "end"]) htw)
        obtain ⟨vs, f1, f2, f3⟩ := hF5.mono (Same.new (o := .tup [V.str "else", V.str "end"]) htw)
        generalize upd (upd H4 b (.tup [.int i, .ref rs[i]])) tw (.tup [V.str "else", V.str "end"]) = H6 at s6 f1 f3 ⊢
        have s06 := s03.trans s6
        have fin : ∀ {H7 : Hp} {v : V} {oo : Option (List Nat)} (u4 u5 u7 : Option V), Same H6 H7 → Due ks i oo → ValO H7 v oo → i + 1 ≤ ks.length ∧ Same H3 (upd H7 fl (.lst (vs ++ [v]))) ∧ (∃ v4 v5 v7, ([some (.ref a), some (.ref d), some (.ref l), some (.ref td), u4, u5, some (.ref fl), u7] : St) = [some (.ref a), some (.ref d), some (.ref l), some (.ref td), v4, v5, some (.ref fl), v7]) ∧ FoundN (upd H7 fl (.lst (vs ++ [v]))) fl ks (i + 1) := fun u4 u5 u7 s7 hd hv => by
          refine ⟨by omega, (s6.trans s7).upd hfl, ⟨_, _, _, rfl⟩, FoundN.push (s7 _ _ f1) f2 (fun k v z => ?_) hd hv⟩
          obtain ⟨o', d', y⟩ := f3 k v z
          exact ⟨o', d', y.mono s7⟩
        by_cases hE : isE (kd ks i) = true
        · refine iteP ((inE _).trans hE) ?_
          exact ⟨_, rfl, .inl ⟨rfl, _, SqL.of f1⟩, fl, _, _, rfl, rfl, f1, lt_line' (by omega), fin _ _ _ (Same.refl _) (.no hE) rfl⟩
        refine iteN (fun z => hE ((inE _).symm.trans z)) ?_
        refine ⟨_, rfl, rs[i], _, _, _, rfl, rfl, s06.tup hrow, at0, rfl, _, rfl, ?_⟩
        by_cases hbk : kd ks i = "back"
        · refine iteP (decide_eq_true (congrArg V.str hbk)) ?_
          exact ⟨_, rfl, .inl ⟨rfl, _, SqL.of f1⟩, le0, fun p hp => ⟨fl, _, _, rfl, rfl, Same.new hp _ _ f1, lt_line' (by omega), fin _ _ _ (Same.new hp) (.back hbk) ⟨p, rfl, upd_same⟩⟩⟩
        refine iteN (fun z => hbk (V.str.inj (dec_true z))) ?_
        have hlast := not_last w (by omega) hbk
        obtain ⟨r, hr1, hr2⟩ := hb3 i hlast
        have hb6 := (s3.trans s6) _ _ hb1
        have ht6 := s6 _ _ he
        refine ⟨_, rfl, _, rfl, td, _, rfl, DGet.k (k := Sum.inl (i : Int)) ht6, _, rfl, ?_⟩
        by_cases hO : isO (kd ks i) = true
        · obtain ⟨e, hEn⟩ := ends_ex w (by omega) hO
          obtain ⟨f, hf⟩ := first_ex hEn
          obtain ⟨r', hr3, hr4⟩ := hb3 f (first_last w hf)
          have hvi : valV tds (Sum.inl (i : Int) : Key) = some (V.int (f : Int)) := by rw [hv i, first_of hf]; rfl
          refine iteP (by rw [hvi]; rfl) ?_
          have g : DGet H6 td (.int (i : Int)) (some (V.int (f : Int))) := .inl ⟨_, Sum.inl (i : Int), .inl ht6, rfl, hvi.symm⟩
          exact ⟨_, rfl, .inl ⟨rfl, _, SqL.of f1⟩, _, rfl, _, rfl, l, _, _, _, rfl, rfl, SqL.of hb6, atI_nat hr2, _, rfl, _, rfl, _, rfl, td, _, rfl, g, l, _, _, _, rfl, rfl, SqL.of hb6, atI_nat hr4, le2, fun p hp => ⟨fl, _, _, rfl, rfl, Same.new hp _ _ f1, lt_line' (by omega), fin _ _ _ (Same.new hp) (.two hO hf hr1 hr3) ⟨p, rfl, upd_same⟩⟩⟩
        · have hvi : valV tds (Sum.inl (i : Int) : Key) = none := by rw [hv i, first_none hO]; rfl
          refine iteN (by rw [hvi]; decide) ?_
          exact ⟨_, rfl, .inl ⟨rfl, _, SqL.of f1⟩, _, rfl, _, rfl, l, _, _, _, rfl, rfl, SqL.of hb6, atI_nat hr2, le1, fun p hp => ⟨fl, _, _, rfl, rfl, Same.new hp _ _ f1, lt_line' (by omega), fin _ _ _ (Same.new hp) (.one hE hbk hO hr1) ⟨p, rfl, upd_same⟩⟩⟩
      · rintro σ H4 ⟨_, s4, ⟨v4, v5, v7, rfl⟩, hF⟩
        rw [List.length_map, r2] at hF
        exact ⟨_, rfl, q fl H4 (s03.trans s4) hf0 hF⟩
end
end K42

set_option Elab.async false
set_option linter.all false
set_option maxRecDepth 100000
set_option maxHeartbeats 4000000
namespace K42
open PySem L2 Gx Fl F2
section
variable {P : Program} {w : World} {K : PySem.W.Frag} {mg : Str → Option Value} {base : Heap} {t : Adr}
local macro_rules | `(tactic| walk_at "rd1") => `(tactic| first
  | refine ⟨_, rfl, ?_⟩
  | refine ⟨_, _, rfl, rfl, ?_⟩
  | refine ⟨rfl, ?_⟩
  | refine ⟨(show (0 : Int) < _ by decide), ?_⟩
  | refine ⟨⟨by decide, by decide⟩, ?_⟩
  | refine ⟨.inl ⟨by decide, by decide⟩, ?_⟩
  | refine ⟨.inr ⟨by decide, by decide⟩, ?_⟩
  | refine ⟨⟨by decide, by decide, by decide⟩, ?_⟩)
local macro_rules | `(tactic| walk_at "rd") => `(tactic| repeat walk_at "rd1")
theorem sc_Flows_init : FnScope ["self", "program", "k", "function"] ["self", "program"] (defScope s_Flows_init) := ⟨rfl, rfl, rfl, by decide +kernel, rfl, by decide +kernel, by decide +kernel⟩
theorem ok_Flows_init (T : Txt K mg t) : FnOk P w K mg base CX0 4 t.a_Flows_init t.d_Flows_init ["self", "program"] (sp_Flows_init K t) := by
  have G_names_of : FnOk P w K mg base CX0 3 t.a_names_of t.d_names_of ["function"] (K12.sp_names_of K) := ok_names_of T
  have G_ways : FnOk P w K mg base CX0 2 t.a_ways t.d_ways ["rows"] (K13.sp_ways K) := ok_ways T
  refine T.Flows_init.F.ok sc_Flows_init (fun vs H Q E h => ?_) (fun cdv A outer s H vs Q E hr h => ?_)
  · obtain ⟨x, dx, p, fns, rfl, hx, hS, n0, n12, hE, nd, q⟩ := h
    rfl
  · skip
    refine (let W0 : TS := _; have hW0 : PSs (cxOf CX0 P w K mg base ["self", "program", "k", "function"] "Flows.__init__" (defScope s_Flows_init) t.a_Flows_init cdv A outer s H E).nox ((((((sB (((((((((defBody s_Flows_init).drop 1).drop 1).drop 1).drop 1).drop 1).drop 1).drop 1).getD 0 (.Pass ⟨0, 0, 0, 0⟩))).drop 1).drop 1).drop 1).drop 1).drop 1) W0 := (@pss_one _ _ _ (ps_dput (u1' hr.units) (pe_fld (pvC 0) (by rfl)) (@pe_ix _ _ _ _ _ _ _ (show IxR _ (cIxT K) from ixC_tup) (pvC 3) pe_int (fun _ _ => rfl)) (callD T.ways G_ways (hr.mono (by decide)) (@pa_cons _ _ _ _ _ (@pe_ix _ _ _ _ _ _ _ (show IxR _ (cIxT K) from ixC_tup) (pvC 3) pe_int (fun _ _ => rfl)) pa_nil (by rfl))) (by rfl))); ?_)
    refine (let W1 : TS := _; have hW1 : PSs (cxOf CX0 P w K mg base ["self", "program", "k", "function"] "Flows.__init__" (defScope s_Flows_init) t.a_Flows_init cdv A outer s H E).nox (((((sB (((((((((defBody s_Flows_init).drop 1).drop 1).drop 1).drop 1).drop 1).drop 1).drop 1).getD 0 (.Pass ⟨0, 0, 0, 0⟩))).drop 1).drop 1).drop 1).drop 1) W1 := (@pss_cons _ _ _ _ _ (ps_dput (u1' hr.units) (pe_fld (pvC 0) (by rfl)) (@pe_ix _ _ _ _ _ _ _ (show IxR _ (cIxT K) from ixC_tup) (pvC 3) pe_int (fun _ _ => rfl)) (callD T.names_of G_names_of (hr.mono (by decide)) (@pa_cons _ _ _ _ _ (pvC 3) pa_nil (by rfl))) (by rfl)) hW0); ?_)
    refine (let W2 : TS := _; have hW2 : PSs (cxOf CX0 P w K mg base ["self", "program", "k", "function"] "Flows.__init__" (defScope s_Flows_init) t.a_Flows_init cdv A outer s H E).nox ((((sB (((((((((defBody s_Flows_init).drop 1).drop 1).drop 1).drop 1).drop 1).drop 1).drop 1).getD 0 (.Pass ⟨0, 0, 0, 0⟩))).drop 1).drop 1).drop 1) W2 := (@pss_cons _ _ _ _ _ (ps_dput (u1' hr.units) (pe_fld (pvC 0) (by rfl)) (@pe_ix _ _ _ _ _ _ _ (show IxR _ (cIxT K) from ixC_tup) (pvC 3) pe_int (fun _ _ => rfl)) (@pe_ix _ _ _ _ _ _ _ (show IxR _ (cIxT K) from ixC_tup) (pvC 3) pe_int (fun _ _ => rfl)) (by rfl)) hW1); ?_)
    refine (let W3 : TS := _; have hW3 : PSs (cxOf CX0 P w K mg base ["self", "program", "k", "function"] "Flows.__init__" (defScope s_Flows_init) t.a_Flows_init cdv A outer s H E).nox (((sB (((((((((defBody s_Flows_init).drop 1).drop 1).drop 1).drop 1).drop 1).drop 1).drop 1).getD 0 (.Pass ⟨0, 0, 0, 0⟩))).drop 1).drop 1) W3 := (@pss_cons _ _ _ _ _ (ps_dput (u1' hr.units) (pe_fld (pvC 0) (by rfl)) (@pe_ix _ _ _ _ _ _ _ (show IxR _ (cIxT K) from ixC_tup) (pvC 3) pe_int (fun _ _ => rfl)) (@pe_ix _ _ _ _ _ _ _ (show IxR _ (cIxT K) from ixC_tup) (pvC 3) pe_int (fun _ _ => rfl)) (by rfl)) hW2); ?_)
    refine (let W4 : TS := _; have hW4 : PSs (cxOf CX0 P w K mg base ["self", "program", "k", "function"] "Flows.__init__" (defScope s_Flows_init) t.a_Flows_init cdv A outer s H E).nox ((sB (((((((((defBody s_Flows_init).drop 1).drop 1).drop 1).drop 1).drop 1).drop 1).drop 1).getD 0 (.Pass ⟨0, 0, 0, 0⟩))).drop 1) W4 := (@pss_cons _ _ _ _ _ (ps_dput (u1' hr.units) (pe_fld (pvC 0) (by rfl)) (@pe_ix _ _ _ _ _ _ _ (show IxR _ (cIxT K) from ixC_tup) (pvC 3) pe_int (fun _ _ => rfl)) (@pe_ix _ _ _ _ _ _ _ (show IxR _ (cIxT K) from ixC_tup) (pvC 3) pe_int (fun _ _ => rfl)) (by rfl)) hW3); ?_)
    refine (let W5 : TS := _; have hW5 : PSs (cxOf CX0 P w K mg base ["self", "program", "k", "function"] "Flows.__init__" (defScope s_Flows_init) t.a_Flows_init cdv A outer s H E).nox (sB (((((((((defBody s_Flows_init).drop 1).drop 1).drop 1).drop 1).drop 1).drop 1).drop 1).getD 0 (.Pass ⟨0, 0, 0, 0⟩))) W5 := (@pss_cons _ _ _ _ _ (ps_dput (u1' hr.units) (pe_fld (pvC 0) (by rfl)) (@pe_ix _ _ _ _ _ _ _ (show IxR _ (cIxT K) from ixC_tup) (pvC 3) pe_int (fun _ _ => rfl)) (pvC 2) (by rfl)) hW4); ?_)
    refine (let W6 : TS := _; have hW6 : PSs (cxOf CX0 P w K mg base ["self", "program", "k", "function"] "Flows.__init__" (defScope s_Flows_init) t.a_Flows_init cdv A outer s H E).nox ((((((((defBody s_Flows_init).drop 1).drop 1).drop 1).drop 1).drop 1).drop 1).drop 1) W6 := (@pss_one _ _ _ (ps_for PassesOwn.never rfl (pi_enumL rfl T.b_enumerate (@pa_cons _ _ _ _ _ (pvC 1) pa_nil (by rfl))) (pg_tup rfl (pgs_cons (pg_name (i := 2) sc_Flows_init.nd rfl (Or.inl rfl)) (pgs_cons (pg_name (i := 3) sc_Flows_init.nd rfl (Or.inl rfl)) pgs_nil))) hW5)); ?_)
    refine (let W7 : TS := _; have hW7 : PSs (cxOf CX0 P w K mg base ["self", "program", "k", "function"] "Flows.__init__" (defScope s_Flows_init) t.a_Flows_init cdv A outer s H E).nox (((((((defBody s_Flows_init).drop 1).drop 1).drop 1).drop 1).drop 1).drop 1) W7 := (@pss_cut _ _ _ _ _ (ps_fld (pvC 0) pe_dnewK (by rfl)) hW6); ?_)
    refine (let W8 : TS := _; have hW8 : PSs (cxOf CX0 P w K mg base ["self", "program", "k", "function"] "Flows.__init__" (defScope s_Flows_init) t.a_Flows_init cdv A outer s H E).nox ((((((defBody s_Flows_init).drop 1).drop 1).drop 1).drop 1).drop 1) W8 := (@pss_cons _ _ _ _ _ (ps_fld (pvC 0) pe_dnewK (by rfl)) hW7); ?_)
    refine (let W9 : TS := _; have hW9 : PSs (cxOf CX0 P w K mg base ["self", "program", "k", "function"] "Flows.__init__" (defScope s_Flows_init) t.a_Flows_init cdv A outer s H E).nox (((((defBody s_Flows_init).drop 1).drop 1).drop 1).drop 1) W9 := (@pss_cons _ _ _ _ _ (ps_fld (pvC 0) pe_dnewK (by rfl)) hW8); ?_)
    refine (let W10 : TS := _; have hW10 : PSs (cxOf CX0 P w K mg base ["self", "program", "k", "function"] "Flows.__init__" (defScope s_Flows_init) t.a_Flows_init cdv A outer s H E).nox ((((defBody s_Flows_init).drop 1).drop 1).drop 1) W10 := (@pss_cons _ _ _ _ _ (ps_fld (pvC 0) pe_dnewK (by rfl)) hW9); ?_)
    refine (let W11 : TS := _; have hW11 : PSs (cxOf CX0 P w K mg base ["self", "program", "k", "function"] "Flows.__init__" (defScope s_Flows_init) t.a_Flows_init cdv A outer s H E).nox (((defBody s_Flows_init).drop 1).drop 1) W11 := (@pss_cons _ _ _ _ _ (ps_fld (pvC 0) pe_dnewK (by rfl)) hW10); ?_)
    refine (let W12 : TS := _; have hW12 : PSs (cxOf CX0 P w K mg base ["self", "program", "k", "function"] "Flows.__init__" (defScope s_Flows_init) t.a_Flows_init cdv A outer s H E).nox ((defBody s_Flows_init).drop 1) W12 := (@pss_cons _ _ _ _ _ (ps_fld (pvC 0) pe_dnewK (by rfl)) hW11); ?_)
    obtain ⟨x, dx, p, fns, rfl, hx, hS, n0, n12, hE, nd, q⟩ := h
    refine ⟨_, (@pss_cons _ _ _ _ _ (ps_fld (pvC 0) (@pe_ix _ _ _ _ _ _ _ (show IxR _ (cIxT K) from ixC_tup) (@pe_ix _ _ _ _ _ _ _ (show IxR _ (cIxL K) from ixC_list) (pvC 1) (pe_un un_neg pe_int) (fun _ _ => rfl)) pe_int (fun _ _ => rfl)) (by rfl)) hW12), ?_⟩
    have fl : (fns.map fun f => V.ref f.fa).length = fns.length := List.length_map _
    have np : 0 < fns.length := List.length_pos_iff.mpr n0
    obtain ⟨fz, hz⟩ : ∃ fz, fns[fns.length - 1]? = some fz := ⟨fns[fns.length - 1], List.getElem?_eq_getElem (by omega)⟩
    have hzT := (hE fz (List.mem_of_getElem? hz)).fn
    have eL : atI (fns.map fun f => V.ref f.fa) (-1) = some (V.ref fz.fa) := by
      unfold atI ixN
      rw [if_neg (by decide), if_pos (by rw [fl]; omega), Option.bind_some]
      have : ((-1 : Int) + ((fns.map fun f => V.ref f.fa).length : Int)).toNat = fns.length - 1 := by rw [fl]; omega
      rw [this, List.getElem?_map, hz]
      rfl
    refine ⟨_, rfl, _, rfl, p, _, _, _, rfl, rfl, ers_same.seq hS, eL, fz.fa, _, _, _, rfl, rfl, ers_same.tup hzT, at0, _, rfl, x, t.c_Flows, dx, _, rfl, hx, T.cl_Flows.cl, T.n_Flows_last, (by show 0 < 1000; decide), ?_⟩
    have sx : ∀ {b : Addr} {o : HO}, ers x H b = some o → b ≠ x ∧ H b = some o := fun {b o} e => by
      have hb : b ≠ x := fun z => by rw [z] at e; unfold ers at e; rw [if_pos rfl] at e; cases e
      rw [ers_ne hb] at e
      exact ⟨hb, e⟩
    have l1 := fld_len "last" (V.str fz.name) [] 0 (Nat.le_refl _)
    intro d0 h0
    refine ⟨_, rfl, x, t.c_Flows, dx, _, rfl, upd_at upd_same (Ne.symm (new_ne h0).1), T.cl_Flows.cl, T.n_Flows_number_of, (by omega), ?_⟩
    have l2 := fld_len "number_of" (.ref d0) _ 1 l1
    intro d1 h1
    refine ⟨_, rfl, x, t.c_Flows, dx, _, rfl, upd_at upd_same (Ne.symm (new_ne h1).1), T.cl_Flows.cl, T.n_Flows_folded_of, (by omega), ?_⟩
    have l3 := fld_len "folded_of" (.ref d1) _ 2 l2
    intro d2 h2
    refine ⟨_, rfl, x, t.c_Flows, dx, _, rfl, upd_at upd_same (Ne.symm (new_ne h2).1), T.cl_Flows.cl, T.n_Flows_params_of, (by omega), ?_⟩
    have l4 := fld_len "params_of" (.ref d2) _ 3 l3
    intro d3 h3
    refine ⟨_, rfl, x, t.c_Flows, dx, _, rfl, upd_at upd_same (Ne.symm (new_ne h3).1), T.cl_Flows.cl, T.n_Flows_rows_of, (by omega), ?_⟩
    have l5 := fld_len "rows_of" (.ref d3) _ 4 l4
    intro d4 h4
    refine ⟨_, rfl, x, t.c_Flows, dx, _, rfl, upd_at upd_same (Ne.symm (new_ne h4).1), T.cl_Flows.cl, T.n_Flows_names_in, (by omega), ?_⟩
    have l6 := fld_len "names_in" (.ref d4) _ 5 l5
    refine ⟨fun σ' G => ∃ d : Nat → Addr, σ' = [some (.ref x), some (.ref p), none, none] ∧ FS t.c_Flows G x dx (flds (V.str fz.name) d) d (fun _ => []) ∧ (∀ i j, i < 6 → j < 6 → d i = d j → i = j) ∧ Same (ers x H) G ∧ ∀ k, ers x H (d k) = none, ?_, ?_⟩
    · intro d5 h5
      obtain ⟨nx0, z0⟩ := new_ne h0
      have q0 : H d0 = none := z0
      obtain ⟨nx1, z1⟩ := new_ne h1
      obtain ⟨n10, w10⟩ := new_ne z1
      obtain ⟨_, y10⟩ := new_ne w10
      have q1 : H d1 = none := y10
      obtain ⟨nx2, z2⟩ := new_ne h2
      obtain ⟨n21, w21⟩ := new_ne z2
      obtain ⟨_, y21⟩ := new_ne w21
      obtain ⟨n20, w20⟩ := new_ne y21
      obtain ⟨_, y20⟩ := new_ne w20
      have q2 : H d2 = none := y20
      obtain ⟨nx3, z3⟩ := new_ne h3
      obtain ⟨n32, w32⟩ := new_ne z3
      obtain ⟨_, y32⟩ := new_ne w32
      obtain ⟨n31, w31⟩ := new_ne y32
      obtain ⟨_, y31⟩ := new_ne w31
      obtain ⟨n30, w30⟩ := new_ne y31
      obtain ⟨_, y30⟩ := new_ne w30
      have q3 : H d3 = none := y30
      obtain ⟨nx4, z4⟩ := new_ne h4
      obtain ⟨n43, w43⟩ := new_ne z4
      obtain ⟨_, y43⟩ := new_ne w43
      obtain ⟨n42, w42⟩ := new_ne y43
      obtain ⟨_, y42⟩ := new_ne w42
      obtain ⟨n41, w41⟩ := new_ne y42
      obtain ⟨_, y41⟩ := new_ne w41
      obtain ⟨n40, w40⟩ := new_ne y41
      obtain ⟨_, y40⟩ := new_ne w40
      have q4 : H d4 = none := y40
      obtain ⟨nx5, z5⟩ := new_ne h5
      obtain ⟨n54, w54⟩ := new_ne z5
      obtain ⟨_, y54⟩ := new_ne w54
      obtain ⟨n53, w53⟩ := new_ne y54
      obtain ⟨_, y53⟩ := new_ne w53
      obtain ⟨n52, w52⟩ := new_ne y53
      obtain ⟨_, y52⟩ := new_ne w52
      obtain ⟨n51, w51⟩ := new_ne y52
      obtain ⟨_, y51⟩ := new_ne w51
      obtain ⟨n50, w50⟩ := new_ne y51
      obtain ⟨_, y50⟩ := new_ne w50
      have q5 : H d5 = none := y50
      have inj : ∀ i j, i < 6 → j < 6 → dd d0 d1 d2 d3 d4 d5 i = dd d0 d1 d2 d3 d4 d5 j → i = j := fun i j hi hj e => by
        match i, j, hi, hj with
        | 0, 0, _, _ => rfl
        | 0, 1, _, _ => exact absurd e.symm n10
        | 0, 2, _, _ => exact absurd e.symm n20
        | 0, 3, _, _ => exact absurd e.symm n30
        | 0, 4, _, _ => exact absurd e.symm n40
        | 0, 5, _, _ => exact absurd e.symm n50
        | 1, 0, _, _ => exact absurd e n10
        | 1, 1, _, _ => rfl
        | 1, 2, _, _ => exact absurd e.symm n21
        | 1, 3, _, _ => exact absurd e.symm n31
        | 1, 4, _, _ => exact absurd e.symm n41
        | 1, 5, _, _ => exact absurd e.symm n51
        | 2, 0, _, _ => exact absurd e n20
        | 2, 1, _, _ => exact absurd e n21
        | 2, 2, _, _ => rfl
        | 2, 3, _, _ => exact absurd e.symm n32
        | 2, 4, _, _ => exact absurd e.symm n42
        | 2, 5, _, _ => exact absurd e.symm n52
        | 3, 0, _, _ => exact absurd e n30
        | 3, 1, _, _ => exact absurd e n31
        | 3, 2, _, _ => exact absurd e n32
        | 3, 3, _, _ => rfl
        | 3, 4, _, _ => exact absurd e.symm n43
        | 3, 5, _, _ => exact absurd e.symm n53
        | 4, 0, _, _ => exact absurd e n40
        | 4, 1, _, _ => exact absurd e n41
        | 4, 2, _, _ => exact absurd e n42
        | 4, 3, _, _ => exact absurd e n43
        | 4, 4, _, _ => rfl
        | 4, 5, _, _ => exact absurd e.symm n54
        | 5, 0, _, _ => exact absurd e n50
        | 5, 1, _, _ => exact absurd e n51
        | 5, 2, _, _ => exact absurd e n52
        | 5, 3, _, _ => exact absurd e n53
        | 5, 4, _, _ => exact absurd e n54
        | 5, 5, _, _ => rfl
        | n + 6, _, h, _ => omega
        | _, n + 6, _, h => omega
      refine ⟨_, rfl, x, t.c_Flows, dx, _, rfl, upd_at upd_same (Ne.symm nx5), T.cl_Flows.cl, T.n_Flows_ways_in, (by omega), dd d0 d1 d2 d3 d4 d5, rfl, ⟨upd_same, fun j hj => ?_⟩, inj, fun b o e => upd_at (upd_at (upd_at (upd_at (upd_at (upd_at (upd_at (upd_at (upd_at (upd_at (upd_at (upd_at (upd_at (sx e).2 (sx e).1) (ne_of_none (sx e).2 q0)) (sx e).1) (ne_of_none (sx e).2 q1)) (sx e).1) (ne_of_none (sx e).2 q2)) (sx e).1) (ne_of_none (sx e).2 q3)) (sx e).1) (ne_of_none (sx e).2 q4)) (sx e).1) (ne_of_none (sx e).2 q5)) (sx e).1, fun k => ?_⟩
      · match j, hj with
        | 0, _ => exact upd_at (upd_at (upd_at (upd_at (upd_at (upd_at (upd_at (upd_at (upd_at (upd_at (upd_at upd_same nx0) (Ne.symm n10)) nx0) (Ne.symm n20)) nx0) (Ne.symm n30)) nx0) (Ne.symm n40)) nx0) (Ne.symm n50)) nx0
        | 1, _ => exact upd_at (upd_at (upd_at (upd_at (upd_at (upd_at (upd_at (upd_at (upd_at upd_same nx1) (Ne.symm n21)) nx1) (Ne.symm n31)) nx1) (Ne.symm n41)) nx1) (Ne.symm n51)) nx1
        | 2, _ => exact upd_at (upd_at (upd_at (upd_at (upd_at (upd_at (upd_at upd_same nx2) (Ne.symm n32)) nx2) (Ne.symm n42)) nx2) (Ne.symm n52)) nx2
        | 3, _ => exact upd_at (upd_at (upd_at (upd_at (upd_at upd_same nx3) (Ne.symm n43)) nx3) (Ne.symm n53)) nx3
        | 4, _ => exact upd_at (upd_at (upd_at upd_same nx4) (Ne.symm n54)) nx4
        | 5, _ => exact upd_at upd_same nx5
        | n + 6, h => omega
      · match k with
        | 0 => exact (ers_ne nx0).trans q0
        | 1 => exact (ers_ne nx1).trans q1
        | 2 => exact (ers_ne nx2).trans q2
        | 3 => exact (ers_ne nx3).trans q3
        | 4 => exact (ers_ne nx4).trans q4
        | n + 5 => exact (ers_ne nx5).trans q5
    rintro σ' G ⟨d, rfl, hFS, inj, hsm, hfd⟩
    refine ⟨_, rfl, p, rfl, ⟨_, hsm.seq hS⟩, for_enumL (xs := fns.map fun f => V.ref f.fa) (fun i σ H2 => ∃ (v2 v3 : Option V) (kv : Nat → List (Key × V)) (nl wl : Nat → Addr), σ = [some (.ref x), some (.ref p), v2, v3] ∧ Same (ers x H) H2 ∧ FS t.c_Flows H2 x dx (flds (V.str fz.name) d) d kv ∧ kv 0 = kD (fun i _ => .int i) (fns.take i) ∧ kv 1 = kD (fun _ f => f.fo) (fns.take i) ∧ kv 2 = kD (fun _ f => .ref f.pa) (fns.take i) ∧ kv 3 = kD (fun _ f => .ref f.ra) (fns.take i) ∧ kv 4 = kD (fun i _ => .ref (nl i)) (fns.take i) ∧ kv 5 = kD (fun i _ => .ref (wl i)) (fns.take i) ∧ (∀ j g, j < i → fns[j]? = some g → hl H2 (nl j) = some (.lst ((nms g).map V.str)) ∧ K13.FoundN (hl H2) (wl j) (kds g) (kds g).length) ∧ ∀ j, j < 6 → (kv j).length ≤ i) ⟨_, _, _, fun _ => 0, fun _ => 0, rfl, hsm, hFS, rfl, rfl, rfl, rfl, rfl, rfl, fun j g h => absurd h (Nat.not_lt_zero _), fun j hj => Nat.le_refl _⟩ ?_ ?_ ?_⟩
    · rintro i σ H2 hi ⟨v2, v3, kv, nlf, wlf, rfl, s2, _⟩
      exact s2.seq hS
    · rintro i y σ H2 b hy ⟨v2, v3, kv, nlf, wlf, rfl, s2, o2, k0, k1, k2, k3, k4, k5, hnw, kl⟩ hb
      obtain ⟨f, hi, hm, rfl⟩ := map_at hy
      have ilt : i < fns.length := (List.getElem?_eq_some_iff.mp hi).1
      have hT := (hE f hm).fn
      have hfu := (hE f hm).fu
      have fit : ∀ {n : Nat}, n ≤ i + 1 → n < sizeLine := fun {n} h => small1000 (by omega)
      refine ⟨b, _, rfl, SqT.of upd_same, rfl, _, _, rfl, _, _, rfl, rfl, ?_⟩
      have s3 := s2.trans (Same.new (o := .tup [.int i, .ref f.fa]) hb)
      have o3 := o2.mono (Same.new (o := .tup [.int i, .ref f.fa]) hb)
      refine ⟨_, rfl, _, rfl, x, t.c_Flows, dx, _, _, rfl, o3.ob, T.cl_Flows.cl, T.n_Flows_number_of, lk_number _ _, _, rfl, f.fa, _, _, _, rfl, rfl, s3.tup hT, at0, d 0, _, rfl, DPut.k (k := (Sum.inr f.name : Key)) (show _ = some (HO.dK (kv 0)) from o3.dc 0 (by decide)) (fit (by have := kl 0 (by decide); simpa using (by omega : _ ≤ i + 1))), ?_⟩
      have s4 := Same.upd (o := .dK (putK (kv 0) (Sum.inr f.name : Key) (V.int i))) s3 (hfd 0)
      have o4 := o3.put inj 0 (by decide) (putK (kv 0) (Sum.inr f.name : Key) (V.int i))
      refine ⟨_, rfl, f.fa, _, _, _, rfl, rfl, s4.tup hT, rfl, _, rfl, x, t.c_Flows, dx, _, _, rfl, o4.ob, T.cl_Flows.cl, T.n_Flows_folded_of, lk_folded _ _, _, rfl, f.fa, _, _, _, rfl, rfl, s4.tup hT, at0, d 1, _, rfl, DPut.k (k := (Sum.inr f.name : Key)) (show _ = some (HO.dK (kv 1)) from o4.dc 1 (by decide)) (fit (by have := kl 1 (by decide); simpa using (by omega : _ ≤ i + 1))), ?_⟩
      have s5 := Same.upd (o := .dK (putK (kv 1) (Sum.inr f.name : Key) f.fo)) s4 (hfd 1)
      have o5 := o4.put inj 1 (by decide) (putK (kv 1) (Sum.inr f.name : Key) f.fo)
      refine ⟨_, rfl, f.fa, _, _, _, rfl, rfl, s5.tup hT, rfl, _, rfl, x, t.c_Flows, dx, _, _, rfl, o5.ob, T.cl_Flows.cl, T.n_Flows_params_of, lk_params _ _, _, rfl, f.fa, _, _, _, rfl, rfl, s5.tup hT, at0, d 2, _, rfl, DPut.k (k := (Sum.inr f.name : Key)) (show _ = some (HO.dK (kv 2)) from o5.dc 2 (by decide)) (fit (by have := kl 2 (by decide); simpa using (by omega : _ ≤ i + 1))), ?_⟩
      have s6 := Same.upd (o := .dK (putK (kv 2) (Sum.inr f.name : Key) (.ref f.pa))) s5 (hfd 2)
      have o6 := o5.put inj 2 (by decide) (putK (kv 2) (Sum.inr f.name : Key) (.ref f.pa))
      refine ⟨_, rfl, f.fa, _, _, _, rfl, rfl, s6.tup hT, rfl, _, rfl, x, t.c_Flows, dx, _, _, rfl, o6.ob, T.cl_Flows.cl, T.n_Flows_rows_of, lk_rows _ _, _, rfl, f.fa, _, _, _, rfl, rfl, s6.tup hT, at0, d 3, _, rfl, DPut.k (k := (Sum.inr f.name : Key)) (show _ = some (HO.dK (kv 3)) from o6.dc 3 (by decide)) (fit (by have := kl 3 (by decide); simpa using (by omega : _ ≤ i + 1))), ?_⟩
      have s7 := Same.upd (o := .dK (putK (kv 3) (Sum.inr f.name : Key) (.ref f.ra))) s6 (hfd 3)
      have o7 := o6.put inj 3 (by decide) (putK (kv 3) (Sum.inr f.name : Key) (.ref f.ra))
      refine ⟨_, rfl, f.fa, f.ps, f.ds, rfl, hfu.mono s7, fun nl H8 e8 hnl hl8 => ?_⟩
      have s8 := s7.trans e8
      have o8 := o7.mono e8
      refine ⟨_, rfl, x, t.c_Flows, dx, _, _, rfl, o8.ob, T.cl_Flows.cl, T.n_Flows_names_in, lk_names _ _, _, rfl, f.fa, _, _, _, rfl, rfl, s8.tup hT, at0, d 4, _, rfl, DPut.k (k := (Sum.inr f.name : Key)) (show _ = some (HO.dK (kv 4)) from o8.dc 4 (by decide)) (fit (by have := kl 4 (by decide); simpa using (by omega : _ ≤ i + 1))), ?_⟩
      have s9 := Same.upd (o := .dK (putK (kv 4) (Sum.inr f.name : Key) (.ref nl))) s8 (hfd 4)
      have o9 := o8.put inj 4 (by decide) (putK (kv 4) (Sum.inr f.name : Key) (.ref nl))
      refine ⟨_, rfl, f.fa, _, _, _, rfl, rfl, s9.tup hT, rfl, f.ra, kds f, rfl, ((hE f hm).old.mono s9).rows, (hE f hm).wf, (by unfold kds; rw [List.length_map]; have := (hE f hm).len; omega), fun wl HA eA hwl hfn => ?_⟩
      have sA := s9.trans eA
      have oA := o9.mono eA
      refine ⟨_, rfl, x, t.c_Flows, dx, _, _, rfl, oA.ob, T.cl_Flows.cl, T.n_Flows_ways_in, lk_ways _ _, _, rfl, f.fa, _, _, _, rfl, rfl, sA.tup hT, at0, d 5, _, rfl, DPut.k (k := (Sum.inr f.name : Key)) (show _ = some (HO.dK (kv 5)) from oA.dc 5 (by decide)) (fit (by have := kl 5 (by decide); simpa using (by omega : _ ≤ i + 1))), ?_⟩
      have sB := Same.upd (o := .dK (putK (kv 5) (Sum.inr f.name : Key) (.ref wl))) sA (hfd 5)
      have oB := oA.put inj 5 (by decide) (putK (kv 5) (Sum.inr f.name : Key) (.ref wl))
      have c3 : Same (hl H2) (hl H8) := by
        have z1 : Same (hl H2) (hl (upd H2 b (.tup [.int i, .ref f.fa]))) := (Same.new (o := .tup [.int i, .ref f.fa]) hb).hl
        have z2 := e8.hl
        rw [hl_dK (o6.dc 3 (by decide)), hl_dK (o5.dc 2 (by decide)), hl_dK (o4.dc 1 (by decide)), hl_dK (o3.dc 0 (by decide))] at z2
        exact z1.trans z2
      have c4 : Same (hl H8) (hl HA) := by
        have z2 := eA.hl
        rw [hl_dK (o8.dc 4 (by decide))] at z2
        exact z2
      have c5 : hl (upd HA (d 5) (.dK (putK (kv 5) (Sum.inr f.name : Key) (.ref wl)))) = hl HA := hl_dK (oA.dc 5 (by decide))
      refine ⟨_, _, _, fun j => if j = i then nl else nlf j, fun j => if j = i then wl else wlf j, rfl, sB, oB, ?_, ?_, ?_, ?_, ?_, ?_, fun j g hj hg => ?_, fun j hj => ?_⟩
      · show putK (kv 0) (Sum.inr f.name : Key) (V.int i) = _
        rw [k0]
        exact kD_put hi nd (fun _ _ _ => rfl) rfl
      · show putK (kv 1) (Sum.inr f.name : Key) f.fo = _
        rw [k1]
        exact kD_put hi nd (fun _ _ _ => rfl) rfl
      · show putK (kv 2) (Sum.inr f.name : Key) (.ref f.pa) = _
        rw [k2]
        exact kD_put hi nd (fun _ _ _ => rfl) rfl
      · show putK (kv 3) (Sum.inr f.name : Key) (.ref f.ra) = _
        rw [k3]
        exact kD_put hi nd (fun _ _ _ => rfl) rfl
      · show putK (kv 4) (Sum.inr f.name : Key) (.ref nl) = _
        rw [k4]
        exact kD_put hi nd (fun j _ hj => by show V.ref (nlf j) = V.ref (if j = i then nl else nlf j); rw [if_neg (by omega)]) (by show V.ref nl = V.ref (if i = i then nl else nlf i); rw [if_pos rfl])
      · show putK (kv 5) (Sum.inr f.name : Key) (.ref wl) = _
        rw [k5]
        exact kD_put hi nd (fun j _ hj => by show V.ref (wlf j) = V.ref (if j = i then wl else wlf j); rw [if_neg (by omega)]) (by show V.ref wl = V.ref (if i = i then wl else wlf i); rw [if_pos rfl])
      · rw [c5]
        by_cases hji : j = i
        · subst hji
          rw [hi] at hg
          cases hg
          refine ⟨?_, ?_⟩
          · show hl HA (if j = j then nl else nlf j) = _
            rw [if_pos rfl]
            exact c4 _ _ (hl_lst hl8)
          · show K13.FoundN (hl HA) (if j = j then wl else wlf j) _ _
            rw [if_pos rfl]
            exact hfn.hl
        · obtain ⟨y1, y2⟩ := hnw j g (by omega) hg
          refine ⟨?_, ?_⟩
          · show hl HA (if j = i then nl else nlf j) = _
            rw [if_neg hji]
            exact c4 _ _ (c3 _ _ y1)
          · show K13.FoundN (hl HA) (if j = i then wl else wlf j) _ _
            rw [if_neg hji]
            exact y2.mono (c3.trans c4)
      · have e := kl j hj
        match j, hj with
        | 0, _ => exact Nat.le_trans (length_putK _ _ _) (by omega)
        | 1, _ => exact Nat.le_trans (length_putK _ _ _) (by omega)
        | 2, _ => exact Nat.le_trans (length_putK _ _ _) (by omega)
        | 3, _ => exact Nat.le_trans (length_putK _ _ _) (by omega)
        | 4, _ => exact Nat.le_trans (length_putK _ _ _) (by omega)
        | 5, _ => exact Nat.le_trans (length_putK _ _ _) (by omega)
        | n + 6, h => omega
    · rintro σ H2 ⟨v2, v3, kv, nlf, wlf, rfl, s2, o2, k0, k1, k2, k3, k4, k5, hnw, kl⟩
      rw [fl, List.take_length] at k0 k1 k2 k3 k4 k5
      exact q H2 s2 ⟨fun f hf => (hE f hf).mono s2, nd, dx, fz, d, kv, nlf, wlf, hz, o2, k0, k1, k2, k3, k4, k5, fun i f hi => let ⟨y1, y2⟩ := hnw i f (by rw [fl]; exact (List.getElem?_eq_some_iff.mp hi).1) hi; ⟨hl_same _ _ y1, y2.mono hl_same⟩⟩
end
end K42

set_option Elab.async false
set_option linter.all false
set_option maxRecDepth 100000
set_option maxHeartbeats 4000000
namespace K42
open PySem L2 K21 Rk2
section
variable {P : Program} {w : World} {K : PySem.W.Frag} {mg : Str → Option Value} {base : Heap} {t : Adr}
local macro_rules | `(tactic| walk_at "rd1") => `(tactic| first
  | refine ⟨_, rfl, ?_⟩
  | refine ⟨_, _, rfl, rfl, ?_⟩
  | refine ⟨rfl, ?_⟩
  | refine ⟨(show (0 : Int) < _ by decide), ?_⟩
  | refine ⟨⟨by decide, by decide⟩, ?_⟩
  | refine ⟨.inl ⟨by decide, by decide⟩, ?_⟩
  | refine ⟨.inr ⟨by decide, by decide⟩, ?_⟩
  | refine ⟨⟨by decide, by decide, by decide⟩, ?_⟩)
local macro_rules | `(tactic| walk_at "rd") => `(tactic| repeat walk_at "rd1")
theorem sc_value : FnScope ["sign", "one", "other"] ["sign", "one", "other"] (defScope s_value) := ⟨rfl, rfl, rfl, by decide +kernel, rfl, by decide +kernel, by decide +kernel⟩
theorem ok_value (T : Txt K mg t) : FnOk P w K mg base CX0 1 t.a_value t.d_value ["sign", "one", "other"] (sp_value K) := by
  refine T.value.F.ok sc_value (fun vs H Q E h => ?_) (fun cdv A outer s H vs Q E hr h => ?_)
  · obtain ⟨s, a, b, rfl, h1, h2, h3, h4, q⟩ := h
    rfl
  · skip
    refine (let W0 : TS := _; have hW0 : PSs (cxOf CX0 P w K mg base ["sign", "one", "other"] "value" (defScope s_value) t.a_value cdv A outer s H E).nox ((((((((defBody s_value).drop 1).drop 1).drop 1).drop 1).drop 1).drop 1).drop 1) W0 := (@pss_cons _ _ _ _ _ (@ps_if _ _ _ _ _ _ _ _ (@ptC_cmpR _ _ _ _ _ _ _ _ op_eq (pvC 0) pe_str (nomark _)) (@pss_one _ _ _ (@ps_ret _ _ _ _ (@pe_op _ _ _ _ _ _ _ _ (opC0 op_or) (pvC 1) (pvC 2)))) pss_nil) (@pss_one _ _ _ (@ps_ret _ _ _ _ (@pe_op _ _ _ _ _ _ _ _ (opC0 op_xor) (pvC 1) (pvC 2))))); ?_)
    refine (let W1 : TS := _; have hW1 : PSs (cxOf CX0 P w K mg base ["sign", "one", "other"] "value" (defScope s_value) t.a_value cdv A outer s H E).nox (((((((defBody s_value).drop 1).drop 1).drop 1).drop 1).drop 1).drop 1) W1 := (@pss_cons _ _ _ _ _ (@ps_if _ _ _ _ _ _ _ _ (@ptC_cmpR _ _ _ _ _ _ _ _ op_eq (pvC 0) pe_str (nomark _)) (@pss_one _ _ _ (@ps_ret _ _ _ _ (@pe_op _ _ _ _ _ _ _ _ (opC0 op_and) (pvC 1) (pvC 2)))) pss_nil) hW0); ?_)
    refine (let W2 : TS := _; have hW2 : PSs (cxOf CX0 P w K mg base ["sign", "one", "other"] "value" (defScope s_value) t.a_value cdv A outer s H E).nox ((((((defBody s_value).drop 1).drop 1).drop 1).drop 1).drop 1) W2 := (@pss_cons _ _ _ _ _ (@ps_if _ _ _ _ _ _ _ _ (@ptC_cmpR _ _ _ _ _ _ _ _ op_eq (pvC 0) pe_str (nomark _)) (@pss_one _ _ _ (@ps_ret _ _ _ _ (@pe_ifExp _ _ _ _ _ _ _ _ (@ptC_cmpR _ _ _ _ _ _ _ _ op_eq (pvC 1) (pvC 2) (nomark _)) pe_int pe_int))) pss_nil) hW1); ?_)
    refine (let W3 : TS := _; have hW3 : PSs (cxOf CX0 P w K mg base ["sign", "one", "other"] "value" (defScope s_value) t.a_value cdv A outer s H E).nox (((((defBody s_value).drop 1).drop 1).drop 1).drop 1) W3 := (@pss_cons _ _ _ _ _ (@ps_if _ _ _ _ _ _ _ _ (@ptC_cmpR _ _ _ _ _ _ _ _ op_eq (pvC 0) pe_str (nomark _)) (@pss_one _ _ _ (@ps_ret _ _ _ _ (@pe_ifExp _ _ _ _ _ _ _ _ (@ptC_cmpR _ _ _ _ _ _ _ _ (opC0 op_lt) (pvC 1) (pvC 2) (nomark _)) pe_int pe_int))) pss_nil) hW2); ?_)
    refine (let W4 : TS := _; have hW4 : PSs (cxOf CX0 P w K mg base ["sign", "one", "other"] "value" (defScope s_value) t.a_value cdv A outer s H E).nox (sB (((((defBody s_value).drop 1).drop 1).drop 1).getD 0 (.Pass ⟨0, 0, 0, 0⟩))) W4 := (@pss_one _ _ _ (@ps_ret _ _ _ _ (@pe_ifExp _ _ _ _ _ _ _ _ (@ptC_cmpR _ _ _ _ _ _ _ _ op_eq (pvC 2) pe_int (nomark _)) pe_int (@pe_op _ _ _ _ _ _ _ _ (opC1 op_fdivB) (pvC 1) (pvC 2))))); ?_)
    refine (let W5 : TS := _; have hW5 : PSs (cxOf CX0 P w K mg base ["sign", "one", "other"] "value" (defScope s_value) t.a_value cdv A outer s H E).nox ((((defBody s_value).drop 1).drop 1).drop 1) W5 := (@pss_cons _ _ _ _ _ (@ps_if _ _ _ _ _ _ _ _ (@ptC_cmpR _ _ _ _ _ _ _ _ op_eq (pvC 0) pe_str (nomark _)) hW4 pss_nil) hW3); ?_)
    refine (let W6 : TS := _; have hW6 : PSs (cxOf CX0 P w K mg base ["sign", "one", "other"] "value" (defScope s_value) t.a_value cdv A outer s H E).nox (((defBody s_value).drop 1).drop 1) W6 := (@pss_cons _ _ _ _ _ (@ps_if _ _ _ _ _ _ _ _ (@ptC_cmpR _ _ _ _ _ _ _ _ op_eq (pvC 0) pe_str (nomark _)) (@pss_one _ _ _ (@ps_ret _ _ _ _ (@pe_op _ _ _ _ _ _ _ _ (opC1 op_mod) (@pe_op _ _ _ _ _ _ _ _ (opC1 op_mul) (pvC 1) (pvC 2)) (pe_gint T.c_WIDE)))) pss_nil) hW5); ?_)
    refine (let W7 : TS := _; have hW7 : PSs (cxOf CX0 P w K mg base ["sign", "one", "other"] "value" (defScope s_value) t.a_value cdv A outer s H E).nox ((defBody s_value).drop 1) W7 := (@pss_cons _ _ _ _ _ (@ps_if _ _ _ _ _ _ _ _ (@ptC_cmpR _ _ _ _ _ _ _ _ op_eq (pvC 0) pe_str (nomark _)) (@pss_one _ _ _ (@ps_ret _ _ _ _ (@pe_op _ _ _ _ _ _ _ _ (opC1 op_mod) (@pe_op _ _ _ _ _ _ _ _ (opC0 op_sub) (pvC 1) (pvC 2)) (pe_gint T.c_WIDE)))) pss_nil) hW6); ?_)
    obtain ⟨s, a, b, rfl, h1, h2, h3, h4, q⟩ := h
    refine ⟨_, (@pss_cons _ _ _ _ _ (@ps_if _ _ _ _ _ _ _ _ (@ptC_cmpR _ _ _ _ _ _ _ _ op_eq (pvC 0) pe_str (nomark _)) (@pss_one _ _ _ (@ps_ret _ _ _ _ (@pe_op _ _ _ _ _ _ _ _ (opC1 op_mod) (@pe_op _ _ _ _ _ _ _ _ (opC0 op_add) (pvC 1) (pvC 2)) (pe_gint T.c_WIDE)))) pss_nil) hW7), ?_⟩
    have hw : wide = 281474976710656 := rfl
    refine ⟨_, rfl, rfl, _, rfl, ?_⟩
    by_cases k1 : s = "+"
    · refine iteP (decide_eq_true (congrArg V.str k1)) ?_
      have e : valOf s a b = (a + b) % wide := by unfold valOf; rw [if_pos k1]
      rw [e] at q
      exact ⟨_, rfl, _, rfl, _, _, rfl, rfl, _, _, rfl, rfl, (show (0 : Int) < 281474976710656 by decide), q⟩
    refine iteN (fun z => k1 (V.str.inj (dec_true z))) ?_
    refine ⟨_, rfl, rfl, _, rfl, ?_⟩
    by_cases k2 : s = "-"
    · refine iteP (decide_eq_true (congrArg V.str k2)) ?_
      have e : valOf s a b = (a - b) % wide := by unfold valOf; rw [if_neg k1, if_pos k2]
      rw [e] at q
      exact ⟨_, rfl, _, rfl, _, _, rfl, rfl, _, _, rfl, rfl, (show (0 : Int) < 281474976710656 by decide), q⟩
    refine iteN (fun z => k2 (V.str.inj (dec_true z))) ?_
    refine ⟨_, rfl, rfl, _, rfl, ?_⟩
    by_cases k3 : s = "*"
    · refine iteP (decide_eq_true (congrArg V.str k3)) ?_
      have e : valOf s a b = (a * b) % wide := by unfold valOf; rw [if_neg k1, if_neg k2, if_pos k3]
      rw [e] at q
      exact ⟨_, rfl, _, rfl, _, _, rfl, rfl, .inl ⟨by omega, by omega⟩, _, _, rfl, rfl, (show (0 : Int) < 281474976710656 by decide), q⟩
    refine iteN (fun z => k3 (V.str.inj (dec_true z))) ?_
    refine ⟨_, rfl, rfl, _, rfl, ?_⟩
    by_cases k4 : s = "/"
    · refine iteP (decide_eq_true (congrArg V.str k4)) ?_
      have e : valOf s a b = if b = 0 then 0 else a / b := by unfold valOf; rw [if_neg k1, if_neg k2, if_neg k3, if_pos k4]
      rw [e] at q
      refine ⟨_, rfl, rfl, _, rfl, ?_⟩
      by_cases hb : b = 0
      · rw [if_pos hb] at q
        exact iteP (decide_eq_true (congrArg V.int hb)) q
      · rw [if_neg hb] at q
        exact iteN (fun z => hb (V.int.inj (dec_true z))) ⟨_, rfl, _, rfl, _, _, rfl, rfl, ⟨by omega, by omega⟩, q⟩
    refine iteN (fun z => k4 (V.str.inj (dec_true z))) ?_
    refine ⟨_, rfl, rfl, _, rfl, ?_⟩
    by_cases k5 : s = "<"
    · refine iteP (decide_eq_true (congrArg V.str k5)) ?_
      have e : valOf s a b = if a < b then 1 else 0 := by unfold valOf; rw [if_neg k1, if_neg k2, if_neg k3, if_neg k4, if_pos k5]
      rw [e] at q
      refine ⟨_, rfl, _, rfl, _, _, rfl, rfl, _, rfl, ?_⟩
      by_cases hb : a < b
      · rw [if_pos hb] at q
        exact iteP (decide_eq_true hb) q
      · rw [if_neg hb] at q
        exact iteN (fun z => hb (dec_true z)) q
    refine iteN (fun z => k5 (V.str.inj (dec_true z))) ?_
    refine ⟨_, rfl, rfl, _, rfl, ?_⟩
    by_cases k6 : s = "="
    · refine iteP (decide_eq_true (congrArg V.str k6)) ?_
      have e : valOf s a b = if a = b then 1 else 0 := by unfold valOf; rw [if_neg k1, if_neg k2, if_neg k3, if_neg k4, if_neg k5, if_pos k6]
      rw [e] at q
      refine ⟨_, rfl, _, rfl, rfl, _, rfl, ?_⟩
      by_cases hb : a = b
      · rw [if_pos hb] at q
        exact iteP (decide_eq_true (congrArg V.int hb)) q
      · rw [if_neg hb] at q
        exact iteN (fun z => hb (V.int.inj (dec_true z))) q
    refine iteN (fun z => k6 (V.str.inj (dec_true z))) ?_
    refine ⟨_, rfl, rfl, _, rfl, ?_⟩
    by_cases k7 : s = "&"
    · refine iteP (decide_eq_true (congrArg V.str k7)) ?_
      have e : valOf s a b = Builtin.bitAnd a b := by unfold valOf bw; rw [if_neg k1, if_neg k2, if_neg k3, if_neg k4, if_neg k5, if_neg k6, if_pos k7]
      rw [e] at q
      exact ⟨_, rfl, _, rfl, _, _, rfl, rfl, q⟩
    refine iteN (fun z => k7 (V.str.inj (dec_true z))) ?_
    refine ⟨_, rfl, rfl, _, rfl, ?_⟩
    by_cases k8 : s = "|"
    · refine iteP (decide_eq_true (congrArg V.str k8)) ?_
      have e : valOf s a b = Builtin.bitOr a b := by unfold valOf bw; rw [if_neg k1, if_neg k2, if_neg k3, if_neg k4, if_neg k5, if_neg k6, if_neg k7, if_pos k8]
      rw [e] at q
      exact ⟨_, rfl, _, rfl, _, _, rfl, rfl, q⟩
    refine iteN (fun z => k8 (V.str.inj (dec_true z))) ?_
    have e : valOf s a b = Builtin.bitXor a b := by unfold valOf bw; rw [if_neg k1, if_neg k2, if_neg k3, if_neg k4, if_neg k5, if_neg k6, if_neg k7, if_neg k8]
    rw [e] at q
    exact ⟨_, rfl, _, rfl, _, _, rfl, rfl, q⟩
end
end K42

set_option Elab.async false
set_option linter.all false
set_option maxRecDepth 100000
set_option maxHeartbeats 4000000
namespace K42
open PySem L2 K21 Rk2
section
variable {P : Program} {w : World} {K : PySem.W.Frag} {mg : Str → Option Value} {base : Heap} {t : Adr}
local macro_rules | `(tactic| walk_at "rd1") => `(tactic| first
  | refine ⟨_, rfl, ?_⟩
  | refine ⟨_, _, rfl, rfl, ?_⟩
  | refine ⟨rfl, ?_⟩
  | refine ⟨(show (0 : Int) < _ by decide), ?_⟩
  | refine ⟨⟨by decide, by decide⟩, ?_⟩
  | refine ⟨.inl ⟨by decide, by decide⟩, ?_⟩
  | refine ⟨.inr ⟨by decide, by decide⟩, ?_⟩
  | refine ⟨⟨by decide, by decide, by decide⟩, ?_⟩)
local macro_rules | `(tactic| walk_at "rd") => `(tactic| repeat walk_at "rd1")
theorem sc_is_leaf : FnScope ["one"] ["one"] (defScope s_is_leaf) := ⟨rfl, rfl, rfl, by decide +kernel, rfl, by decide +kernel, by decide +kernel⟩
theorem ok_is_leaf (T : Txt K mg t) : FnOk P w K mg base CX0 1 t.a_is_leaf t.d_is_leaf ["one"] (sp_is_leaf K) := by
  refine T.is_leaf.F.ok sc_is_leaf (fun vs H Q E h => ?_) (fun cdv A outer s H vs Q E hr h => ?_)
  · obtain ⟨tr, v, rfl, hR, q⟩ := h
    rfl
  · obtain ⟨tr, v, rfl, hR, q⟩ := h
    refine ⟨_, (@pss_cons _ _ _ _ _ (@ps_ret _ _ _ _ (pe_cmpR op_in_seq (@pe_ix _ _ _ _ _ _ _ (show IxR _ (cIxT K) from ixC_tup) (pvC 0) pe_int (fun _ _ => rfl)) (@pe_tup _ _ _ _ _ (@pa_cons _ _ _ _ _ pe_str (@pa_cons _ _ _ _ _ pe_str pa_nil (by rfl)) (by rfl))) (by with_unfolding_all rfl))) pss_nil), ?_⟩
    cases tr with
    | box k =>
      obtain ⟨p, rfl, hT⟩ := hR
      exact ⟨_, rfl, p, _, _, _, rfl, rfl, SqT.of hT, at0, le2, fun u hu => ⟨u, _, rfl, .inr (SqT.of upd_same), rfl, rfl, vq (congrArg V.bl ((inBN _).trans rfl)) (q _ (Same.new hu))⟩⟩
    | num k =>
      obtain ⟨p, rfl, hT⟩ := hR
      exact ⟨_, rfl, p, _, _, _, rfl, rfl, SqT.of hT, at0, le2, fun u hu => ⟨u, _, rfl, .inr (SqT.of upd_same), rfl, rfl, vq (congrArg V.bl ((inBN _).trans (show (decide (("num" : Str) = "box") || decide (("num" : Str) = "num")) = true by decide +kernel))) (q _ (Same.new hu))⟩⟩
    | op s l r =>
      obtain ⟨p, x, y, rfl, hT, n1, n2, hx, hy⟩ := hR
      exact ⟨_, rfl, p, _, _, _, rfl, rfl, SqT.of hT, at0, le2, fun u hu => ⟨u, _, rfl, .inr (SqT.of upd_same), rfl, rfl, vq (congrArg V.bl ((inBN _).trans (by rw [decide_eq_false n1, decide_eq_false n2]; rfl))) (q _ (Same.new hu))⟩⟩
end
end K42

set_option Elab.async false
set_option linter.all false
set_option maxRecDepth 100000
set_option maxHeartbeats 4000000
namespace K42
open PySem L2 K21 Rk2
section
variable {P : Program} {w : World} {K : PySem.W.Frag} {mg : Str → Option Value} {base : Heap} {t : Adr}
local macro_rules | `(tactic| walk_at "rd1") => `(tactic| first
  | refine ⟨_, rfl, ?_⟩
  | refine ⟨_, _, rfl, rfl, ?_⟩
  | refine ⟨rfl, ?_⟩
  | refine ⟨(show (0 : Int) < _ by decide), ?_⟩
  | refine ⟨⟨by decide, by decide⟩, ?_⟩
  | refine ⟨.inl ⟨by decide, by decide⟩, ?_⟩
  | refine ⟨.inr ⟨by decide, by decide⟩, ?_⟩
  | refine ⟨⟨by decide, by decide, by decide⟩, ?_⟩)
local macro_rules | `(tactic| walk_at "rd") => `(tactic| repeat walk_at "rd1")
theorem sc_together : FnScope ["sign", "left", "right"] ["sign", "left", "right"] (defScope s_together) := ⟨rfl, rfl, rfl, by decide +kernel, rfl, by decide +kernel, by decide +kernel⟩
theorem ok_together (T : Txt K mg t) : FnOk P w K mg base CX0 2 t.a_together t.d_together ["sign", "left", "right"] (sp_together K) := by
  have G_value : FnOk P w K mg base CX0 1 t.a_value t.d_value ["sign", "one", "other"] (sp_value K) := ok_value T
  refine T.together.F.ok sc_together (fun vs H Q E h => ?_) (fun cdv A outer s H vs Q E hr h => ?_)
  · obtain ⟨s, tl, tr, x, y, rfl, sg, hL, hR, oL, oR, q⟩ := h
    rfl
  · skip
    refine (let W0 : TS := _; have hW0 : PSs (cxOf CX0 P w K mg base ["sign", "left", "right"] "together" (defScope s_together) t.a_together cdv A outer s H E).nox ((defBody s_together).drop 1) W0 := (@pss_one _ _ _ (@ps_ret _ _ _ _ (@pe_tup _ _ _ _ _ (@pa_cons _ _ _ _ _ (pvC 0) (@pa_cons _ _ _ _ _ (pvC 1) (@pa_cons _ _ _ _ _ (pvC 2) pa_nil (by rfl)) (by rfl)) (by rfl))))); ?_)
    refine (let W1 : TS := _; have hW1 : PSs (cxOf CX0 P w K mg base ["sign", "left", "right"] "together" (defScope s_together) t.a_together cdv A outer s H E).nox (sB ((defBody s_together).getD 0 (.Pass ⟨0, 0, 0, 0⟩))) W1 := (@pss_one _ _ _ (@ps_ret _ _ _ _ (@pe_tup _ _ _ _ _ (@pa_cons _ _ _ _ _ pe_str (@pa_cons _ _ _ _ _ (callD T.value G_value (hr.mono (by decide)) (@pa_cons _ _ _ _ _ (pvC 0) (@pa_cons _ _ _ _ _ (@pe_ix _ _ _ _ _ _ _ (show IxR _ (cIxT K) from ixC_tup) (pvC 1) pe_int (fun _ _ => rfl)) (@pa_cons _ _ _ _ _ (@pe_ix _ _ _ _ _ _ _ (show IxR _ (cIxT K) from ixC_tup) (pvC 2) pe_int (fun _ _ => rfl)) pa_nil (by rfl)) (by rfl)) (by rfl))) pa_nil (by rfl)) (by rfl))))); ?_)
    obtain ⟨s, tl, tr, x, y, rfl, sg, hL, hR, oL, oR, q⟩ := h
    refine ⟨_, (@pss_cons _ _ _ _ _ (@ps_if _ _ _ _ _ _ _ _ (@PW.pt _ _ _ (@pw_and _ _ _ _ _ _ _ (@ptC_cmpR _ _ _ _ _ _ _ _ op_eq (@pe_ix _ _ _ _ _ _ _ (show IxR _ (cIxT K) from ixC_tup) (pvC 1) pe_int (fun _ _ => rfl)) pe_str (nomark _)) (@pw_and1 _ _ _ _ (@ptC_cmpR _ _ _ _ _ _ _ _ op_eq (@pe_ix _ _ _ _ _ _ _ (show IxR _ (cIxT K) from ixC_tup) (pvC 2) pe_int (fun _ _ => rfl)) pe_str (nomark _))))) hW1 pss_nil) hW0), ?_⟩
    obtain ⟨p1, g1, r1, rfl, e1, n1, m1⟩ := hL.head
    obtain ⟨p2, g2, r2, rfl, e2, n2, m2⟩ := hR.head
    have opc : ((∀ k, tl ≠ .num k) ∨ ∀ k, tr ≠ .num k) → ∀ p, H p = none → Q (.ref p) (upd H p (.tup [.str s, .ref p1, .ref p2])) := fun h p hp => by
      refine q _ _ (Same.new hp) ?_
      rw [tog_op h]
      exact ⟨p, _, _, rfl, upd_same, sg.1, sg.2, hL.mono (Same.new hp), hR.mono (Same.new hp)⟩
    refine ⟨_, rfl, p1, _, _, _, rfl, rfl, SqT.of e1, at0, rfl, _, rfl, ?_⟩
    by_cases k1 : g1 = "num"
    · refine iteP (decide_eq_true (congrArg V.str k1)) ⟨_, rfl, p2, _, _, _, rfl, rfl, SqT.of e2, at0, rfl, _, rfl, ?_⟩
      by_cases k2 : g2 = "num"
      · refine iteP (decide_eq_true (congrArg V.str k2)) ?_
        obtain ⟨a, rfl, rfl⟩ := n1 k1
        obtain ⟨b, rfl, rfl⟩ := n2 k2
        have bA := okl_num oL
        have bB := okl_num oR
        exact ⟨_, rfl, _, rfl, p1, _, _, _, rfl, rfl, SqT.of e1, rfl, _, rfl, p2, _, _, _, rfl, rfl, SqT.of e2, rfl, s, a, b, rfl, bA.1, bB.1, bA.2, bB.2, le2, fun p hp => q _ _ (Same.new hp) ⟨p, rfl, upd_same⟩⟩
      · refine iteN (fun z => k2 (V.str.inj (dec_true z))) ⟨_, rfl, _, rfl, _, rfl, le3, opc (.inr (m2 k2))⟩
    · refine iteN (fun z => k1 (V.str.inj (dec_true z))) (iteF ⟨_, rfl, _, rfl, _, rfl, le3, opc (.inl (m1 k1))⟩)
end
end K42

set_option Elab.async false
set_option linter.all false
set_option maxRecDepth 100000
set_option maxHeartbeats 4000000
namespace K42
open PySem L2 K21 Rk2
section
variable {P : Program} {w : World} {K : PySem.W.Frag} {mg : Str → Option Value} {base : Heap} {t : Adr}
local macro_rules | `(tactic| walk_at "rd1") => `(tactic| first
  | refine ⟨_, rfl, ?_⟩
  | refine ⟨_, _, rfl, rfl, ?_⟩
  | refine ⟨rfl, ?_⟩
  | refine ⟨(show (0 : Int) < _ by decide), ?_⟩
  | refine ⟨⟨by decide, by decide⟩, ?_⟩
  | refine ⟨.inl ⟨by decide, by decide⟩, ?_⟩
  | refine ⟨.inr ⟨by decide, by decide⟩, ?_⟩
  | refine ⟨⟨by decide, by decide, by decide⟩, ?_⟩)
local macro_rules | `(tactic| walk_at "rd") => `(tactic| repeat walk_at "rd1")
theorem sc_put_through : FnScope ["one", "news"] ["one", "news"] (defScope s_put_through) := ⟨rfl, rfl, rfl, by decide +kernel, rfl, by decide +kernel, by decide +kernel⟩
theorem ok_put_through (T : Txt K mg t) : ∀ n, FnOk P w K mg base CX0 (n + 3) t.a_put_through t.d_put_through ["one", "news"] (sp_put_through K n)
| 0 => T.put_through.F.ok sc_put_through (fun vs H Q E h => by obtain ⟨tr, v, d, kvs, g, rfl, hd, hR, hD, nv, ok, og, q⟩ := h; exact absurd hd (Nat.not_lt_zero _)) (fun cdv A outer s H vs Q E hr h => by obtain ⟨tr, v, d, kvs, g, rfl, hd, hR, hD, nv, ok, og, q⟩ := h; exact absurd hd (Nat.not_lt_zero _))
| n + 1 => by
  have G_together : FnOk P w K mg base CX0 2 t.a_together t.d_together ["sign", "left", "right"] (sp_together K) := ok_together T
  have G_put_through : FnOk P w K mg base CX0 (n + 3) t.a_put_through t.d_put_through ["one", "news"] (sp_put_through K n) := ok_put_through T n
  refine T.put_through.F.ok sc_put_through (fun vs H Q E h => ?_) (fun cdv A outer s H vs Q E hr h => ?_)
  · obtain ⟨tr, v, d, kvs, g, rfl, hd, hR, hD, nv, ok, og, q⟩ := h
    rfl
  · skip
    refine (let W0 : TS := _; have hW0 : PSs (cxOf CX0 P w K mg base ["one", "news"] "put_through" (defScope s_put_through) t.a_put_through cdv A outer s H E).nox (((defBody s_put_through).drop 1).drop 1) W0 := (@pss_one _ _ _ (@ps_ret _ _ _ _ (callD T.together G_together (hr.mono (by omega)) (@pa_cons _ _ _ _ _ (@pe_ix _ _ _ _ _ _ _ (show IxR _ (cIxT K) from ixC_tup) (pvC 0) pe_int (fun _ _ => rfl)) (@pa_cons _ _ _ _ _ (callD T.put_through G_put_through (hr.mono (by omega)) (@pa_cons _ _ _ _ _ (@pe_ix _ _ _ _ _ _ _ (show IxR _ (cIxT K) from ixC_tup) (pvC 0) pe_int (fun _ _ => rfl)) (@pa_cons _ _ _ _ _ (pvC 1) pa_nil (by rfl)) (by rfl))) (@pa_cons _ _ _ _ _ (callD T.put_through G_put_through (hr.mono (by omega)) (@pa_cons _ _ _ _ _ (@pe_ix _ _ _ _ _ _ _ (show IxR _ (cIxT K) from ixC_tup) (pvC 0) pe_int (fun _ _ => rfl)) (@pa_cons _ _ _ _ _ (pvC 1) pa_nil (by rfl)) (by rfl))) pa_nil (by rfl)) (by rfl)) (by rfl))))); ?_)
    refine (let W1 : TS := _; have hW1 : PSs (cxOf CX0 P w K mg base ["one", "news"] "put_through" (defScope s_put_through) t.a_put_through cdv A outer s H E).nox (sB (((defBody s_put_through).drop 1).getD 0 (.Pass ⟨0, 0, 0, 0⟩))) W1 := (@pss_one _ _ _ (@ps_ret _ _ _ _ (pe_dget2 (u1' hr.units) (pvC 1) (@pe_ix _ _ _ _ _ _ _ (show IxR _ (cIxT K) from ixC_tup) (pvC 0) pe_int (fun _ _ => rfl)) (pvC 0) ⟨rfl, rfl, rfl, rfl⟩))); ?_)
    refine (let W2 : TS := _; have hW2 : PSs (cxOf CX0 P w K mg base ["one", "news"] "put_through" (defScope s_put_through) t.a_put_through cdv A outer s H E).nox ((defBody s_put_through).drop 1) W2 := (@pss_cons _ _ _ _ _ (@ps_if _ _ _ _ _ _ _ _ (@ptC_cmpR _ _ _ _ _ _ _ _ op_eq (@pe_ix _ _ _ _ _ _ _ (show IxR _ (cIxT K) from ixC_tup) (pvC 0) pe_int (fun _ _ => rfl)) pe_str (nomark _)) hW1 pss_nil) hW0); ?_)
    obtain ⟨tr, v, d, kvs, g, rfl, hd, hR, hD, nv, ok, og, q⟩ := h
    refine ⟨_, (@pss_cons _ _ _ _ _ (@ps_if _ _ _ _ _ _ _ _ (@ptC_cmpR _ _ _ _ _ _ _ _ op_eq (@pe_ix _ _ _ _ _ _ _ (show IxR _ (cIxT K) from ixC_tup) (pvC 0) pe_int (fun _ _ => rfl)) pe_str (nomark _)) (@pss_one _ _ _ (@ps_ret _ _ _ _ (pvC 0))) pss_nil) hW2), ?_⟩
    cases tr with
    | num k =>
      have hR' := hR
      obtain ⟨p, rfl, e⟩ := hR
      exact ⟨_, rfl, p, _, _, _, rfl, rfl, SqT.of e, at0, rfl, _, rfl, iteP (decide_eq_true rfl) ⟨_, rfl, q _ _ (Same.refl _) hR'⟩⟩
    | box k =>
      have hR' := hR
      obtain ⟨p, rfl, e⟩ := hR
      refine ⟨_, rfl, p, _, _, _, rfl, rfl, SqT.of e, at0, rfl, _, rfl, iteN (fun z => box_num (V.str.inj (dec_true z))) ?_⟩
      refine ⟨_, rfl, p, _, _, _, rfl, rfl, SqT.of e, at0, rfl, _, rfl, iteP (decide_eq_true rfl) ?_⟩
      refine ⟨_, rfl, d, rfl, .inl ⟨kvs, .inl hD⟩, _, rfl, p, _, _, _, rfl, rfl, SqT.of e, rfl, _, rfl, _, DGet.k (k := Sum.inl k) hD, q _ _ (Same.refl _) ?_⟩
      show RAt H ((g k).getD (.box k)) _
      cases eg : g k with
      | none => rw [nv.no eg]; exact hR'
      | some t =>
        obtain ⟨x, h1, h2⟩ := nv.yes eg
        rw [h1]
        exact h2
    | op s l r =>
      obtain ⟨p, x, y, rfl, e, n1, n2, hx, hy⟩ := hR
      have d1 : dp l < n := by have : max (dp l) (dp r) + 1 < n + 1 := hd; omega
      have d2 : dp r < n := by have : max (dp l) (dp r) + 1 < n + 1 := hd; omega
      obtain ⟨o1, o2⟩ := okl_app ok
      refine ⟨_, rfl, p, _, _, _, rfl, rfl, SqT.of e, at0, rfl, _, rfl, iteN (fun z => n2 (V.str.inj (dec_true z))) ?_⟩
      refine ⟨_, rfl, p, _, _, _, rfl, rfl, SqT.of e, at0, rfl, _, rfl, iteN (fun z => n1 (V.str.inj (dec_true z))) ?_⟩
      refine ⟨_, rfl, p, _, _, _, rfl, rfl, SqT.of e, at0, _, rfl, p, _, _, _, rfl, rfl, SqT.of e, rfl, _, rfl, l, x, d, kvs, g, rfl, d1, hx, hD, nv, o1, og, fun v1 H1 s1 r1 => ?_⟩
      refine ⟨_, rfl, p, _, _, _, rfl, rfl, SqT.of (s1 _ _ e), rfl, _, rfl, r, y, d, kvs, g, rfl, d2, hy.mono s1, s1 _ _ hD, nv.mono s1, o2, og, fun v2 H2 s2 r2 => ?_⟩
      exact ⟨s, pt g l, pt g r, v1, v2, rfl, ⟨n1, n2⟩, r1.mono s2, r2, okl_pt og o1, okl_pt og o2, fun v3 H3 s3 r3 => q _ _ ((s1.trans s2).trans s3) r3⟩
end
end K42

set_option Elab.async false
set_option linter.all false
set_option maxRecDepth 100000
set_option maxHeartbeats 4000000
namespace K42
open PySem L2 K21 Rk2 Bg
section
variable {P : Program} {w : World} {K : PySem.W.Frag} {mg : Str → Option Value} {base : Heap} {t : Adr}
local macro_rules | `(tactic| walk_at "rd1") => `(tactic| first
  | refine ⟨_, rfl, ?_⟩
  | refine ⟨_, _, rfl, rfl, ?_⟩
  | refine ⟨rfl, ?_⟩
  | refine ⟨(show (0 : Int) < _ by decide), ?_⟩
  | refine ⟨⟨by decide, by decide⟩, ?_⟩
  | refine ⟨.inl ⟨by decide, by decide⟩, ?_⟩
  | refine ⟨.inr ⟨by decide, by decide⟩, ?_⟩
  | refine ⟨⟨by decide, by decide, by decide⟩, ?_⟩)
local macro_rules | `(tactic| walk_at "rd") => `(tactic| repeat walk_at "rd1")
theorem sc_boxes_of : FnScope ["one"] ["one"] (defScope s_boxes_of) := ⟨rfl, rfl, rfl, by decide +kernel, rfl, by decide +kernel, by decide +kernel⟩
theorem ok_boxes_of (T : Txt K mg t) : ∀ n, FnOk P w K mg base CX0 (n + 2) t.a_boxes_of t.d_boxes_of ["one"] (sp_boxes_of K n)
| 0 => T.boxes_of.F.ok sc_boxes_of (fun vs H Q E h => by obtain ⟨tr, v, rfl, hd, hn, hR, q⟩ := h; exact absurd hd (Nat.not_lt_zero _)) (fun cdv A outer s H vs Q E hr h => by obtain ⟨tr, v, rfl, hd, hn, hR, q⟩ := h; exact absurd hd (Nat.not_lt_zero _))
| n + 1 => by
  have G_is_leaf : FnOk P w K mg base CX0 1 t.a_is_leaf t.d_is_leaf ["one"] (sp_is_leaf K) := ok_is_leaf T
  have G_boxes_of : FnOk P w K mg base CX0 (n + 2) t.a_boxes_of t.d_boxes_of ["one"] (sp_boxes_of K n) := ok_boxes_of T n
  refine T.boxes_of.F.ok sc_boxes_of (fun vs H Q E h => ?_) (fun cdv A outer s H vs Q E hr h => ?_)
  · obtain ⟨tr, v, rfl, hd, hn, hR, q⟩ := h
    rfl
  · skip
    refine (let W0 : TS := _; have hW0 : PSs (cxOf CX0 P w K mg base ["one"] "boxes_of" (defScope s_boxes_of) t.a_boxes_of cdv A outer s H E).nox ((defBody s_boxes_of).drop 1) W0 := (@pss_one _ _ _ (@ps_ret _ _ _ _ (@pe_op _ _ _ _ _ _ _ _ op_cat (callD T.boxes_of G_boxes_of (hr.mono (by omega)) (@pa_cons _ _ _ _ _ (@pe_ix _ _ _ _ _ _ _ (show IxR _ (cIxT K) from ixC_tup) (pvC 0) pe_int (fun _ _ => rfl)) pa_nil (by rfl))) (callD T.boxes_of G_boxes_of (hr.mono (by omega)) (@pa_cons _ _ _ _ _ (@pe_ix _ _ _ _ _ _ _ (show IxR _ (cIxT K) from ixC_tup) (pvC 0) pe_int (fun _ _ => rfl)) pa_nil (by rfl)))))); ?_)
    refine (let W1 : TS := _; have hW1 : PSs (cxOf CX0 P w K mg base ["one"] "boxes_of" (defScope s_boxes_of) t.a_boxes_of cdv A outer s H E).nox (sB ((defBody s_boxes_of).getD 0 (.Pass ⟨0, 0, 0, 0⟩))) W1 := (@pss_one _ _ _ (@ps_ret _ _ _ _ (@pe_ifExp _ _ _ _ _ _ _ _ (@ptC_cmpR _ _ _ _ _ _ _ _ op_eq (@pe_ix _ _ _ _ _ _ _ (show IxR _ (cIxT K) from ixC_tup) (pvC 0) pe_int (fun _ _ => rfl)) pe_str (nomark _)) (@pe_lst _ _ _ _ (@pa_cons _ _ _ _ _ (@pe_ix _ _ _ _ _ _ _ (show IxR _ (cIxT K) from ixC_tup) (pvC 0) pe_int (fun _ _ => rfl)) pa_nil (by rfl))) (@pe_lst _ _ _ _ pa_nil)))); ?_)
    obtain ⟨tr, v, rfl, hd, hn, hR, q⟩ := h
    refine ⟨_, (@pss_cons _ _ _ _ _ (@ps_if _ _ _ _ _ _ _ _ (ptC_val (callD T.is_leaf G_is_leaf (hr.mono (by omega)) (@pa_cons _ _ _ _ _ (pvC 0) pa_nil (by rfl)))) hW1 pss_nil) hW0), ?_⟩
    refine ⟨_, rfl, tr, v, rfl, hR, fun H1 s1 => ⟨_, rfl, ?_⟩⟩
    cases tr with
    | box k =>
      obtain ⟨p, rfl, hT⟩ := hR
      refine iteP rfl ⟨_, rfl, p, _, _, _, rfl, rfl, SqT.of (s1 _ _ hT), at0, rfl, _, rfl, iteP (decide_eq_true rfl) ?_⟩
      exact ⟨_, rfl, p, _, _, _, rfl, rfl, SqT.of (s1 _ _ hT), rfl, le1, fun l hl => q l _ (s1.trans (Same.new hl)) (s1.free hl) upd_same⟩
    | num k =>
      obtain ⟨p, rfl, hT⟩ := hR
      refine iteP rfl ⟨_, rfl, p, _, _, _, rfl, rfl, SqT.of (s1 _ _ hT), at0, rfl, _, rfl, iteN (fun z => num_box (V.str.inj (dec_true z))) ?_⟩
      exact ⟨le0, fun l hl => q l _ (s1.trans (Same.new hl)) (s1.free hl) upd_same⟩
    | op s l r =>
      refine iteN Bool.false_ne_true ?_
      obtain ⟨p, x, y, rfl, hT, n1, n2, hx, hy⟩ := hR
      have d1 : dp l < n := by have : max (dp l) (dp r) + 1 < n + 1 := hd; omega
      have d2 : dp r < n := by have : max (dp l) (dp r) + 1 < n + 1 := hd; omega
      have hn' : (lvs l ++ lvs r).length ≤ 1000 := hn
      rw [List.length_append] at hn'
      refine ⟨_, rfl, p, _, _, _, rfl, rfl, SqT.of (s1 _ _ hT), rfl, l, x, rfl, d1, by omega, hx.mono s1, fun l1 H2 s2 m2 e2 => ?_⟩
      have s12 := s1.trans s2
      refine ⟨_, rfl, p, _, _, _, rfl, rfl, SqT.of (s12 _ _ hT), rfl, r, y, rfl, d2, by omega, hy.mono s12, fun l2 H3 s3 m3 e3 => ?_⟩
      have b1 := bxs_len (lvs l)
      have b2 := bxs_len (lvs r)
      refine ⟨l1, l2, _, _, rfl, rfl, s3 _ _ e2, e3, lt_line (by rw [List.length_map, List.length_map]; omega), fun l hl => q l _ ((s12.trans s3).trans (Same.new hl)) ((s12.trans s3).free hl) ?_⟩
      rw [upd_same, ← List.map_append, ← bxs_app]
      rfl
end
end K42

set_option Elab.async false
set_option linter.all false
set_option maxRecDepth 100000
set_option maxHeartbeats 4000000
namespace K42
open PySem L2 K21 Rk2 Bg
section
variable {P : Program} {w : World} {K : PySem.W.Frag} {mg : Str → Option Value} {base : Heap} {t : Adr}
local macro_rules | `(tactic| walk_at "rd1") => `(tactic| first
  | refine ⟨_, rfl, ?_⟩
  | refine ⟨_, _, rfl, rfl, ?_⟩
  | refine ⟨rfl, ?_⟩
  | refine ⟨(show (0 : Int) < _ by decide), ?_⟩
  | refine ⟨⟨by decide, by decide⟩, ?_⟩
  | refine ⟨.inl ⟨by decide, by decide⟩, ?_⟩
  | refine ⟨.inr ⟨by decide, by decide⟩, ?_⟩
  | refine ⟨⟨by decide, by decide, by decide⟩, ?_⟩)
local macro_rules | `(tactic| walk_at "rd") => `(tactic| repeat walk_at "rd1")
theorem sc_at_begin : FnScope ["place", "count", "empty"] ["place", "count"] (defScope s_at_begin) := ⟨rfl, rfl, rfl, by decide +kernel, rfl, by decide +kernel, by decide +kernel⟩
theorem ok_at_begin (T : Txt K mg t) : FnOk P w K mg base CX0 15 t.a_at_begin t.d_at_begin ["place", "count"] (sp_at_begin K) := by
  have G_put_through : FnOk P w K mg base CX0 13 t.a_put_through t.d_put_through ["one", "news"] (sp_put_through K 10) := ok_put_through T 10
  have G_boxes_of : FnOk P w K mg base CX0 12 t.a_boxes_of t.d_boxes_of ["one"] (sp_boxes_of K 10) := ok_boxes_of T 10
  refine T.at_begin.F.ok sc_at_begin (fun vs H Q E h => ?_) (fun cdv A outer s H vs Q E hr h => ?_)
  · obtain ⟨tr, v, m, rfl, hR, ok, q⟩ := h
    rfl
  · skip
    refine (let W0 : TS := _; have hW0 : PSs (cxOf CX0 P w K mg base ["place", "count", "empty"] "at_begin" (defScope s_at_begin) t.a_at_begin cdv A outer s H E).nox ((defBody s_at_begin).drop 1) W0 := (@pss_one _ _ _ (@ps_ret _ _ _ _ (callD T.put_through G_put_through (hr.mono (by decide)) (@pa_cons _ _ _ _ _ (pvC 0) (@pa_cons _ _ _ _ _ (pe_callTy (call_dict_of rfl) (by rfl) T.b_dict bt_dict (@pa_cons _ _ _ _ _ (pe_comp (N' := ["box"]) (js := [none]) (by kernel_rfl) rfl (pi_list (pvC 2)) own_name (fun _ _ _ _ => (pg_name (i := 0) (show (["box"] : List Str).Nodup by decide +kernel) rfl (Or.inl rfl) (.inr rfl))) (fun _ _ _ _ => pif_nil) (fun _ _ _ _ => (@pe_tup _ _ _ _ _ (@pa_cons _ _ _ _ _ (pvC 0) (@pa_cons _ _ _ _ _ (@pe_tup _ _ _ _ _ (@pa_cons _ _ _ _ _ pe_str (@pa_cons _ _ _ _ _ pe_int pa_nil (by rfl)) (by rfl))) pa_nil (by rfl)) (by rfl))))) pa_nil (by rfl))) pa_nil (by rfl)) (by rfl))))); ?_)
    obtain ⟨tr, v, m, rfl, hR, ok, q⟩ := h
    refine ⟨_, (@pss_cons _ _ _ _ _ (ps_setc (i := 2) sc_at_begin.nd rfl (Or.inl rfl) (N' := ["box", "count"]) (js := [none, some 1]) (by kernel_rfl) rfl (pi_list (callD T.boxes_of G_boxes_of (hr.mono (by decide)) (@pa_cons _ _ _ _ _ (pvC 0) pa_nil (by rfl)))) own_name (fun _ _ _ _ => (pg_name (i := 0) (show (["box", "count"] : List Str).Nodup by decide +kernel) rfl (Or.inl rfl) (.inr rfl))) (fun _ _ _ _ => (pif_one (@ptC_cmpR _ _ _ _ _ _ _ _ (opC0 op_ge) (pvC 0) (pvC 1) (nomark _)))) (fun _ _ _ _ => (pvC 0)) (by rfl)) hW0), ?_⟩
    obtain ⟨ok1, ok2, ok3, ok4⟩ := ok
    have hl3 := lvs_len tr
    have hl4 : 2 ^ dp tr ≤ 2 ^ 8 := Nat.pow_le_pow_right (by decide) ok3
    have hl5 := bxs_len (lvs tr)
    refine ⟨_, rfl, tr, v, rfl, by omega, by omega, hR, fun l0 H1 s1 n1 e1 => ?_⟩
    refine ⟨l0, rfl, ⟨_, SqL.of e1⟩, fun p hp => comp_list (xs := (bxs (lvs tr)).map V.int) (by rw [List.length_map]; omega) (fun i acc H2 => acc = (((bxs (lvs tr)).take i).filter fun k => decide (m ≤ k)).map V.int ∧ H2 = upd H1 p (.lst acc)) ⟨rfl, rfl⟩ ?_ ?_ ?_⟩
    · rintro i acc H2 hi ⟨rfl, rfl⟩
      refine ⟨upd_same, ?_, (Same.new hp).seq (SqL.of e1)⟩
      rw [List.length_map]
      exact Nat.le_trans (List.length_filter_le _ _) (by rw [List.length_take]; omega)
    · rintro i x acc H2 hx ⟨rfl, rfl⟩
      obtain ⟨k, hi, hm, rfl⟩ := Gx.map_at hx
      refine ⟨_, rfl, _, rfl, _, _, rfl, rfl, _, rfl, ?_⟩
      rw [List.take_add_one, hi, List.filter_append, List.map_append]
      by_cases hk : m ≤ k
      · refine iteP (decide_eq_true hk) ⟨_, rfl, upd_same, ?_, upd_upd⟩
        show _ = _ ++ List.map V.int (List.filter (fun k => decide (m ≤ k)) [k])
        rw [List.filter_cons_of_pos (p := fun k => decide (m ≤ k)) (decide_eq_true hk)]
        rfl
      · refine iteN (by rw [decide_eq_true_eq]; exact hk) ⟨?_, rfl⟩
        show _ = _ ++ List.map V.int (List.filter (fun k => decide (m ≤ k)) [k])
        rw [List.filter_cons_of_neg (p := fun k => decide (m ≤ k)) (fun z => hk (of_decide_eq_true z))]
        exact (List.append_nil _).symm
    rintro acc H2 ⟨rfl, rfl⟩
    rw [List.length_map, List.take_length]
    have hE : (bxs (lvs tr)).filter (fun k => decide (m ≤ k)) = emp m tr := rfl
    rw [hE]
    have el : (emp m tr).length ≤ 256 := Nat.le_trans (List.length_filter_le _ _) (by omega)
    have s2 : Same H (upd H1 p (.lst ((emp m tr).map V.int))) := s1.trans (Same.new hp)
    generalize hH2 : upd H1 p (.lst ((emp m tr).map V.int)) = H2 at s2 ⊢
    have e2 : H2 p = some (.lst ((emp m tr).map V.int)) := by rw [← hH2]; exact upd_same
    refine ⟨_, rfl, _, rfl, p, rfl, ⟨_, SqL.of e2⟩, fun u hu => comp_list (xs := (emp m tr).map V.int) (by rw [List.length_map]; omega) (fun i acc H3 => Same H2 H3 ∧ H3 u = some (.lst acc) ∧ ∃ (ps : List Addr) (kvs : List (Key × V)), acc = ps.map V.ref ∧ ps.length ≤ i ∧ Paired (fun a (kv : Key × V) => SqT K H3 a [kV kv.1, kv.2]) ps kvs ∧ kvs.map (·.1) = ((emp m tr).take i).map (fun k => (Sum.inl k : Key)) ∧ ∀ kv ∈ kvs, RAt H3 (.num 0) kv.2) ⟨Same.new hu, upd_same, [], [], rfl, Nat.le_refl _, .nil, rfl, fun kv h => by cases h⟩ ?_ ?_ ?_⟩
    · rintro i acc H3 hi ⟨s3, e3, ps, kvs, rfl, pl, _⟩
      exact ⟨e3, by rw [List.length_map]; exact pl, s3.seq (SqL.of e2)⟩
    · rintro i x acc H3 hx ⟨s3, e3, ps, kvs, rfl, pl, hps, hks, hvs⟩
      obtain ⟨k, hi, hm, rfl⟩ := Gx.map_at hx
      refine ⟨_, rfl, le2, fun a1 h1 => ⟨le2, fun a2 h2 => ?_⟩⟩
      have sa := (Same.new (o := .tup [V.str "num", .int 0]) h1).trans (Same.new (o := .tup [V.int k, .ref a1]) h2)
      have e4 := sa _ _ e3
      refine ⟨e4, (s3.trans sa).upd hu, upd_same, ps ++ [a2], kvs ++ [(Sum.inl k, .ref a1)], (by rw [List.map_append]; rfl), (by rw [List.length_append]; simpa using pl), ?_, ?_, ?_⟩
      · refine Paired.snoc (Paired.mapP hps fun b kv z => K12.sqT_lst (sa.tup z) e4) ?_
        exact K12.sqT_lst (SqT.of upd_same) e4
      · rw [List.map_append, hks, List.take_add_one, hi, List.map_append]
        rfl
      · intro kv hkv
        rcases List.mem_append.mp hkv with hkv | hkv
        · exact RAt.lst e4 ((hvs kv hkv).mono sa)
        · cases List.mem_singleton.mp hkv
          exact RAt.lst e4 ⟨a1, rfl, Same.new h2 _ _ upd_same⟩
    rintro acc H3 ⟨s3, e3, ps, kvs, rfl, pl, hps, hks, hvs⟩
    rw [List.length_map] at pl hks
    rw [List.take_length] at hks
    have kl : kvs.length = (emp m tr).length := by have := congrArg List.length hks; rwa [List.length_map, List.length_map] at this
    refine ⟨u, ps, kvs, rfl, SqL.of e3, hps, by omega, fun d hd => ?_⟩
    have s4 := (s2.trans s3).trans (Same.new (o := .dK (kvs.foldl (fun acc kv => putK acc kv.1 kv.2) [])) hd)
    have nv := nv_fold (H := H3) (emp m tr) kvs [] [] hks hvs (NV.of (fun _ _ => rfl) fun k t z => by rw [if_neg (fun z => by cases z)] at z; cases z)
    exact ⟨tr, v, d, _, gE m tr, rfl, by omega, hR.mono s4, upd_same, nv.mono (Same.new hd), ok1, gE_ok, fun v' H' s' r' => q v' H' (s4.trans s') (by rw [← pt_begin fun k hk => (ok4 k hk).2]; exact r')⟩
end
end K42

set_option Elab.async false
set_option linter.all false
set_option maxRecDepth 100000
set_option maxHeartbeats 4000000
namespace K42
open PySem L2 K21 Rk2 Bg
section
variable {P : Program} {w : World} {K : PySem.W.Frag} {mg : Str → Option Value} {base : Heap} {t : Adr}
local macro_rules | `(tactic| walk_at "rd1") => `(tactic| first
  | refine ⟨_, rfl, ?_⟩
  | refine ⟨_, _, rfl, rfl, ?_⟩
  | refine ⟨rfl, ?_⟩
  | refine ⟨(show (0 : Int) < _ by decide), ?_⟩
  | refine ⟨⟨by decide, by decide⟩, ?_⟩
  | refine ⟨.inl ⟨by decide, by decide⟩, ?_⟩
  | refine ⟨.inr ⟨by decide, by decide⟩, ?_⟩
  | refine ⟨⟨by decide, by decide, by decide⟩, ?_⟩)
local macro_rules | `(tactic| walk_at "rd") => `(tactic| repeat walk_at "rd1")
theorem sc_is_begin : FnScope ["flows", "name", "spots", "marks", "chain", "views", "count", "k", "place", "begun"] ["flows", "name", "spots", "marks"] (defScope s_is_begin) := ⟨rfl, rfl, rfl, by decide +kernel, rfl, by decide +kernel, by decide +kernel⟩
theorem ok_is_begin (T : Txt K mg t) : FnOk P w K mg base CX0 16 t.a_is_begin t.d_is_begin ["flows", "name", "spots", "marks"] (sp_is_begin K t) := by
  have G_at_begin : FnOk P w K mg base CX0 15 t.a_at_begin t.d_at_begin ["place", "count"] (sp_at_begin K) := ok_at_begin T
  refine T.is_begin.F.ok sc_is_begin (fun vs H Q E h => ?_) (fun cdv A outer s H vs Q E hr h => ?_)
  · obtain ⟨x, sA, mA, fns, f, kd, fr, view, rfl, hF, hf, hnm, hB, q⟩ := h
    rfl
  · skip
    refine (let W0 : TS := _; have hW0 : PSs (cxOf CX0 P w K mg base ["flows", "name", "spots", "marks", "chain", "views", "count", "k", "place", "begun"] "is_begin" (defScope s_is_begin) t.a_is_begin cdv A outer s H E).nox ((sB (((((defBody s_is_begin).drop 1).drop 1).drop 1).getD 0 (.Pass ⟨0, 0, 0, 0⟩))).drop 1) W0 := (@pss_one _ _ _ (@ps_if _ _ _ _ _ _ _ _ (@PW.pt _ _ _ (@pw_and _ _ _ _ _ _ _ (pt_cmp (pc_notN (pvC 8))) (@pw_and1 _ _ _ _ (@ptC_cmpR _ _ _ _ _ _ _ _ (op_neD hr.units) (callD T.at_begin G_at_begin (hr.mono (by decide)) (@pa_cons _ _ _ _ _ (pvC 8) (@pa_cons _ _ _ _ _ (pvC 6) pa_nil (by rfl)) (by rfl))) (pvC 9) (nomark _))))) (@pss_one _ _ _ (@ps_ret _ _ _ _ pe_bl)) pss_nil)); ?_)
    refine (let W1 : TS := _; have hW1 : PSs (cxOf CX0 P w K mg base ["flows", "name", "spots", "marks", "chain", "views", "count", "k", "place", "begun"] "is_begin" (defScope s_is_begin) t.a_is_begin cdv A outer s H E).nox (sB (((((defBody s_is_begin).drop 1).drop 1).drop 1).getD 0 (.Pass ⟨0, 0, 0, 0⟩))) W1 := (@pss_cons _ _ _ _ _ (@ps_set _ _ 9 _ _ _ _ sc_is_begin.nd rfl (Or.inl rfl) (@pe_ifExp _ _ _ _ _ _ _ _ (@ptC_cmpR _ _ _ _ _ _ _ _ (opC0 op_lt) (pvC 7) (pvC 6) (nomark _)) (@pe_tup _ _ _ _ _ (@pa_cons _ _ _ _ _ pe_str (@pa_cons _ _ _ _ _ (pvC 7) pa_nil (by rfl)) (by rfl))) (@pe_tup _ _ _ _ _ (@pa_cons _ _ _ _ _ pe_str (@pa_cons _ _ _ _ _ pe_int pa_nil (by rfl)) (by rfl)))) (by rfl) (by first | exact .inl rfl | exact .inr rfl | assumption)) hW0); ?_)
    refine (let W2 : TS := _; have hW2 : PSs (cxOf CX0 P w K mg base ["flows", "name", "spots", "marks", "chain", "views", "count", "k", "place", "begun"] "is_begin" (defScope s_is_begin) t.a_is_begin cdv A outer s H E).nox ((((defBody s_is_begin).drop 1).drop 1).drop 1) W2 := (@pss_cons _ _ _ _ _ (ps_for PassesOwn.never rfl (pi_enumL rfl T.b_enumerate (@pa_cons _ _ _ _ _ (@pe_ix _ _ _ _ _ _ _ (show IxR _ (cIxL K) from ixC_list) (pvC 5) pe_int (fun _ _ => rfl)) pa_nil (by rfl))) (pg_tup rfl (pgs_cons (pg_name (i := 7) sc_is_begin.nd rfl (Or.inl rfl)) (pgs_cons (pg_name (i := 8) sc_is_begin.nd rfl (Or.inl rfl)) pgs_nil))) hW1) (@pss_one _ _ _ (@ps_ret _ _ _ _ pe_bl))); ?_)
    refine (let W3 : TS := _; have hW3 : PSs (cxOf CX0 P w K mg base ["flows", "name", "spots", "marks", "chain", "views", "count", "k", "place", "begun"] "is_begin" (defScope s_is_begin) t.a_is_begin cdv A outer s H E).nox (((defBody s_is_begin).drop 1).drop 1) W3 := (@pss_cons _ _ _ _ _ (@ps_set _ _ 6 _ _ _ _ sc_is_begin.nd rfl (Or.inl rfl) (pe_callB (show CallR _ (.builtin "len") (cLen K) from callC_len) (by rfl) T.b_len bt_len (@pa_cons _ _ _ _ _ (pe_dget (u1' hr.units) (pe_fld (pvC 0) (by rfl)) (pvC 1) (fun _ _ => rfl)) pa_nil (by rfl))) (by rfl) (by first | exact .inl rfl | exact .inr rfl | assumption)) hW2); ?_)
    refine (let W4 : TS := _; have hW4 : PSs (cxOf CX0 P w K mg base ["flows", "name", "spots", "marks", "chain", "views", "count", "k", "place", "begun"] "is_begin" (defScope s_is_begin) t.a_is_begin cdv A outer s H E).nox ((defBody s_is_begin).drop 1) W4 := (@pss_cons _ _ _ _ _ (@ps_if _ _ _ _ _ _ _ _ (@PW.pt _ _ _ (pw_or (@ptC_cmpR _ _ _ _ _ _ _ _ op_eq (@pe_ix _ _ _ _ _ _ _ (show IxR _ (cIxT K) from ixC_tup) (@pe_ix _ _ _ _ _ _ _ (show IxR _ (cIxT K) from ixC_tup) (@pe_ix _ _ _ _ _ _ _ (show IxR _ (cIxL K) from ixC_list) (pvC 2) pe_int (fun _ _ => rfl)) pe_int (fun _ _ => rfl)) pe_int (fun _ _ => rfl)) pe_str (nomark _)) (pw_or1 (@ptC_cmpR _ _ _ _ _ _ _ _ (op_neD hr.units) (pvC 4) (@pe_tup _ _ _ _ _ (@pa_cons _ _ _ _ _ (@pe_tup _ _ _ _ _ (@pa_cons _ _ _ _ _ (pvC 1) (@pa_cons _ _ _ _ _ pe_int pa_nil (by rfl)) (by rfl))) pa_nil (by rfl))) (nomark _))))) (@pss_one _ _ _ (@ps_ret _ _ _ _ pe_bl)) pss_nil) hW3); ?_)
    obtain ⟨x, sA, mA, fns, f, kd, fr, view, rfl, hF, hf, hnm, hB, q⟩ := h
    refine ⟨_, (@pss_cons _ _ _ _ _ (ps_asg (@pe_ix _ _ _ _ _ _ _ (show IxR _ (cIxL K) from ixC_list) (pvC 3) pe_int (fun _ _ => rfl)) (pg_tup rfl (pgs_cons (pg_name (i := 4) sc_is_begin.nd rfl (Or.inl rfl)) (pgs_cons (pg_name (i := 5) sc_is_begin.nd rfl (Or.inl rfl)) pgs_nil)))) hW4), ?_⟩
    obtain ⟨s0, ac, m0, ca, va, v0, u0, sr, ar, mr, vr, us, h1, h2, h3, h4, h5, h6, h7, h8, h9, h10, h11⟩ := hB
    have pl : us.length = view.length := Ps.len h9
    refine ⟨_, rfl, mA, _, _, _, rfl, rfl, h4, at0, m0, _, rfl, h5, rfl, _, _, rfl, _, _, rfl, rfl, ?_⟩
    refine ⟨_, rfl, sA, _, _, _, rfl, rfl, h1, at0, s0, _, _, _, rfl, rfl, h2, rfl, ac, _, _, _, rfl, rfl, h3, at0, rfl, _, rfl, ?_⟩
    by_cases hw : kd = "wait"
    · exact iteP (decide_eq_true (congrArg V.str hw)) (iteT (q false H (Same.refl _) ⟨fun z => absurd z Bool.false_ne_true, fun z => absurd hw z.1⟩))
    refine iteN (fun z => hw (V.str.inj (dec_true z))) ?_
    refine ⟨_, rfl, _, rfl, le2, fun a1 k1 => ⟨le1, fun a2 k2 => ?_⟩⟩
    have s1 := (Same.new (o := .tup [V.str f.name, .int 0]) k1).trans (Same.new (o := .tup [.ref a1]) k2)
    have hc2 : ChAt K (upd (upd H a1 (.tup [V.str f.name, .int 0])) a2 (.tup [.ref a1])) a2 [⟨a1, f.name, 0⟩] := ⟨SqT.of upd_same, fun g hg => by
      cases List.mem_singleton.mp hg
      exact ⟨SqT.of (Same.new k2 _ _ upd_same), hnm⟩⟩
    refine ⟨chD fr, chD [⟨a1, f.name, 0⟩], (h6.mono s1).dat, hc2.dat, (h6.lay).shaped (by decide), (hc2.lay).shaped (by decide), _, rfl, ?_⟩
    rw [eqv_ch]
    by_cases hch : fr.map (fun f => (f.g, f.r)) = [(f.name, 0)]
    case neg => exact iteP (by rw [decide_eq_false hch]; rfl) (q false _ s1 ⟨fun z => absurd z Bool.false_ne_true, fun z => absurd z.2.1 hch⟩)
    refine iteN (by rw [decide_eq_true hch]; exact Bool.false_ne_true) ?_
    generalize upd (upd H a1 (.tup [V.str f.name, .int 0])) a2 (.tup [.ref a1]) = H1 at s1 ⊢
    have hF1 := hF.mono s1
    obtain ⟨dx, fz, d, kv, nl, wl, o0, o1, o2, o3, o4, o5, o6, o7, o8⟩ := hF1.ob
    obtain ⟨ix, hix⟩ := List.getElem?_of_mem hf
    have hd := o1.dc 2 (by decide)
    have hg := DGet.k (k := (Sum.inr f.name : Key)) hd
    rw [o4, F2.kD_at _ hF1.nd hix] at hg
    refine ⟨_, rfl, x, t.c_Flows, dx, _, _, rfl, o1.ob, T.cl_Flows.cl, T.n_Flows_params_of, Fl.lk_params _ _, _, rfl, _, _, rfl, hg, f.pa, _, rfl, .inr (hF1.all f hf).pr, ?_⟩
    have q : ∀ b H', Same H H' → (b = true ↔ Holds (kd = "wait") (fr.map fun f => (f.g, f.r)) f.name ((f.ps.map V.str).length : Nat) view) → Q (.bl b) H' := by rw [List.length_map]; exact q
    refine ⟨_, rfl, va, _, _, _, rfl, rfl, s1.seq h7, at0, v0, rfl, ⟨_, s1.seq h8⟩, for_enumL (xs := us) (fun i σ H2 => ∃ v7 v8 v9 : Option V, σ = [some (.ref x), some (.str f.name), some (.ref sA), some (.ref mA), some (.ref ca), some (.ref va), some (.int (f.ps.map V.str).length), v7, v8, v9] ∧ Same H1 H2 ∧ ∀ k tr, k < i → view[k]? = some (some tr) → pt (gN (f.ps.map V.str).length) tr = begun (f.ps.map V.str).length k) ⟨_, _, _, rfl, Same.refl _, fun k tr h => absurd h (Nat.not_lt_zero _)⟩ ?_ ?_ ?_⟩
    · rintro i σ H2 hi ⟨v7, v8, v9, rfl, s2, _⟩
      exact (s1.trans s2).seq h8
    · rintro i y σ H2 b hy ⟨v7, v8, v9, rfl, s2, hk⟩ hb
      have ilt : i < view.length := by have := (List.getElem?_eq_some_iff.mp hy).1; omega
      obtain ⟨u, o, e1, e2, hv⟩ := Ps.at h9 ilt
      rw [hy] at e1
      cases e1
      have s3 := s2.trans (Same.new (o := .tup [.int i, y]) hb)
      refine ⟨b, _, rfl, SqT.of upd_same, rfl, _, _, rfl, _, _, rfl, rfl, ?_⟩
      refine ⟨_, rfl, _, rfl, _, _, rfl, rfl, _, rfl, ?_⟩
      by_cases hi : (i : Int) < ((f.ps.map V.str).length : Nat)
      · refine iteP (decide_eq_true hi) ⟨_, rfl, le2, fun c hc0 => ?_⟩
        have s4 := s3.trans (Same.new (o := .tup [V.str "box", .int i]) hc0)
        have hc : RAt (upd (upd H2 b (.tup [.int i, y])) c (.tup [V.str "box", .int i])) (begun (f.ps.map V.str).length i) (.ref c) := by
          unfold begun
          rw [if_pos hi]
          exact ⟨c, rfl, upd_same⟩
        generalize upd (upd H2 b (.tup [.int i, y])) c (.tup [V.str "box", .int i]) = G at s4 hc ⊢
        have s04 := s1.trans s4
        have nx : ∀ (v9 : Option V) (H5 : Hp), Same H1 H5 → (∀ tr, o = some tr → pt (gN (f.ps.map V.str).length) tr = begun (f.ps.map V.str).length i) → ∀ k tr, k < i + 1 → view[k]? = some (some tr) → pt (gN (f.ps.map V.str).length) tr = begun (f.ps.map V.str).length k := fun v9 H5 _ ho k tr h hk2 => by
          by_cases ek : k = i
          · subst ek
            rw [e2] at hk2
            exact ho tr (Option.some.inj hk2)
          · exact hk k tr (by omega) hk2
        refine ⟨_, rfl, _, rfl, ?_⟩
        cases o with
        | none =>
          have hv : y = .non := hv
          subst hv
          exact iteF (iteF ⟨_, _, _, rfl, s4, nx none G s4 fun tr h => by cases h⟩)
        | some tr =>
          have hv : RAt H tr y := hv
          have tok := h11 tr (List.mem_of_getElem? e2)
          have hyn : y ≠ .non := by
            cases tr with
            | box k => obtain ⟨p, rfl, _⟩ := hv; intro z; cases z
            | num k => obtain ⟨p, rfl, _⟩ := hv; intro z; cases z
            | op s l r => obtain ⟨p, _, _, rfl, _⟩ := hv; intro z; cases z
          refine iteP (by simpa using hyn) ?_
          refine ⟨_, rfl, _, rfl, tr, y, _, rfl, hv.mono s04, tok, fun v' H5 s5 r5 => ⟨_, rfl, ?_⟩⟩
          have lay1 : Lay 9 (trD (pt (gN (f.ps.map V.str).length) tr)) := (trD_lay (sgOk_pt gN_sg tok.2.1)).mono (by have := dp_pt (g := gN (f.ps.map V.str).length) (m := 0) gN_dp tr; have := tok.2.2.1; omega)
          have lay2 : Lay 1 (trD (begun (f.ps.map V.str).length i)) := lay_begun _ _
          refine ⟨trD (pt (gN (f.ps.map V.str).length) tr), trD (begun (f.ps.map V.str).length i), datV_tr r5, datV_tr (hc.mono s5), lay1.shaped (by decide), lay2.shaped (by decide), _, rfl, ?_⟩
          have ee : PyData.eqv (trD (pt (gN (f.ps.map V.str).length) tr)) (trD (begun (f.ps.map V.str).length i)) = decide (pt (gN (f.ps.map V.str).length) tr = begun (f.ps.map V.str).length i) := eqv_begun _ _ _
          rw [ee]
          by_cases hh : pt (gN (f.ps.map V.str).length) tr = begun (f.ps.map V.str).length i
          · refine iteN (by rw [decide_eq_true hh]; exact Bool.false_ne_true) ?_
            exact ⟨_, _, _, rfl, s4.trans s5, nx none H5 (s4.trans s5) fun tr' h => by cases h; exact hh⟩
          · refine iteP (by rw [decide_eq_false hh]; rfl) (q false _ (s04.trans s5) ⟨fun z => absurd z Bool.false_ne_true, fun z => absurd (z.2.2 i tr e2) hh⟩)
      · refine iteN (by rw [decide_eq_true_eq]; exact hi) ⟨le2, fun c hc0 => ?_⟩
        have s4 := s3.trans (Same.new (o := .tup [V.str "num", .int 0]) hc0)
        have hc : RAt (upd (upd H2 b (.tup [.int i, y])) c (.tup [V.str "num", .int 0])) (begun (f.ps.map V.str).length i) (.ref c) := by
          unfold begun
          rw [if_neg hi]
          exact ⟨c, rfl, upd_same⟩
        generalize upd (upd H2 b (.tup [.int i, y])) c (.tup [V.str "num", .int 0]) = G at s4 hc ⊢
        have s04 := s1.trans s4
        have nx : ∀ (v9 : Option V) (H5 : Hp), Same H1 H5 → (∀ tr, o = some tr → pt (gN (f.ps.map V.str).length) tr = begun (f.ps.map V.str).length i) → ∀ k tr, k < i + 1 → view[k]? = some (some tr) → pt (gN (f.ps.map V.str).length) tr = begun (f.ps.map V.str).length k := fun v9 H5 _ ho k tr h hk2 => by
          by_cases ek : k = i
          · subst ek
            rw [e2] at hk2
            exact ho tr (Option.some.inj hk2)
          · exact hk k tr (by omega) hk2
        refine ⟨_, rfl, _, rfl, ?_⟩
        cases o with
        | none =>
          have hv : y = .non := hv
          subst hv
          exact iteF (iteF ⟨_, _, _, rfl, s4, nx none G s4 fun tr h => by cases h⟩)
        | some tr =>
          have hv : RAt H tr y := hv
          have tok := h11 tr (List.mem_of_getElem? e2)
          have hyn : y ≠ .non := by
            cases tr with
            | box k => obtain ⟨p, rfl, _⟩ := hv; intro z; cases z
            | num k => obtain ⟨p, rfl, _⟩ := hv; intro z; cases z
            | op s l r => obtain ⟨p, _, _, rfl, _⟩ := hv; intro z; cases z
          refine iteP (by simpa using hyn) ?_
          refine ⟨_, rfl, _, rfl, tr, y, _, rfl, hv.mono s04, tok, fun v' H5 s5 r5 => ⟨_, rfl, ?_⟩⟩
          have lay1 : Lay 9 (trD (pt (gN (f.ps.map V.str).length) tr)) := (trD_lay (sgOk_pt gN_sg tok.2.1)).mono (by have := dp_pt (g := gN (f.ps.map V.str).length) (m := 0) gN_dp tr; have := tok.2.2.1; omega)
          have lay2 : Lay 1 (trD (begun (f.ps.map V.str).length i)) := lay_begun _ _
          refine ⟨trD (pt (gN (f.ps.map V.str).length) tr), trD (begun (f.ps.map V.str).length i), datV_tr r5, datV_tr (hc.mono s5), lay1.shaped (by decide), lay2.shaped (by decide), _, rfl, ?_⟩
          have ee : PyData.eqv (trD (pt (gN (f.ps.map V.str).length) tr)) (trD (begun (f.ps.map V.str).length i)) = decide (pt (gN (f.ps.map V.str).length) tr = begun (f.ps.map V.str).length i) := eqv_begun _ _ _
          rw [ee]
          by_cases hh : pt (gN (f.ps.map V.str).length) tr = begun (f.ps.map V.str).length i
          · refine iteN (by rw [decide_eq_true hh]; exact Bool.false_ne_true) ?_
            exact ⟨_, _, _, rfl, s4.trans s5, nx none H5 (s4.trans s5) fun tr' h => by cases h; exact hh⟩
          · refine iteP (by rw [decide_eq_false hh]; rfl) (q false _ (s04.trans s5) ⟨fun z => absurd z Bool.false_ne_true, fun z => absurd (z.2.2 i tr e2) hh⟩)
    · rintro σ H2 ⟨v7, v8, v9, rfl, s2, hk⟩
      exact q true H2 (s1.trans s2) ⟨fun _ => ⟨hw, hch, fun k tr hv => hk k tr (by have := (List.getElem?_eq_some_iff.mp hv).1; omega) hv⟩, fun _ => rfl⟩
end
end K42

set_option Elab.async false
set_option linter.all false
set_option maxRecDepth 100000
set_option maxHeartbeats 4000000
namespace K42
open PySem L2 K21 Rk2 Bg
section
variable {P : Program} {w : World} {K : PySem.W.Frag} {mg : Str → Option Value} {base : Heap} {t : Adr}
local macro_rules | `(tactic| walk_at "rd1") => `(tactic| first
  | refine ⟨_, rfl, ?_⟩
  | refine ⟨_, _, rfl, rfl, ?_⟩
  | refine ⟨rfl, ?_⟩
  | refine ⟨(show (0 : Int) < _ by decide), ?_⟩
  | refine ⟨⟨by decide, by decide⟩, ?_⟩
  | refine ⟨.inl ⟨by decide, by decide⟩, ?_⟩
  | refine ⟨.inr ⟨by decide, by decide⟩, ?_⟩
  | refine ⟨⟨by decide, by decide, by decide⟩, ?_⟩)
local macro_rules | `(tactic| walk_at "rd") => `(tactic| repeat walk_at "rd1")
theorem sc_begin_holds : FnScope ["program", "name", "spots", "marks"] ["program", "name", "spots", "marks"] (defScope s_begin_holds) := ⟨rfl, rfl, rfl, by decide +kernel, rfl, by decide +kernel, by decide +kernel⟩
theorem ok_begin_holds (T : Txt K mg t) : FnOk P w K mg base CX0 17 t.a_begin_holds t.d_begin_holds ["program", "name", "spots", "marks"] (sp_begin_holds K t) := by
  have G_is_begin : FnOk P w K mg base CX0 16 t.a_is_begin t.d_is_begin ["flows", "name", "spots", "marks"] (sp_is_begin K t) := ok_is_begin T
  have G_Flows_init : FnOk P w K mg base CX0 4 t.a_Flows_init t.d_Flows_init ["self", "program"] (sp_Flows_init K t) := ok_Flows_init T
  refine T.begin_holds.F.ok sc_begin_holds (fun vs H Q E h => ?_) (fun cdv A outer s H vs Q E hr h => ?_)
  · obtain ⟨p, sA, mA, fns, f, kd, fr, view, rfl, hS, n12, hE, nd, hf, hnm, hB, q⟩ := h
    rfl
  · obtain ⟨p, sA, mA, fns, f, kd, fr, view, rfl, hS, n12, hE, nd, hf, hnm, hB, q⟩ := h
    refine ⟨_, (@pss_cons _ _ _ _ _ (@ps_ret _ _ _ _ (callD T.is_begin G_is_begin (hr.mono (by decide)) (@pa_cons _ _ _ _ _ (makeD T.cl_Flows T.Flows_init G_Flows_init (hr.mono (by decide)) (@pa_cons _ _ _ _ _ (pvC 0) pa_nil (by rfl))) (@pa_cons _ _ _ _ _ (pvC 1) (@pa_cons _ _ _ _ _ (pvC 2) (@pa_cons _ _ _ _ _ (pvC 3) pa_nil (by rfl)) (by rfl)) (by rfl)) (by rfl)))) pss_nil), ?_⟩
    refine ⟨_, rfl, fun x dx nx ndx nex => ?_⟩
    have s0 : Same H (upd (upd H dx (.own x)) x (.ins t.c_Flows dx [])) := fun b o e => by
      rw [upd_ne (ne_of_none e nx), upd_ne (ne_of_none e ndx)]
      exact e
    have s1' : Same H (ers x (upd (upd H dx (.own x)) x (.ins t.c_Flows dx []))) := fun b o e => by
      rw [ers_upd, ers_ne (ne_of_none e nx), upd_ne (ne_of_none e ndx)]
      exact e
    refine ⟨x, dx, p, fns, rfl, upd_same, s1'.seq hS, List.ne_nil_of_mem hf, n12, fun f hf => (hE f hf).mono s1', nd, fun H1 s1 hF => ⟨rfl, ?_⟩⟩
    have s01 : Same H H1 := fun b o e => s1 b o (by rw [ers_ne (ne_of_none e nx)]; exact s0 b o e)
    exact ⟨_, rfl, _, rfl, _, rfl, x, sA, mA, fns, f, kd, fr, view, rfl, hF, hf, hnm, hB.mono s01, fun b H2 s2 hb => q b H2 (s01.trans s2) hb⟩
end
end K42

set_option Elab.async false
set_option linter.all false
set_option maxRecDepth 100000
set_option maxHeartbeats 4000000
namespace K42
open PySem L2 Gx Fl Bg
section
variable {P : Program} {w : World} {K : PySem.W.Frag} {mg : Str → Option Value} {base : Heap} {t : Adr}
local macro_rules | `(tactic| walk_at "rd1") => `(tactic| first
  | refine ⟨_, rfl, ?_⟩
  | refine ⟨_, _, rfl, rfl, ?_⟩
  | refine ⟨rfl, ?_⟩
  | refine ⟨(show (0 : Int) < _ by decide), ?_⟩
  | refine ⟨⟨by decide, by decide⟩, ?_⟩
  | refine ⟨.inl ⟨by decide, by decide⟩, ?_⟩
  | refine ⟨.inr ⟨by decide, by decide⟩, ?_⟩
  | refine ⟨⟨by decide, by decide, by decide⟩, ?_⟩)
local macro_rules | `(tactic| walk_at "rd") => `(tactic| repeat walk_at "rd1")
theorem sc_l_cell_at : FnScope ["_law_script", "_law_k"] ["_law_script", "_law_k"] (defScope s_l_cell_at) := ⟨rfl, rfl, rfl, by decide +kernel, rfl, by decide +kernel, by decide +kernel⟩
theorem ok_l_cell_at (T : Txt K mg t) : FnOk P w K mg base CX0 1 t.a_l_cell_at t.d_l_cell_at ["_law_script", "_law_k"] (sp_l_cell_at K) := by
  refine T.l_cell_at.F.ok sc_l_cell_at (fun vs H Q E h => ?_) (fun cdv A outer s H vs Q E hr h => ?_)
  · obtain ⟨a, ns, k, rfl, hS, hl, h0, q⟩ := h
    rfl
  · obtain ⟨a, ns, k, rfl, hS, hl, h0, q⟩ := h
    refine ⟨_, (@pss_cons _ _ _ _ _ (@ps_if _ _ _ _ _ _ _ _ (@ptC_cmpR _ _ _ _ _ _ _ _ (opC0 op_lt) (pvC 1) (pe_callB (show CallR _ (.builtin "len") (cLen K) from callC_len) (by rfl) T.b_len bt_len (@pa_cons _ _ _ _ _ (pvC 0) pa_nil (by rfl))) (nomark _)) (@pss_one _ _ _ (@ps_ret _ _ _ _ (@pe_ix _ _ _ _ _ _ _ (show IxR _ (cIxL K) from ixC_list) (pvC 0) (pvC 1) (fun _ _ => rfl)))) pss_nil) (@pss_one _ _ _ (@ps_ret _ _ _ _ pe_int))), ?_⟩
    have hlen : (ns.map V.int).length = ns.length := List.length_map _
    refine ⟨_, rfl, _, rfl, a, _, rfl, .inl hS, _, _, rfl, rfl, _, rfl, ?_⟩
    refine ite2 (fun c => ?_) (fun c => ?_)
    · have c := dec_true c
      rw [hlen] at c
      obtain ⟨z, hz⟩ := at_ints h0 c
      exact ⟨_, rfl, _, rfl, a, _, _, _, rfl, rfl, hS, hz, q _⟩
    · exact q _
end
end K42

set_option Elab.async false
set_option linter.all false
set_option maxRecDepth 100000
set_option maxHeartbeats 4000000
namespace K42
open PySem L2 K21 Rk2
section
variable {P : Program} {w : World} {K : PySem.W.Frag} {mg : Str → Option Value} {base : Heap} {t : Adr}
local macro_rules | `(tactic| walk_at "rd1") => `(tactic| first
  | refine ⟨_, rfl, ?_⟩
  | refine ⟨_, _, rfl, rfl, ?_⟩
  | refine ⟨rfl, ?_⟩
  | refine ⟨(show (0 : Int) < _ by decide), ?_⟩
  | refine ⟨⟨by decide, by decide⟩, ?_⟩
  | refine ⟨.inl ⟨by decide, by decide⟩, ?_⟩
  | refine ⟨.inr ⟨by decide, by decide⟩, ?_⟩
  | refine ⟨⟨by decide, by decide, by decide⟩, ?_⟩)
local macro_rules | `(tactic| walk_at "rd") => `(tactic| repeat walk_at "rd1")
theorem sc_l_value : FnScope ["_law_sign", "_law_one", "_law_other"] ["_law_sign", "_law_one", "_law_other"] (defScope s_l_value) := ⟨rfl, rfl, rfl, by decide +kernel, rfl, by decide +kernel, by decide +kernel⟩
theorem ok_l_value (T : Txt K mg t) : FnOk P w K mg base CX0 1 t.a_l_value t.d_l_value ["_law_sign", "_law_one", "_law_other"] (sp_l_value K) := by
  refine T.l_value.F.ok sc_l_value (fun vs H Q E h => ?_) (fun cdv A outer s H vs Q E hr h => ?_)
  · obtain ⟨s, a, b, rfl, h1, h2, h3, h4, q⟩ := h
    rfl
  · skip
    refine (let W0 : TS := _; have hW0 : PSs (cxOf CX0 P w K mg base ["_law_sign", "_law_one", "_law_other"] "_law_value" (defScope s_l_value) t.a_l_value cdv A outer s H E).nox ((((((((defBody s_l_value).drop 1).drop 1).drop 1).drop 1).drop 1).drop 1).drop 1) W0 := (@pss_cons _ _ _ _ _ (@ps_if _ _ _ _ _ _ _ _ (@ptC_cmpR _ _ _ _ _ _ _ _ op_eq (pvC 0) pe_str (nomark _)) (@pss_one _ _ _ (@ps_ret _ _ _ _ (@pe_op _ _ _ _ _ _ _ _ (opC0 op_or) (pvC 1) (pvC 2)))) pss_nil) (@pss_one _ _ _ (@ps_ret _ _ _ _ (@pe_op _ _ _ _ _ _ _ _ (opC0 op_xor) (pvC 1) (pvC 2))))); ?_)
    refine (let W1 : TS := _; have hW1 : PSs (cxOf CX0 P w K mg base ["_law_sign", "_law_one", "_law_other"] "_law_value" (defScope s_l_value) t.a_l_value cdv A outer s H E).nox (((((((defBody s_l_value).drop 1).drop 1).drop 1).drop 1).drop 1).drop 1) W1 := (@pss_cons _ _ _ _ _ (@ps_if _ _ _ _ _ _ _ _ (@ptC_cmpR _ _ _ _ _ _ _ _ op_eq (pvC 0) pe_str (nomark _)) (@pss_one _ _ _ (@ps_ret _ _ _ _ (@pe_op _ _ _ _ _ _ _ _ (opC0 op_and) (pvC 1) (pvC 2)))) pss_nil) hW0); ?_)
    refine (let W2 : TS := _; have hW2 : PSs (cxOf CX0 P w K mg base ["_law_sign", "_law_one", "_law_other"] "_law_value" (defScope s_l_value) t.a_l_value cdv A outer s H E).nox (sB (((((((defBody s_l_value).drop 1).drop 1).drop 1).drop 1).drop 1).getD 0 (.Pass ⟨0, 0, 0, 0⟩))) W2 := (@pss_one _ _ _ (@ps_ret _ _ _ _ (pe_callTy call_int1 (by rfl) T.b_int bt_int (@pa_cons _ _ _ _ _ (pe_cmpR op_eq (pvC 1) (pvC 2) (nomark _)) pa_nil (by rfl))))); ?_)
    refine (let W3 : TS := _; have hW3 : PSs (cxOf CX0 P w K mg base ["_law_sign", "_law_one", "_law_other"] "_law_value" (defScope s_l_value) t.a_l_value cdv A outer s H E).nox ((((((defBody s_l_value).drop 1).drop 1).drop 1).drop 1).drop 1) W3 := (@pss_cons _ _ _ _ _ (@ps_if _ _ _ _ _ _ _ _ (@ptC_cmpR _ _ _ _ _ _ _ _ op_eq (pvC 0) pe_str (nomark _)) hW2 pss_nil) hW1); ?_)
    refine (let W4 : TS := _; have hW4 : PSs (cxOf CX0 P w K mg base ["_law_sign", "_law_one", "_law_other"] "_law_value" (defScope s_l_value) t.a_l_value cdv A outer s H E).nox (sB ((((((defBody s_l_value).drop 1).drop 1).drop 1).drop 1).getD 0 (.Pass ⟨0, 0, 0, 0⟩))) W4 := (@pss_one _ _ _ (@ps_ret _ _ _ _ (pe_callTy call_int1 (by rfl) T.b_int bt_int (@pa_cons _ _ _ _ _ (pe_cmpR (opC0 op_lt) (pvC 1) (pvC 2) (nomark _)) pa_nil (by rfl))))); ?_)
    refine (let W5 : TS := _; have hW5 : PSs (cxOf CX0 P w K mg base ["_law_sign", "_law_one", "_law_other"] "_law_value" (defScope s_l_value) t.a_l_value cdv A outer s H E).nox (((((defBody s_l_value).drop 1).drop 1).drop 1).drop 1) W5 := (@pss_cons _ _ _ _ _ (@ps_if _ _ _ _ _ _ _ _ (@ptC_cmpR _ _ _ _ _ _ _ _ op_eq (pvC 0) pe_str (nomark _)) hW4 pss_nil) hW3); ?_)
    refine (let W6 : TS := _; have hW6 : PSs (cxOf CX0 P w K mg base ["_law_sign", "_law_one", "_law_other"] "_law_value" (defScope s_l_value) t.a_l_value cdv A outer s H E).nox (sB (((((defBody s_l_value).drop 1).drop 1).drop 1).getD 0 (.Pass ⟨0, 0, 0, 0⟩))) W6 := (@pss_cons _ _ _ _ _ (@ps_if _ _ _ _ _ _ _ _ (@ptC_cmpR _ _ _ _ _ _ _ _ op_eq (pvC 2) pe_int (nomark _)) (@pss_one _ _ _ (@ps_ret _ _ _ _ pe_int)) pss_nil) (@pss_one _ _ _ (@ps_ret _ _ _ _ (@pe_op _ _ _ _ _ _ _ _ (opC1 op_fdivB) (pvC 1) (pvC 2))))); ?_)
    refine (let W7 : TS := _; have hW7 : PSs (cxOf CX0 P w K mg base ["_law_sign", "_law_one", "_law_other"] "_law_value" (defScope s_l_value) t.a_l_value cdv A outer s H E).nox ((((defBody s_l_value).drop 1).drop 1).drop 1) W7 := (@pss_cons _ _ _ _ _ (@ps_if _ _ _ _ _ _ _ _ (@ptC_cmpR _ _ _ _ _ _ _ _ op_eq (pvC 0) pe_str (nomark _)) hW6 pss_nil) hW5); ?_)
    refine (let W8 : TS := _; have hW8 : PSs (cxOf CX0 P w K mg base ["_law_sign", "_law_one", "_law_other"] "_law_value" (defScope s_l_value) t.a_l_value cdv A outer s H E).nox (sB ((((defBody s_l_value).drop 1).drop 1).getD 0 (.Pass ⟨0, 0, 0, 0⟩))) W8 := (@pss_one _ _ _ (@ps_ret _ _ _ _ (@pe_op _ _ _ _ _ _ _ _ (opC1 op_mod) (@pe_op _ _ _ _ _ _ _ _ (opC1 op_mul) (pvC 1) (pvC 2)) (@pe_op _ _ _ _ _ _ _ _ (opC1 op_pow) pe_int pe_int)))); ?_)
    refine (let W9 : TS := _; have hW9 : PSs (cxOf CX0 P w K mg base ["_law_sign", "_law_one", "_law_other"] "_law_value" (defScope s_l_value) t.a_l_value cdv A outer s H E).nox (((defBody s_l_value).drop 1).drop 1) W9 := (@pss_cons _ _ _ _ _ (@ps_if _ _ _ _ _ _ _ _ (@ptC_cmpR _ _ _ _ _ _ _ _ op_eq (pvC 0) pe_str (nomark _)) hW8 pss_nil) hW7); ?_)
    refine (let W10 : TS := _; have hW10 : PSs (cxOf CX0 P w K mg base ["_law_sign", "_law_one", "_law_other"] "_law_value" (defScope s_l_value) t.a_l_value cdv A outer s H E).nox (sB (((defBody s_l_value).drop 1).getD 0 (.Pass ⟨0, 0, 0, 0⟩))) W10 := (@pss_one _ _ _ (@ps_ret _ _ _ _ (@pe_op _ _ _ _ _ _ _ _ (opC1 op_mod) (@pe_op _ _ _ _ _ _ _ _ (opC0 op_sub) (pvC 1) (pvC 2)) (@pe_op _ _ _ _ _ _ _ _ (opC1 op_pow) pe_int pe_int)))); ?_)
    refine (let W11 : TS := _; have hW11 : PSs (cxOf CX0 P w K mg base ["_law_sign", "_law_one", "_law_other"] "_law_value" (defScope s_l_value) t.a_l_value cdv A outer s H E).nox ((defBody s_l_value).drop 1) W11 := (@pss_cons _ _ _ _ _ (@ps_if _ _ _ _ _ _ _ _ (@ptC_cmpR _ _ _ _ _ _ _ _ op_eq (pvC 0) pe_str (nomark _)) hW10 pss_nil) hW9); ?_)
    refine (let W12 : TS := _; have hW12 : PSs (cxOf CX0 P w K mg base ["_law_sign", "_law_one", "_law_other"] "_law_value" (defScope s_l_value) t.a_l_value cdv A outer s H E).nox (sB ((defBody s_l_value).getD 0 (.Pass ⟨0, 0, 0, 0⟩))) W12 := (@pss_one _ _ _ (@ps_ret _ _ _ _ (@pe_op _ _ _ _ _ _ _ _ (opC1 op_mod) (@pe_op _ _ _ _ _ _ _ _ (opC0 op_add) (pvC 1) (pvC 2)) (@pe_op _ _ _ _ _ _ _ _ (opC1 op_pow) pe_int pe_int)))); ?_)
    obtain ⟨s, a, b, rfl, h1, h2, h3, h4, q⟩ := h
    refine ⟨_, (@pss_cons _ _ _ _ _ (@ps_if _ _ _ _ _ _ _ _ (@ptC_cmpR _ _ _ _ _ _ _ _ op_eq (pvC 0) pe_str (nomark _)) hW12 pss_nil) hW11), ?_⟩
    have hw : wide = 281474976710656 := rfl
    refine ⟨_, rfl, rfl, _, rfl, ?_⟩
    by_cases k1 : s = "+"
    · refine iteP (decide_eq_true (congrArg V.str k1)) ?_
      have e : valOf s a b = (a + b) % wide := by unfold valOf; rw [if_pos k1]
      rw [e] at q
      exact ⟨_, rfl, _, rfl, _, _, rfl, rfl, _, _, rfl, rfl, ⟨by decide, by decide, by decide⟩, _, _, rfl, rfl, pos48, vq (congrArg V.int (congrArg (fun z => (a + b) % z) pw48)) q⟩
    refine iteN (fun z => k1 (V.str.inj (dec_true z))) ?_
    refine ⟨_, rfl, rfl, _, rfl, ?_⟩
    by_cases k2 : s = "-"
    · refine iteP (decide_eq_true (congrArg V.str k2)) ?_
      have e : valOf s a b = (a - b) % wide := by unfold valOf; rw [if_neg k1, if_pos k2]
      rw [e] at q
      exact ⟨_, rfl, _, rfl, _, _, rfl, rfl, _, _, rfl, rfl, ⟨by decide, by decide, by decide⟩, _, _, rfl, rfl, pos48, vq (congrArg V.int (congrArg (fun z => (a - b) % z) pw48)) q⟩
    refine iteN (fun z => k2 (V.str.inj (dec_true z))) ?_
    refine ⟨_, rfl, rfl, _, rfl, ?_⟩
    by_cases k3 : s = "*"
    · refine iteP (decide_eq_true (congrArg V.str k3)) ?_
      have e : valOf s a b = (a * b) % wide := by unfold valOf; rw [if_neg k1, if_neg k2, if_pos k3]
      rw [e] at q
      exact ⟨_, rfl, _, rfl, _, _, rfl, rfl, .inl ⟨by omega, by omega⟩, _, _, rfl, rfl, ⟨by decide, by decide, by decide⟩, _, _, rfl, rfl, pos48, vq (congrArg V.int (congrArg (fun z => (a * b) % z) pw48)) q⟩
    refine iteN (fun z => k3 (V.str.inj (dec_true z))) ?_
    refine ⟨_, rfl, rfl, _, rfl, ?_⟩
    by_cases k4 : s = "/"
    · refine iteP (decide_eq_true (congrArg V.str k4)) ?_
      have e : valOf s a b = if b = 0 then 0 else a / b := by unfold valOf; rw [if_neg k1, if_neg k2, if_neg k3, if_pos k4]
      rw [e] at q
      refine ⟨_, rfl, rfl, _, rfl, ?_⟩
      by_cases hb : b = 0
      · rw [if_pos hb] at q
        exact iteP (decide_eq_true (congrArg V.int hb)) q
      · rw [if_neg hb] at q
        exact iteN (fun z => hb (V.int.inj (dec_true z))) ⟨_, rfl, _, rfl, _, _, rfl, rfl, ⟨by omega, by omega⟩, q⟩
    refine iteN (fun z => k4 (V.str.inj (dec_true z))) ?_
    refine ⟨_, rfl, rfl, _, rfl, ?_⟩
    by_cases k5 : s = "<"
    · refine iteP (decide_eq_true (congrArg V.str k5)) ?_
      have e : valOf s a b = if a < b then 1 else 0 := by unfold valOf; rw [if_neg k1, if_neg k2, if_neg k3, if_neg k4, if_pos k5]
      rw [e] at q
      refine ⟨_, rfl, _, rfl, _, _, rfl, rfl, .inr ⟨_, rfl, vq ?_ q⟩⟩
      by_cases hb : a < b <;> simp [hb]
    refine iteN (fun z => k5 (V.str.inj (dec_true z))) ?_
    refine ⟨_, rfl, rfl, _, rfl, ?_⟩
    by_cases k6 : s = "="
    · refine iteP (decide_eq_true (congrArg V.str k6)) ?_
      have e : valOf s a b = if a = b then 1 else 0 := by unfold valOf; rw [if_neg k1, if_neg k2, if_neg k3, if_neg k4, if_neg k5, if_pos k6]
      rw [e] at q
      refine ⟨_, rfl, _, rfl, rfl, .inr ⟨_, rfl, vq ?_ q⟩⟩
      by_cases hb : a = b <;> simp [hb]
    refine iteN (fun z => k6 (V.str.inj (dec_true z))) ?_
    refine ⟨_, rfl, rfl, _, rfl, ?_⟩
    by_cases k7 : s = "&"
    · refine iteP (decide_eq_true (congrArg V.str k7)) ?_
      have e : valOf s a b = Builtin.bitAnd a b := by unfold valOf bw; rw [if_neg k1, if_neg k2, if_neg k3, if_neg k4, if_neg k5, if_neg k6, if_pos k7]
      rw [e] at q
      exact ⟨_, rfl, _, rfl, _, _, rfl, rfl, q⟩
    refine iteN (fun z => k7 (V.str.inj (dec_true z))) ?_
    refine ⟨_, rfl, rfl, _, rfl, ?_⟩
    by_cases k8 : s = "|"
    · refine iteP (decide_eq_true (congrArg V.str k8)) ?_
      have e : valOf s a b = Builtin.bitOr a b := by unfold valOf bw; rw [if_neg k1, if_neg k2, if_neg k3, if_neg k4, if_neg k5, if_neg k6, if_neg k7, if_pos k8]
      rw [e] at q
      exact ⟨_, rfl, _, rfl, _, _, rfl, rfl, q⟩
    refine iteN (fun z => k8 (V.str.inj (dec_true z))) ?_
    have e : valOf s a b = Builtin.bitXor a b := by unfold valOf bw; rw [if_neg k1, if_neg k2, if_neg k3, if_neg k4, if_neg k5, if_neg k6, if_neg k7, if_neg k8]
    rw [e] at q
    exact ⟨_, rfl, _, rfl, _, _, rfl, rfl, q⟩
end
end K42

set_option Elab.async false
set_option linter.all false
set_option maxRecDepth 100000
set_option maxHeartbeats 4000000
namespace K42
open PySem L2 Gx Fl K41
section
variable {P : Program} {w : World} {K : PySem.W.Frag} {mg : Str → Option Value} {base : Heap} {t : Adr}
local macro_rules | `(tactic| walk_at "rd1") => `(tactic| first
  | refine ⟨_, rfl, ?_⟩
  | refine ⟨_, _, rfl, rfl, ?_⟩
  | refine ⟨rfl, ?_⟩
  | refine ⟨(show (0 : Int) < _ by decide), ?_⟩
  | refine ⟨⟨by decide, by decide⟩, ?_⟩
  | refine ⟨.inl ⟨by decide, by decide⟩, ?_⟩
  | refine ⟨.inr ⟨by decide, by decide⟩, ?_⟩
  | refine ⟨⟨by decide, by decide, by decide⟩, ?_⟩)
local macro_rules | `(tactic| walk_at "rd") => `(tactic| repeat walk_at "rd1")
theorem sc_l_names : FnScope ["_law_cell", "_law_many", "_law_letters", "_law_size", "_law_word", "_law_at", "_law_found", "_law_k", "_law_name"] ["_law_cell", "_law_many"] (defScope s_l_names) := ⟨rfl, rfl, rfl, by decide +kernel, rfl, by decide +kernel, by decide +kernel⟩
theorem ok_l_names (T : Txt K mg t) : FnOk P w K mg base CX0 1 t.a_l_names t.d_l_names ["_law_cell", "_law_many"] (sp_l_names K) := by
  refine T.l_names.F.ok sc_l_names (fun vs H Q E h => ?_) (fun cdv A outer s H vs Q E hr h => ?_)
  · obtain ⟨c, mn, rfl, hmn, q⟩ := h
    rfl
  · skip
    refine (let W0 : TS := _; have hW0 : PSs (cxOf CX0 P w K mg base ["_law_cell", "_law_many", "_law_letters", "_law_size", "_law_word", "_law_at", "_law_found", "_law_k", "_law_name"] "_law_names" (defScope s_l_names) t.a_l_names cdv A outer s H E).nox (((sB (((((((defBody s_l_names).drop 1).drop 1).drop 1).drop 1).drop 1).getD 0 (.Pass ⟨0, 0, 0, 0⟩))).drop 1).drop 1) W0 := (@pss_one _ _ _ (@ps_expr _ _ _ _ (pe_bm PySem.F.plainAttrs_list PySem.F.slot_list_append PySem.F.type_list_append mtC_append (pvC 6) (@pa_cons _ _ _ _ _ (pvC 8) pa_nil (by rfl))) (by rfl))); ?_)
    refine (let W1 : TS := _; have hW1 : PSs (cxOf CX0 P w K mg base ["_law_cell", "_law_many", "_law_letters", "_law_size", "_law_word", "_law_at", "_law_found", "_law_k", "_law_name"] "_law_names" (defScope s_l_names) t.a_l_names cdv A outer s H E).nox (sB (((sB (((((((defBody s_l_names).drop 1).drop 1).drop 1).drop 1).drop 1).getD 0 (.Pass ⟨0, 0, 0, 0⟩))).drop 1).getD 0 (.Pass ⟨0, 0, 0, 0⟩))) W1 := (@pss_one _ _ _ (@ps_set _ _ 8 _ _ _ _ sc_l_names.nd rfl (Or.inl rfl) (@pe_op _ _ _ _ _ _ _ _ op_add_str (pvC 8) pe_str) (by rfl) (by first | exact .inl rfl | exact .inr rfl | assumption))); ?_)
    refine (let W2 : TS := _; have hW2 : PSs (cxOf CX0 P w K mg base ["_law_cell", "_law_many", "_law_letters", "_law_size", "_law_word", "_law_at", "_law_found", "_law_k", "_law_name"] "_law_names" (defScope s_l_names) t.a_l_names cdv A outer s H E).nox ((sB (((((((defBody s_l_names).drop 1).drop 1).drop 1).drop 1).drop 1).getD 0 (.Pass ⟨0, 0, 0, 0⟩))).drop 1) W2 := (@pss_cons _ _ _ _ _ (@ps_if _ _ _ _ _ _ _ _ (@ptC_cmpR _ _ _ _ _ _ _ _ op_in_seq (pvC 8) (@pe_litL _ _ [V.str "fn", V.str "in", V.str "new", V.str "get", V.str "put", V.str "call", V.str "out", V.str "if", V.str "while", V.str "else", V.str "end", V.str "back"] (by kernel_rfl)) (by with_unfolding_all rfl)) hW1 pss_nil) hW0); ?_)
    refine (let W3 : TS := _; have hW3 : PSs (cxOf CX0 P w K mg base ["_law_cell", "_law_many", "_law_letters", "_law_size", "_law_word", "_law_at", "_law_found", "_law_k", "_law_name"] "_law_names" (defScope s_l_names) t.a_l_names cdv A outer s H E).nox (sB (((((((defBody s_l_names).drop 1).drop 1).drop 1).drop 1).drop 1).getD 0 (.Pass ⟨0, 0, 0, 0⟩))) W3 := (@pss_cons _ _ _ _ _ (@ps_set _ _ 8 _ _ _ _ sc_l_names.nd rfl (Or.inl rfl) (@pe_op _ _ _ _ _ _ _ _ op_add_str (@pe_op _ _ _ _ _ _ _ _ op_add_str (@pe_slice _ _ _ _ _ _ _ _ _ _ sl_str (pvC 4) po_none (po_some (pvC 5))) (@pe_ix _ _ _ _ _ _ _ ix_str (pvC 2) (@pe_op _ _ _ _ _ _ _ _ (opC1 op_mod) (@pe_op _ _ _ _ _ _ _ _ (opC0 op_add) (@pe_op _ _ _ _ _ _ _ _ (opC1 op_fdiv) (pvC 0) pe_int) (pvC 7)) pe_int) (fun _ _ => rfl))) (@pe_slice _ _ _ _ _ _ _ _ _ _ sl_str (pvC 4) (po_some (pvC 5)) po_none)) (by rfl) (by first | exact .inl rfl | exact .inr rfl | assumption)) hW2); ?_)
    refine (let W4 : TS := _; have hW4 : PSs (cxOf CX0 P w K mg base ["_law_cell", "_law_many", "_law_letters", "_law_size", "_law_word", "_law_at", "_law_found", "_law_k", "_law_name"] "_law_names" (defScope s_l_names) t.a_l_names cdv A outer s H E).nox ((((((defBody s_l_names).drop 1).drop 1).drop 1).drop 1).drop 1) W4 := (@pss_cons _ _ _ _ _ (ps_for PassesOwn.never rfl (pi_range1 rfl T.b_range (@pa_cons _ _ _ _ _ (pvC 1) pa_nil (by rfl))) (pg_name (i := 7) sc_l_names.nd rfl (Or.inl rfl)) hW3) (@pss_one _ _ _ (@ps_ret _ _ _ _ (pvC 6)))); ?_)
    refine (let W5 : TS := _; have hW5 : PSs (cxOf CX0 P w K mg base ["_law_cell", "_law_many", "_law_letters", "_law_size", "_law_word", "_law_at", "_law_found", "_law_k", "_law_name"] "_law_names" (defScope s_l_names) t.a_l_names cdv A outer s H E).nox (((((defBody s_l_names).drop 1).drop 1).drop 1).drop 1) W5 := (@pss_cons _ _ _ _ _ (@ps_set _ _ 6 _ _ _ _ sc_l_names.nd rfl (Or.inl rfl) (@pe_lst _ _ _ _ pa_nil) (by rfl) (by first | exact .inl rfl | exact .inr rfl | assumption)) hW4); ?_)
    refine (let W6 : TS := _; have hW6 : PSs (cxOf CX0 P w K mg base ["_law_cell", "_law_many", "_law_letters", "_law_size", "_law_word", "_law_at", "_law_found", "_law_k", "_law_name"] "_law_names" (defScope s_l_names) t.a_l_names cdv A outer s H E).nox ((((defBody s_l_names).drop 1).drop 1).drop 1) W6 := (@pss_cons _ _ _ _ _ (@ps_set _ _ 5 _ _ _ _ sc_l_names.nd rfl (Or.inl rfl) (@pe_op _ _ _ _ _ _ _ _ (opC1 op_mod) (@pe_op _ _ _ _ _ _ _ _ (opC1 op_fdiv) (pvC 0) pe_int) (@pe_op _ _ _ _ _ _ _ _ (opC0 op_add) (pvC 3) pe_int)) (by rfl) (by first | exact .inl rfl | exact .inr rfl | assumption)) hW5); ?_)
    refine (let W7 : TS := _; have hW7 : PSs (cxOf CX0 P w K mg base ["_law_cell", "_law_many", "_law_letters", "_law_size", "_law_word", "_law_at", "_law_found", "_law_k", "_law_name"] "_law_names" (defScope s_l_names) t.a_l_names cdv A outer s H E).nox (((defBody s_l_names).drop 1).drop 1) W7 := (@pss_cons _ _ _ _ _ (@ps_set _ _ 4 _ _ _ _ sc_l_names.nd rfl (Or.inl rfl) (pe_bm PySem.F.plainAttrs_str PySem.F.slot_str_join PySem.F.type_str_join mt_join pe_str (@pa_cons _ _ _ _ _ (pe_comp (N' := ["_law_k", "_law_letters", "_law_cell"]) (js := [none, some 2, some 0]) (by kernel_rfl) rfl (pi_range1 rfl T.b_range (@pa_cons _ _ _ _ _ (pvC 3) pa_nil (by rfl))) own_name (fun _ _ _ _ => (pg_name (i := 0) (show (["_law_k", "_law_letters", "_law_cell"] : List Str).Nodup by decide +kernel) rfl (Or.inl rfl) (.inr rfl))) (fun _ _ _ _ => pif_nil) (fun _ _ _ _ => (@pe_ix _ _ _ _ _ _ _ ix_str (pvC 1) (@pe_op _ _ _ _ _ _ _ _ (opC1 op_mod) (@pe_op _ _ _ _ _ _ _ _ (opC1 op_fdiv) (@pe_op _ _ _ _ _ _ _ _ (opC1 op_mod) (@pe_op _ _ _ _ _ _ _ _ (opC1 op_mul) (pvC 2) (@pe_op _ _ _ _ _ _ _ _ (opC0 op_add) pe_int (@pe_op _ _ _ _ _ _ _ _ (opC1 op_mul) pe_int (pvC 0)))) pe_int) pe_int) pe_int) (fun _ _ => rfl)))) pa_nil (by rfl))) (by rfl) (by first | exact .inl rfl | exact .inr rfl | assumption)) hW6); ?_)
    refine (let W8 : TS := _; have hW8 : PSs (cxOf CX0 P w K mg base ["_law_cell", "_law_many", "_law_letters", "_law_size", "_law_word", "_law_at", "_law_found", "_law_k", "_law_name"] "_law_names" (defScope s_l_names) t.a_l_names cdv A outer s H E).nox ((defBody s_l_names).drop 1) W8 := (@pss_cons _ _ _ _ _ (@ps_set _ _ 3 _ _ _ _ sc_l_names.nd rfl (Or.inl rfl) (@pe_op _ _ _ _ _ _ _ _ (opC1 op_mod) (pvC 0) pe_int) (by rfl) (by first | exact .inl rfl | exact .inr rfl | assumption)) hW7); ?_)
    obtain ⟨c, mn, rfl, hmn, q⟩ := h
    refine ⟨_, (@pss_cons _ _ _ _ _ (@ps_set _ _ 2 _ _ _ _ sc_l_names.nd rfl (Or.inr rfl) pe_str (by rfl) (by first | exact .inl rfl | exact .inr rfl | assumption)) hW8), ?_⟩
    have b8 := emod_bd c 8 (by decide)
    obtain ⟨sz, es⟩ := Int.eq_ofNat_of_zero_le b8.1
    have s8 : sz < 8 := by omega
    have lf : K12.lets.length ≤ sizeLine := by decide +kernel
    refine ⟨_, rfl, _, _, rfl, rfl, (show (0 : Int) < 8 by decide), ?_⟩
    refine ⟨rfl, _, rfl, _, rfl, by omega, by omega, fun u hu => comp_mapR (fun i => V.str (tx [lc (c * (48271 + 2 * (0 + (i : Int))) % 2147483647 / 9 % 26)])) (by omega) hu ?_ ?_⟩
    · rintro i H2 Rr hi s2 hR
      have bi := emod_bd (c * (48271 + 2 * (0 + (i : Int))) % 2147483647 / 9) 26 (by decide)
      refine ⟨_, rfl, _, rfl, _, rfl, _, _, rfl, rfl, .inl ⟨by decide, by decide⟩, _, _, rfl, rfl, _, _, rfl, rfl, .inr ⟨by omega, by omega⟩, _, _, rfl, rfl, (show (0 : Int) < 2147483647 by decide), _, _, rfl, rfl, ⟨by decide, by decide⟩, _, _, rfl, rfl, (show (0 : Int) < 26 by decide), _, _, _, rfl, rfl, lf, lc_at bi.1 bi.2, hR⟩
    rintro H2 s2 e2
    have en : (c % 8).toNat = sz := by omega
    rw [en] at e2
    have e3 : ((List.range sz).map fun i : Nat => V.str (tx [lc (c * (48271 + 2 * (0 + (i : Int))) % 2147483647 / 9 % 26)])) = (((List.range sz).map fun i : Nat => [lc (c * (48271 + 2 * (0 + (i : Int))) % 2147483647 / 9 % 26)]).map tx).map V.str := by
      rw [List.map_map, List.map_map]
      rfl
    rw [e3] at e2
    have so : ∀ l : List Nat, (((l.map fun i : Nat => [lc (c * (48271 + 2 * (0 + (i : Int))) % 2147483647 / 9 % 26)]).map tx).map (·.length)).sum = l.length := fun l => by
      induction l with
      | nil => rfl
      | cons x l ih => rw [List.map_cons, List.map_cons, List.map_cons, List.sum_cons, ih, tx_len, List.length_cons]; simp; omega
    have fo : ∀ l : List Nat, (l.map fun i : Nat => [lc (c * (48271 + 2 * (0 + (i : Int))) % 2147483647 / 9 % 26)]).flatten = l.map fun i : Nat => lc (c * (48271 + 2 * (0 + (i : Int))) % 2147483647 / 9 % 26) := fun l => by
      induction l with
      | nil => rfl
      | cons x l ih => rw [List.map_cons, List.flatten_cons, ih]; rfl
    refine ⟨_, u, _, rfl, rfl, SqL.of e2, (by rw [so, List.length_range, List.length_map, List.length_map, List.length_range]; show sz + sz * 0 ≤ 16777216; omega), ?_⟩
    rw [tx_join, fo]
    have hWl : ((List.range sz).map fun i : Nat => lc (c * (48271 + 2 * (0 + (i : Int))) % 2147483647 / 9 % 26)).length = sz := by rw [List.length_map, List.length_range]
    have hWm : ∀ x ∈ ((List.range sz).map fun i : Nat => lc (c * (48271 + 2 * (0 + (i : Int))) % 2147483647 / 9 % 26)), x ∈ K12.lets.cps.toList := fun x hx => by
      obtain ⟨i, _, rfl⟩ := List.mem_map.mp hx
      have bi := emod_bd (c * (48271 + 2 * (0 + (i : Int))) % 2147483647 / 9) 26 (by decide)
      exact lc_mem bi.1 bi.2
    generalize ((List.range sz).map fun i : Nat => lc (c * (48271 + 2 * (0 + (i : Int))) % 2147483647 / 9 % 26)) = W at hWl hWm ⊢
    have wf : (tx W).length ≤ sizeLine := by rw [tx_len]; exact lt_line (by omega)
    have ba := emod_bd (c / 8) (c % 8 + 1) (by omega)
    obtain ⟨a, ea⟩ := Int.eq_ofNat_of_zero_le ba.1
    have aW : a ≤ W.length := by omega
    refine ⟨_, rfl, _, _, rfl, rfl, ⟨by decide, by decide⟩, _, rfl, _, _, rfl, rfl, _, _, rfl, rfl, (by show (0 : Int) < c % 8 + 1; omega), ?_⟩
    refine ⟨le0, fun l hl => ?_⟩
    have hlH : H l = none := s2.free hl
    refine ⟨_, rfl, _, rfl, by omega, by omega, ?_⟩
    refine for_range (lo := 0) (n := mn) (fun i σ H3 => Same H H3 ∧ (∃ v7 v8, σ = [some (.int c), some (.int mn), some (.str K12.lets), some (.int (c % 8)), some (.str (tx W)), some (.int (c / 8 % (c % 8 + 1))), some (.ref l), v7, v8]) ∧ H3 l = some (.lst (((List.range i).map (nmk W a (c / 64))).map V.str))) ⟨s2.trans (Same.new hl), ⟨_, _, rfl⟩, upd_same⟩ ?_ ?_
    · rintro i σ H3 hi ⟨s3, ⟨v7, v8, rfl⟩, e3⟩
      have bi := emod_bd (c / 64 + (0 + (i : Int))) 26 (by decide)
      have ei : (c / 64 + (0 + (i : Int))) % 26 = (c / 64 + (i : Int)) % 26 := by rw [Int.zero_add]
      refine ⟨_, rfl, _, rfl, _, rfl, _, rfl, wf, ?_⟩
      rw [show (some (c / 8 % (c % 8 + 1)) : Option Int) = some ((a : Nat) : Int) by rw [ea], tx_to aW]
      refine ⟨_, rfl, _, rfl, _, _, rfl, rfl, ⟨by decide, by decide⟩, _, rfl, _, _, rfl, rfl, _, _, rfl, rfl, (show (0 : Int) < 26 by decide), _, _, _, rfl, rfl, lf, lc_at bi.1 bi.2, ?_⟩
      refine ⟨_, _, rfl, rfl, (by rw [tx_len, List.length_take]; exact lt_line (by show min a W.length + 1 < 1000000; omega)), ?_⟩
      refine ⟨_, rfl, _, rfl, _, rfl, _, rfl, wf, ?_⟩
      rw [show (some (c / 8 % (c % 8 + 1)) : Option Int) = some ((a : Nat) : Int) by rw [ea], tx_from aW]
      have eB : tx (W.take a) ++ (⟨#[lc ((c / 64 + (0 + (i : Int))) % 26)]⟩ : Str) ++ tx (W.drop a) = tx (bse W a (c / 64) i) := by
        rw [show (⟨#[lc ((c / 64 + (0 + (i : Int))) % 26)]⟩ : Str) = tx [lc ((c / 64 + (0 + (i : Int))) % 26)] from rfl, tx_app, tx_app, ei]
        rfl
      have bl := bse_len W a (c / 64) i
      refine ⟨_, _, rfl, rfl, ?_, ?_⟩
      · rw [show (⟨#[lc ((c / 64 + (0 + (i : Int))) % 26)]⟩ : Str) = tx [lc ((c / 64 + (0 + (i : Int))) % 26)] from rfl, tx_app, tx_len, tx_len, List.length_append, List.length_take, List.length_drop]
        exact lt_line (by simp; omega)
      rw [eB]
      refine ⟨_, rfl, (by show 12 ≤ sizeLine; decide), fun tl htl => ⟨tl, _, rfl, .inl (SqL.of upd_same), rfl, (by decide +kernel), _, rfl, ?_⟩⟩
      have s4 := s3.trans (Same.new (o := .lst tkV) htl)
      have e4 := Same.new (o := .lst tkV) htl _ _ e3
      have nx : ∀ s : Str, s = nmk W a (c / 64) i → Same H (upd (upd H3 tl (.lst tkV)) l (.lst (((List.range i).map (nmk W a (c / 64))).map V.str ++ [V.str s]))) ∧ (upd (upd H3 tl (.lst tkV)) l (.lst (((List.range i).map (nmk W a (c / 64))).map V.str ++ [V.str s]))) l = some (.lst (((List.range (i + 1)).map (nmk W a (c / 64))).map V.str)) := fun s hs => by
        refine ⟨s4.upd hlH, ?_⟩
        rw [upd_same, hs, List.range_succ, List.map_append, List.map_append]
        rfl
      have fitl : (((List.range i).map (nmk W a (c / 64))).map V.str).length < sizeLine := by rw [List.length_map, List.length_map, List.length_range]; exact small1000 (by omega)
      by_cases ht : inV (.str (tx (bse W a (c / 64) i))) tkV = true
      · have en : tx (bse W a (c / 64) i) ++ ("x" : Str) = nmk W a (c / 64) i := by
          unfold nmk
          rw [if_pos ht]
          exact tx_app _ [120]
        refine iteP ht ⟨_, rfl, _, _, rfl, rfl, (by rw [tx_len, bl]; exact lt_line (by show W.length + 1 + 1 < 1000000; omega)), ?_⟩
        obtain ⟨x1, x2⟩ := nx _ en
        exact ⟨_, rfl, .inl ⟨rfl, _, SqL.of e4⟩, _, rfl, l, _, _, rfl, rfl, e4, fitl, x1, ⟨_, _, rfl⟩, x2⟩
      · have en : tx (bse W a (c / 64) i) = nmk W a (c / 64) i := by
          unfold nmk
          rw [if_neg ht]
        refine iteN ht ?_
        obtain ⟨x1, x2⟩ := nx _ en
        exact ⟨_, rfl, .inl ⟨rfl, _, SqL.of e4⟩, _, rfl, l, _, _, rfl, rfl, e4, fitl, x1, ⟨_, _, rfl⟩, x2⟩
    · rintro σ H3 ⟨s3, ⟨v7, v8, rfl⟩, e3⟩
      refine ⟨_, rfl, q _ (by rw [List.length_map, List.length_range]) ?_ (fun w hw => ?_) l H3 s3 hlH e3⟩
      · exact List.pairwise_map.mpr (List.Pairwise.imp_of_mem (fun {x y} hx hy hne h => hne (nmk_inj (by have := List.mem_range.mp hx; omega) (by have := List.mem_range.mp hy; omega) h)) List.nodup_range)
      · obtain ⟨k, _, rfl⟩ := List.mem_map.mp hw
        exact nmk_nm hWm (by omega)
end
end K42

set_option Elab.async false
set_option linter.all false
set_option maxRecDepth 100000
set_option maxHeartbeats 4000000
namespace K42
open PySem L2 K21 Rk2 Bg
section
variable {P : Program} {w : World} {K : PySem.W.Frag} {mg : Str → Option Value} {base : Heap} {t : Adr}
local macro_rules | `(tactic| walk_at "rd1") => `(tactic| first
  | refine ⟨_, rfl, ?_⟩
  | refine ⟨_, _, rfl, rfl, ?_⟩
  | refine ⟨rfl, ?_⟩
  | refine ⟨(show (0 : Int) < _ by decide), ?_⟩
  | refine ⟨⟨by decide, by decide⟩, ?_⟩
  | refine ⟨.inl ⟨by decide, by decide⟩, ?_⟩
  | refine ⟨.inr ⟨by decide, by decide⟩, ?_⟩
  | refine ⟨⟨by decide, by decide, by decide⟩, ?_⟩)
local macro_rules | `(tactic| walk_at "rd") => `(tactic| repeat walk_at "rd1")
theorem sc_l_some : FnScope ["_law_cell", "_law_boxes", "_law_one", "_law_k", "_law_number", "_law_sign", "_law_other"] ["_law_cell", "_law_boxes"] (defScope s_l_some) := ⟨rfl, rfl, rfl, by decide +kernel, rfl, by decide +kernel, by decide +kernel⟩
theorem ok_l_some (T : Txt K mg t) : FnOk P w K mg base CX0 1 t.a_l_some t.d_l_some ["_law_cell", "_law_boxes"] (sp_l_some K) := by
  refine T.l_some.F.ok sc_l_some (fun vs H Q E h => ?_) (fun cdv A outer s H vs Q E hr h => ?_)
  · obtain ⟨c, bl, bs, rfl, hB, hbs, q⟩ := h
    rfl
  · skip
    refine (let W0 : TS := _; have hW0 : PSs (cxOf CX0 P w K mg base ["_law_cell", "_law_boxes", "_law_one", "_law_k", "_law_number", "_law_sign", "_law_other"] "_law_some" (defScope s_l_some) t.a_l_some cdv A outer s H E).nox (sB ((((((sB ((((defBody s_l_some).drop 1).drop 1).getD 0 (.Pass ⟨0, 0, 0, 0⟩))).drop 1).drop 1).drop 1).drop 1).getD 0 (.Pass ⟨0, 0, 0, 0⟩))) W0 := (@pss_one _ _ _ (@ps_set _ _ 2 _ _ _ _ sc_l_some.nd rfl (Or.inl rfl) (@pe_tup _ _ _ _ _ (@pa_cons _ _ _ _ _ (pvC 5) (@pa_cons _ _ _ _ _ (pvC 2) (@pa_cons _ _ _ _ _ (pvC 6) pa_nil (by rfl)) (by rfl)) (by rfl))) (by rfl) (by first | exact .inl rfl | exact .inr rfl | assumption))); ?_)
    refine (let W1 : TS := _; have hW1 : PSs (cxOf CX0 P w K mg base ["_law_cell", "_law_boxes", "_law_one", "_law_k", "_law_number", "_law_sign", "_law_other"] "_law_some" (defScope s_l_some) t.a_l_some cdv A outer s H E).nox (sO ((((((sB ((((defBody s_l_some).drop 1).drop 1).getD 0 (.Pass ⟨0, 0, 0, 0⟩))).drop 1).drop 1).drop 1).drop 1).getD 0 (.Pass ⟨0, 0, 0, 0⟩))) W1 := (@pss_one _ _ _ (@ps_set _ _ 2 _ _ _ _ sc_l_some.nd rfl (Or.inl rfl) (@pe_tup _ _ _ _ _ (@pa_cons _ _ _ _ _ (pvC 5) (@pa_cons _ _ _ _ _ (pvC 6) (@pa_cons _ _ _ _ _ (pvC 2) pa_nil (by rfl)) (by rfl)) (by rfl))) (by rfl) (by first | exact .inl rfl | exact .inr rfl | assumption))); ?_)
    refine (let W2 : TS := _; have hW2 : PSs (cxOf CX0 P w K mg base ["_law_cell", "_law_boxes", "_law_one", "_law_k", "_law_number", "_law_sign", "_law_other"] "_law_some" (defScope s_l_some) t.a_l_some cdv A outer s H E).nox (sB (((((sB ((((defBody s_l_some).drop 1).drop 1).getD 0 (.Pass ⟨0, 0, 0, 0⟩))).drop 1).drop 1).drop 1).getD 0 (.Pass ⟨0, 0, 0, 0⟩))) W2 := (@pss_one _ _ _ (@ps_set _ _ 6 _ _ _ _ sc_l_some.nd rfl (Or.inl rfl) (@pe_tup _ _ _ _ _ (@pa_cons _ _ _ _ _ pe_str (@pa_cons _ _ _ _ _ (@pe_op _ _ _ _ _ _ _ _ (opC1 op_mod) (@pe_op _ _ _ _ _ _ _ _ (opC1 op_fdiv) (pvC 4) pe_int) pe_int) pa_nil (by rfl)) (by rfl))) (by rfl) (by first | exact .inl rfl | exact .inr rfl | assumption))); ?_)
    refine (let W3 : TS := _; have hW3 : PSs (cxOf CX0 P w K mg base ["_law_cell", "_law_boxes", "_law_one", "_law_k", "_law_number", "_law_sign", "_law_other"] "_law_some" (defScope s_l_some) t.a_l_some cdv A outer s H E).nox ((((sB ((((defBody s_l_some).drop 1).drop 1).getD 0 (.Pass ⟨0, 0, 0, 0⟩))).drop 1).drop 1).drop 1) W3 := (@pss_cons _ _ _ _ _ (@ps_if _ _ _ _ _ _ _ _ (@ptC_cmpR _ _ _ _ _ _ _ _ op_eq (@pe_op _ _ _ _ _ _ _ _ (opC1 op_mod) (@pe_op _ _ _ _ _ _ _ _ (opC1 op_fdiv) (pvC 4) pe_int) pe_int) pe_int (nomark _)) hW2 pss_nil) (@pss_one _ _ _ (@ps_if _ _ _ _ _ _ _ _ (@ptC_cmpR _ _ _ _ _ _ _ _ op_eq (@pe_op _ _ _ _ _ _ _ _ (opC1 op_mod) (pvC 4) pe_int) pe_int (nomark _)) hW0 hW1))); ?_)
    refine (let W4 : TS := _; have hW4 : PSs (cxOf CX0 P w K mg base ["_law_cell", "_law_boxes", "_law_one", "_law_k", "_law_number", "_law_sign", "_law_other"] "_law_some" (defScope s_l_some) t.a_l_some cdv A outer s H E).nox (((sB ((((defBody s_l_some).drop 1).drop 1).getD 0 (.Pass ⟨0, 0, 0, 0⟩))).drop 1).drop 1) W4 := (@pss_cons _ _ _ _ _ (@ps_set _ _ 6 _ _ _ _ sc_l_some.nd rfl (Or.inl rfl) (@pe_tup _ _ _ _ _ (@pa_cons _ _ _ _ _ pe_str (@pa_cons _ _ _ _ _ (@pe_ix _ _ _ _ _ _ _ (show IxR _ (cIxL K) from ixC_list) (pvC 1) (@pe_op _ _ _ _ _ _ _ _ (opC1 op_mod) (@pe_op _ _ _ _ _ _ _ _ (opC1 op_fdiv) (pvC 4) pe_int) (pe_callB (show CallR _ (.builtin "len") (cLen K) from callC_len) (by rfl) T.b_len bt_len (@pa_cons _ _ _ _ _ (pvC 1) pa_nil (by rfl)))) (fun _ _ => rfl)) pa_nil (by rfl)) (by rfl))) (by rfl) (by first | exact .inl rfl | exact .inr rfl | assumption)) hW3); ?_)
    refine (let W5 : TS := _; have hW5 : PSs (cxOf CX0 P w K mg base ["_law_cell", "_law_boxes", "_law_one", "_law_k", "_law_number", "_law_sign", "_law_other"] "_law_some" (defScope s_l_some) t.a_l_some cdv A outer s H E).nox ((sB ((((defBody s_l_some).drop 1).drop 1).getD 0 (.Pass ⟨0, 0, 0, 0⟩))).drop 1) W5 := (@pss_cons _ _ _ _ _ (@ps_set _ _ 5 _ _ _ _ sc_l_some.nd rfl (Or.inl rfl) (@pe_ix _ _ _ _ _ _ _ ix_str pe_str (@pe_op _ _ _ _ _ _ _ _ (opC1 op_mod) (@pe_op _ _ _ _ _ _ _ _ (opC1 op_fdiv) (pvC 4) pe_int) pe_int) (fun _ _ => rfl)) (by rfl) (by first | exact .inl rfl | exact .inr rfl | assumption)) hW4); ?_)
    refine (let W6 : TS := _; have hW6 : PSs (cxOf CX0 P w K mg base ["_law_cell", "_law_boxes", "_law_one", "_law_k", "_law_number", "_law_sign", "_law_other"] "_law_some" (defScope s_l_some) t.a_l_some cdv A outer s H E).nox (sB ((((defBody s_l_some).drop 1).drop 1).getD 0 (.Pass ⟨0, 0, 0, 0⟩))) W6 := (@pss_cons _ _ _ _ _ (@ps_set _ _ 4 _ _ _ _ sc_l_some.nd rfl (Or.inl rfl) (@pe_op _ _ _ _ _ _ _ _ (opC1 op_fdiv) (@pe_op _ _ _ _ _ _ _ _ (opC1 op_mod) (@pe_op _ _ _ _ _ _ _ _ (opC1 op_mul) (pvC 0) (@pe_ix _ _ _ _ _ _ _ (show IxR _ (cIxL K) from ixC_list) (@pe_lst _ _ _ _ (@pa_cons _ _ _ _ _ pe_int (@pa_cons _ _ _ _ _ pe_int pa_nil (by rfl)) (by rfl))) (pvC 3) (fun _ _ => rfl))) pe_int) pe_int) (by rfl) (by first | exact .inl rfl | exact .inr rfl | assumption)) hW5); ?_)
    refine (let W7 : TS := _; have hW7 : PSs (cxOf CX0 P w K mg base ["_law_cell", "_law_boxes", "_law_one", "_law_k", "_law_number", "_law_sign", "_law_other"] "_law_some" (defScope s_l_some) t.a_l_some cdv A outer s H E).nox (((defBody s_l_some).drop 1).drop 1) W7 := (@pss_cons _ _ _ _ _ (ps_for PassesOwn.never rfl (pi_range1 rfl T.b_range (@pa_cons _ _ _ _ _ (@pe_op _ _ _ _ _ _ _ _ (opC1 op_mod) (@pe_op _ _ _ _ _ _ _ _ (opC1 op_fdiv) (pvC 0) pe_int) pe_int) pa_nil (by rfl))) (pg_name (i := 3) sc_l_some.nd rfl (Or.inl rfl)) hW6) (@pss_one _ _ _ (@ps_ret _ _ _ _ (pvC 2)))); ?_)
    refine (let W8 : TS := _; have hW8 : PSs (cxOf CX0 P w K mg base ["_law_cell", "_law_boxes", "_law_one", "_law_k", "_law_number", "_law_sign", "_law_other"] "_law_some" (defScope s_l_some) t.a_l_some cdv A outer s H E).nox (sB (((defBody s_l_some).drop 1).getD 0 (.Pass ⟨0, 0, 0, 0⟩))) W8 := (@pss_one _ _ _ (@ps_set _ _ 2 _ _ _ _ sc_l_some.nd rfl (Or.inl rfl) (@pe_tup _ _ _ _ _ (@pa_cons _ _ _ _ _ pe_str (@pa_cons _ _ _ _ _ (@pe_ix _ _ _ _ _ _ _ (show IxR _ (cIxL K) from ixC_list) (pvC 1) (@pe_op _ _ _ _ _ _ _ _ (opC1 op_mod) (@pe_op _ _ _ _ _ _ _ _ (opC1 op_fdiv) (pvC 0) pe_int) (pe_callB (show CallR _ (.builtin "len") (cLen K) from callC_len) (by rfl) T.b_len bt_len (@pa_cons _ _ _ _ _ (pvC 1) pa_nil (by rfl)))) (fun _ _ => rfl)) pa_nil (by rfl)) (by rfl))) (by rfl) (by first | exact .inl rfl | exact .inr rfl | assumption))); ?_)
    refine (let W9 : TS := _; have hW9 : PSs (cxOf CX0 P w K mg base ["_law_cell", "_law_boxes", "_law_one", "_law_k", "_law_number", "_law_sign", "_law_other"] "_law_some" (defScope s_l_some) t.a_l_some cdv A outer s H E).nox ((defBody s_l_some).drop 1) W9 := (@pss_cut _ _ _ _ _ (@ps_if _ _ _ _ _ _ _ _ (@ptC_cmpR _ _ _ _ _ _ _ _ (opC0 op_gt) (@pe_op _ _ _ _ _ _ _ _ (opC1 op_mod) (pvC 0) pe_int) pe_int (nomark _)) hW8 pss_nil) hW7); ?_)
    obtain ⟨c, bl, bs, rfl, hB, hbs, q⟩ := h
    refine ⟨_, (@pss_cons _ _ _ _ _ (@ps_set _ _ 2 _ _ _ _ sc_l_some.nd rfl (Or.inl rfl) (@pe_tup _ _ _ _ _ (@pa_cons _ _ _ _ _ pe_str (@pa_cons _ _ _ _ _ (@pe_op _ _ _ _ _ _ _ _ (opC1 op_mod) (@pe_op _ _ _ _ _ _ _ _ (opC1 op_fdiv) (pvC 0) pe_int) (@pe_op _ _ _ _ _ _ _ _ (opC1 op_pow) pe_int pe_int)) pa_nil (by rfl)) (by rfl))) (by rfl) (by first | exact .inl rfl | exact .inr rfl | assumption)) hW9), ?_⟩
    have b5 := emod_bd' (c / 5) ((2 : Int) ^ (48 : Int).toNat) pos48
    rw [pw48] at b5
    refine ⟨_, rfl, _, _, rfl, rfl, ⟨by decide, by decide⟩, _, _, rfl, rfl, ⟨by decide, by decide, by decide⟩, _, _, rfl, rfl, pos48, le2, fun a0 k0 => ?_⟩
    refine ⟨fun σ' G => ∃ tr v, σ' = [some (.int c), some (.ref bl), some v, none, none, none, none] ∧ Same H G ∧ RAt G tr v ∧ TOk' 0 tr, ?_, ?_⟩
    · refine ⟨_, rfl, _, _, rfl, rfl, (show (0 : Int) < 5 by decide), _, _, rfl, rfl, _, rfl, ?_⟩
      by_cases h5 : c % 5 > 0
      · obtain ⟨b, e1, e2, e3⟩ := bx_at hbs (c / 5)
        refine iteP (decide_eq_true h5) ⟨_, rfl, _, rfl, _, _, rfl, rfl, ⟨by decide, by decide⟩, _, rfl, bl, _, rfl, .inl ((Same.new k0).seq hB), _, _, rfl, rfl, e1, bl, _, _, _, rfl, rfl, (Same.new k0).seq hB, e2, le2, fun a1 k1 => ⟨.box b, _, rfl, (Same.new k0).trans (Same.new k1), ⟨a1, rfl, upd_same⟩, tok_box e3⟩⟩
      · exact iteN (by rw [decide_eq_true_eq]; exact h5) ⟨.num (c / 5 % (2 : Int) ^ (48 : Int).toNat), _, rfl, Same.new k0, ⟨a0, rfl, upd_same⟩, (by rw [pw48]; exact tok_num b5.1 b5.2)⟩
    rintro σ' G ⟨tr0, v0, rfl, s0, r0, t0⟩
    have b3 := emod_bd' (c / 40) 3 (by decide)
    refine ⟨_, rfl, _, _, rfl, rfl, ⟨by decide, by decide⟩, _, _, rfl, rfl, (show (0 : Int) < 3 by decide), _, rfl, by omega, by omega, for_range (lo := 0) (n := (c / 40 % 3).toNat) (fun i σ H2 => ∃ tr v v3 v4 v5 v6, σ = [some (.int c), some (.ref bl), some v, v3, v4, v5, v6] ∧ Same H H2 ∧ RAt H2 tr v ∧ TOk' i tr) ⟨tr0, v0, _, _, _, _, rfl, s0, r0, t0⟩ ?_ ?_⟩
    · rintro i σ H2 hi ⟨tr, v, v3, v4, v5, v6, rfl, s1, r1, t1⟩
      refine ⟨_, rfl, le2, fun L hL => ⟨_, rfl, L, _, _, _, rfl, rfl, SqL.of upd_same, two_at (by omega) (by omega), ?_⟩⟩
      generalize hf : (if (0 + (i : Int)) = 0 then (48271 : Int) else 69621) = fc
      have hfc : fc = 48271 ∨ fc = 69621 := by rw [← hf]; split <;> simp
      refine ⟨_, _, rfl, rfl, .inr ⟨by omega, by omega⟩, _, _, rfl, rfl, (show (0 : Int) < 2147483647 by decide), _, _, rfl, rfl, ⟨by decide, by decide⟩, ?_⟩
      have s2 := s1.trans (Same.new (o := .lst [V.int 48271, V.int 69621]) hL)
      have r2 := r1.mono (Same.new (o := .lst [V.int 48271, V.int 69621]) hL)
      generalize upd H2 L (.lst [V.int 48271, V.int 69621]) = G2 at s2 r2 ⊢
      obtain ⟨ch, hch⟩ := sg_at (i := c * fc % 2147483647 / 3 / 2 % 9) (Int.emod_nonneg _ (by decide)) (Int.emod_lt_of_pos _ (by decide))
      have oc := one_char ch
      refine ⟨_, rfl, _, _, rfl, rfl, ⟨by decide, by decide⟩, _, _, rfl, rfl, (show (0 : Int) < 9 by decide), _, _, ch, rfl, rfl, sg_fit, hch, ?_⟩
      obtain ⟨b, e1, e2, e3⟩ := bx_at hbs (c * fc % 2147483647 / 3 / 18)
      refine ⟨_, rfl, _, rfl, _, _, rfl, rfl, ⟨by decide, by decide⟩, _, rfl, bl, _, rfl, .inl (s2.seq hB), _, _, rfl, rfl, e1, bl, _, _, _, rfl, rfl, s2.seq hB, e2, le2, fun a2 k2 => ?_⟩
      refine ⟨_, rfl, _, _, rfl, rfl, ⟨by decide, by decide⟩, _, _, rfl, rfl, (show (0 : Int) < 4 by decide), rfl, _, rfl, ?_⟩
      by_cases h4 : c * fc % 2147483647 / 3 / 144 % 4 = 0
      · have b9 := emod_bd' (c * fc % 2147483647 / 3 / 576) 9 (by decide)
        refine iteP (decide_eq_true (congrArg V.int h4)) ⟨_, rfl, _, _, rfl, rfl, ⟨by decide, by decide⟩, _, _, rfl, rfl, (show (0 : Int) < 9 by decide), le2, fun a3 k3 => ?_⟩
        have s13 := (Same.new (o := .tup [V.str "box", V.int b]) k2).trans (Same.new (o := .tup [V.str "num", V.int (c * fc % 2147483647 / 3 / 576 % 9)]) k3)
        have s3 := s2.trans s13
        have r3 : RAt (upd (upd G2 a2 (.tup [V.str "box", V.int b])) a3 (.tup [V.str "num", V.int (c * fc % 2147483647 / 3 / 576 % 9)])) (.num (c * fc % 2147483647 / 3 / 576 % 9)) (.ref a3) := ⟨a3, rfl, upd_same⟩
        have t3 : TOk' i (.num (c * fc % 2147483647 / 3 / 576 % 9)) := tok_num b9.1 (Int.lt_trans b9.2 (by decide))
        have r1 := r2
        refine ⟨_, rfl, _, _, rfl, rfl, (show (0 : Int) < 2 by decide), rfl, _, rfl, ?_⟩
        by_cases h2 : c * fc % 2147483647 / 3 % 2 = 0
        · refine iteP (decide_eq_true (congrArg V.int h2)) ⟨_, rfl, _, rfl, _, rfl, le3, fun a4 k4 => ?_⟩
          exact ⟨.op ⟨#[ch]⟩ tr (.num (c * fc % 2147483647 / 3 / 576 % 9)), _, _, _, _, _, rfl, s3.trans (Same.new k4), ⟨a4, _, _, rfl, upd_same, oc.1, oc.2, (r1.mono s13).mono (Same.new k4), r3.mono (Same.new k4)⟩, tok_op (sg_ok hch) t1 t3⟩
        · refine iteN (fun z => h2 (V.int.inj (dec_true z))) ⟨_, rfl, _, rfl, _, rfl, le3, fun a4 k4 => ?_⟩
          exact ⟨.op ⟨#[ch]⟩ (.num (c * fc % 2147483647 / 3 / 576 % 9)) tr, _, _, _, _, _, rfl, s3.trans (Same.new k4), ⟨a4, _, _, rfl, upd_same, oc.1, oc.2, r3.mono (Same.new k4), (r1.mono s13).mono (Same.new k4)⟩, tok_op (sg_ok hch) t3 t1⟩
      · have s13 := Same.new (o := .tup [V.str "box", V.int b]) k2
        have s3 := s2.trans s13
        have r3 : RAt (upd G2 a2 (.tup [V.str "box", V.int b])) (.box b) (.ref a2) := ⟨a2, rfl, upd_same⟩
        have t3 : TOk' i (.box b) := tok_box e3
        have r1 := r2
        refine iteN (fun z => h4 (V.int.inj (dec_true z))) ⟨_, rfl, _, _, rfl, rfl, (show (0 : Int) < 2 by decide), rfl, _, rfl, ?_⟩
        by_cases h2 : c * fc % 2147483647 / 3 % 2 = 0
        · refine iteP (decide_eq_true (congrArg V.int h2)) ⟨_, rfl, _, rfl, _, rfl, le3, fun a4 k4 => ?_⟩
          exact ⟨.op ⟨#[ch]⟩ tr (.box b), _, _, _, _, _, rfl, s3.trans (Same.new k4), ⟨a4, _, _, rfl, upd_same, oc.1, oc.2, (r1.mono s13).mono (Same.new k4), r3.mono (Same.new k4)⟩, tok_op (sg_ok hch) t1 t3⟩
        · refine iteN (fun z => h2 (V.int.inj (dec_true z))) ⟨_, rfl, _, rfl, _, rfl, le3, fun a4 k4 => ?_⟩
          exact ⟨.op ⟨#[ch]⟩ (.box b) tr, _, _, _, _, _, rfl, s3.trans (Same.new k4), ⟨a4, _, _, rfl, upd_same, oc.1, oc.2, r3.mono (Same.new k4), (r1.mono s13).mono (Same.new k4)⟩, tok_op (sg_ok hch) t3 t1⟩
    · rintro σ H2 ⟨tr, v, v3, v4, v5, v6, rfl, s1, r1, t1⟩
      exact ⟨_, rfl, q tr v H2 s1 r1 (t1.ok (by omega))⟩
end
end K42

set_option Elab.async false
set_option linter.all false
set_option maxRecDepth 100000
set_option maxHeartbeats 4000000
namespace K42
open PySem L2 K21 Rk2
section
variable {P : Program} {w : World} {K : PySem.W.Frag} {mg : Str → Option Value} {base : Heap} {t : Adr}
local macro_rules | `(tactic| walk_at "rd1") => `(tactic| first
  | refine ⟨_, rfl, ?_⟩
  | refine ⟨_, _, rfl, rfl, ?_⟩
  | refine ⟨rfl, ?_⟩
  | refine ⟨(show (0 : Int) < _ by decide), ?_⟩
  | refine ⟨⟨by decide, by decide⟩, ?_⟩
  | refine ⟨.inl ⟨by decide, by decide⟩, ?_⟩
  | refine ⟨.inr ⟨by decide, by decide⟩, ?_⟩
  | refine ⟨⟨by decide, by decide, by decide⟩, ?_⟩)
local macro_rules | `(tactic| walk_at "rd") => `(tactic| repeat walk_at "rd1")
theorem sc_l_through : FnScope ["_law_one", "_law_news", "_law_left", "_law_right"] ["_law_one", "_law_news"] (defScope s_l_through) := ⟨rfl, rfl, rfl, by decide +kernel, rfl, by decide +kernel, by decide +kernel⟩
theorem ok_l_through (T : Txt K mg t) : ∀ n, FnOk P w K mg base CX0 (n + 2) t.a_l_through t.d_l_through ["_law_one", "_law_news"] (sp_l_through K n)
| 0 => T.l_through.F.ok sc_l_through (fun vs H Q E h => by obtain ⟨tr, v, d, kvs, g, rfl, hd, hR, hD, nv, ok, og, q⟩ := h; exact absurd hd (Nat.not_lt_zero _)) (fun cdv A outer s H vs Q E hr h => by obtain ⟨tr, v, d, kvs, g, rfl, hd, hR, hD, nv, ok, og, q⟩ := h; exact absurd hd (Nat.not_lt_zero _))
| n + 1 => by
  have G_l_through : FnOk P w K mg base CX0 (n + 2) t.a_l_through t.d_l_through ["_law_one", "_law_news"] (sp_l_through K n) := ok_l_through T n
  have G_l_value : FnOk P w K mg base CX0 1 t.a_l_value t.d_l_value ["_law_sign", "_law_one", "_law_other"] (sp_l_value K) := ok_l_value T
  refine T.l_through.F.ok sc_l_through (fun vs H Q E h => ?_) (fun cdv A outer s H vs Q E hr h => ?_)
  · obtain ⟨tr, v, d, kvs, g, rfl, hd, hR, hD, nv, ok, og, q⟩ := h
    rfl
  · skip
    refine (let W0 : TS := _; have hW0 : PSs (cxOf CX0 P w K mg base ["_law_one", "_law_news", "_law_left", "_law_right"] "_law_through" (defScope s_l_through) t.a_l_through cdv A outer s H E).nox ((((((defBody s_l_through).drop 1).drop 1).drop 1).drop 1).drop 1) W0 := (@pss_one _ _ _ (@ps_ret _ _ _ _ (@pe_tup _ _ _ _ _ (@pa_cons _ _ _ _ _ (@pe_ix _ _ _ _ _ _ _ (show IxR _ (cIxT K) from ixC_tup) (pvC 0) pe_int (fun _ _ => rfl)) (@pa_cons _ _ _ _ _ (pvC 2) (@pa_cons _ _ _ _ _ (pvC 3) pa_nil (by rfl)) (by rfl)) (by rfl))))); ?_)
    refine (let W1 : TS := _; have hW1 : PSs (cxOf CX0 P w K mg base ["_law_one", "_law_news", "_law_left", "_law_right"] "_law_through" (defScope s_l_through) t.a_l_through cdv A outer s H E).nox (sB ((((((defBody s_l_through).drop 1).drop 1).drop 1).drop 1).getD 0 (.Pass ⟨0, 0, 0, 0⟩))) W1 := (@pss_one _ _ _ (@ps_ret _ _ _ _ (@pe_tup _ _ _ _ _ (@pa_cons _ _ _ _ _ pe_str (@pa_cons _ _ _ _ _ (callD T.l_value G_l_value (hr.mono (by omega)) (@pa_cons _ _ _ _ _ (@pe_ix _ _ _ _ _ _ _ (show IxR _ (cIxT K) from ixC_tup) (pvC 0) pe_int (fun _ _ => rfl)) (@pa_cons _ _ _ _ _ (@pe_ix _ _ _ _ _ _ _ (show IxR _ (cIxT K) from ixC_tup) (pvC 2) pe_int (fun _ _ => rfl)) (@pa_cons _ _ _ _ _ (@pe_ix _ _ _ _ _ _ _ (show IxR _ (cIxT K) from ixC_tup) (pvC 3) pe_int (fun _ _ => rfl)) pa_nil (by rfl)) (by rfl)) (by rfl))) pa_nil (by rfl)) (by rfl))))); ?_)
    refine (let W2 : TS := _; have hW2 : PSs (cxOf CX0 P w K mg base ["_law_one", "_law_news", "_law_left", "_law_right"] "_law_through" (defScope s_l_through) t.a_l_through cdv A outer s H E).nox (((((defBody s_l_through).drop 1).drop 1).drop 1).drop 1) W2 := (@pss_cons _ _ _ _ _ (@ps_if _ _ _ _ _ _ _ _ (@PW.pt _ _ _ (@pw_and _ _ _ _ _ _ _ (@ptC_cmpR _ _ _ _ _ _ _ _ op_eq (@pe_ix _ _ _ _ _ _ _ (show IxR _ (cIxT K) from ixC_tup) (pvC 2) pe_int (fun _ _ => rfl)) pe_str (nomark _)) (@pw_and1 _ _ _ _ (@ptC_cmpR _ _ _ _ _ _ _ _ op_eq (@pe_ix _ _ _ _ _ _ _ (show IxR _ (cIxT K) from ixC_tup) (pvC 3) pe_int (fun _ _ => rfl)) pe_str (nomark _))))) hW1 pss_nil) hW0); ?_)
    refine (let W3 : TS := _; have hW3 : PSs (cxOf CX0 P w K mg base ["_law_one", "_law_news", "_law_left", "_law_right"] "_law_through" (defScope s_l_through) t.a_l_through cdv A outer s H E).nox ((((defBody s_l_through).drop 1).drop 1).drop 1) W3 := (@pss_cons _ _ _ _ _ (@ps_set _ _ 3 _ _ _ _ sc_l_through.nd rfl (Or.inl rfl) (callD T.l_through G_l_through (hr.mono (by omega)) (@pa_cons _ _ _ _ _ (@pe_ix _ _ _ _ _ _ _ (show IxR _ (cIxT K) from ixC_tup) (pvC 0) pe_int (fun _ _ => rfl)) (@pa_cons _ _ _ _ _ (pvC 1) pa_nil (by rfl)) (by rfl))) (by rfl) (by first | exact .inl rfl | exact .inr rfl | assumption)) hW2); ?_)
    refine (let W4 : TS := _; have hW4 : PSs (cxOf CX0 P w K mg base ["_law_one", "_law_news", "_law_left", "_law_right"] "_law_through" (defScope s_l_through) t.a_l_through cdv A outer s H E).nox (((defBody s_l_through).drop 1).drop 1) W4 := (@pss_cons _ _ _ _ _ (@ps_set _ _ 2 _ _ _ _ sc_l_through.nd rfl (Or.inl rfl) (callD T.l_through G_l_through (hr.mono (by omega)) (@pa_cons _ _ _ _ _ (@pe_ix _ _ _ _ _ _ _ (show IxR _ (cIxT K) from ixC_tup) (pvC 0) pe_int (fun _ _ => rfl)) (@pa_cons _ _ _ _ _ (pvC 1) pa_nil (by rfl)) (by rfl))) (by rfl) (by first | exact .inl rfl | exact .inr rfl | assumption)) hW3); ?_)
    refine (let W5 : TS := _; have hW5 : PSs (cxOf CX0 P w K mg base ["_law_one", "_law_news", "_law_left", "_law_right"] "_law_through" (defScope s_l_through) t.a_l_through cdv A outer s H E).nox ((defBody s_l_through).drop 1) W5 := (@pss_cons _ _ _ _ _ (@ps_if _ _ _ _ _ _ _ _ (@ptC_cmpR _ _ _ _ _ _ _ _ op_eq (@pe_ix _ _ _ _ _ _ _ (show IxR _ (cIxT K) from ixC_tup) (pvC 0) pe_int (fun _ _ => rfl)) pe_str (nomark _)) (@pss_one _ _ _ (@ps_ret _ _ _ _ (pvC 0))) pss_nil) hW4); ?_)
    refine (let W6 : TS := _; have hW6 : PSs (cxOf CX0 P w K mg base ["_law_one", "_law_news", "_law_left", "_law_right"] "_law_through" (defScope s_l_through) t.a_l_through cdv A outer s H E).nox (sB ((defBody s_l_through).getD 0 (.Pass ⟨0, 0, 0, 0⟩))) W6 := (@pss_one _ _ _ (@ps_ret _ _ _ _ (pe_dget2 (u1' hr.units) (pvC 1) (@pe_ix _ _ _ _ _ _ _ (show IxR _ (cIxT K) from ixC_tup) (pvC 0) pe_int (fun _ _ => rfl)) (pvC 0) ⟨rfl, rfl, rfl, rfl⟩))); ?_)
    obtain ⟨tr, v, d, kvs, g, rfl, hd, hR, hD, nv, ok, og, q⟩ := h
    refine ⟨_, (@pss_cons _ _ _ _ _ (@ps_if _ _ _ _ _ _ _ _ (@ptC_cmpR _ _ _ _ _ _ _ _ op_eq (@pe_ix _ _ _ _ _ _ _ (show IxR _ (cIxT K) from ixC_tup) (pvC 0) pe_int (fun _ _ => rfl)) pe_str (nomark _)) hW6 pss_nil) hW5), ?_⟩
    cases tr with
    | box k =>
      have hR' := hR
      obtain ⟨p, rfl, e⟩ := hR
      refine ⟨_, rfl, p, _, _, _, rfl, rfl, SqT.of e, at0, rfl, _, rfl, iteP (decide_eq_true rfl) ?_⟩
      refine ⟨_, rfl, d, rfl, .inl ⟨kvs, .inl hD⟩, _, rfl, p, _, _, _, rfl, rfl, SqT.of e, rfl, _, rfl, _, DGet.k (k := Sum.inl k) hD, q _ _ (Same.refl _) ?_⟩
      show RAt H ((g k).getD (.box k)) _
      cases eg : g k with
      | none => rw [nv.no eg]; exact hR'
      | some t =>
        obtain ⟨x, h1, h2⟩ := nv.yes eg
        rw [h1]
        exact h2
    | num k =>
      have hR' := hR
      obtain ⟨p, rfl, e⟩ := hR
      refine ⟨_, rfl, p, _, _, _, rfl, rfl, SqT.of e, at0, rfl, _, rfl, iteN (fun z => num_box (V.str.inj (dec_true z))) ?_⟩
      exact ⟨_, rfl, p, _, _, _, rfl, rfl, SqT.of e, at0, rfl, _, rfl, iteP (decide_eq_true rfl) ⟨_, rfl, q _ _ (Same.refl _) hR'⟩⟩
    | op s l r =>
      obtain ⟨p, x, y, rfl, e, n1, n2, hx, hy⟩ := hR
      have d1 : dp l < n := by have : max (dp l) (dp r) + 1 < n + 1 := hd; omega
      have d2 : dp r < n := by have : max (dp l) (dp r) + 1 < n + 1 := hd; omega
      obtain ⟨o1, o2⟩ := okl_app ok
      refine ⟨_, rfl, p, _, _, _, rfl, rfl, SqT.of e, at0, rfl, _, rfl, iteN (fun z => n1 (V.str.inj (dec_true z))) ?_⟩
      refine ⟨_, rfl, p, _, _, _, rfl, rfl, SqT.of e, at0, rfl, _, rfl, iteN (fun z => n2 (V.str.inj (dec_true z))) ?_⟩
      refine ⟨_, rfl, p, _, _, _, rfl, rfl, SqT.of e, rfl, _, rfl, l, x, d, kvs, g, rfl, d1, hx, hD, nv, o1, og, fun v1 H1 s1 r1 => ?_⟩
      refine ⟨_, rfl, p, _, _, _, rfl, rfl, SqT.of (s1 _ _ e), rfl, _, rfl, r, y, d, kvs, g, rfl, d2, hy.mono s1, s1 _ _ hD, nv.mono s1, o2, og, fun v2 H2 s2 r2 => ?_⟩
      have s12 := s1.trans s2
      have r1' := r1.mono s2
      obtain ⟨pl, hd1, rest1, rfl, el, a1, a2⟩ := r1'.head
      obtain ⟨pr, hd2, rest2, rfl, er, b1, b2⟩ := r2.head
      refine ⟨_, rfl, pl, _, _, _, rfl, rfl, SqT.of el, at0, rfl, _, rfl, ?_⟩
      have fin : ∀ c H3, H3 c = some (.tup [.str s, .ref pl, .ref pr]) → Same H2 H3 → ((∀ k, pt g l ≠ .num k) ∨ ∀ k, pt g r ≠ .num k) → RAt H3 (pt g (.op s l r)) (.ref c) := fun c H3 hc s3 hn => by
        show RAt H3 (tog s (pt g l) (pt g r)) (.ref c)
        rw [tog_op hn]
        exact ⟨c, _, _, rfl, hc, n1, n2, r1'.mono s3, r2.mono s3⟩
      by_cases m1 : hd1 = "num"
      · refine iteP (decide_eq_true (congrArg V.str m1)) ⟨_, rfl, pr, _, _, _, rfl, rfl, SqT.of er, at0, rfl, _, rfl, ?_⟩
        by_cases m2 : hd2 = "num"
        · obtain ⟨k1, z1, y1⟩ := a1 m1
          obtain ⟨k2, z2, y2⟩ := b1 m2
          subst y1
          subst y2
          have w1 := okl_num (by have := okl_pt og o1; rw [z1] at this; exact this)
          have w2 := okl_num (by have := okl_pt og o2; rw [z2] at this; exact this)
          refine iteP (decide_eq_true (congrArg V.str m2)) ⟨_, rfl, p, _, _, _, rfl, rfl, SqT.of (s12 _ _ e), at0, _, rfl, pl, _, _, _, rfl, rfl, SqT.of el, rfl, _, rfl, pr, _, _, _, rfl, rfl, SqT.of er, rfl, s, k1, k2, rfl, w1.1, w2.1, w1.2, w2.2, le2, fun c hc => q _ _ (s12.trans (Same.new hc)) ?_⟩
          show RAt _ (tog s (pt g l) (pt g r)) _
          rw [z1, z2]
          exact ⟨c, rfl, upd_same⟩
        · refine iteN (fun z => m2 (V.str.inj (dec_true z))) ⟨_, rfl, p, _, _, _, rfl, rfl, SqT.of (s12 _ _ e), at0, _, rfl, _, rfl, le3, fun c hc => q _ _ (s12.trans (Same.new hc)) (fin c _ upd_same (Same.new hc) (.inr (b2 m2)))⟩
      · refine iteN (fun z => m1 (V.str.inj (dec_true z))) (iteF ⟨_, rfl, p, _, _, _, rfl, rfl, SqT.of (s12 _ _ e), at0, _, rfl, _, rfl, le3, fun c hc => q _ _ (s12.trans (Same.new hc)) (fin c _ upd_same (Same.new hc) (.inl (a2 m1)))⟩)
end
end K42

set_option Elab.async false
set_option linter.all false
set_option maxRecDepth 100000
set_option maxHeartbeats 4000000
namespace K42
open PySem L2 K21 Rk2 Bg
section
variable {P : Program} {w : World} {K : PySem.W.Frag} {mg : Str → Option Value} {base : Heap} {t : Adr}
local macro_rules | `(tactic| walk_at "rd1") => `(tactic| first
  | refine ⟨_, rfl, ?_⟩
  | refine ⟨_, _, rfl, rfl, ?_⟩
  | refine ⟨rfl, ?_⟩
  | refine ⟨(show (0 : Int) < _ by decide), ?_⟩
  | refine ⟨⟨by decide, by decide⟩, ?_⟩
  | refine ⟨.inl ⟨by decide, by decide⟩, ?_⟩
  | refine ⟨.inr ⟨by decide, by decide⟩, ?_⟩
  | refine ⟨⟨by decide, by decide, by decide⟩, ?_⟩)
local macro_rules | `(tactic| walk_at "rd") => `(tactic| repeat walk_at "rd1")
theorem sc_l_place : FnScope ["_law_number", "_law_k", "_law_many", "_law_boxes", "_law_due_here", "_law_far"] ["_law_number", "_law_k", "_law_many", "_law_boxes"] (defScope s_l_place) := ⟨rfl, rfl, rfl, by decide +kernel, rfl, by decide +kernel, by decide +kernel⟩
theorem ok_l_place (T : Txt K mg t) : FnOk P w K mg base CX0 1 t.a_l_place t.d_l_place ["_law_number", "_law_k", "_law_many", "_law_boxes"] (sp_l_place K) := by
  refine T.l_place.F.ok sc_l_place (fun vs H Q E h => ?_) (fun cdv A outer s H vs Q E hr h => ?_)
  · obtain ⟨n, k, m, bl, rfl, n0, n1, k0, k1, m0, m1, q⟩ := h
    rfl
  · skip
    refine (let W0 : TS := _; have hW0 : PSs (cxOf CX0 P w K mg base ["_law_number", "_law_k", "_law_many", "_law_boxes", "_law_due_here", "_law_far"] "_law_place" (defScope s_l_place) t.a_l_place cdv A outer s H E).nox (sB (((((((defBody s_l_place).drop 1).drop 1).drop 1).drop 1).drop 1).getD 0 (.Pass ⟨0, 0, 0, 0⟩))) W0 := (@pss_one _ _ _ (@ps_ret _ _ _ _ (@pe_tup _ _ _ _ _ (@pa_cons _ _ _ _ _ pe_str (@pa_cons _ _ _ _ _ (@pe_tup _ _ _ _ _ (@pa_cons _ _ _ _ _ pe_str (@pa_cons _ _ _ _ _ (@pe_op _ _ _ _ _ _ _ _ (opC1 op_fdiv) (pvC 0) pe_int) pa_nil (by rfl)) (by rfl))) (@pa_cons _ _ _ _ _ (@pe_tup _ _ _ _ _ (@pa_cons _ _ _ _ _ pe_str (@pa_cons _ _ _ _ _ (@pe_op _ _ _ _ _ _ _ _ (opC0 op_add) (@pe_op _ _ _ _ _ _ _ _ (opC1 op_fdiv) (pvC 0) pe_int) (@pe_op _ _ _ _ _ _ _ _ (opC1 op_mod) (@pe_op _ _ _ _ _ _ _ _ (opC1 op_fdiv) (pvC 0) pe_int) pe_int)) pa_nil (by rfl)) (by rfl))) pa_nil (by rfl)) (by rfl)) (by rfl))))); ?_)
    refine (let W1 : TS := _; have hW1 : PSs (cxOf CX0 P w K mg base ["_law_number", "_law_k", "_law_many", "_law_boxes", "_law_due_here", "_law_far"] "_law_place" (defScope s_l_place) t.a_l_place cdv A outer s H E).nox ((((((defBody s_l_place).drop 1).drop 1).drop 1).drop 1).drop 1) W1 := (@pss_cons _ _ _ _ _ (@ps_if _ _ _ _ _ _ _ _ (@PW.pt _ _ _ (@pw_and _ _ _ _ _ _ _ (@ptC_cmpR _ _ _ _ _ _ _ _ op_eq (@pe_op _ _ _ _ _ _ _ _ (opC1 op_mod) (pvC 0) pe_int) pe_int (nomark _)) (@pw_and1 _ _ _ _ (@ptC_cmpR _ _ _ _ _ _ _ _ (opC0 op_ge) (pvC 1) (pvC 2) (nomark _))))) hW0 pss_nil) (@pss_one _ _ _ (@ps_ret _ _ _ _ (pvC 4)))); ?_)
    refine (let W2 : TS := _; have hW2 : PSs (cxOf CX0 P w K mg base ["_law_number", "_law_k", "_law_many", "_law_boxes", "_law_due_here", "_law_far"] "_law_place" (defScope s_l_place) t.a_l_place cdv A outer s H E).nox (sB ((((((defBody s_l_place).drop 1).drop 1).drop 1).drop 1).getD 0 (.Pass ⟨0, 0, 0, 0⟩))) W2 := (@pss_one _ _ _ (@ps_ret _ _ _ _ (@pe_ix _ _ _ _ _ _ _ (show IxR _ (cIxL K) from ixC_list) (@pe_lst _ _ _ _ (@pa_cons _ _ _ _ _ (pvC 5) (@pa_cons _ _ _ _ _ (@pe_tup _ _ _ _ _ (@pa_cons _ _ _ _ _ pe_str (@pa_cons _ _ _ _ _ (pvC 5) (@pa_cons _ _ _ _ _ (@pe_tup _ _ _ _ _ (@pa_cons _ _ _ _ _ pe_str (@pa_cons _ _ _ _ _ (@pe_op _ _ _ _ _ _ _ _ (opC1 op_fdiv) (pvC 0) pe_int) pa_nil (by rfl)) (by rfl))) pa_nil (by rfl)) (by rfl)) (by rfl))) (@pa_cons _ _ _ _ _ (@pe_tup _ _ _ _ _ (@pa_cons _ _ _ _ _ pe_str (@pa_cons _ _ _ _ _ (@pe_tup _ _ _ _ _ (@pa_cons _ _ _ _ _ pe_str (@pa_cons _ _ _ _ _ (@pe_op _ _ _ _ _ _ _ _ (opC1 op_fdiv) (pvC 0) pe_int) pa_nil (by rfl)) (by rfl))) (@pa_cons _ _ _ _ _ (pvC 5) pa_nil (by rfl)) (by rfl)) (by rfl))) pa_nil (by rfl)) (by rfl)) (by rfl))) (@pe_op _ _ _ _ _ _ _ _ (opC1 op_mod) (@pe_op _ _ _ _ _ _ _ _ (opC1 op_fdiv) (pvC 0) pe_int) pe_int) (fun _ _ => rfl)))); ?_)
    refine (let W3 : TS := _; have hW3 : PSs (cxOf CX0 P w K mg base ["_law_number", "_law_k", "_law_many", "_law_boxes", "_law_due_here", "_law_far"] "_law_place" (defScope s_l_place) t.a_l_place cdv A outer s H E).nox (((((defBody s_l_place).drop 1).drop 1).drop 1).drop 1) W3 := (@pss_cons _ _ _ _ _ (@ps_if _ _ _ _ _ _ _ _ (@PW.pt _ _ _ (@pw_and _ _ _ _ _ _ _ (@ptC_cmpR _ _ _ _ _ _ _ _ op_eq (@pe_op _ _ _ _ _ _ _ _ (opC1 op_mod) (pvC 0) pe_int) pe_int (nomark _)) (@pw_and1 _ _ _ _ (@ptC_cmpR _ _ _ _ _ _ _ _ (opC0 op_ge) (pvC 1) (pvC 2) (nomark _))))) hW2 pss_nil) hW1); ?_)
    refine (let W4 : TS := _; have hW4 : PSs (cxOf CX0 P w K mg base ["_law_number", "_law_k", "_law_many", "_law_boxes", "_law_due_here", "_law_far"] "_law_place" (defScope s_l_place) t.a_l_place cdv A outer s H E).nox ((((defBody s_l_place).drop 1).drop 1).drop 1) W4 := (@pss_cons _ _ _ _ _ (@ps_if _ _ _ _ _ _ _ _ (@ptC_cmpR _ _ _ _ _ _ _ _ op_eq (@pe_op _ _ _ _ _ _ _ _ (opC1 op_mod) (pvC 0) pe_int) pe_int (nomark _)) (@pss_one _ _ _ (@ps_ret _ _ _ _ pe_non)) pss_nil) hW3); ?_)
    refine (let W5 : TS := _; have hW5 : PSs (cxOf CX0 P w K mg base ["_law_number", "_law_k", "_law_many", "_law_boxes", "_law_due_here", "_law_far"] "_law_place" (defScope s_l_place) t.a_l_place cdv A outer s H E).nox (((defBody s_l_place).drop 1).drop 1) W5 := (@pss_cons _ _ _ _ _ (@ps_set _ _ 5 _ _ _ _ sc_l_place.nd rfl (Or.inl rfl) (@pe_tup _ _ _ _ _ (@pa_cons _ _ _ _ _ pe_str (@pa_cons _ _ _ _ _ (@pe_ix _ _ _ _ _ _ _ (show IxR _ (cIxL K) from ixC_list) (@pe_lst _ _ _ _ (@pa_cons _ _ _ _ _ (pe_callB (call_max2 rfl) (by rfl) T.b_max bt_max (@pa_cons _ _ _ _ _ (pvC 2) (@pa_cons _ _ _ _ _ (@pe_op _ _ _ _ _ _ _ _ (opC1 op_mod) (@pe_op _ _ _ _ _ _ _ _ (opC1 op_fdiv) (pvC 0) pe_int) pe_int) pa_nil (by rfl)) (by rfl))) (@pa_cons _ _ _ _ _ (pvC 2) pa_nil (by rfl)) (by rfl))) (@pe_op _ _ _ _ _ _ _ _ (opC1 op_mod) (@pe_op _ _ _ _ _ _ _ _ (opC1 op_fdiv) (pvC 0) pe_int) pe_int) (fun _ _ => rfl)) pa_nil (by rfl)) (by rfl))) (by rfl) (by first | exact .inl rfl | exact .inr rfl | assumption)) hW4); ?_)
    refine (let W6 : TS := _; have hW6 : PSs (cxOf CX0 P w K mg base ["_law_number", "_law_k", "_law_many", "_law_boxes", "_law_due_here", "_law_far"] "_law_place" (defScope s_l_place) t.a_l_place cdv A outer s H E).nox (sB (((defBody s_l_place).drop 1).getD 0 (.Pass ⟨0, 0, 0, 0⟩))) W6 := (@pss_one _ _ _ (@ps_set _ _ 4 _ _ _ _ sc_l_place.nd rfl (Or.inl rfl) (@pe_tup _ _ _ _ _ (@pa_cons _ _ _ _ _ pe_str (@pa_cons _ _ _ _ _ (pvC 1) pa_nil (by rfl)) (by rfl))) (by rfl) (by first | exact .inl rfl | exact .inr rfl | assumption))); ?_)
    refine (let W7 : TS := _; have hW7 : PSs (cxOf CX0 P w K mg base ["_law_number", "_law_k", "_law_many", "_law_boxes", "_law_due_here", "_law_far"] "_law_place" (defScope s_l_place) t.a_l_place cdv A outer s H E).nox ((defBody s_l_place).drop 1) W7 := (@pss_cut _ _ _ _ _ (@ps_if _ _ _ _ _ _ _ _ (@ptC_cmpR _ _ _ _ _ _ _ _ (opC0 op_lt) (pvC 1) (pvC 2) (nomark _)) hW6 pss_nil) hW5); ?_)
    obtain ⟨n, k, m, bl, rfl, n0, n1, k0, k1, m0, m1, q⟩ := h
    refine ⟨_, (@pss_cons _ _ _ _ _ (@ps_set _ _ 4 _ _ _ _ sc_l_place.nd rfl (Or.inl rfl) (@pe_tup _ _ _ _ _ (@pa_cons _ _ _ _ _ pe_str (@pa_cons _ _ _ _ _ pe_int pa_nil (by rfl)) (by rfl))) (by rfl) (by first | exact .inl rfl | exact .inr rfl | assumption)) hW7), ?_⟩
    refine ⟨le2, fun a0 z0 => ?_⟩
    refine ⟨fun σ' G => ∃ tr v, σ' = [some (.int n), some (.int k), some (.int m), some (.ref bl), some v, none] ∧ Same H G ∧ RAt G tr v ∧ TOk' 0 tr, ?_, ?_⟩
    · refine ⟨_, rfl, _, rfl, _, _, rfl, rfl, _, rfl, ?_⟩
      by_cases h : k < m
      · exact iteP (decide_eq_true h) ⟨_, rfl, le2, fun a1 z1 => ⟨.box k, _, rfl, (Same.new z0).trans (Same.new z1), ⟨a1, rfl, upd_same⟩, tok_box ⟨k0, by omega⟩⟩⟩
      · exact iteN (by rw [decide_eq_true_eq]; exact h) ⟨.num 0, _, rfl, Same.new z0, ⟨a0, rfl, upd_same⟩, tok_num (by decide) (by decide)⟩
    rintro σ' G ⟨tr, v, rfl, s0, r0, t0⟩
    have b128 := emod_bd' (n / 3) 128 (by decide)
    have b2 := emod_bd' (n / 5) 2 (by decide)
    refine ⟨_, rfl, _, rfl, _, _, rfl, rfl, ⟨by decide, by decide⟩, _, _, rfl, rfl, (show (0 : Int) < 128 by decide), _, _, rfl, _, rfl, le2, fun L hL => ⟨_, rfl, _, _, rfl, rfl, ⟨by decide, by decide⟩, _, _, rfl, rfl, (show (0 : Int) < 2 by decide), L, _, _, _, rfl, rfl, SqL.of upd_same, two_at b2.1 b2.2, le2, fun a2 z2 => ?_⟩⟩
    have hfb : 0 ≤ (if n / 5 % 2 = 0 then (if n / 3 % 128 > m then n / 3 % 128 else m) else m) ∧ (if n / 5 % 2 = 0 then (if n / 3 % 128 > m then n / 3 % 128 else m) else m) < 128 := by split <;> (try split) <;> omega
    generalize (if n / 5 % 2 = 0 then (if n / 3 % 128 > m then n / 3 % 128 else m) else m) = fb at hfb ⊢
    have s1 := (s0.trans (Same.new hL)).trans (Same.new (o := .tup [V.str "box", V.int fb]) z2)
    have r1 := (r0.mono (Same.new hL)).mono (Same.new (o := .tup [V.str "box", V.int fb]) z2)
    have rf : RAt (upd (upd G L (.lst [V.int (if n / 3 % 128 > m then n / 3 % 128 else m), V.int m])) a2 (.tup [V.str "box", V.int fb])) (.box fb) (.ref a2) := ⟨a2, rfl, upd_same⟩
    generalize upd (upd G L (.lst [V.int (if n / 3 % 128 > m then n / 3 % 128 else m), V.int m])) a2 (.tup [V.str "box", V.int fb]) = G1 at s1 r1 rf ⊢
    have tf : ∀ {i}, TOk' i (.box fb) := tok_box hfb
    have tn : ∀ {i}, TOk' i (.num (n / 384)) := tok_num (by omega) (Int.lt_trans (show n / 384 < 1073741824 by omega) (by decide))
    refine ⟨_, rfl, _, _, rfl, rfl, (show (0 : Int) < 6 by decide), rfl, _, rfl, ?_⟩
    by_cases h0 : n % 6 = 0
    · exact iteP (decide_eq_true (congrArg V.int h0)) (q none .non G1 s1 rfl fun t h => by cases h)
    refine iteN (fun z => h0 (V.int.inj (dec_true z))) ?_
    refine ⟨_, rfl, _, _, rfl, rfl, (show (0 : Int) < 6 by decide), rfl, _, rfl, ?_⟩
    by_cases c1 : n % 6 = 1 ∧ k ≥ m
    · refine iteP (decide_eq_true (congrArg V.int c1.1)) ⟨_, rfl, _, rfl, _, _, rfl, rfl, _, rfl, iteP (decide_eq_true c1.2) ?_⟩
      refine ⟨_, rfl, _, rfl, _, rfl, _, _, rfl, rfl, ⟨by decide, by decide⟩, le2, fun b1 j1 => ⟨le3, fun b2 j2 => ⟨_, rfl, _, _, rfl, rfl, ⟨by decide, by decide⟩, le2, fun b3 j3 => ⟨_, rfl, le3, fun b4 j4 => ⟨le3, fun L2 hL2 => ?_⟩⟩⟩⟩⟩
      have b3' := emod_bd' (n / 3) 3 (by decide)
      have y1 := Same.new (o := .tup [V.str "num", V.int (n / 384)]) j1
      have y2 := Same.new (o := .tup [V.str "*", V.ref a2, V.ref b1]) j2
      have y3 := Same.new (o := .tup [V.str "num", V.int (n / 384)]) j3
      have y4 := Same.new (o := .tup [V.str "&", V.ref b3, V.ref a2]) j4
      have y5 := Same.new (o := .lst [V.ref a2, V.ref b2, V.ref b4]) hL2
      have sA := (((y1.trans y2).trans y3).trans y4).trans y5
      rcases (show n / 3 % 3 = 0 ∨ n / 3 % 3 = 1 ∨ n / 3 % 3 = 2 by omega) with e | e | e
      · exact ⟨_, rfl, _, _, rfl, rfl, ⟨by decide, by decide⟩, _, _, rfl, rfl, (show (0 : Int) < 3 by decide), L2, _, _, V.ref a2, rfl, rfl, SqL.of upd_same, (by rw [e]; rfl), q (some (.box fb)) _ _ (s1.trans sA) (rf.mono sA) fun t h => by cases h; exact tf.ok (n := 0) (by decide)⟩
      · exact ⟨_, rfl, _, _, rfl, rfl, ⟨by decide, by decide⟩, _, _, rfl, rfl, (show (0 : Int) < 3 by decide), L2, _, _, V.ref b2, rfl, rfl, SqL.of upd_same, (by rw [e]; rfl), q (some (.op "*" (.box fb) (.num (n / 384)))) _ _ (s1.trans sA) ⟨b2, _, _, rfl, y5 _ _ (y4 _ _ (y3 _ _ upd_same)), by decide +kernel, by decide +kernel, rf.mono sA, ⟨b1, rfl, y5 _ _ (y4 _ _ (y3 _ _ (y2 _ _ upd_same)))⟩⟩ fun t h => by cases h; exact (tok_op (n := 0) (by decide +kernel) tf tn).ok (by decide)⟩
      · exact ⟨_, rfl, _, _, rfl, rfl, ⟨by decide, by decide⟩, _, _, rfl, rfl, (show (0 : Int) < 3 by decide), L2, _, _, V.ref b4, rfl, rfl, SqL.of upd_same, (by rw [e]; rfl), q (some (.op "&" (.num (n / 384)) (.box fb))) _ _ (s1.trans sA) ⟨b4, _, _, rfl, y5 _ _ upd_same, by decide +kernel, by decide +kernel, ⟨b3, rfl, y5 _ _ (y4 _ _ upd_same)⟩, rf.mono sA⟩ fun t h => by cases h; exact (tok_op (n := 0) (by decide +kernel) tn tf).ok (by decide)⟩
    have rest : Q v G1 := q (some tr) v G1 s1 r1 fun t h => by cases h; exact t0.ok (by decide)
    have b11 := emod_bd' (n / 11) 2 (by decide)
    have tn2 : ∀ {i}, TOk' i (.num (n / 384 + n / 11 % 2)) := tok_num (by omega) (Int.lt_trans (show n / 384 + n / 11 % 2 < 1073741824 by omega) (by decide))
    by_cases d1 : n % 6 = 1
    · refine iteP (decide_eq_true (congrArg V.int d1)) ⟨_, rfl, _, rfl, _, _, rfl, rfl, _, rfl, iteN (by rw [decide_eq_true_eq]; exact fun z => c1 ⟨d1, z⟩) ?_⟩
      refine ⟨_, rfl, _, _, rfl, rfl, (show (0 : Int) < 6 by decide), rfl, _, rfl, iteN (fun z => by have := V.int.inj (dec_true z); omega) (iteF ⟨_, rfl, rest⟩)⟩
    · refine iteN (fun z => d1 (V.int.inj (dec_true z))) (iteF ?_)
      refine ⟨_, rfl, _, _, rfl, rfl, (show (0 : Int) < 6 by decide), rfl, _, rfl, ?_⟩
      by_cases d2 : n % 6 = 2
      · refine iteP (decide_eq_true (congrArg V.int d2)) ⟨_, rfl, _, rfl, _, _, rfl, rfl, _, rfl, ?_⟩
        by_cases d3 : k ≥ m
        · refine iteP (decide_eq_true d3) ⟨_, rfl, _, _, rfl, rfl, ⟨by decide, by decide⟩, le2, fun b1 j1 => ⟨_, rfl, _, _, rfl, rfl, ⟨by decide, by decide⟩, _, rfl, _, _, rfl, rfl, ⟨by decide, by decide⟩, _, _, rfl, rfl, (show (0 : Int) < 2 by decide), _, _, rfl, rfl, le2, fun b2 j2 => ⟨le3, fun b3 j3 => ?_⟩⟩⟩
          have y2 := Same.new (o := .tup [V.str "num", V.int (n / 384 + n / 11 % 2)]) j2
          have y3 := Same.new (o := .tup [V.str "-", V.ref b1, V.ref b2]) j3
          exact q (some (.op "-" (.num (n / 384)) (.num (n / 384 + n / 11 % 2)))) _ _ (((s1.trans (Same.new j1)).trans y2).trans y3) ⟨b3, _, _, rfl, upd_same, by decide +kernel, by decide +kernel, ⟨b1, rfl, y3 _ _ (y2 _ _ upd_same)⟩, ⟨b2, rfl, y3 _ _ upd_same⟩⟩ fun t h => by cases h; exact (tok_op (n := 0) (by decide +kernel) tn tn2).ok (by decide)
        · exact iteN (by rw [decide_eq_true_eq]; exact d3) ⟨_, rfl, rest⟩
      · exact iteN (fun z => d2 (V.int.inj (dec_true z))) (iteF ⟨_, rfl, rest⟩)
end
end K42

set_option Elab.async false
set_option linter.all false
set_option maxRecDepth 100000
set_option maxHeartbeats 4000000
namespace K42
open PySem L2 K21 Rk2 Bg
section
variable {P : Program} {w : World} {K : PySem.W.Frag} {mg : Str → Option Value} {base : Heap} {t : Adr}
local macro_rules | `(tactic| walk_at "rd1") => `(tactic| first
  | refine ⟨_, rfl, ?_⟩
  | refine ⟨_, _, rfl, rfl, ?_⟩
  | refine ⟨rfl, ?_⟩
  | refine ⟨(show (0 : Int) < _ by decide), ?_⟩
  | refine ⟨⟨by decide, by decide⟩, ?_⟩
  | refine ⟨.inl ⟨by decide, by decide⟩, ?_⟩
  | refine ⟨.inr ⟨by decide, by decide⟩, ?_⟩
  | refine ⟨⟨by decide, by decide, by decide⟩, ?_⟩)
local macro_rules | `(tactic| walk_at "rd") => `(tactic| repeat walk_at "rd1")
theorem sc_l_view : FnScope ["_law_cell", "_law_size", "_law_many", "_law_boxes", "_law_view_here", "_law_k", "_law_number", "_law_place_here"] ["_law_cell", "_law_size", "_law_many", "_law_boxes"] (defScope s_l_view) := ⟨rfl, rfl, rfl, by decide +kernel, rfl, by decide +kernel, by decide +kernel⟩
theorem ok_l_view (T : Txt K mg t) : FnOk P w K mg base CX0 2 t.a_l_view t.d_l_view ["_law_cell", "_law_size", "_law_many", "_law_boxes"] (sp_l_view K) := by
  have G_l_place : FnOk P w K mg base CX0 1 t.a_l_place t.d_l_place ["_law_number", "_law_k", "_law_many", "_law_boxes"] (sp_l_place K) := ok_l_place T
  have G_l_some : FnOk P w K mg base CX0 1 t.a_l_some t.d_l_some ["_law_cell", "_law_boxes"] (sp_l_some K) := ok_l_some T
  refine T.l_view.F.ok sc_l_view (fun vs H Q E h => ?_) (fun cdv A outer s H vs Q E hr h => ?_)
  · obtain ⟨c, sz, m, bl, bs, rfl, hsz, m0, m1, hB, hbs, q⟩ := h
    rfl
  · skip
    refine (let W0 : TS := _; have hW0 : PSs (cxOf CX0 P w K mg base ["_law_cell", "_law_size", "_law_many", "_law_boxes", "_law_view_here", "_law_k", "_law_number", "_law_place_here"] "_law_view" (defScope s_l_view) t.a_l_view cdv A outer s H E).nox ((((sB (((defBody s_l_view).drop 1).getD 0 (.Pass ⟨0, 0, 0, 0⟩))).drop 1).drop 1).drop 1) W0 := (@pss_one _ _ _ (@ps_expr _ _ _ _ (pe_bm PySem.F.plainAttrs_list PySem.F.slot_list_append PySem.F.type_list_append mtC_append (pvC 4) (@pa_cons _ _ _ _ _ (pvC 7) pa_nil (by rfl))) (by rfl))); ?_)
    refine (let W1 : TS := _; have hW1 : PSs (cxOf CX0 P w K mg base ["_law_cell", "_law_size", "_law_many", "_law_boxes", "_law_view_here", "_law_k", "_law_number", "_law_place_here"] "_law_view" (defScope s_l_view) t.a_l_view cdv A outer s H E).nox (sB ((((sB (((defBody s_l_view).drop 1).getD 0 (.Pass ⟨0, 0, 0, 0⟩))).drop 1).drop 1).getD 0 (.Pass ⟨0, 0, 0, 0⟩))) W1 := (@pss_one _ _ _ (@ps_set _ _ 7 _ _ _ _ sc_l_view.nd rfl (Or.inl rfl) (callD T.l_some G_l_some (hr.mono (by decide)) (@pa_cons _ _ _ _ _ (@pe_op _ _ _ _ _ _ _ _ (opC1 op_fdiv) (pvC 6) pe_int) (@pa_cons _ _ _ _ _ (pvC 3) pa_nil (by rfl)) (by rfl))) (by rfl) (by first | exact .inl rfl | exact .inr rfl | assumption))); ?_)
    refine (let W2 : TS := _; have hW2 : PSs (cxOf CX0 P w K mg base ["_law_cell", "_law_size", "_law_many", "_law_boxes", "_law_view_here", "_law_k", "_law_number", "_law_place_here"] "_law_view" (defScope s_l_view) t.a_l_view cdv A outer s H E).nox (((sB (((defBody s_l_view).drop 1).getD 0 (.Pass ⟨0, 0, 0, 0⟩))).drop 1).drop 1) W2 := (@pss_cons _ _ _ _ _ (@ps_if _ _ _ _ _ _ _ _ (@PW.pt _ _ _ (@pw_and _ _ _ _ _ _ _ (@ptC_cmpR _ _ _ _ _ _ _ _ op_eq (@pe_op _ _ _ _ _ _ _ _ (opC1 op_mod) (pvC 0) pe_int) pe_int (nomark _)) (@pw_and1 _ _ _ _ (@ptC_cmpR _ _ _ _ _ _ _ _ op_eq (@pe_op _ _ _ _ _ _ _ _ (opC1 op_mod) (pvC 6) pe_int) pe_int (nomark _))))) hW1 pss_nil) hW0); ?_)
    refine (let W3 : TS := _; have hW3 : PSs (cxOf CX0 P w K mg base ["_law_cell", "_law_size", "_law_many", "_law_boxes", "_law_view_here", "_law_k", "_law_number", "_law_place_here"] "_law_view" (defScope s_l_view) t.a_l_view cdv A outer s H E).nox ((sB (((defBody s_l_view).drop 1).getD 0 (.Pass ⟨0, 0, 0, 0⟩))).drop 1) W3 := (@pss_cons _ _ _ _ _ (@ps_set _ _ 7 _ _ _ _ sc_l_view.nd rfl (Or.inl rfl) (callD T.l_place G_l_place (hr.mono (by decide)) (@pa_cons _ _ _ _ _ (@pe_op _ _ _ _ _ _ _ _ (opC1 op_fdiv) (pvC 6) pe_int) (@pa_cons _ _ _ _ _ (pvC 5) (@pa_cons _ _ _ _ _ (pvC 2) (@pa_cons _ _ _ _ _ (pvC 3) pa_nil (by rfl)) (by rfl)) (by rfl)) (by rfl))) (by rfl) (by first | exact .inl rfl | exact .inr rfl | assumption)) hW2); ?_)
    refine (let W4 : TS := _; have hW4 : PSs (cxOf CX0 P w K mg base ["_law_cell", "_law_size", "_law_many", "_law_boxes", "_law_view_here", "_law_k", "_law_number", "_law_place_here"] "_law_view" (defScope s_l_view) t.a_l_view cdv A outer s H E).nox (sB (((defBody s_l_view).drop 1).getD 0 (.Pass ⟨0, 0, 0, 0⟩))) W4 := (@pss_cons _ _ _ _ _ (@ps_set _ _ 6 _ _ _ _ sc_l_view.nd rfl (Or.inl rfl) (@pe_op _ _ _ _ _ _ _ _ (opC1 op_fdiv) (@pe_op _ _ _ _ _ _ _ _ (opC1 op_mod) (@pe_op _ _ _ _ _ _ _ _ (opC1 op_mul) (pvC 0) (@pe_op _ _ _ _ _ _ _ _ (opC0 op_add) pe_int (@pe_op _ _ _ _ _ _ _ _ (opC1 op_mul) pe_int (pvC 5)))) pe_int) pe_int) (by rfl) (by first | exact .inl rfl | exact .inr rfl | assumption)) hW3); ?_)
    refine (let W5 : TS := _; have hW5 : PSs (cxOf CX0 P w K mg base ["_law_cell", "_law_size", "_law_many", "_law_boxes", "_law_view_here", "_law_k", "_law_number", "_law_place_here"] "_law_view" (defScope s_l_view) t.a_l_view cdv A outer s H E).nox ((defBody s_l_view).drop 1) W5 := (@pss_cons _ _ _ _ _ (ps_for PassesOwn.never rfl (pi_range1 rfl T.b_range (@pa_cons _ _ _ _ _ (pvC 1) pa_nil (by rfl))) (pg_name (i := 5) sc_l_view.nd rfl (Or.inl rfl)) hW4) (@pss_one _ _ _ (@ps_ret _ _ _ _ (pvC 4)))); ?_)
    obtain ⟨c, sz, m, bl, bs, rfl, hsz, m0, m1, hB, hbs, q⟩ := h
    refine ⟨_, (@pss_cons _ _ _ _ _ (@ps_set _ _ 4 _ _ _ _ sc_l_view.nd rfl (Or.inl rfl) (@pe_lst _ _ _ _ pa_nil) (by rfl) (by first | exact .inl rfl | exact .inr rfl | assumption)) hW5), ?_⟩
    refine ⟨le0, fun l hlH => ?_⟩
    refine ⟨_, rfl, _, rfl, by omega, by omega, for_range (lo := 0) (n := sz) (fun i σ H2 => ∃ v5 v6 v7 us view, σ = [some (.int c), some (.int sz), some (.int m), some (.ref bl), some (.ref l), v5, v6, v7] ∧ Same H H2 ∧ H2 l = some (.lst us) ∧ Ps (VAt H2) us view ∧ view.length = i ∧ ∀ t, some t ∈ view → TOk t) ⟨_, _, _, [], [], rfl, Same.new hlH, upd_same, trivial, rfl, fun t h => by cases h⟩ ?_ ?_⟩
    · rintro i σ H2 hi ⟨v5, v6, v7, us, view, rfl, s2, e2, p2, vl, vo⟩
      refine ⟨_, rfl, _, rfl, _, _, rfl, rfl, .inl ⟨by decide, by decide⟩, _, _, rfl, rfl, _, _, rfl, rfl, .inr ⟨by omega, by omega⟩, _, _, rfl, rfl, (show (0 : Int) < 2147483647 by decide), _, _, rfl, rfl, ⟨by decide, by decide⟩, ?_⟩
      have bb := emod_bd' (c * (48271 + 2 * (0 + (i : Int)))) 2147483647 (by decide)
      refine ⟨_, rfl, _, _, rfl, rfl, ⟨by decide, by decide⟩, _, rfl, _, rfl, _, rfl, _, _, _, bl, rfl, by omega, by omega, by omega, by omega, m0, m1, fun o v H3 s3 hv ho => ?_⟩
      refine ⟨_, rfl, _, _, rfl, rfl, (show (0 : Int) < 2 by decide), rfl, _, rfl, ?_⟩
      by_cases h1 : c % 2 = 1
      · refine iteP (decide_eq_true (congrArg V.int h1)) ⟨_, rfl, _, _, rfl, rfl, (show (0 : Int) < 4 by decide), rfl, _, rfl, ?_⟩
        by_cases h2 : c * (48271 + 2 * (0 + (i : Int))) % 2147483647 / 3 % 4 = 0
        · refine iteP (decide_eq_true (congrArg V.int h2)) ⟨_, rfl, _, _, rfl, rfl, ⟨by decide, by decide⟩, _, rfl, _, bl, bs, rfl, (s2.trans s3).seq hB, hbs, fun tr v' H4 s4 r4 t4 => ?_⟩
          have s34 := s3.trans s4
          have e4 := s34 _ _ e2
          have ls : (us ++ [v']).length = (view ++ [some tr]).length := by rw [List.length_append, List.length_append, Ps.len p2]; rfl
          refine ⟨_, rfl, .inl ⟨rfl, _, SqL.of e4⟩, _, rfl, l, _, _, rfl, rfl, e4, lt_line' (by rw [Ps.len p2]; omega), _, _, _, us ++ [v'], view ++ [some tr], rfl, (s2.trans s34).upd hlH, upd_same, Ps.imp (fun _ _ z => VAt.lst e4 z) (Ps.app (Ps.imp (fun _ _ z => VAt.mono z s34) p2) ⟨(show VAt H4 (some tr) v' from r4), trivial⟩), (by rw [List.length_append, vl]; rfl), fun t ht => (List.mem_append.mp ht).elim (vo t) fun ht => (fun t h => by cases h; exact t4 : ∀ t, some tr = some t → TOk t) t (List.mem_singleton.mp ht).symm⟩
        · refine iteN (fun z => h2 (V.int.inj (dec_true z))) ?_
          have e4 := s3 _ _ e2
          have ls : (us ++ [v]).length = (view ++ [o]).length := by rw [List.length_append, List.length_append, Ps.len p2]; rfl
          refine ⟨_, rfl, .inl ⟨rfl, _, SqL.of e4⟩, _, rfl, l, _, _, rfl, rfl, e4, lt_line' (by rw [Ps.len p2]; omega), _, _, _, us ++ [v], view ++ [o], rfl, (s2.trans s3).upd hlH, upd_same, Ps.imp (fun _ _ z => VAt.lst e4 z) (Ps.app (Ps.imp (fun _ _ z => VAt.mono z s3) p2) ⟨hv, trivial⟩), (by rw [List.length_append, vl]; rfl), fun t ht => (List.mem_append.mp ht).elim (vo t) fun ht => (fun t h => ho t h : ∀ t, o = some t → TOk t) t (List.mem_singleton.mp ht).symm⟩
      · refine iteN (fun z => h1 (V.int.inj (dec_true z))) (iteF ?_)
        have e4 := s3 _ _ e2
        have ls : (us ++ [v]).length = (view ++ [o]).length := by rw [List.length_append, List.length_append, Ps.len p2]; rfl
        refine ⟨_, rfl, .inl ⟨rfl, _, SqL.of e4⟩, _, rfl, l, _, _, rfl, rfl, e4, lt_line' (by rw [Ps.len p2]; omega), _, _, _, us ++ [v], view ++ [o], rfl, (s2.trans s3).upd hlH, upd_same, Ps.imp (fun _ _ z => VAt.lst e4 z) (Ps.app (Ps.imp (fun _ _ z => VAt.mono z s3) p2) ⟨hv, trivial⟩), (by rw [List.length_append, vl]; rfl), fun t ht => (List.mem_append.mp ht).elim (vo t) fun ht => (fun t h => ho t h : ∀ t, o = some t → TOk t) t (List.mem_singleton.mp ht).symm⟩
    · rintro σ H2 ⟨v5, v6, v7, us, view, rfl, s2, e2, p2, vl, vo⟩
      exact ⟨_, rfl, q l us view H2 s2 hlH e2 p2 vl vo⟩
end
end K42

set_option Elab.async false
set_option linter.all false
set_option maxRecDepth 100000
set_option maxHeartbeats 4000000
namespace K42
open PySem L2 K21 Rk2 Bg
section
variable {P : Program} {w : World} {K : PySem.W.Frag} {mg : Str → Option Value} {base : Heap} {t : Adr}
local macro_rules | `(tactic| walk_at "rd1") => `(tactic| first
  | refine ⟨_, rfl, ?_⟩
  | refine ⟨_, _, rfl, rfl, ?_⟩
  | refine ⟨rfl, ?_⟩
  | refine ⟨(show (0 : Int) < _ by decide), ?_⟩
  | refine ⟨⟨by decide, by decide⟩, ?_⟩
  | refine ⟨.inl ⟨by decide, by decide⟩, ?_⟩
  | refine ⟨.inr ⟨by decide, by decide⟩, ?_⟩
  | refine ⟨⟨by decide, by decide, by decide⟩, ?_⟩)
local macro_rules | `(tactic| walk_at "rd") => `(tactic| repeat walk_at "rd1")
theorem sc_l_due : FnScope ["_law_spots", "_law_marks", "_law_name", "_law_many", "_law_news", "_law_box", "_law_k", "_law_place_here", "_law_due_here"] ["_law_spots", "_law_marks", "_law_name", "_law_many"] (defScope s_l_due) := ⟨rfl, rfl, rfl, by decide +kernel, rfl, by decide +kernel, by decide +kernel⟩
theorem ok_l_due (T : Txt K mg t) : FnOk P w K mg base CX0 14 t.a_l_due t.d_l_due ["_law_spots", "_law_marks", "_law_name", "_law_many"] (sp_l_due K) := by
  have G_l_through : FnOk P w K mg base CX0 12 t.a_l_through t.d_l_through ["_law_one", "_law_news"] (sp_l_through K 10) := ok_l_through T 10
  refine T.l_due.F.ok sc_l_due (fun vs H Q E h => ?_) (fun cdv A outer s H vs Q E hr h => ?_)
  · obtain ⟨sA, mA, name, m, kd, fr, view, rfl, hm, hnm, hB, q⟩ := h
    rfl
  · skip
    refine (let W0 : TS := _; have hW0 : PSs (cxOf CX0 P w K mg base ["_law_spots", "_law_marks", "_law_name", "_law_many", "_law_news", "_law_box", "_law_k", "_law_place_here", "_law_due_here"] "_law_due" (defScope s_l_due) t.a_l_due cdv A outer s H E).nox ((((sB (((((defBody s_l_due).drop 1).drop 1).drop 1).getD 0 (.Pass ⟨0, 0, 0, 0⟩))).drop 1).drop 1).drop 1) W0 := (@pss_one _ _ _ (@ps_if _ _ _ _ _ _ _ _ (@PW.pt _ _ _ (@pw_and _ _ _ _ _ _ _ (pt_cmp (pc_notN (pvC 7))) (@pw_and1 _ _ _ _ (@ptC_cmpR _ _ _ _ _ _ _ _ (op_neD hr.units) (callD T.l_through G_l_through (hr.mono (by decide)) (@pa_cons _ _ _ _ _ (pvC 7) (@pa_cons _ _ _ _ _ (pvC 4) pa_nil (by rfl)) (by rfl))) (pvC 8) (nomark _))))) (@pss_one _ _ _ (@ps_ret _ _ _ _ pe_bl)) pss_nil)); ?_)
    refine (let W1 : TS := _; have hW1 : PSs (cxOf CX0 P w K mg base ["_law_spots", "_law_marks", "_law_name", "_law_many", "_law_news", "_law_box", "_law_k", "_law_place_here", "_law_due_here"] "_law_due" (defScope s_l_due) t.a_l_due cdv A outer s H E).nox (sB ((((sB (((((defBody s_l_due).drop 1).drop 1).drop 1).getD 0 (.Pass ⟨0, 0, 0, 0⟩))).drop 1).drop 1).getD 0 (.Pass ⟨0, 0, 0, 0⟩))) W1 := (@pss_one _ _ _ (@ps_set _ _ 8 _ _ _ _ sc_l_due.nd rfl (Or.inl rfl) (@pe_tup _ _ _ _ _ (@pa_cons _ _ _ _ _ pe_str (@pa_cons _ _ _ _ _ (pvC 6) pa_nil (by rfl)) (by rfl))) (by rfl) (by first | exact .inl rfl | exact .inr rfl | assumption))); ?_)
    refine (let W2 : TS := _; have hW2 : PSs (cxOf CX0 P w K mg base ["_law_spots", "_law_marks", "_law_name", "_law_many", "_law_news", "_law_box", "_law_k", "_law_place_here", "_law_due_here"] "_law_due" (defScope s_l_due) t.a_l_due cdv A outer s H E).nox (((sB (((((defBody s_l_due).drop 1).drop 1).drop 1).getD 0 (.Pass ⟨0, 0, 0, 0⟩))).drop 1).drop 1) W2 := (@pss_cons _ _ _ _ _ (@ps_if _ _ _ _ _ _ _ _ (@ptC_cmpR _ _ _ _ _ _ _ _ (opC0 op_lt) (pvC 6) (pvC 3) (nomark _)) hW1 pss_nil) hW0); ?_)
    refine (let W3 : TS := _; have hW3 : PSs (cxOf CX0 P w K mg base ["_law_spots", "_law_marks", "_law_name", "_law_many", "_law_news", "_law_box", "_law_k", "_law_place_here", "_law_due_here"] "_law_due" (defScope s_l_due) t.a_l_due cdv A outer s H E).nox ((sB (((((defBody s_l_due).drop 1).drop 1).drop 1).getD 0 (.Pass ⟨0, 0, 0, 0⟩))).drop 1) W3 := (@pss_cons _ _ _ _ _ (@ps_set _ _ 8 _ _ _ _ sc_l_due.nd rfl (Or.inl rfl) (@pe_tup _ _ _ _ _ (@pa_cons _ _ _ _ _ pe_str (@pa_cons _ _ _ _ _ pe_int pa_nil (by rfl)) (by rfl))) (by rfl) (by first | exact .inl rfl | exact .inr rfl | assumption)) hW2); ?_)
    refine (let W4 : TS := _; have hW4 : PSs (cxOf CX0 P w K mg base ["_law_spots", "_law_marks", "_law_name", "_law_many", "_law_news", "_law_box", "_law_k", "_law_place_here", "_law_due_here"] "_law_due" (defScope s_l_due) t.a_l_due cdv A outer s H E).nox (sB (((((defBody s_l_due).drop 1).drop 1).drop 1).getD 0 (.Pass ⟨0, 0, 0, 0⟩))) W4 := (@pss_cons _ _ _ _ _ (@ps_set _ _ 7 _ _ _ _ sc_l_due.nd rfl (Or.inl rfl) (@pe_ix _ _ _ _ _ _ _ (show IxR _ (cIxL K) from ixC_list) (@pe_ix _ _ _ _ _ _ _ (show IxR _ (cIxL K) from ixC_list) (@pe_ix _ _ _ _ _ _ _ (show IxR _ (cIxT K) from ixC_tup) (@pe_ix _ _ _ _ _ _ _ (show IxR _ (cIxL K) from ixC_list) (pvC 1) pe_int (fun _ _ => rfl)) pe_int (fun _ _ => rfl)) pe_int (fun _ _ => rfl)) (pvC 6) (fun _ _ => rfl)) (by rfl) (by first | exact .inl rfl | exact .inr rfl | assumption)) hW3); ?_)
    refine (let W5 : TS := _; have hW5 : PSs (cxOf CX0 P w K mg base ["_law_spots", "_law_marks", "_law_name", "_law_many", "_law_news", "_law_box", "_law_k", "_law_place_here", "_law_due_here"] "_law_due" (defScope s_l_due) t.a_l_due cdv A outer s H E).nox ((((defBody s_l_due).drop 1).drop 1).drop 1) W5 := (@pss_cons _ _ _ _ _ (ps_for PassesOwn.never rfl (pi_range1 rfl T.b_range (@pa_cons _ _ _ _ _ (pe_callB (show CallR _ (.builtin "len") (cLen K) from callC_len) (by rfl) T.b_len bt_len (@pa_cons _ _ _ _ _ (@pe_ix _ _ _ _ _ _ _ (show IxR _ (cIxL K) from ixC_list) (@pe_ix _ _ _ _ _ _ _ (show IxR _ (cIxT K) from ixC_tup) (@pe_ix _ _ _ _ _ _ _ (show IxR _ (cIxL K) from ixC_list) (pvC 1) pe_int (fun _ _ => rfl)) pe_int (fun _ _ => rfl)) pe_int (fun _ _ => rfl)) pa_nil (by rfl))) pa_nil (by rfl))) (pg_name (i := 6) sc_l_due.nd rfl (Or.inl rfl)) hW4) (@pss_one _ _ _ (@ps_ret _ _ _ _ pe_bl))); ?_)
    refine (let W6 : TS := _; have hW6 : PSs (cxOf CX0 P w K mg base ["_law_spots", "_law_marks", "_law_name", "_law_many", "_law_news", "_law_box", "_law_k", "_law_place_here", "_law_due_here"] "_law_due" (defScope s_l_due) t.a_l_due cdv A outer s H E).nox (sB ((((defBody s_l_due).drop 1).drop 1).getD 0 (.Pass ⟨0, 0, 0, 0⟩))) W6 := (@pss_one _ _ _ (ps_dput (u1' hr.units) (pvC 4) (pvC 5) (@pe_tup _ _ _ _ _ (@pa_cons _ _ _ _ _ pe_str (@pa_cons _ _ _ _ _ pe_int pa_nil (by rfl)) (by rfl))) (by rfl))); ?_)
    refine (let W7 : TS := _; have hW7 : PSs (cxOf CX0 P w K mg base ["_law_spots", "_law_marks", "_law_name", "_law_many", "_law_news", "_law_box", "_law_k", "_law_place_here", "_law_due_here"] "_law_due" (defScope s_l_due) t.a_l_due cdv A outer s H E).nox (((defBody s_l_due).drop 1).drop 1) W7 := (@pss_cons _ _ _ _ _ (ps_for PassesOwn.never rfl (pi_range2 rfl T.b_range (@pa_cons _ _ _ _ _ (pvC 3) (@pa_cons _ _ _ _ _ pe_int pa_nil (by rfl)) (by rfl))) (pg_name (i := 5) sc_l_due.nd rfl (Or.inl rfl)) hW6) hW5); ?_)
    refine (let W8 : TS := _; have hW8 : PSs (cxOf CX0 P w K mg base ["_law_spots", "_law_marks", "_law_name", "_law_many", "_law_news", "_law_box", "_law_k", "_law_place_here", "_law_due_here"] "_law_due" (defScope s_l_due) t.a_l_due cdv A outer s H E).nox ((defBody s_l_due).drop 1) W8 := (@pss_cons _ _ _ _ _ (@ps_set _ _ 4 _ _ _ _ sc_l_due.nd rfl (Or.inl rfl) pe_dnewK (by rfl) (by first | exact .inl rfl | exact .inr rfl | assumption)) hW7); ?_)
    obtain ⟨sA, mA, name, m, kd, fr, view, rfl, hm, hnm, hB, q⟩ := h
    refine ⟨_, (@pss_cons _ _ _ _ _ (@ps_if _ _ _ _ _ _ _ _ (@PW.pt _ _ _ (pw_or (@ptC_cmpR _ _ _ _ _ _ _ _ op_eq (@pe_ix _ _ _ _ _ _ _ (show IxR _ (cIxT K) from ixC_tup) (@pe_ix _ _ _ _ _ _ _ (show IxR _ (cIxT K) from ixC_tup) (@pe_ix _ _ _ _ _ _ _ (show IxR _ (cIxL K) from ixC_list) (pvC 0) pe_int (fun _ _ => rfl)) pe_int (fun _ _ => rfl)) pe_int (fun _ _ => rfl)) pe_str (nomark _)) (pw_or1 (@ptC_cmpR _ _ _ _ _ _ _ _ (op_neD hr.units) (@pe_ix _ _ _ _ _ _ _ (show IxR _ (cIxT K) from ixC_tup) (@pe_ix _ _ _ _ _ _ _ (show IxR _ (cIxL K) from ixC_list) (pvC 1) pe_int (fun _ _ => rfl)) pe_int (fun _ _ => rfl)) (@pe_tup _ _ _ _ _ (@pa_cons _ _ _ _ _ (@pe_tup _ _ _ _ _ (@pa_cons _ _ _ _ _ (pvC 2) (@pa_cons _ _ _ _ _ pe_int pa_nil (by rfl)) (by rfl))) pa_nil (by rfl))) (nomark _))))) (@pss_one _ _ _ (@ps_ret _ _ _ _ pe_bl)) pss_nil) hW8), ?_⟩
    obtain ⟨s0, ac, m0, ca, va, v0, u0, sr, ar, mr, vr, us, h1, h2, h3, h4, h5, h6, h7, h8, h9, h10, h11⟩ := hB
    have pl : us.length = view.length := Ps.len h9
    refine ⟨_, rfl, sA, _, _, _, rfl, rfl, h1, at0, s0, _, _, _, rfl, rfl, h2, rfl, ac, _, _, _, rfl, rfl, h3, at0, rfl, _, rfl, ?_⟩
    by_cases hw : kd = "wait"
    · exact iteP (decide_eq_true (congrArg V.str hw)) (iteT (q false H (Same.refl _) ⟨fun z => absurd z Bool.false_ne_true, fun z => absurd hw z.1⟩))
    refine iteN (fun z => hw (V.str.inj (dec_true z))) ?_
    refine ⟨_, rfl, mA, _, _, _, rfl, rfl, h4, at0, m0, _, _, _, rfl, rfl, h5, at0, _, rfl, le2, fun a1 k1 => ⟨le1, fun a2 k2 => ?_⟩⟩
    have s1 := (Same.new (o := .tup [V.str name, .int 0]) k1).trans (Same.new (o := .tup [.ref a1]) k2)
    have hc2 : ChAt K (upd (upd H a1 (.tup [V.str name, .int 0])) a2 (.tup [.ref a1])) a2 [⟨a1, name, 0⟩] := ⟨SqT.of upd_same, fun g hg => by
      cases List.mem_singleton.mp hg
      exact ⟨SqT.of (Same.new k2 _ _ upd_same), hnm⟩⟩
    refine ⟨chD fr, chD [⟨a1, name, 0⟩], (h6.mono s1).dat, hc2.dat, (h6.lay).shaped (by decide), (hc2.lay).shaped (by decide), _, rfl, ?_⟩
    rw [eqv_ch]
    by_cases hch : fr.map (fun f => (f.g, f.r)) = [(name, 0)]
    case neg => exact iteP (by rw [decide_eq_false hch]; rfl) (q false _ s1 ⟨fun z => absurd z Bool.false_ne_true, fun z => absurd z.2.1 hch⟩)
    refine iteN (by rw [decide_eq_true hch]; exact Bool.false_ne_true) ?_
    generalize upd (upd H a1 (.tup [V.str name, .int 0])) a2 (.tup [.ref a1]) = H1 at s1 ⊢
    intro d hd
    refine ⟨_, rfl, _, _, rfl, ⟨by omega, by omega, by omega, by omega⟩, for_range (lo := m) (n := ((128 : Int) - m).toNat) (fun i σ H2 => ∃ v5 kvs, σ = [some (.ref sA), some (.ref mA), some (.str name), some (.int m), some (.ref d), v5, none, none, none] ∧ Same H1 H2 ∧ H2 d = some (.dK kvs) ∧ kvs.length ≤ i ∧ NV H2 kvs (fun k => if (m : Int) ≤ k ∧ k < m + i then some (.num 0) else none)) ⟨_, [], rfl, Same.new hd, upd_same, Nat.le_refl _, NV.of (fun _ _ => rfl) fun k t z => by rw [if_neg (by omega)] at z; cases z⟩ ?_ ?_⟩
    · rintro i σ H2 hi ⟨v5, kvs, rfl, s2, hd2, kl, nv⟩
      refine ⟨le2, fun a k => ⟨_, rfl, _, rfl, d, _, rfl, DPut.k (k := (Sum.inl ((m : Int) + i) : Key)) (Same.new k _ _ hd2) (lt_line' (by omega)), ?_⟩⟩
      have e4 := Same.new (o := .tup [V.str "num", .int 0]) k _ _ hd2
      refine ⟨_, _, rfl, (s2.trans (Same.new k)).upd hd, upd_same, Nat.le_trans (putK_len _ _ _) (by omega), ?_⟩
      have := ((nv.mono (Same.new k)).put (k := (m : Int) + i) (t := .num 0) (x := .ref a) ⟨a, rfl, upd_same⟩).upd (o := .dK (putK kvs (Sum.inl ((m : Int) + i) : Key) (.ref a))) e4 no_dk
      have eg : setG (fun k => if (m : Int) ≤ k ∧ k < m + i then some (Tr.num 0) else none) ((m : Int) + i) (.num 0) = (fun k => if (m : Int) ≤ k ∧ k < m + ((i + 1 : Nat) : Int) then some (Tr.num 0) else none) := by
        funext j
        unfold setG
        show (if j = (m : Int) + i then some (Tr.num 0) else if (m : Int) ≤ j ∧ j < m + i then some (Tr.num 0) else none) = _
        by_cases c1 : j = (m : Int) + i
        · rw [if_pos c1, if_pos (by omega)]
        · rw [if_neg c1]
          by_cases c2 : (m : Int) ≤ j ∧ j < m + i
          · rw [if_pos c2, if_pos (by omega)]
          · rw [if_neg c2, if_neg (by omega)]
      rw [eg] at this
      exact this
    rintro σ H2 ⟨v5, kvs, rfl, s2, hd2, kl, nv⟩
    have eg : (fun k => if (m : Int) ≤ k ∧ k < m + (((128 : Int) - m).toNat : Int) then some (Tr.num 0) else none) = gN m := by
      funext j
      unfold gN
      have : (m : Int) + (((128 : Int) - m).toNat : Int) = 128 := by omega
      rw [this]
    have nv2 : NV H2 kvs (gN m) := by rw [← eg]; exact nv
    have s12 := s1.trans s2
    refine ⟨_, rfl, mA, _, _, _, rfl, rfl, s12.seq h4, at0, m0, _, _, _, rfl, rfl, s12.tup h5, rfl, va, _, _, _, rfl, rfl, s12.seq h7, at0, v0, _, rfl, .inl (s12.seq h8), _, rfl, by omega, by omega, for_range (lo := 0) (n := us.length) (fun i σ H3 => ∃ v5 v6 v7 v8, σ = [some (.ref sA), some (.ref mA), some (.str name), some (.int m), some (.ref d), v5, v6, v7, v8] ∧ Same H1 H3 ∧ Same H2 H3 ∧ ∀ k tr, k < i → view[k]? = some (some tr) → pt (gN m) tr = begun m k) ⟨_, _, _, _, rfl, s2, Same.refl _, fun k tr h => absurd h (Nat.not_lt_zero _)⟩ ?_ ?_⟩
    · rintro i σ H3 hi ⟨v5, v6, v7, v8, rfl, s3, sd3, hk⟩
      have ilt : i < view.length := by omega
      obtain ⟨y, o, e1, e2, hv⟩ := Ps.at h9 ilt
      have s13 := s1.trans s3
      refine ⟨_, rfl, mA, _, _, _, rfl, rfl, s13.seq h4, at0, m0, _, _, _, rfl, rfl, s13.tup h5, rfl, va, _, _, _, rfl, rfl, s13.seq h7, at0, _, rfl, v0, _, _, y, rfl, rfl, s13.seq h8, (by rw [Int.zero_add]; exact atI_nat e1), le2, fun cz hcz => ?_⟩
      have nx : (∀ tr, o = some tr → pt (gN m) tr = begun m i) → ∀ k tr, k < i + 1 → view[k]? = some (some tr) → pt (gN m) tr = begun m k := fun ho k tr h hk2 => by
        by_cases ek : k = i
        · subst ek
          rw [e2] at hk2
          exact ho tr (Option.some.inj hk2)
        · exact hk k tr (by omega) hk2
      refine ⟨_, rfl, _, rfl, _, _, rfl, rfl, _, rfl, ?_⟩
      by_cases hi : (i : Int) < m
      · refine iteP (decide_eq_true (by omega)) ⟨_, rfl, le2, fun c hc0 => ?_⟩
        have s3 := s3.trans (Same.new (o := .tup [V.str "num", .int 0]) hcz)
        have sd3 := sd3.trans (Same.new (o := .tup [V.str "num", .int 0]) hcz)
        have s4 := s3.trans (Same.new (o := .tup [V.str "box", .int (0 + (i : Int))]) hc0)
        have hc : RAt (upd (upd H3 cz (.tup [V.str "num", .int 0])) c (.tup [V.str "box", .int (0 + (i : Int))])) (begun m i) (.ref c) := by
          have e : begun m i = .box (0 + (i : Int)) := (if_pos hi).trans (congrArg Tr.box (Int.zero_add _).symm)
          rw [e]
          exact ⟨c, rfl, upd_same⟩
        have sd4 := sd3.trans (Same.new (o := .tup [V.str "box", .int (0 + (i : Int))]) hc0)
        generalize (upd (upd H3 cz (.tup [V.str "num", .int 0])) c (.tup [V.str "box", .int (0 + (i : Int))])) = G at s4 hc sd4 ⊢
        have s04 := s1.trans s4
        refine ⟨_, rfl, _, rfl, ?_⟩
        cases o with
        | none =>
          have hv : y = .non := hv
          subst hv
          exact iteF (iteF ⟨_, _, _, _, rfl, s4, sd4, nx fun tr h => by cases h⟩)
        | some tr =>
          have hv : RAt H tr y := hv
          have tok := h11 tr (List.mem_of_getElem? e2)
          have hyn : y ≠ .non := by
            cases tr with
            | box k => obtain ⟨p, rfl, _⟩ := hv; intro z; cases z
            | num k => obtain ⟨p, rfl, _⟩ := hv; intro z; cases z
            | op s l r => obtain ⟨p, _, _, rfl, _⟩ := hv; intro z; cases z
          refine iteP (by simpa using hyn) ?_
          refine ⟨_, rfl, _, rfl, tr, y, d, kvs, gN m, rfl, (by have := tok.2.2.1; omega), hv.mono s04, sd4 _ _ hd2, nv2.mono sd4, tok.1, gN_ok, fun v' H5 s5 r5 => ⟨_, rfl, ?_⟩⟩
          have lay1 : Lay 9 (trD (pt (gN m) tr)) := (trD_lay (sgOk_pt gN_sg tok.2.1)).mono (by have := dp_pt (g := gN m) (m := 0) gN_dp tr; have := tok.2.2.1; omega)
          have lay2 : Lay 1 (trD (begun m i)) := lay_begun _ _
          refine ⟨trD (pt (gN m) tr), trD (begun m i), datV_tr r5, datV_tr (hc.mono s5), lay1.shaped (by decide), lay2.shaped (by decide), _, rfl, ?_⟩
          rw [eqv_begun]
          by_cases hh : pt (gN m) tr = begun m i
          · refine iteN (by rw [decide_eq_true hh]; exact Bool.false_ne_true) ?_
            exact ⟨_, _, _, _, rfl, s4.trans s5, sd4.trans s5, nx fun tr' h => by cases h; exact hh⟩
          · refine iteP (by rw [decide_eq_false hh]; rfl) (q false _ (s04.trans s5) ⟨fun z => absurd z Bool.false_ne_true, fun z => absurd (z.2.2 i tr e2) hh⟩)
      · refine iteN (by rw [decide_eq_true_eq]; omega) ?_
        have hc0 := hcz
        have s4 := s3.trans (Same.new (o := .tup [V.str "num", .int 0]) hc0)
        have hc : RAt (upd H3 cz (.tup [V.str "num", .int 0])) (begun m i) (.ref cz) := by
          have e : begun m i = .num 0 := if_neg hi
          rw [e]
          exact ⟨cz, rfl, upd_same⟩
        have sd4 := sd3.trans (Same.new (o := .tup [V.str "num", .int 0]) hc0)
        generalize (upd H3 cz (.tup [V.str "num", .int 0])) = G at s4 hc sd4 ⊢
        have s04 := s1.trans s4
        refine ⟨_, rfl, _, rfl, ?_⟩
        cases o with
        | none =>
          have hv : y = .non := hv
          subst hv
          exact iteF (iteF ⟨_, _, _, _, rfl, s4, sd4, nx fun tr h => by cases h⟩)
        | some tr =>
          have hv : RAt H tr y := hv
          have tok := h11 tr (List.mem_of_getElem? e2)
          have hyn : y ≠ .non := by
            cases tr with
            | box k => obtain ⟨p, rfl, _⟩ := hv; intro z; cases z
            | num k => obtain ⟨p, rfl, _⟩ := hv; intro z; cases z
            | op s l r => obtain ⟨p, _, _, rfl, _⟩ := hv; intro z; cases z
          refine iteP (by simpa using hyn) ?_
          refine ⟨_, rfl, _, rfl, tr, y, d, kvs, gN m, rfl, (by have := tok.2.2.1; omega), hv.mono s04, sd4 _ _ hd2, nv2.mono sd4, tok.1, gN_ok, fun v' H5 s5 r5 => ⟨_, rfl, ?_⟩⟩
          have lay1 : Lay 9 (trD (pt (gN m) tr)) := (trD_lay (sgOk_pt gN_sg tok.2.1)).mono (by have := dp_pt (g := gN m) (m := 0) gN_dp tr; have := tok.2.2.1; omega)
          have lay2 : Lay 1 (trD (begun m i)) := lay_begun _ _
          refine ⟨trD (pt (gN m) tr), trD (begun m i), datV_tr r5, datV_tr (hc.mono s5), lay1.shaped (by decide), lay2.shaped (by decide), _, rfl, ?_⟩
          rw [eqv_begun]
          by_cases hh : pt (gN m) tr = begun m i
          · refine iteN (by rw [decide_eq_true hh]; exact Bool.false_ne_true) ?_
            exact ⟨_, _, _, _, rfl, s4.trans s5, sd4.trans s5, nx fun tr' h => by cases h; exact hh⟩
          · refine iteP (by rw [decide_eq_false hh]; rfl) (q false _ (s04.trans s5) ⟨fun z => absurd z Bool.false_ne_true, fun z => absurd (z.2.2 i tr e2) hh⟩)
    · rintro σ H3 ⟨v5, v6, v7, v8, rfl, s3, sd3, hk⟩
      exact q true H3 (s1.trans s3) ⟨fun _ => ⟨hw, hch, fun k tr hv => hk k tr (by have := (List.getElem?_eq_some_iff.mp hv).1; omega) hv⟩, fun _ => rfl⟩
end
end K42

set_option Elab.async false
set_option linter.all false
set_option maxRecDepth 100000
set_option maxHeartbeats 4000000
namespace K42
open PySem L2 Gx Fl K41 Bg
section
variable {P : Program} {w : World} {K : PySem.W.Frag} {mg : Str → Option Value} {base : Heap} {t : Adr}
local macro_rules | `(tactic| walk_at "rd1") => `(tactic| first
  | refine ⟨_, rfl, ?_⟩
  | refine ⟨_, _, rfl, rfl, ?_⟩
  | refine ⟨rfl, ?_⟩
  | refine ⟨(show (0 : Int) < _ by decide), ?_⟩
  | refine ⟨⟨by decide, by decide⟩, ?_⟩
  | refine ⟨.inl ⟨by decide, by decide⟩, ?_⟩
  | refine ⟨.inr ⟨by decide, by decide⟩, ?_⟩
  | refine ⟨⟨by decide, by decide, by decide⟩, ?_⟩)
local macro_rules | `(tactic| walk_at "rd") => `(tactic| repeat walk_at "rd1")
theorem sc_law : FnScope ["_law_script", "_law_cells", "_law_words", "_law_names_here", "_law_many", "_law_size", "_law_boxes", "_law_rows", "_law_inner", "_law_program", "_law_chain", "_law_views", "_law_act", "_law_spots", "_law_marks", "_law_handed", "_law_found", "_law_due_here"] ["_law_script"] (defScope s_law) := ⟨rfl, rfl, rfl, by decide +kernel, rfl, by decide +kernel, by decide +kernel⟩
theorem ok_law (T : Txt K mg t) : FnOk P w K mg base CX0 18 t.a_law t.d_law ["_law_script"] (sp_law K) := by
  have G_l_names : FnOk P w K mg base CX0 1 t.a_l_names t.d_l_names ["_law_cell", "_law_many"] (sp_l_names K) := ok_l_names T
  have G_begin_holds : FnOk P w K mg base CX0 17 t.a_begin_holds t.d_begin_holds ["program", "name", "spots", "marks"] (sp_begin_holds K t) := ok_begin_holds T
  have G_l_due : FnOk P w K mg base CX0 14 t.a_l_due t.d_l_due ["_law_spots", "_law_marks", "_law_name", "_law_many"] (sp_l_due K) := ok_l_due T
  have G_l_cell_at : FnOk P w K mg base CX0 1 t.a_l_cell_at t.d_l_cell_at ["_law_script", "_law_k"] (sp_l_cell_at K) := ok_l_cell_at T
  have G_l_view : FnOk P w K mg base CX0 2 t.a_l_view t.d_l_view ["_law_cell", "_law_size", "_law_many", "_law_boxes"] (sp_l_view K) := ok_l_view T
  refine T.law.F.ok sc_law (fun vs H Q E h => ?_) (fun cdv A outer s H vs Q E hr h => ?_)
  · obtain ⟨a, sc, rfl, hS, hl, q⟩ := h
    rfl
  · skip
    refine (let W0 : TS := _; have hW0 : PSs (cxOf CX0 P w K mg base ["_law_script", "_law_cells", "_law_words", "_law_names_here", "_law_many", "_law_size", "_law_boxes", "_law_rows", "_law_inner", "_law_program", "_law_chain", "_law_views", "_law_act", "_law_spots", "_law_marks", "_law_handed", "_law_found", "_law_due_here"] "law" (defScope s_law) t.a_law cdv A outer s H E).nox (((((((((((((((((((((((defBody s_law).drop 1).drop 1).drop 1).drop 1).drop 1).drop 1).drop 1).drop 1).drop 1).drop 1).drop 1).drop 1).drop 1).drop 1).drop 1).drop 1).drop 1).drop 1).drop 1).drop 1).drop 1).drop 1) W0 := (@pss_one _ _ _ (@ps_ret _ _ _ _ (pe_and (pe_callB call_isinst (by rfl) T.b_isinstance bt_isinstance (@pa_cons _ _ _ _ _ (pvC 16) (@pa_cons _ _ _ _ _ (pe_bltn (v := V.ty "bool") rfl T.b_bool bt_bool rfl) pa_nil (by rfl)) (by rfl))) (pe_and (pe_cmpR op_eq (pvC 16) (pvC 17) (nomark _)) (pe_one (pe_cmpR (op_eqD hr.units) (pvC 15) (@pe_lst _ _ _ _ (@pa_cons _ _ _ _ _ (pvC 9) (@pa_cons _ _ _ _ _ (pvC 13) (@pa_cons _ _ _ _ _ (pvC 14) pa_nil (by rfl)) (by rfl)) (by rfl))) (nomark _))))))); ?_)
    refine (let W1 : TS := _; have hW1 : PSs (cxOf CX0 P w K mg base ["_law_script", "_law_cells", "_law_words", "_law_names_here", "_law_many", "_law_size", "_law_boxes", "_law_rows", "_law_inner", "_law_program", "_law_chain", "_law_views", "_law_act", "_law_spots", "_law_marks", "_law_handed", "_law_found", "_law_due_here"] "law" (defScope s_law) t.a_law cdv A outer s H E).nox ((((((((((((((((((((((defBody s_law).drop 1).drop 1).drop 1).drop 1).drop 1).drop 1).drop 1).drop 1).drop 1).drop 1).drop 1).drop 1).drop 1).drop 1).drop 1).drop 1).drop 1).drop 1).drop 1).drop 1).drop 1) W1 := (@pss_cons _ _ _ _ _ (@ps_set _ _ 17 _ _ _ _ sc_law.nd rfl (Or.inl rfl) (callD T.l_due G_l_due (hr.mono (by decide)) (@pa_cons _ _ _ _ _ (pvC 13) (@pa_cons _ _ _ _ _ (pvC 14) (@pa_cons _ _ _ _ _ (@pe_ix _ _ _ _ _ _ _ (show IxR _ (cIxL K) from ixC_list) (pvC 2) pe_int (fun _ _ => rfl)) (@pa_cons _ _ _ _ _ (pvC 4) pa_nil (by rfl)) (by rfl)) (by rfl)) (by rfl))) (by rfl) (by first | exact .inl rfl | exact .inr rfl | assumption)) hW0); ?_)
    refine (let W2 : TS := _; have hW2 : PSs (cxOf CX0 P w K mg base ["_law_script", "_law_cells", "_law_words", "_law_names_here", "_law_many", "_law_size", "_law_boxes", "_law_rows", "_law_inner", "_law_program", "_law_chain", "_law_views", "_law_act", "_law_spots", "_law_marks", "_law_handed", "_law_found", "_law_due_here"] "law" (defScope s_law) t.a_law cdv A outer s H E).nox (((((((((((((((((((((defBody s_law).drop 1).drop 1).drop 1).drop 1).drop 1).drop 1).drop 1).drop 1).drop 1).drop 1).drop 1).drop 1).drop 1).drop 1).drop 1).drop 1).drop 1).drop 1).drop 1).drop 1) W2 := (@pss_cons _ _ _ _ _ (@ps_set _ _ 16 _ _ _ _ sc_law.nd rfl (Or.inl rfl) (callD T.begin_holds G_begin_holds (hr.mono (by decide)) (@pa_cons _ _ _ _ _ (@pe_ix _ _ _ _ _ _ _ (show IxR _ (cIxL K) from ixC_list) (pvC 15) pe_int (fun _ _ => rfl)) (@pa_cons _ _ _ _ _ (@pe_ix _ _ _ _ _ _ _ (show IxR _ (cIxL K) from ixC_list) (pvC 2) pe_int (fun _ _ => rfl)) (@pa_cons _ _ _ _ _ (@pe_ix _ _ _ _ _ _ _ (show IxR _ (cIxL K) from ixC_list) (pvC 15) pe_int (fun _ _ => rfl)) (@pa_cons _ _ _ _ _ (@pe_ix _ _ _ _ _ _ _ (show IxR _ (cIxL K) from ixC_list) (pvC 15) pe_int (fun _ _ => rfl)) pa_nil (by rfl)) (by rfl)) (by rfl)) (by rfl))) (by rfl) (by first | exact .inl rfl | exact .inr rfl | assumption)) hW1); ?_)
    refine (let W3 : TS := _; have hW3 : PSs (cxOf CX0 P w K mg base ["_law_script", "_law_cells", "_law_words", "_law_names_here", "_law_many", "_law_size", "_law_boxes", "_law_rows", "_law_inner", "_law_program", "_law_chain", "_law_views", "_law_act", "_law_spots", "_law_marks", "_law_handed", "_law_found", "_law_due_here"] "law" (defScope s_law) t.a_law cdv A outer s H E).nox ((((((((((((((((((((defBody s_law).drop 1).drop 1).drop 1).drop 1).drop 1).drop 1).drop 1).drop 1).drop 1).drop 1).drop 1).drop 1).drop 1).drop 1).drop 1).drop 1).drop 1).drop 1).drop 1) W3 := (@pss_cons _ _ _ _ _ (@ps_set _ _ 15 _ _ _ _ sc_law.nd rfl (Or.inl rfl) (@pe_lst _ _ _ _ (@pa_cons _ _ _ _ _ (pe_callTy call_list_of (by rfl) T.b_list bt_list (@pa_cons _ _ _ _ _ (pvC 9) pa_nil (by rfl))) (@pa_cons _ _ _ _ _ (pe_callTy call_list_of (by rfl) T.b_list bt_list (@pa_cons _ _ _ _ _ (pvC 13) pa_nil (by rfl))) (@pa_cons _ _ _ _ _ (@pe_op _ _ _ _ _ _ _ _ op_cat (@pe_lst _ _ _ _ (@pa_cons _ _ _ _ _ (@pe_tup _ _ _ _ _ (@pa_cons _ _ _ _ _ (pvC 10) (@pa_cons _ _ _ _ _ (pe_comp (N' := ["_law_view_here"]) (js := [none]) (by kernel_rfl) rfl (pi_list (pvC 11)) own_name (fun _ _ _ _ => (pg_name (i := 0) (show (["_law_view_here"] : List Str).Nodup by decide +kernel) rfl (Or.inl rfl) (.inr rfl))) (fun _ _ _ _ => pif_nil) (fun _ _ _ _ => (pe_callTy (show CallR _ (.type "list") (rLstO K) from call_list_of) (by rfl) T.b_list bt_list (@pa_cons _ _ _ _ _ (pvC 0) pa_nil (by rfl))))) pa_nil (by rfl)) (by rfl))) pa_nil (by rfl))) (@pe_slice _ _ _ _ _ _ _ _ _ _ sl_list (pvC 14) (po_some pe_int) po_none)) pa_nil (by rfl)) (by rfl)) (by rfl))) (by rfl) (by first | exact .inl rfl | exact .inr rfl | assumption)) hW2); ?_)
    refine (let W4 : TS := _; have hW4 : PSs (cxOf CX0 P w K mg base ["_law_script", "_law_cells", "_law_words", "_law_names_here", "_law_many", "_law_size", "_law_boxes", "_law_rows", "_law_inner", "_law_program", "_law_chain", "_law_views", "_law_act", "_law_spots", "_law_marks", "_law_handed", "_law_found", "_law_due_here"] "law" (defScope s_law) t.a_law cdv A outer s H E).nox (((((((((((((((((((defBody s_law).drop 1).drop 1).drop 1).drop 1).drop 1).drop 1).drop 1).drop 1).drop 1).drop 1).drop 1).drop 1).drop 1).drop 1).drop 1).drop 1).drop 1).drop 1) W4 := (@pss_cut _ _ _ _ _ (@ps_set _ _ 14 _ _ _ _ sc_law.nd rfl (Or.inl rfl) (@pe_slice _ _ _ _ _ _ _ _ _ _ sl_list (@pe_lst _ _ _ _ (@pa_cons _ _ _ _ _ (@pe_tup _ _ _ _ _ (@pa_cons _ _ _ _ _ (pvC 10) (@pa_cons _ _ _ _ _ (pvC 11) pa_nil (by rfl)) (by rfl))) (@pa_cons _ _ _ _ _ (@pe_tup _ _ _ _ _ (@pa_cons _ _ _ _ _ (@pe_tup _ _ _ _ _ (@pa_cons _ _ _ _ _ (@pe_tup _ _ _ _ _ (@pa_cons _ _ _ _ _ (@pe_ix _ _ _ _ _ _ _ (show IxR _ (cIxL K) from ixC_list) (pvC 2) pe_int (fun _ _ => rfl)) (@pa_cons _ _ _ _ _ pe_int pa_nil (by rfl)) (by rfl))) pa_nil (by rfl))) (@pa_cons _ _ _ _ _ (@pe_lst _ _ _ _ (@pa_cons _ _ _ _ _ (@pe_op _ _ _ _ _ _ _ _ op_rep (@pe_lst _ _ _ _ (@pa_cons _ _ _ _ _ pe_non pa_nil (by rfl))) (pvC 5)) pa_nil (by rfl))) pa_nil (by rfl)) (by rfl))) pa_nil (by rfl)) (by rfl))) po_none (po_some (@pe_op _ _ _ _ _ _ _ _ (opC0 op_add) pe_int (@pe_op _ _ _ _ _ _ _ _ (opC1 op_mod) (@pe_ix _ _ _ _ _ _ _ (show IxR _ (cIxL K) from ixC_list) (pvC 1) pe_int (fun _ _ => rfl)) pe_int)))) (by rfl) (by first | exact .inl rfl | exact .inr rfl | assumption)) hW3); ?_)
    refine (let W5 : TS := _; have hW5 : PSs (cxOf CX0 P w K mg base ["_law_script", "_law_cells", "_law_words", "_law_names_here", "_law_many", "_law_size", "_law_boxes", "_law_rows", "_law_inner", "_law_program", "_law_chain", "_law_views", "_law_act", "_law_spots", "_law_marks", "_law_handed", "_law_found", "_law_due_here"] "law" (defScope s_law) t.a_law cdv A outer s H E).nox ((((((((((((((((((defBody s_law).drop 1).drop 1).drop 1).drop 1).drop 1).drop 1).drop 1).drop 1).drop 1).drop 1).drop 1).drop 1).drop 1).drop 1).drop 1).drop 1).drop 1) W5 := (@pss_cut _ _ _ _ _ (@ps_set _ _ 13 _ _ _ _ sc_law.nd rfl (Or.inl rfl) (@pe_slice _ _ _ _ _ _ _ _ _ _ sl_list (@pe_lst _ _ _ _ (@pa_cons _ _ _ _ _ (@pe_tup _ _ _ _ _ (@pa_cons _ _ _ _ _ (@pe_lst _ _ _ _ pa_nil) (@pa_cons _ _ _ _ _ (pvC 12) pa_nil (by rfl)) (by rfl))) (@pa_cons _ _ _ _ _ (@pe_tup _ _ _ _ _ (@pa_cons _ _ _ _ _ (@pe_lst _ _ _ _ (@pa_cons _ _ _ _ _ (@pe_tup _ _ _ _ _ (@pa_cons _ _ _ _ _ pe_int (@pa_cons _ _ _ _ _ (@pe_tup _ _ _ _ _ (@pa_cons _ _ _ _ _ pe_str (@pa_cons _ _ _ _ _ pe_int pa_nil (by rfl)) (by rfl))) pa_nil (by rfl)) (by rfl))) pa_nil (by rfl))) (@pa_cons _ _ _ _ _ (@pe_tup _ _ _ _ _ (@pa_cons _ _ _ _ _ pe_str (@pa_cons _ _ _ _ _ pe_int pa_nil (by rfl)) (by rfl))) pa_nil (by rfl)) (by rfl))) pa_nil (by rfl)) (by rfl))) po_none (po_some (@pe_op _ _ _ _ _ _ _ _ (opC0 op_add) pe_int (@pe_op _ _ _ _ _ _ _ _ (opC1 op_mod) (@pe_ix _ _ _ _ _ _ _ (show IxR _ (cIxL K) from ixC_list) (pvC 1) pe_int (fun _ _ => rfl)) pe_int)))) (by rfl) (by first | exact .inl rfl | exact .inr rfl | assumption)) hW4); ?_)
    refine (let W6 : TS := _; have hW6 : PSs (cxOf CX0 P w K mg base ["_law_script", "_law_cells", "_law_words", "_law_names_here", "_law_many", "_law_size", "_law_boxes", "_law_rows", "_law_inner", "_law_program", "_law_chain", "_law_views", "_law_act", "_law_spots", "_law_marks", "_law_handed", "_law_found", "_law_due_here"] "law" (defScope s_law) t.a_law cdv A outer s H E).nox (((sB ((((((((((((((((((defBody s_law).drop 1).drop 1).drop 1).drop 1).drop 1).drop 1).drop 1).drop 1).drop 1).drop 1).drop 1).drop 1).drop 1).drop 1).drop 1).drop 1).getD 0 (.Pass ⟨0, 0, 0, 0⟩))).drop 1).drop 1) W6 := (@pss_one _ _ _ (@ps_set _ _ 11 _ _ _ _ sc_law.nd rfl (Or.inl rfl) (@pe_slice _ _ _ _ _ _ _ _ _ _ sl_list (pvC 11) po_none (po_some pe_int)) (by rfl) (by first | exact .inl rfl | exact .inr rfl | assumption))); ?_)
    refine (let W7 : TS := _; have hW7 : PSs (cxOf CX0 P w K mg base ["_law_script", "_law_cells", "_law_words", "_law_names_here", "_law_many", "_law_size", "_law_boxes", "_law_rows", "_law_inner", "_law_program", "_law_chain", "_law_views", "_law_act", "_law_spots", "_law_marks", "_law_handed", "_law_found", "_law_due_here"] "law" (defScope s_law) t.a_law cdv A outer s H E).nox ((sB ((((((((((((((((((defBody s_law).drop 1).drop 1).drop 1).drop 1).drop 1).drop 1).drop 1).drop 1).drop 1).drop 1).drop 1).drop 1).drop 1).drop 1).drop 1).drop 1).getD 0 (.Pass ⟨0, 0, 0, 0⟩))).drop 1) W7 := (@pss_cons _ _ _ _ _ (@ps_set _ _ 10 _ _ _ _ sc_law.nd rfl (Or.inl rfl) (@pe_tup _ _ _ _ _ (@pa_cons _ _ _ _ _ (@pe_tup _ _ _ _ _ (@pa_cons _ _ _ _ _ (@pe_ix _ _ _ _ _ _ _ (show IxR _ (cIxL K) from ixC_list) (pvC 2) pe_int (fun _ _ => rfl)) (@pa_cons _ _ _ _ _ pe_int pa_nil (by rfl)) (by rfl))) pa_nil (by rfl))) (by rfl) (by first | exact .inl rfl | exact .inr rfl | assumption)) hW6); ?_)
    refine (let W8 : TS := _; have hW8 : PSs (cxOf CX0 P w K mg base ["_law_script", "_law_cells", "_law_words", "_law_names_here", "_law_many", "_law_size", "_law_boxes", "_law_rows", "_law_inner", "_law_program", "_law_chain", "_law_views", "_law_act", "_law_spots", "_law_marks", "_law_handed", "_law_found", "_law_due_here"] "law" (defScope s_law) t.a_law cdv A outer s H E).nox (sB ((((((((((((((((((defBody s_law).drop 1).drop 1).drop 1).drop 1).drop 1).drop 1).drop 1).drop 1).drop 1).drop 1).drop 1).drop 1).drop 1).drop 1).drop 1).drop 1).getD 0 (.Pass ⟨0, 0, 0, 0⟩))) W8 := (@pss_cons _ _ _ _ _ (@ps_set _ _ 12 _ _ _ _ sc_law.nd rfl (Or.inl rfl) (@pe_tup _ _ _ _ _ (@pa_cons _ _ _ _ _ pe_str (@pa_cons _ _ _ _ _ pe_non (@pa_cons _ _ _ _ _ pe_int pa_nil (by rfl)) (by rfl)) (by rfl))) (by rfl) (by first | exact .inl rfl | exact .inr rfl | assumption)) hW7); ?_)
    refine (let W9 : TS := _; have hW9 : PSs (cxOf CX0 P w K mg base ["_law_script", "_law_cells", "_law_words", "_law_names_here", "_law_many", "_law_size", "_law_boxes", "_law_rows", "_law_inner", "_law_program", "_law_chain", "_law_views", "_law_act", "_law_spots", "_law_marks", "_law_handed", "_law_found", "_law_due_here"] "law" (defScope s_law) t.a_law cdv A outer s H E).nox (((((((((((((((((defBody s_law).drop 1).drop 1).drop 1).drop 1).drop 1).drop 1).drop 1).drop 1).drop 1).drop 1).drop 1).drop 1).drop 1).drop 1).drop 1).drop 1) W9 := (@pss_cut _ _ _ _ _ (@ps_if _ _ _ _ _ _ _ _ (@PW.pt _ _ _ (@pw_and _ _ _ _ _ _ _ (@ptC_cmpR _ _ _ _ _ _ _ _ op_eq (@pe_op _ _ _ _ _ _ _ _ (opC1 op_mod) (@pe_ix _ _ _ _ _ _ _ (show IxR _ (cIxL K) from ixC_list) (pvC 1) pe_int (fun _ _ => rfl)) pe_int) pe_int (nomark _)) (@pw_and1 _ _ _ _ (@ptC_cmpR _ _ _ _ _ _ _ _ op_ne (@pe_op _ _ _ _ _ _ _ _ (opC1 op_mod) (@pe_ix _ _ _ _ _ _ _ (show IxR _ (cIxL K) from ixC_list) (pvC 1) pe_int (fun _ _ => rfl)) pe_int) pe_int (nomark _))))) hW8 pss_nil) hW5); ?_)
    refine (let W10 : TS := _; have hW10 : PSs (cxOf CX0 P w K mg base ["_law_script", "_law_cells", "_law_words", "_law_names_here", "_law_many", "_law_size", "_law_boxes", "_law_rows", "_law_inner", "_law_program", "_law_chain", "_law_views", "_law_act", "_law_spots", "_law_marks", "_law_handed", "_law_found", "_law_due_here"] "law" (defScope s_law) t.a_law cdv A outer s H E).nox ((((((((((((((((defBody s_law).drop 1).drop 1).drop 1).drop 1).drop 1).drop 1).drop 1).drop 1).drop 1).drop 1).drop 1).drop 1).drop 1).drop 1).drop 1) W10 := (@pss_cons _ _ _ _ _ (@ps_set _ _ 12 _ _ _ _ sc_law.nd rfl (Or.inl rfl) (@pe_ix _ _ _ _ _ _ _ (show IxR _ (cIxL K) from ixC_list) (@pe_lst _ _ _ _ (@pa_cons _ _ _ _ _ (@pe_tup _ _ _ _ _ (@pa_cons _ _ _ _ _ pe_str (@pa_cons _ _ _ _ _ pe_int pa_nil (by rfl)) (by rfl))) (@pa_cons _ _ _ _ _ (@pe_tup _ _ _ _ _ (@pa_cons _ _ _ _ _ pe_str (@pa_cons _ _ _ _ _ (@pe_tup _ _ _ _ _ (@pa_cons _ _ _ _ _ pe_str (@pa_cons _ _ _ _ _ pe_int pa_nil (by rfl)) (by rfl))) pa_nil (by rfl)) (by rfl))) pa_nil (by rfl)) (by rfl))) (@pe_op _ _ _ _ _ _ _ _ (opC1 op_mod) (@pe_op _ _ _ _ _ _ _ _ (opC1 op_fdiv) (@pe_ix _ _ _ _ _ _ _ (show IxR _ (cIxL K) from ixC_list) (pvC 1) pe_int (fun _ _ => rfl)) pe_int) pe_int) (fun _ _ => rfl)) (by rfl) (by first | exact .inl rfl | exact .inr rfl | assumption)) hW9); ?_)
    refine (let W11 : TS := _; have hW11 : PSs (cxOf CX0 P w K mg base ["_law_script", "_law_cells", "_law_words", "_law_names_here", "_law_many", "_law_size", "_law_boxes", "_law_rows", "_law_inner", "_law_program", "_law_chain", "_law_views", "_law_act", "_law_spots", "_law_marks", "_law_handed", "_law_found", "_law_due_here"] "law" (defScope s_law) t.a_law cdv A outer s H E).nox ((sB ((((((((((((((((defBody s_law).drop 1).drop 1).drop 1).drop 1).drop 1).drop 1).drop 1).drop 1).drop 1).drop 1).drop 1).drop 1).drop 1).drop 1).getD 0 (.Pass ⟨0, 0, 0, 0⟩))).drop 1) W11 := (@pss_one _ _ _ (@ps_expr _ _ _ _ (pe_bm PySem.F.plainAttrs_list PySem.F.slot_list_append PySem.F.type_list_append mtC_append (pvC 11) (@pa_cons _ _ _ _ _ (@pe_lst _ _ _ _ (@pa_cons _ _ _ _ _ pe_non pa_nil (by rfl))) pa_nil (by rfl))) (by rfl))); ?_)
    refine (let W12 : TS := _; have hW12 : PSs (cxOf CX0 P w K mg base ["_law_script", "_law_cells", "_law_words", "_law_names_here", "_law_many", "_law_size", "_law_boxes", "_law_rows", "_law_inner", "_law_program", "_law_chain", "_law_views", "_law_act", "_law_spots", "_law_marks", "_law_handed", "_law_found", "_law_due_here"] "law" (defScope s_law) t.a_law cdv A outer s H E).nox (sB ((((((((((((((((defBody s_law).drop 1).drop 1).drop 1).drop 1).drop 1).drop 1).drop 1).drop 1).drop 1).drop 1).drop 1).drop 1).drop 1).drop 1).getD 0 (.Pass ⟨0, 0, 0, 0⟩))) W12 := (@pss_cons _ _ _ _ _ (@ps_set _ _ 10 _ _ _ _ sc_law.nd rfl (Or.inl rfl) (@pe_tup _ _ _ _ _ (@pa_cons _ _ _ _ _ (@pe_tup _ _ _ _ _ (@pa_cons _ _ _ _ _ (@pe_ix _ _ _ _ _ _ _ (show IxR _ (cIxL K) from ixC_list) (pvC 2) pe_int (fun _ _ => rfl)) (@pa_cons _ _ _ _ _ pe_int pa_nil (by rfl)) (by rfl))) (@pa_cons _ _ _ _ _ (@pe_tup _ _ _ _ _ (@pa_cons _ _ _ _ _ (@pe_ix _ _ _ _ _ _ _ (show IxR _ (cIxL K) from ixC_list) (pvC 2) pe_int (fun _ _ => rfl)) (@pa_cons _ _ _ _ _ (@pe_op _ _ _ _ _ _ _ _ (opC1 op_mod) (@pe_op _ _ _ _ _ _ _ _ (opC1 op_fdiv) (@pe_ix _ _ _ _ _ _ _ (show IxR _ (cIxL K) from ixC_list) (pvC 1) pe_int (fun _ _ => rfl)) pe_int) pe_int) pa_nil (by rfl)) (by rfl))) pa_nil (by rfl)) (by rfl))) (by rfl) (by first | exact .inl rfl | exact .inr rfl | assumption)) hW11); ?_)
    refine (let W13 : TS := _; have hW13 : PSs (cxOf CX0 P w K mg base ["_law_script", "_law_cells", "_law_words", "_law_names_here", "_law_many", "_law_size", "_law_boxes", "_law_rows", "_law_inner", "_law_program", "_law_chain", "_law_views", "_law_act", "_law_spots", "_law_marks", "_law_handed", "_law_found", "_law_due_here"] "law" (defScope s_law) t.a_law cdv A outer s H E).nox (((((((((((((((defBody s_law).drop 1).drop 1).drop 1).drop 1).drop 1).drop 1).drop 1).drop 1).drop 1).drop 1).drop 1).drop 1).drop 1).drop 1) W13 := (@pss_cut _ _ _ _ _ (@ps_if _ _ _ _ _ _ _ _ (@ptC_cmpR _ _ _ _ _ _ _ _ op_eq (@pe_op _ _ _ _ _ _ _ _ (opC1 op_mod) (@pe_ix _ _ _ _ _ _ _ (show IxR _ (cIxL K) from ixC_list) (pvC 1) pe_int (fun _ _ => rfl)) pe_int) pe_int (nomark _)) hW12 pss_nil) hW10); ?_)
    refine (let W14 : TS := _; have hW14 : PSs (cxOf CX0 P w K mg base ["_law_script", "_law_cells", "_law_words", "_law_names_here", "_law_many", "_law_size", "_law_boxes", "_law_rows", "_law_inner", "_law_program", "_law_chain", "_law_views", "_law_act", "_law_spots", "_law_marks", "_law_handed", "_law_found", "_law_due_here"] "law" (defScope s_law) t.a_law cdv A outer s H E).nox (sB (((((((((((((((defBody s_law).drop 1).drop 1).drop 1).drop 1).drop 1).drop 1).drop 1).drop 1).drop 1).drop 1).drop 1).drop 1).drop 1).getD 0 (.Pass ⟨0, 0, 0, 0⟩))) W14 := (@pss_one _ _ _ (@ps_set _ _ 10 _ _ _ _ sc_law.nd rfl (Or.inl rfl) (@pe_tup _ _ _ _ _ (@pa_cons _ _ _ _ _ (@pe_tup _ _ _ _ _ (@pa_cons _ _ _ _ _ (@pe_ix _ _ _ _ _ _ _ (show IxR _ (cIxL K) from ixC_list) (pvC 2) pe_int (fun _ _ => rfl)) (@pa_cons _ _ _ _ _ (@pe_op _ _ _ _ _ _ _ _ (opC0 op_add) pe_int (@pe_op _ _ _ _ _ _ _ _ (opC1 op_mod) (@pe_op _ _ _ _ _ _ _ _ (opC1 op_fdiv) (@pe_ix _ _ _ _ _ _ _ (show IxR _ (cIxL K) from ixC_list) (pvC 1) pe_int (fun _ _ => rfl)) pe_int) (@pe_op _ _ _ _ _ _ _ _ (opC0 op_sub) (pe_callB (show CallR _ (.builtin "len") (cLen K) from callC_len) (by rfl) T.b_len bt_len (@pa_cons _ _ _ _ _ (pvC 7) pa_nil (by rfl))) pe_int))) pa_nil (by rfl)) (by rfl))) pa_nil (by rfl))) (by rfl) (by first | exact .inl rfl | exact .inr rfl | assumption))); ?_)
    refine (let W15 : TS := _; have hW15 : PSs (cxOf CX0 P w K mg base ["_law_script", "_law_cells", "_law_words", "_law_names_here", "_law_many", "_law_size", "_law_boxes", "_law_rows", "_law_inner", "_law_program", "_law_chain", "_law_views", "_law_act", "_law_spots", "_law_marks", "_law_handed", "_law_found", "_law_due_here"] "law" (defScope s_law) t.a_law cdv A outer s H E).nox ((((((((((((((defBody s_law).drop 1).drop 1).drop 1).drop 1).drop 1).drop 1).drop 1).drop 1).drop 1).drop 1).drop 1).drop 1).drop 1) W15 := (@pss_cut _ _ _ _ _ (@ps_if _ _ _ _ _ _ _ _ (@ptC_cmpR _ _ _ _ _ _ _ _ op_eq (@pe_op _ _ _ _ _ _ _ _ (opC1 op_mod) (@pe_ix _ _ _ _ _ _ _ (show IxR _ (cIxL K) from ixC_list) (pvC 1) pe_int (fun _ _ => rfl)) pe_int) pe_int (nomark _)) hW14 pss_nil) hW13); ?_)
    refine (let W16 : TS := _; have hW16 : PSs (cxOf CX0 P w K mg base ["_law_script", "_law_cells", "_law_words", "_law_names_here", "_law_many", "_law_size", "_law_boxes", "_law_rows", "_law_inner", "_law_program", "_law_chain", "_law_views", "_law_act", "_law_spots", "_law_marks", "_law_handed", "_law_found", "_law_due_here"] "law" (defScope s_law) t.a_law cdv A outer s H E).nox (((((((((((((defBody s_law).drop 1).drop 1).drop 1).drop 1).drop 1).drop 1).drop 1).drop 1).drop 1).drop 1).drop 1).drop 1) W16 := (@pss_cons _ _ _ _ _ (@ps_set _ _ 11 _ _ _ _ sc_law.nd rfl (Or.inl rfl) (@pe_lst _ _ _ _ (@pa_cons _ _ _ _ _ (callD T.l_view G_l_view (hr.mono (by decide)) (@pa_cons _ _ _ _ _ (@pe_ix _ _ _ _ _ _ _ (show IxR _ (cIxL K) from ixC_list) (pvC 1) pe_int (fun _ _ => rfl)) (@pa_cons _ _ _ _ _ (pvC 5) (@pa_cons _ _ _ _ _ (pvC 4) (@pa_cons _ _ _ _ _ (pvC 6) pa_nil (by rfl)) (by rfl)) (by rfl)) (by rfl))) pa_nil (by rfl))) (by rfl) (by first | exact .inl rfl | exact .inr rfl | assumption)) hW15); ?_)
    refine (let W17 : TS := _; have hW17 : PSs (cxOf CX0 P w K mg base ["_law_script", "_law_cells", "_law_words", "_law_names_here", "_law_many", "_law_size", "_law_boxes", "_law_rows", "_law_inner", "_law_program", "_law_chain", "_law_views", "_law_act", "_law_spots", "_law_marks", "_law_handed", "_law_found", "_law_due_here"] "law" (defScope s_law) t.a_law cdv A outer s H E).nox ((((((((((((defBody s_law).drop 1).drop 1).drop 1).drop 1).drop 1).drop 1).drop 1).drop 1).drop 1).drop 1).drop 1) W17 := (@pss_cons _ _ _ _ _ (@ps_set _ _ 10 _ _ _ _ sc_law.nd rfl (Or.inl rfl) (@pe_tup _ _ _ _ _ (@pa_cons _ _ _ _ _ (@pe_tup _ _ _ _ _ (@pa_cons _ _ _ _ _ (@pe_ix _ _ _ _ _ _ _ (show IxR _ (cIxL K) from ixC_list) (pvC 2) pe_int (fun _ _ => rfl)) (@pa_cons _ _ _ _ _ pe_int pa_nil (by rfl)) (by rfl))) pa_nil (by rfl))) (by rfl) (by first | exact .inl rfl | exact .inr rfl | assumption)) hW16); ?_)
    refine (let W18 : TS := _; have hW18 : PSs (cxOf CX0 P w K mg base ["_law_script", "_law_cells", "_law_words", "_law_names_here", "_law_many", "_law_size", "_law_boxes", "_law_rows", "_law_inner", "_law_program", "_law_chain", "_law_views", "_law_act", "_law_spots", "_law_marks", "_law_handed", "_law_found", "_law_due_here"] "law" (defScope s_law) t.a_law cdv A outer s H E).nox (((((((((((defBody s_law).drop 1).drop 1).drop 1).drop 1).drop 1).drop 1).drop 1).drop 1).drop 1).drop 1) W18 := (@pss_cut _ _ _ _ _ (@ps_set _ _ 9 _ _ _ _ sc_law.nd rfl (Or.inl rfl) (@pe_lst _ _ _ _ (@pa_cons _ _ _ _ _ (pvC 8) (@pa_cons _ _ _ _ _ (@pe_tup _ _ _ _ _ (@pa_cons _ _ _ _ _ (@pe_ix _ _ _ _ _ _ _ (show IxR _ (cIxL K) from ixC_list) (pvC 2) pe_int (fun _ _ => rfl)) (@pa_cons _ _ _ _ _ pe_bl (@pa_cons _ _ _ _ _ (pe_callTy call_tuple_of (by rfl) T.b_tuple bt_tuple (@pa_cons _ _ _ _ _ (@pe_slice _ _ _ _ _ _ _ _ _ _ sl_list (pvC 3) po_none (po_some (pvC 4))) pa_nil (by rfl))) (@pa_cons _ _ _ _ _ (pe_callTy call_tuple_of (by rfl) T.b_tuple bt_tuple (@pa_cons _ _ _ _ _ (pvC 7) pa_nil (by rfl))) pa_nil (by rfl)) (by rfl)) (by rfl)) (by rfl))) pa_nil (by rfl)) (by rfl))) (by rfl) (by first | exact .inl rfl | exact .inr rfl | assumption)) hW17); ?_)
    refine (let W19 : TS := _; have hW19 : PSs (cxOf CX0 P w K mg base ["_law_script", "_law_cells", "_law_words", "_law_names_here", "_law_many", "_law_size", "_law_boxes", "_law_rows", "_law_inner", "_law_program", "_law_chain", "_law_views", "_law_act", "_law_spots", "_law_marks", "_law_handed", "_law_found", "_law_due_here"] "law" (defScope s_law) t.a_law cdv A outer s H E).nox ((((((((((defBody s_law).drop 1).drop 1).drop 1).drop 1).drop 1).drop 1).drop 1).drop 1).drop 1) W19 := (@pss_cons _ _ _ _ _ (@ps_set _ _ 8 _ _ _ _ sc_law.nd rfl (Or.inl rfl) (@pe_tup _ _ _ _ _ (@pa_cons _ _ _ _ _ (@pe_ix _ _ _ _ _ _ _ (show IxR _ (cIxL K) from ixC_list) (pvC 2) pe_int (fun _ _ => rfl)) (@pa_cons _ _ _ _ _ pe_bl (@pa_cons _ _ _ _ _ (@pe_tup _ _ _ _ _ pa_nil) (@pa_cons _ _ _ _ _ (@pe_tup _ _ _ _ _ (@pa_cons _ _ _ _ _ (@pe_tup _ _ _ _ _ (@pa_cons _ _ _ _ _ pe_str (@pa_cons _ _ _ _ _ (@pe_ix _ _ _ _ _ _ _ (show IxR _ (cIxL K) from ixC_list) (pvC 3) pe_int (fun _ _ => rfl)) (@pa_cons _ _ _ _ _ pe_int pa_nil (by rfl)) (by rfl)) (by rfl))) (@pa_cons _ _ _ _ _ (@pe_tup _ _ _ _ _ (@pa_cons _ _ _ _ _ pe_str (@pa_cons _ _ _ _ _ (@pe_ix _ _ _ _ _ _ _ (show IxR _ (cIxL K) from ixC_list) (pvC 3) pe_int (fun _ _ => rfl)) pa_nil (by rfl)) (by rfl))) pa_nil (by rfl)) (by rfl))) pa_nil (by rfl)) (by rfl)) (by rfl)) (by rfl))) (by rfl) (by first | exact .inl rfl | exact .inr rfl | assumption)) hW18); ?_)
    refine (let W20 : TS := _; have hW20 : PSs (cxOf CX0 P w K mg base ["_law_script", "_law_cells", "_law_words", "_law_names_here", "_law_many", "_law_size", "_law_boxes", "_law_rows", "_law_inner", "_law_program", "_law_chain", "_law_views", "_law_act", "_law_spots", "_law_marks", "_law_handed", "_law_found", "_law_due_here"] "law" (defScope s_law) t.a_law cdv A outer s H E).nox (sB ((((((((((defBody s_law).drop 1).drop 1).drop 1).drop 1).drop 1).drop 1).drop 1).drop 1).getD 0 (.Pass ⟨0, 0, 0, 0⟩))) W20 := (@pss_one _ _ _ (ps_asg (@pe_tup _ _ _ _ _ (@pa_cons _ _ _ _ _ pe_str (@pa_cons _ _ _ _ _ (@pe_ix _ _ _ _ _ _ _ (show IxR _ (cIxL K) from ixC_list) (pvC 3) (pvC 4) (fun _ _ => rfl)) (@pa_cons _ _ _ _ _ (@pe_ix _ _ _ _ _ _ _ (show IxR _ (cIxL K) from ixC_list) (pvC 2) pe_int (fun _ _ => rfl)) (@pa_cons _ _ _ _ _ (@pe_tup _ _ _ _ _ pa_nil) pa_nil (by rfl)) (by rfl)) (by rfl)) (by rfl))) (pg_sub (pvC 7) pe_int set_list))); ?_)
    refine (let W21 : TS := _; have hW21 : PSs (cxOf CX0 P w K mg base ["_law_script", "_law_cells", "_law_words", "_law_names_here", "_law_many", "_law_size", "_law_boxes", "_law_rows", "_law_inner", "_law_program", "_law_chain", "_law_views", "_law_act", "_law_spots", "_law_marks", "_law_handed", "_law_found", "_law_due_here"] "law" (defScope s_law) t.a_law cdv A outer s H E).nox (((((((((defBody s_law).drop 1).drop 1).drop 1).drop 1).drop 1).drop 1).drop 1).drop 1) W21 := (@pss_cut _ _ _ _ _ (@ps_if _ _ _ _ _ _ _ _ (@ptC_cmpR _ _ _ _ _ _ _ _ (opC0 op_lt) (pvC 4) (pvC 5) (nomark _)) hW20 pss_nil) hW19); ?_)
    refine (let W22 : TS := _; have hW22 : PSs (cxOf CX0 P w K mg base ["_law_script", "_law_cells", "_law_words", "_law_names_here", "_law_many", "_law_size", "_law_boxes", "_law_rows", "_law_inner", "_law_program", "_law_chain", "_law_views", "_law_act", "_law_spots", "_law_marks", "_law_handed", "_law_found", "_law_due_here"] "law" (defScope s_law) t.a_law cdv A outer s H E).nox ((((((((defBody s_law).drop 1).drop 1).drop 1).drop 1).drop 1).drop 1).drop 1) W22 := (@pss_cons _ _ _ _ _ (@ps_set _ _ 7 _ _ _ _ sc_law.nd rfl (Or.inl rfl) (@pe_op _ _ _ _ _ _ _ _ op_cat (pvC 7) (@pe_lst _ _ _ _ (@pa_cons _ _ _ _ _ (@pe_tup _ _ _ _ _ (@pa_cons _ _ _ _ _ pe_str (@pa_cons _ _ _ _ _ pe_int pa_nil (by rfl)) (by rfl))) (@pa_cons _ _ _ _ _ (@pe_tup _ _ _ _ _ (@pa_cons _ _ _ _ _ pe_str (@pa_cons _ _ _ _ _ (@pe_ix _ _ _ _ _ _ _ (show IxR _ (cIxL K) from ixC_list) (pvC 3) pe_int (fun _ _ => rfl)) pa_nil (by rfl)) (by rfl))) pa_nil (by rfl)) (by rfl)))) (by rfl) (by first | exact .inl rfl | exact .inr rfl | assumption)) hW21); ?_)
    refine (let W23 : TS := _; have hW23 : PSs (cxOf CX0 P w K mg base ["_law_script", "_law_cells", "_law_words", "_law_names_here", "_law_many", "_law_size", "_law_boxes", "_law_rows", "_law_inner", "_law_program", "_law_chain", "_law_views", "_law_act", "_law_spots", "_law_marks", "_law_handed", "_law_found", "_law_due_here"] "law" (defScope s_law) t.a_law cdv A outer s H E).nox (((((((defBody s_law).drop 1).drop 1).drop 1).drop 1).drop 1).drop 1) W23 := (@pss_cons _ _ _ _ _ (@ps_set _ _ 7 _ _ _ _ sc_law.nd rfl (Or.inl rfl) (@pe_op _ _ _ _ _ _ _ _ op_cat (@pe_lst _ _ _ _ (@pa_cons _ _ _ _ _ (@pe_tup _ _ _ _ _ (@pa_cons _ _ _ _ _ pe_str (@pa_cons _ _ _ _ _ (@pe_ix _ _ _ _ _ _ _ (show IxR _ (cIxL K) from ixC_list) (pvC 3) (@pe_op _ _ _ _ _ _ _ _ (opC0 op_sub) (pvC 5) pe_int) (fun _ _ => rfl)) (@pa_cons _ _ _ _ _ (@pe_ix _ _ _ _ _ _ _ (show IxR _ (cIxL K) from ixC_list) (pvC 2) pe_int (fun _ _ => rfl)) (@pa_cons _ _ _ _ _ (@pe_tup _ _ _ _ _ pa_nil) pa_nil (by rfl)) (by rfl)) (by rfl)) (by rfl))) pa_nil (by rfl))) (pe_comp (N' := ["_law_k", "_law_names_here"]) (js := [none, some 3]) (by kernel_rfl) rfl (pi_range2 rfl T.b_range (@pa_cons _ _ _ _ _ (pvC 4) (@pa_cons _ _ _ _ _ (pvC 5) pa_nil (by rfl)) (by rfl))) own_name (fun _ _ _ _ => (pg_name (i := 0) (show (["_law_k", "_law_names_here"] : List Str).Nodup by decide +kernel) rfl (Or.inl rfl) (.inr rfl))) (fun _ _ _ _ => pif_nil) (fun _ _ _ _ => (@pe_tup _ _ _ _ _ (@pa_cons _ _ _ _ _ pe_str (@pa_cons _ _ _ _ _ (@pe_ix _ _ _ _ _ _ _ (show IxR _ (cIxL K) from ixC_list) (pvC 1) (pvC 0) (fun _ _ => rfl)) (@pa_cons _ _ _ _ _ pe_int pa_nil (by rfl)) (by rfl)) (by rfl)))))) (by rfl) (by first | exact .inl rfl | exact .inr rfl | assumption)) hW22); ?_)
    refine (let W24 : TS := _; have hW24 : PSs (cxOf CX0 P w K mg base ["_law_script", "_law_cells", "_law_words", "_law_names_here", "_law_many", "_law_size", "_law_boxes", "_law_rows", "_law_inner", "_law_program", "_law_chain", "_law_views", "_law_act", "_law_spots", "_law_marks", "_law_handed", "_law_found", "_law_due_here"] "law" (defScope s_law) t.a_law cdv A outer s H E).nox ((((((defBody s_law).drop 1).drop 1).drop 1).drop 1).drop 1) W24 := (@pss_cut _ _ _ _ _ (@ps_set _ _ 6 _ _ _ _ sc_law.nd rfl (Or.inl rfl) (@pe_lst _ _ _ _ (@pa_cons _ _ _ _ _ pe_int (@pa_cons _ _ _ _ _ pe_int (@pa_cons _ _ _ _ _ pe_int (@pa_cons _ _ _ _ _ pe_int (@pa_cons _ _ _ _ _ pe_int (@pa_cons _ _ _ _ _ pe_int (@pa_cons _ _ _ _ _ (@pe_op _ _ _ _ _ _ _ _ (opC0 op_add) pe_int (@pe_op _ _ _ _ _ _ _ _ (opC1 op_mod) (@pe_ix _ _ _ _ _ _ _ (show IxR _ (cIxL K) from ixC_list) (pvC 1) pe_int (fun _ _ => rfl)) pe_int)) (@pa_cons _ _ _ _ _ (@pe_op _ _ _ _ _ _ _ _ (opC0 op_add) pe_int (@pe_op _ _ _ _ _ _ _ _ (opC1 op_mod) (@pe_op _ _ _ _ _ _ _ _ (opC1 op_fdiv) (@pe_ix _ _ _ _ _ _ _ (show IxR _ (cIxL K) from ixC_list) (pvC 1) pe_int (fun _ _ => rfl)) pe_int) pe_int)) pa_nil (by rfl)) (by rfl)) (by rfl)) (by rfl)) (by rfl)) (by rfl)) (by rfl)) (by rfl))) (by rfl) (by first | exact .inl rfl | exact .inr rfl | assumption)) hW23); ?_)
    refine (let W25 : TS := _; have hW25 : PSs (cxOf CX0 P w K mg base ["_law_script", "_law_cells", "_law_words", "_law_names_here", "_law_many", "_law_size", "_law_boxes", "_law_rows", "_law_inner", "_law_program", "_law_chain", "_law_views", "_law_act", "_law_spots", "_law_marks", "_law_handed", "_law_found", "_law_due_here"] "law" (defScope s_law) t.a_law cdv A outer s H E).nox (((((defBody s_law).drop 1).drop 1).drop 1).drop 1) W25 := (@pss_cons _ _ _ _ _ (@ps_set _ _ 5 _ _ _ _ sc_law.nd rfl (Or.inl rfl) (pe_callB (call_max2 rfl) (by rfl) T.b_max bt_max (@pa_cons _ _ _ _ _ pe_int (@pa_cons _ _ _ _ _ (@pe_op _ _ _ _ _ _ _ _ (opC0 op_add) (pvC 4) (@pe_op _ _ _ _ _ _ _ _ (opC1 op_mod) (@pe_op _ _ _ _ _ _ _ _ (opC1 op_fdiv) (@pe_ix _ _ _ _ _ _ _ (show IxR _ (cIxL K) from ixC_list) (pvC 1) pe_int (fun _ _ => rfl)) pe_int) pe_int)) pa_nil (by rfl)) (by rfl))) (by rfl) (by first | exact .inl rfl | exact .inr rfl | assumption)) hW24); ?_)
    refine (let W26 : TS := _; have hW26 : PSs (cxOf CX0 P w K mg base ["_law_script", "_law_cells", "_law_words", "_law_names_here", "_law_many", "_law_size", "_law_boxes", "_law_rows", "_law_inner", "_law_program", "_law_chain", "_law_views", "_law_act", "_law_spots", "_law_marks", "_law_handed", "_law_found", "_law_due_here"] "law" (defScope s_law) t.a_law cdv A outer s H E).nox ((((defBody s_law).drop 1).drop 1).drop 1) W26 := (@pss_cons _ _ _ _ _ (@ps_set _ _ 4 _ _ _ _ sc_law.nd rfl (Or.inl rfl) (@pe_op _ _ _ _ _ _ _ _ (opC1 op_mod) (@pe_ix _ _ _ _ _ _ _ (show IxR _ (cIxL K) from ixC_list) (pvC 1) pe_int (fun _ _ => rfl)) pe_int) (by rfl) (by first | exact .inl rfl | exact .inr rfl | assumption)) hW25); ?_)
    refine (let W27 : TS := _; have hW27 : PSs (cxOf CX0 P w K mg base ["_law_script", "_law_cells", "_law_words", "_law_names_here", "_law_many", "_law_size", "_law_boxes", "_law_rows", "_law_inner", "_law_program", "_law_chain", "_law_views", "_law_act", "_law_spots", "_law_marks", "_law_handed", "_law_found", "_law_due_here"] "law" (defScope s_law) t.a_law cdv A outer s H E).nox (((defBody s_law).drop 1).drop 1) W27 := (@pss_cons _ _ _ _ _ (@ps_set _ _ 3 _ _ _ _ sc_law.nd rfl (Or.inr rfl) (callD T.l_names G_l_names (hr.mono (by decide)) (@pa_cons _ _ _ _ _ (@pe_ix _ _ _ _ _ _ _ (show IxR _ (cIxL K) from ixC_list) (pvC 1) pe_int (fun _ _ => rfl)) (@pa_cons _ _ _ _ _ pe_int pa_nil (by rfl)) (by rfl))) (by rfl) (by first | exact .inl rfl | exact .inr rfl | assumption)) hW26); ?_)
    refine (let W28 : TS := _; have hW28 : PSs (cxOf CX0 P w K mg base ["_law_script", "_law_cells", "_law_words", "_law_names_here", "_law_many", "_law_size", "_law_boxes", "_law_rows", "_law_inner", "_law_program", "_law_chain", "_law_views", "_law_act", "_law_spots", "_law_marks", "_law_handed", "_law_found", "_law_due_here"] "law" (defScope s_law) t.a_law cdv A outer s H E).nox ((defBody s_law).drop 1) W28 := (@pss_cons _ _ _ _ _ (@ps_set _ _ 2 _ _ _ _ sc_law.nd rfl (Or.inl rfl) (callD T.l_names G_l_names (hr.mono (by decide)) (@pa_cons _ _ _ _ _ (@pe_ix _ _ _ _ _ _ _ (show IxR _ (cIxL K) from ixC_list) (pvC 1) pe_int (fun _ _ => rfl)) (@pa_cons _ _ _ _ _ pe_int pa_nil (by rfl)) (by rfl))) (by rfl) (by first | exact .inl rfl | exact .inr rfl | assumption)) hW27); ?_)
    obtain ⟨a, sc, rfl, hS, hl, q⟩ := h
    refine ⟨_, (@pss_cons _ _ _ _ _ (ps_setc (i := 1) sc_law.nd rfl (Or.inl rfl) (N' := ["_law_k", "_law_script"]) (js := [none, some 0]) (by kernel_rfl) rfl (pi_range1 rfl T.b_range (@pa_cons _ _ _ _ _ pe_int pa_nil (by rfl))) own_name (fun _ _ _ _ => (pg_name (i := 0) (show (["_law_k", "_law_script"] : List Str).Nodup by decide +kernel) rfl (Or.inl rfl) (.inr rfl))) (fun _ _ _ _ => pif_nil) (fun _ _ _ _ => (callD T.l_cell_at G_l_cell_at (hr.mono (by decide)) (@pa_cons _ _ _ _ _ (pvC 1) (@pa_cons _ _ _ _ _ (pvC 0) pa_nil (by rfl)) (by rfl)))) (by rfl)) hW28), ?_⟩
    refine ⟨_, rfl, by decide, by decide, fun cl hcl => comp_range (lo := 0) (n := 8) (by decide) (fun i acc H2 => Same H H2 ∧ H2 cl = some (.lst acc) ∧ ∃ zs : List Int, acc = zs.map V.int ∧ zs.length = i) ⟨Same.new hcl, upd_same, [], rfl, rfl⟩ ?_ ?_ ?_⟩
    · rintro i acc H2 hi ⟨s2, e2, zs, rfl, lz⟩
      exact ⟨e2, by rw [List.length_map, lz]; exact Nat.le_refl _⟩
    · rintro i acc H2 hi ⟨s2, e2, zs, rfl, lz⟩
      refine ⟨_, rfl, _, rfl, a, sc, _, rfl, s2.seq hS, hl, by omega, fun z => ⟨e2, s2.upd hcl, upd_same, zs ++ [z], ?_, by rw [List.length_append, lz]; rfl⟩⟩
      rw [List.map_append]
      rfl
    rintro acc H1 ⟨s1, e1, cs, rfl, c8⟩
    have cell : ∀ j : Int, 0 ≤ j → j < 8 → ∃ z, atI (cs.map V.int) j = some (V.int z) := fun j j0 j1 => at_ints j0 (by rw [c8]; exact j1)
    obtain ⟨z0, hz0⟩ := cell 0 (by decide) (by decide)
    obtain ⟨z1, hz1⟩ := cell 1 (by decide) (by decide)
    obtain ⟨z2, hz2⟩ := cell 2 (by decide) (by decide)
    obtain ⟨z3, hz3⟩ := cell 3 (by decide) (by decide)
    obtain ⟨z4, hz4⟩ := cell 4 (by decide) (by decide)
    obtain ⟨z5, hz5⟩ := cell 5 (by decide) (by decide)
    obtain ⟨z6, hz6⟩ := cell 6 (by decide) (by decide)
    obtain ⟨z7, hz7⟩ := cell 7 (by decide) (by decide)
    refine ⟨_, rfl, cl, _, _, _, rfl, rfl, SqL.of e1, hz0, z0, 2, rfl, by decide, fun ws w2 wnd wnm wl H2 s2 hwl e2 => ?_⟩
    refine ⟨_, rfl, cl, _, _, _, rfl, rfl, SqL.of (s2 _ _ e1), hz1, z1, 10, rfl, by decide, fun ns n10 nnd nnm nl H3 s3 hnl e3 => ?_⟩
    have eC := s3 _ _ (s2 _ _ e1)
    have eW := s3 _ _ e2
    have s03 := (s1.trans s2).trans s3
    refine ⟨_, rfl, cl, _, _, _, rfl, rfl, SqL.of eC, hz2, _, _, rfl, rfl, (show (0 : Int) < 7 by decide), ?_⟩
    refine ⟨_, rfl, _, rfl, cl, _, _, _, rfl, rfl, SqL.of eC, hz2, _, _, rfl, rfl, ⟨by decide, by decide⟩, _, _, rfl, rfl, (show (0 : Int) < 4 by decide), _, _, rfl, rfl, _, _, rfl, ?_⟩
    have b7 := emod_bd' z2 7 (by decide)
    have b4 := emod_bd' (z2 / 7) 4 (by decide)
    obtain ⟨M, hM⟩ := Int.eq_ofNat_of_zero_le b7.1
    obtain ⟨S, hSz⟩ : ∃ S : Nat, (if z2 % 7 + z2 / 7 % 4 > 1 then z2 % 7 + z2 / 7 % 4 else 1) = (S : Int) := Int.eq_ofNat_of_zero_le (by split <;> omega)
    have M6 : M ≤ 6 := by omega
    have MS : M ≤ S := by split at hSz <;> omega
    have S1 : 1 ≤ S := by split at hSz <;> omega
    have S9 : S ≤ 9 := by split at hSz <;> omega
    refine ⟨fun σ G => ∃ (mI sI : Int) (bl : Addr) (bs : List Int), σ = [some (.ref a), some (.ref cl), some (.ref wl), some (.ref nl), some (.int mI), some (.int sI), some (.ref bl), none, none, none, none, none, none, none, none, none, none, none] ∧ mI = M ∧ sI = S ∧ Same H3 G ∧ SqL K G bl (bs.map V.int) ∧ BxL bs, ?_, ?_⟩
    · refine ⟨_, rfl, cl, _, _, _, rfl, rfl, SqL.of eC, hz3, _, _, rfl, rfl, (show (0 : Int) < 61 by decide), _, _, rfl, rfl, _, rfl, cl, _, _, _, rfl, rfl, SqL.of eC, hz3, _, _, rfl, rfl, ⟨by decide, by decide⟩, _, _, rfl, rfl, (show (0 : Int) < 61 by decide), _, _, rfl, rfl, (by show 8 ≤ sizeLine; decide), fun bl hbl => ⟨_, _, bl, [0, 1, 2, 3, 4, 5, 6 + z3 % 61, 67 + z3 / 61 % 61], rfl, hM, hSz, Same.new hbl, SqL.of upd_same, rfl, fun b hb => ?_⟩⟩
      have y1 := emod_bd' z3 61 (by decide)
      have y2 := emod_bd' (z3 / 61) 61 (by decide)
      simp only [List.mem_cons, List.not_mem_nil, or_false] at hb
      omega
    rintro σ G0 ⟨mI, sI, bl, bs, rfl, rfl, rfl, sG0, hbl, hbs⟩
    have eC0 := sG0 _ _ eC
    have eW0 := sG0 _ _ eW
    have eN0 := sG0 _ _ e3
    have pn : ∀ j : Int, 0 ≤ j → j < 10 → ∃ s, atI (ns.map V.str) j = some (V.str s) ∧ s ∈ ns ∧ ns[j.toNat]? = some s := fun j j0 j1 => by
      have hj : j.toNat < ns.length := by omega
      exact ⟨ns[j.toNat], at_ref j0 (List.getElem?_eq_getElem hj), List.getElem_mem hj, List.getElem?_eq_getElem hj⟩
    have pw : ∀ j : Int, 0 ≤ j → j < 2 → ∃ s, atI (ws.map V.str) j = some (V.str s) ∧ s ∈ ws ∧ ws[j.toNat]? = some s := fun j j0 j1 => by
      have hj : j.toNat < ws.length := by omega
      exact ⟨ws[j.toNat], at_ref j0 (List.getElem?_eq_getElem hj), List.getElem_mem hj, List.getElem?_eq_getElem hj⟩
    obtain ⟨w0, p0, w0m, i0⟩ := pw 0 (by decide) (by decide)
    obtain ⟨w1, p1, w1m, i1⟩ := pw 1 (by decide) (by decide)
    obtain ⟨x0, q0, x0m, _⟩ := pn ((S : Int) - 1) (by omega) (by omega)
    obtain ⟨x1, q1, x1m, _⟩ := pn M (by omega) (by omega)
    obtain ⟨x2, q2, x2m, _⟩ := pn 0 (by decide) (by decide)
    obtain ⟨x9, q9, x9m, _⟩ := pn 9 (by decide) (by decide)
    have sok : ∀ {s : Str}, K12.Nm s → PyData.strOk s = true := fun {s} h => h.2
    refine ⟨_, rfl, _, rfl, _, _, rfl, rfl, nl, _, _, _, rfl, rfl, SqL.of eN0, q0, _, rfl, wl, _, _, _, rfl, rfl, SqL.of eW0, p0, le0, fun t0 ht0 => ⟨le4, fun t1 ht1 => ⟨le1, fun L1 hL1 => ?_⟩⟩⟩
    have y0 := Same.new (o := .tup []) ht0
    have y1 := Same.new (o := .tup [V.str "call", V.str x0, V.str w0, V.ref t0]) ht1
    have y2 := Same.new (o := .lst [V.ref t1]) hL1
    have y02 := (y0.trans y1).trans y2
    have rl0 : RowL K (upd (upd (upd G0 t0 (.tup [])) t1 (.tup [V.str "call", V.str x0, V.str w0, V.ref t0])) L1 (.lst [V.ref t1])) (rcall t1 x0 w0 []) := ⟨ok_call (q := t0) (SqT.of (y2 _ _ upd_same)) (nnm _ x0m) (SqT.of (y2 _ _ (y1 _ _ upd_same))) (fun v hv => by cases hv) (by decide), HasD.up (n := 2) (HasD.tup (SqT.of (y2 _ _ upd_same)) (.cons (.str (by decide +kernel)) (.cons (.str (sok (nnm _ x0m))) (.cons (.str (sok (wnm _ w0m))) (.cons (HasD.tup (n := 0) (SqT.of (y2 _ _ (y1 _ _ upd_same))) .nil) .nil))))) (by decide)⟩
    generalize hG1 : upd (upd (upd G0 t0 (.tup [])) t1 (.tup [V.str "call", V.str x0, V.str w0, V.ref t0])) L1 (.lst [V.ref t1]) = G1 at y02 rl0 ⊢
    have eL1 : G1 L1 = some (.lst [V.ref t1]) := by rw [← hG1]; exact upd_same
    refine ⟨_, rfl, _, rfl, _, _, rfl, ⟨by omega, by omega, by omega, by omega⟩, fun u hu => comp_range (lo := M) (n := ((S : Int) - M).toNat) (by omega) (fun i acc H2 => Same G1 H2 ∧ H2 u = some (.lst acc) ∧ ∃ rr : List RR, acc = (rr.map fun x => V.ref x.w.r) ∧ rr.map (fun x => x.w.k) = List.replicate i ("copy" : Str) ∧ ∀ x ∈ rr, RowL K (ers u H2) x) ⟨Same.new hu, upd_same, [], rfl, rfl, fun x hx => by cases hx⟩ ?_ ?_ ?_⟩
    · rintro i acc H2 hi ⟨s2', e2', rr, rfl, kk, _⟩
      refine ⟨e2', ?_⟩
      have := congrArg List.length kk
      rw [List.length_map, List.length_replicate] at this
      rw [List.length_map, this]
      exact Nat.le_refl _
    · rintro i acc H2 hi ⟨s2', e2', rr, rfl, kk, hrr⟩
      obtain ⟨xi, qi, xim, _⟩ := pn ((M : Int) + i) (by omega) (by omega)
      refine ⟨_, rfl, _, rfl, nl, _, _, _, rfl, rfl, SqL.of (s2' _ _ (y02 _ _ eN0)), qi, le3, fun c hc => ?_⟩
      have nc : c ≠ u := (ne_of_none e2' hc).symm
      have yc := Same.new (o := .tup [V.str "copy", V.str xi, V.int 0]) hc
      refine ⟨yc _ _ e2', (s2'.trans yc).upd hu, upd_same, rr ++ [rcopyV c xi 0], (by rw [List.map_append]; rfl), (by rw [List.map_append, kk, List.replicate_succ']; rfl), fun x hx => ?_⟩
      rw [ers_upd]
      rcases List.mem_append.mp hx with h | h
      · exact (hrr x h).mono yc.ers
      · cases List.mem_singleton.mp h
        have hT : SqT K (ers u (upd H2 c (.tup [V.str "copy", V.str xi, V.int 0]))) c [V.str "copy", V.str xi, V.int 0] := SqT.of (by rw [ers_ne nc]; exact upd_same)
        exact ⟨ok_copyV hT (nnm _ xim), HasD.up (n := 1) (HasD.tup hT (.cons (.str (by decide +kernel)) (.cons (.str (sok (nnm _ xim))) (.cons .int .nil)))) (by decide)⟩
    rintro acc G2 ⟨s2', e2', rr, rfl, kk, hrr⟩
    have lrr : rr.length = ((S : Int) - M).toNat := by
      have := congrArg List.length kk
      rwa [List.length_map, List.length_replicate] at this
    have s12 := y02.trans s2'
    refine ⟨L1, u, _, _, rfl, rfl, s2' _ _ eL1, e2', lt_line (by rw [List.length_map]; show 1 + rr.length < 1000000; omega), fun lr0 hlr0 => ?_⟩
    refine ⟨_, rfl, le2, fun o1 ho1 => ⟨_, rfl, nl, _, _, _, rfl, rfl, SqL.of (Same.new ho1 _ _ (Same.new hlr0 _ _ (s12 _ _ eN0))), q2, le2, fun bk hbk => ⟨le2, fun L2 hL2 => ?_⟩⟩⟩
    have v1 := Same.new (o := .lst ([V.ref t1] ++ rr.map fun x => V.ref x.w.r)) hlr0
    have v2 := Same.new (o := .tup [V.str "out", V.int 1]) ho1
    have v3 := Same.new (o := .tup [V.str "back", V.str x2]) hbk
    have v4 := Same.new (o := .lst [V.ref o1, V.ref bk]) hL2
    have v14 := ((v1.trans v2).trans v3).trans v4
    have rlO := (fun {H : Hp} (h : SqT K H o1 [V.str "out", V.int 1]) => (⟨ok_out h (at_i 1), HasD.up (n := 1) (HasD.tup h (.cons (.str (by decide +kernel)) (.cons .int .nil))) (by decide)⟩ : RowL K H (rone "out" o1 (.int 1))))
    have rlB := (fun {H : Hp} (h : SqT K H bk [V.str "back", V.str x2]) => (⟨ok_back h (at_s (nnm _ x2m)), HasD.up (n := 1) (HasD.tup h (.cons (.str (by decide +kernel)) (.cons (.str (sok (nnm _ x2m))) .nil))) (by decide)⟩ : RowL K H (rone "back" bk (.str x2))))
    have hO := rlO (SqT.of (v4 _ _ (v3 _ _ upd_same)))
    have hBk := rlB (SqT.of (v4 _ _ upd_same))
    have eLr0 := v4 _ _ (v3 _ _ (v2 _ _ (upd_same (H := G2) (a := lr0) (o := .lst ([V.ref t1] ++ rr.map fun x => V.ref x.w.r)))))
    have eL2 := upd_same (H := upd (upd (upd G2 lr0 (.lst ([V.ref t1] ++ rr.map fun x => V.ref x.w.r))) o1 (.tup [V.str "out", V.int 1])) bk (.tup [V.str "back", V.str x2])) (a := L2) (o := .lst [V.ref o1, V.ref bk])
    generalize upd (upd (upd (upd G2 lr0 (.lst ([V.ref t1] ++ rr.map fun x => V.ref x.w.r))) o1 (.tup [V.str "out", V.int 1])) bk (.tup [V.str "back", V.str x2])) L2 (.lst [V.ref o1, V.ref bk]) = G3 at v14 hO hBk eLr0 eL2 ⊢
    refine ⟨lr0, L2, _, _, rfl, rfl, eLr0, eL2, lt_line (by rw [List.length_append, List.length_map]; show 1 + rr.length + 2 < 1000000; omega), fun lr hlr => ?_⟩
    have sG3 := s12.trans v14
    refine ⟨fun σ G => ∃ (lr : Addr) (rr : List RR), σ = [some (.ref a), some (.ref cl), some (.ref wl), some (.ref nl), some (.int M), some (.int S), some (.ref bl), some (.ref lr), none, none, none, none, none, none, none, none, none, none] ∧ Same G0 G ∧ G0 lr = none ∧ G lr = some (.lst (rr.map fun x => V.ref x.w.r)) ∧ rr.map (fun x => x.w.k) = ("call" : Str) :: List.replicate ((S : Int) - M).toNat ("copy" : Str) ++ [("out" : Str), "back"] ∧ ∀ x ∈ rr, RowL K (ers lr G) x, ?_, ?_⟩
    · have hAll : ∀ x ∈ (rcall t1 x0 w0 [] :: rr ++ [rone "out" o1 (.int 1), rone "back" bk (.str x2)]), RowL K G3 x := fun x hx => by
        rcases List.mem_append.mp hx with h | h
        · rcases List.mem_cons.mp h with h | h
          · rw [h]; exact rl0.mono (s2'.trans v14)
          · exact (hrr x h).mono (ers_same.trans v14)
        · rcases List.mem_cons.mp h with h | h
          · rw [h]; exact hO
          · rw [List.mem_singleton.mp h]; exact hBk
      have e0 : [V.ref t1] ++ (rr.map fun x => V.ref x.w.r) ++ [V.ref o1, V.ref bk] = (rcall t1 x0 w0 [] :: rr ++ [rone "out" o1 (.int 1), rone "back" bk (.str x2)]).map fun x => V.ref x.w.r := by
        rw [List.map_append, List.map_cons]
        rfl
      have k0 : (rcall t1 x0 w0 [] :: rr ++ [rone "out" o1 (.int 1), rone "back" bk (.str x2)]).map (fun x => x.w.k) = ("call" : Str) :: List.replicate ((S : Int) - M).toNat ("copy" : Str) ++ [("out" : Str), "back"] := by
        rw [List.map_append, List.map_cons, kk]
        rfl
      have eR : upd G3 lr (.lst ([V.ref t1] ++ (rr.map fun x => V.ref x.w.r) ++ [V.ref o1, V.ref bk])) lr = some (.lst ((rcall t1 x0 w0 [] :: rr ++ [rone "out" o1 (.int 1), rone "back" bk (.str x2)]).map fun x => V.ref x.w.r)) := by rw [upd_same, e0]
      have toE : Same G3 (ers lr (upd G3 lr (.lst ([V.ref t1] ++ (rr.map fun x => V.ref x.w.r) ++ [V.ref o1, V.ref bk])))) := fun b o e => by rw [ers_upd, ers_ne (ne_of_none e hlr)]; exact e
      have sR := sG3.trans (Same.new (o := .lst ([V.ref t1] ++ (rr.map fun x => V.ref x.w.r) ++ [V.ref o1, V.ref bk])) hlr)
      generalize upd G3 lr (.lst ([V.ref t1] ++ (rr.map fun x => V.ref x.w.r) ++ [V.ref o1, V.ref bk])) = G4 at eR toE sR ⊢
      refine ⟨_, rfl, _, rfl, _, _, rfl, rfl, _, rfl, ?_⟩
      by_cases hms : (M : Int) < S
      · refine iteP (decide_eq_true hms) ⟨_, rfl, _, rfl, nl, _, _, _, rfl, rfl, SqL.of (sR _ _ eN0), q1, _, rfl, wl, _, _, _, rfl, rfl, SqL.of (sR _ _ eW0), p0, le0, fun t2 ht2 => ⟨le4, fun t3 ht3 => ?_⟩⟩
        have u1 := Same.new (o := .tup []) ht2
        have u2 := Same.new (o := .tup [V.str "call", V.str x1, V.str w0, V.ref t2]) ht3
        have u12 := u1.trans u2
        have e7 := u12 _ _ eR
        refine ⟨_, rfl, lr, _, _, _, rfl, rfl, e7, ixI (by decide) (by rw [List.length_map]; simp; omega), lr, (rcall t3 x1 w0 [] :: rr ++ [rone "out" o1 (.int 1), rone "back" bk (.str x2)]), rfl, (sR.trans u12).upd (sG3.free hlr), sG3.free hlr, (by rw [upd_same]; rfl), (by rw [← k0]; rfl), fun x hx => ?_⟩
        rw [ers_upd]
        have n2 : t2 ≠ lr := (ne_of_none eR ht2).symm
        have n3 : t3 ≠ lr := (ne_of_none (u1 _ _ eR) ht3).symm
        rcases List.mem_append.mp hx with h | h
        · rcases List.mem_cons.mp h with h | h
          · rw [h]
            have hT : SqT K (ers lr (upd (upd G4 t2 (.tup [])) t3 (.tup [V.str "call", V.str x1, V.str w0, V.ref t2]))) t3 [V.str "call", V.str x1, V.str w0, V.ref t2] := SqT.of (by rw [ers_ne n3]; exact upd_same)
            have hT0 : SqT K (ers lr (upd (upd G4 t2 (.tup [])) t3 (.tup [V.str "call", V.str x1, V.str w0, V.ref t2]))) t2 [] := SqT.of (by rw [ers_ne n2]; exact u2 _ _ upd_same)
            exact ⟨ok_call (q := t2) hT (nnm _ x1m) hT0 (fun v hv => by cases hv) (by decide), HasD.up (n := 2) (HasD.tup hT (.cons (.str (by decide +kernel)) (.cons (.str (sok (nnm _ x1m))) (.cons (.str (sok (wnm _ w0m))) (.cons (HasD.tup (n := 0) hT0 .nil) .nil))))) (by decide)⟩
          · exact (hAll x (List.mem_append.mpr (.inl (List.mem_cons_of_mem _ h)))).mono (toE.trans u12.ers)
        · exact (hAll x (List.mem_append.mpr (.inr h))).mono (toE.trans u12.ers)
      · exact iteN (by rw [decide_eq_true_eq]; exact hms) ⟨lr, _, rfl, sR, sG3.free hlr, eR, k0, fun x hx => (hAll x hx).mono toE⟩
    rintro σ G4 ⟨lr, rrF, rfl, sG4, hlrF, eLr, kF, hF⟩
    have eN4 := sG4 _ _ eN0
    have eW4 := sG4 _ _ eW0
    have eC4 := sG4 _ _ eC0
    refine ⟨_, rfl, wl, _, _, _, rfl, rfl, SqL.of eW4, p0, le0, fun e0 he0 => ⟨_, rfl, nl, _, _, _, rfl, rfl, SqL.of (Same.new he0 _ _ eN4), q9, le3, fun c1 hc1 => ⟨_, rfl, nl, _, _, _, rfl, rfl, SqL.of (Same.new hc1 _ _ (Same.new he0 _ _ eN4)), q9, le2, fun b1 hb1 => ⟨le2, fun rw1 hrw1 => ⟨le4, fun fa1 hfa1 => ?_⟩⟩⟩⟩⟩
    have m1 := Same.new (o := .tup []) he0
    have m2 := Same.new (o := .tup [V.str "copy", V.str x9, V.int 1]) hc1
    have m3 := Same.new (o := .tup [V.str "back", V.str x9]) hb1
    have m4 := Same.new (o := .tup [V.ref c1, V.ref b1]) hrw1
    have m5 := Same.new (o := .tup [V.str w0, V.bl false, V.ref e0, V.ref rw1]) hfa1
    have m15 := (((m1.trans m2).trans m3).trans m4).trans m5
    have g1 := m5 _ _ (m4 _ _ (m3 _ _ (m2 _ _ (upd_same (H := G4) (a := e0) (o := .tup [])))))
    have g2 := m5 _ _ (m4 _ _ (m3 _ _ (upd_same (H := upd G4 e0 (.tup [])) (a := c1) (o := .tup [V.str "copy", V.str x9, V.int 1]))))
    have g3 := m5 _ _ (m4 _ _ (upd_same (H := upd (upd G4 e0 (.tup [])) c1 (.tup [V.str "copy", V.str x9, V.int 1])) (a := b1) (o := .tup [V.str "back", V.str x9])))
    have g4 := m5 _ _ (upd_same (H := upd (upd (upd G4 e0 (.tup [])) c1 (.tup [V.str "copy", V.str x9, V.int 1])) b1 (.tup [V.str "back", V.str x9])) (a := rw1) (o := .tup [V.ref c1, V.ref b1]))
    have g5 := upd_same (H := upd (upd (upd (upd G4 e0 (.tup [])) c1 (.tup [V.str "copy", V.str x9, V.int 1])) b1 (.tup [V.str "back", V.str x9])) rw1 (.tup [V.ref c1, V.ref b1])) (a := fa1) (o := .tup [V.str w0, V.bl false, V.ref e0, V.ref rw1])
    generalize upd (upd (upd (upd (upd G4 e0 (.tup [])) c1 (.tup [V.str "copy", V.str x9, V.int 1])) b1 (.tup [V.str "back", V.str x9])) rw1 (.tup [V.ref c1, V.ref b1])) fa1 (.tup [V.str w0, V.bl false, V.ref e0, V.ref rw1]) = G5 at m15 g1 g2 g3 g4 g5 ⊢
    have rC : RowL K G5 (rcopyV c1 x9 1) := ⟨ok_copyV (SqT.of g2) (nnm _ x9m), HasD.up (n := 1) (HasD.tup (SqT.of g2) (.cons (.str (by decide +kernel)) (.cons (.str (sok (nnm _ x9m))) (.cons .int .nil)))) (by decide)⟩
    have rB : RowL K G5 (rone "back" b1 (.str x9)) := ⟨ok_back (SqT.of g3) (at_s (nnm _ x9m)), HasD.up (n := 1) (HasD.tup (SqT.of g3) (.cons (.str (by decide +kernel)) (.cons (.str (sok (nnm _ x9m))) .nil))) (by decide)⟩
    have fn1 : F2.FnAt K G5 ⟨w0, .bl false, fa1, e0, rw1, [], [rcopyV c1 x9 1, rone "back" b1 (.str x9)].map (·.w), [rcopyV c1 x9 1, rone "back" b1 (.str x9)].map (·.d)⟩ := fn_mk2 [rcopyV c1 x9 1, rone "back" b1 (.str x9)] (SqT.of g5) (SqT.of g4) (fun x hx => by
      rcases List.mem_cons.mp hx with h | h
      · rw [h]; exact rC.1
      · rw [List.mem_singleton.mp h]; exact rB.1) (SqT.of g1) (fun s hs => by cases hs) (by decide) (by show 2 ≤ 100; decide) wf_inner
    have hd1 : HasD K G5 5 (.ref fa1) := HasD.tup (SqT.of g5) (.cons (.str (sok (wnm _ w0m))) (.cons .bl (.cons (HasD.up (n := 1) (HasD.tup (n := 0) (SqT.of g1) .nil) (by decide)) (.cons (HasD.tup (SqT.of g4) (.cons rC.2 (.cons rB.2 .nil))) .nil))))
    have sG5 := sG4.trans m15
    have ec : cutV (ns.map V.str) none (some (M : Int)) = (ns.take M).map V.str := by
      unfold cutV
      rw [HT.sIx_none, show HT.sIx (ns.map V.str).length (ns.map V.str).length (some (M : Int)) = min M (ns.map V.str).length from HT.sIx_nat _ _ M, List.length_map, List.drop_zero, Nat.sub_zero, Nat.min_eq_left (by omega), List.map_take]
    refine ⟨fun σ G => ∃ (pl : Addr) (f1 f2 : F2.Fd), σ = [some (.ref a), some (.ref cl), some (.ref wl), some (.ref nl), some (.int M), some (.int S), some (.ref bl), some (.ref lr), some (.ref fa1), some (.ref pl), none, none, none, none, none, none, none, none] ∧ Same G5 G ∧ SqL K G pl [V.ref f1.fa, V.ref f2.fa] ∧ F2.FnAt K G f1 ∧ F2.FnAt K G f2 ∧ f1.name = w0 ∧ f2.name = w1 ∧ f2.ps.length = M ∧ HasD K G 5 (.ref f1.fa) ∧ HasD K G 5 (.ref f2.fa), ?_, ?_⟩
    · have eR5 := m15 _ _ eLr
      refine ⟨_, rfl, _, rfl, wl, _, _, _, rfl, rfl, SqL.of (m15 _ _ eW4), p1, _, rfl, _, rfl, _, rfl, nl, _, rfl, SqL.of (m15 _ _ eN4), fun sl hsl => ⟨sl, _, rfl, .inl ⟨SqL.of upd_same, fun qC hqC => ⟨_, rfl, lr, _, rfl, .inl ⟨SqL.of (Same.new hqC _ _ (Same.new hsl _ _ eR5)), fun tr htr => ⟨le4, fun fa2 hfa2 => ⟨le2, fun pl hpl => ?_⟩⟩⟩⟩⟩⟩⟩
      have a1 := Same.new (o := .lst (cutV (ns.map V.str) none (some (M : Int)))) hsl
      have a2 := Same.new (o := .tup (cutV (ns.map V.str) none (some (M : Int)))) hqC
      have a3 := Same.new (o := .tup (rrF.map fun x => V.ref x.w.r)) htr
      have a4 := Same.new (o := .tup [V.str w1, V.bl false, V.ref qC, V.ref tr]) hfa2
      have a5 := Same.new (o := .lst [V.ref fa1, V.ref fa2]) hpl
      have a15 := (((a1.trans a2).trans a3).trans a4).trans a5
      have kl : rrF.length = ((S : Int) - M).toNat + 3 := by
        have := congrArg List.length kF
        rw [List.length_map] at this
        rw [this]
        simp
      have hqT := sqT_eq ec (SqT.of (K := K) (a5 _ _ (a4 _ _ (a3 _ _ (upd_same (H := upd G5 sl (.lst (cutV (ns.map V.str) none (some (M : Int))))) (a := qC) (o := .tup (cutV (ns.map V.str) none (some (M : Int)))))))))
      have htT := SqT.of (K := K) (a5 _ _ (a4 _ _ (upd_same (H := upd (upd G5 sl (.lst (cutV (ns.map V.str) none (some (M : Int))))) qC (.tup (cutV (ns.map V.str) none (some (M : Int))))) (a := tr) (o := .tup (rrF.map fun x => V.ref x.w.r)))))
      have hfT := SqT.of (K := K) (a5 _ _ (upd_same (H := upd (upd (upd G5 sl (.lst (cutV (ns.map V.str) none (some (M : Int))))) qC (.tup (cutV (ns.map V.str) none (some (M : Int))))) tr (.tup (rrF.map fun x => V.ref x.w.r))) (a := fa2) (o := .tup [V.str w1, V.bl false, V.ref qC, V.ref tr])))
      have rows := fun x (hx : x ∈ rrF) => (hF x hx).mono ((ers_same.trans m15).trans a15)
      refine ⟨pl, _, ⟨w1, .bl false, fa2, qC, tr, ns.take M, rrF.map (·.w), rrF.map (·.d)⟩, rfl, a15, SqL.of upd_same, fn1.mono a15, fn_mk2 rrF hfT htT (fun x hx => (rows x hx).1) hqT (fun s hs => nnm s (List.mem_of_mem_take hs)) (by rw [List.length_take]; omega) (by omega) (by rw [kF]; exact wf_begin _), rfl, rfl, (by show (ns.take M).length = M; rw [List.length_take]; omega), hd1.mono a15, ?_⟩
      refine HasD.tup hfT (.cons (.str (sok (wnm _ w1m))) (.cons .bl (.cons (HasD.up (n := 1) (HasD.tup (n := 0) hqT (.of fun x hx => ?_)) (by decide)) (.cons (HasD.tup htT (.of fun x hx => ?_)) .nil))))
      · obtain ⟨s, hs, rfl⟩ := List.mem_map.mp hx
        exact .str (sok (nnm s (List.mem_of_mem_take hs)))
      · obtain ⟨y, hy, rfl⟩ := List.mem_map.mp hx
        exact (rows y hy).2
    rintro σ G6 ⟨pl, f1, f2, rfl, sG6, hpl, hf1, hf2, n1, n2, fl2, hh1, hh2⟩
    have sG06 := sG5.trans sG6
    have eC6 := sG06 _ _ eC0
    have eW6 := sG06 _ _ eW0
    have sLr : SqL K G6 lr (rrF.map fun x => V.ref x.w.r) := SqL.of (sG6 _ _ (m15 _ _ eLr))
    refine ⟨_, rfl, wl, _, _, _, rfl, rfl, SqL.of eW6, p1, le2, fun ch0 hch0 => ⟨le1, fun ca0 hca0 => ?_⟩⟩
    have c1' := Same.new (o := .tup [V.str w1, V.int 0]) hch0
    have c2' := Same.new (o := .tup [V.ref ch0]) hca0
    have c12 := c1'.trans c2'
    have chA : ChAt K (upd (upd G6 ch0 (.tup [V.str w1, V.int 0])) ca0 (.tup [V.ref ch0])) ca0 [⟨ch0, w1, 0⟩] := ⟨SqT.of upd_same, fun f hf => by
      cases List.mem_singleton.mp hf
      exact ⟨SqT.of (c2' _ _ upd_same), sok (wnm _ w1m)⟩⟩
    refine ⟨_, rfl, cl, _, _, _, rfl, rfl, SqL.of (c12 _ _ eC6), hz4, _, rfl, _, rfl, _, rfl, z4, S, M, bl, bs, rfl, by omega, by omega, by omega, (sG06.trans c12).seq hbl, hbs, fun v0 us view G7 s7 hv0 ev0 ps7 vl7 vo7 => ⟨le1, fun lv hlv => ?_⟩⟩
    have c7 := c12.trans s7
    have c8 := Same.new (o := .lst [V.ref v0]) hlv
    have n0 : v0 ≠ lv := ne_of_none ev0 hlv
    have toE : Same G7 (ers lv (upd G7 lv (.lst [V.ref v0]))) := fun b o e => by rw [ers_upd, ers_ne (ne_of_none e hlv)]; exact e
    refine ⟨fun σ G => ∃ (ca' : Addr) (fr' : List Bg.Fr) (lv' v0' : Addr) (vr' us' : List V) (view' : List (Option Rk2.Tr)), σ = [some (.ref a), some (.ref cl), some (.ref wl), some (.ref nl), some (.int M), some (.int S), some (.ref bl), some (.ref lr), some (.ref fa1), some (.ref pl), some (.ref ca'), some (.ref lv'), none, none, none, none, none, none] ∧ Same G6 G ∧ ChAt K (ers lv' G) ca' fr' ∧ G6 lv' = none ∧ G lv' = some (.lst (.ref v0' :: vr')) ∧ SqL K (ers lv' G) v0' us' ∧ Rk2.Ps (VAt (ers lv' G)) us' view' ∧ view'.length = S ∧ (∀ t, some t ∈ view' → TOk t) ∧ vr'.length ≤ 0 ∧ ∀ v ∈ vr', ∃ p, v = .ref p ∧ SqL K (ers lv' G) p [.non], ?_, ?_⟩
    · refine ⟨_, rfl, cl, _, _, _, rfl, rfl, SqL.of (c8 _ _ (c7 _ _ eC6)), hz5, _, _, rfl, rfl, (show (0 : Int) < 8 by decide), rfl, _, rfl, ?_⟩
      have base : ∀ (ca : Addr) (fr : List Bg.Fr) (G : Hp), Same (upd G7 lv (.lst [V.ref v0])) G → ChAt K (ers lv G) ca fr → (∃ (ca' : Addr) (fr' : List Bg.Fr) (lv' v0' : Addr) (vr' us' : List V) (view' : List (Option Rk2.Tr)), ([some (.ref a), some (.ref cl), some (.ref wl), some (.ref nl), some (.int M), some (.int S), some (.ref bl), some (.ref lr), some (.ref fa1), some (.ref pl), some (.ref ca), some (.ref lv), none, none, none, none, none, none] : St) = [some (.ref a), some (.ref cl), some (.ref wl), some (.ref nl), some (.int M), some (.int S), some (.ref bl), some (.ref lr), some (.ref fa1), some (.ref pl), some (.ref ca'), some (.ref lv'), none, none, none, none, none, none] ∧ Same G6 G ∧ ChAt K (ers lv' G) ca' fr' ∧ G6 lv' = none ∧ G lv' = some (.lst (.ref v0' :: vr')) ∧ SqL K (ers lv' G) v0' us' ∧ Rk2.Ps (VAt (ers lv' G)) us' view' ∧ view'.length = S ∧ (∀ t, some t ∈ view' → TOk t) ∧ vr'.length ≤ 0 ∧ ∀ v ∈ vr', ∃ p, v = .ref p ∧ SqL K (ers lv' G) p [.non]) := fun ca fr G sG hc => ⟨ca, fr, lv, v0, [], us, view, rfl, (c7.trans c8).trans sG, hc, c7.free hlv, sG _ _ upd_same, SqL.of ((toE.trans sG.ers) _ _ ev0), Rk2.Ps.imp (fun _ _ z => VAt.mono z (toE.trans sG.ers)) ps7, vl7, vo7, Nat.le_refl _, fun v hv => by cases hv⟩
      refine ite2 (fun _ => ?_) (fun _ => base ca0 _ _ (Same.refl _) ((chA.mono s7).mono toE))
      have lp : (0 : Int) < ((rrF.map fun x => V.ref x.w.r).length : Int) - 1 := by
        have := congrArg List.length kF
        rw [List.length_map] at this ⊢
        rw [this]
        simp
        omega
      refine ⟨_, rfl, wl, _, _, _, rfl, rfl, SqL.of (c8 _ _ (c7 _ _ eW6)), p1, _, rfl, cl, _, _, _, rfl, rfl, SqL.of (c8 _ _ (c7 _ _ eC6)), hz5, _, _, rfl, rfl, ⟨by decide, by decide⟩, _, rfl, lr, _, rfl, .inl ((c7.trans c8).seq sLr), _, _, rfl, rfl, _, _, rfl, rfl, lp, _, _, rfl, rfl, le2, fun d0 hd0 => ⟨le1, fun cb hcb => ?_⟩⟩
      have d1 := Same.new (o := .tup [V.str w1, V.int (1 + z5 / 8 % (((rrF.map fun x => V.ref x.w.r).length : Int) - 1))]) hd0
      have d2 := Same.new (o := .tup [V.ref d0]) hcb
      have e9 := d1 _ _ (upd_same (H := G7) (a := lv) (o := .lst [V.ref v0]))
      have x1' : d0 ≠ lv := (ne_of_none (upd_same (H := G7) (a := lv) (o := .lst [V.ref v0])) hd0).symm
      have x2' : cb ≠ lv := (ne_of_none e9 hcb).symm
      exact base cb [⟨d0, w1, 1 + z5 / 8 % (((rrF.map fun x => V.ref x.w.r).length : Int) - 1)⟩] _ (d1.trans d2) ⟨SqT.of (by rw [ers_ne x2']; exact upd_same), fun f hf => by
        cases List.mem_singleton.mp hf
        exact ⟨SqT.of (by show ers lv _ d0 = _; rw [ers_ne x1']; exact d2 _ _ upd_same), sok (wnm _ w1m)⟩⟩
    rintro σ G8 ⟨ca, fr, lv, v0, vr, us, view, rfl, sG8, hch, hlv6, elv, hv0, hps, hvl, hvo, hvn, hvr⟩
    refine ⟨fun σ G => ∃ (ca' : Addr) (fr' : List Bg.Fr) (lv' v0' : Addr) (vr' us' : List V) (view' : List (Option Rk2.Tr)), σ = [some (.ref a), some (.ref cl), some (.ref wl), some (.ref nl), some (.int M), some (.int S), some (.ref bl), some (.ref lr), some (.ref fa1), some (.ref pl), some (.ref ca'), some (.ref lv'), none, none, none, none, none, none] ∧ Same G6 G ∧ ChAt K (ers lv' G) ca' fr' ∧ G6 lv' = none ∧ G lv' = some (.lst (.ref v0' :: vr')) ∧ SqL K (ers lv' G) v0' us' ∧ Rk2.Ps (VAt (ers lv' G)) us' view' ∧ view'.length = S ∧ (∀ t, some t ∈ view' → TOk t) ∧ vr'.length ≤ 1 ∧ ∀ v ∈ vr', ∃ p, v = .ref p ∧ SqL K (ers lv' G) p [.non], ?_, ?_⟩
    · refine ⟨_, rfl, cl, _, _, _, rfl, rfl, SqL.of (sG8 _ _ eC6), hz5, _, _, rfl, rfl, (show (0 : Int) < 8 by decide), rfl, _, rfl, ite2 (fun _ => ?_) (fun _ => ⟨ca, fr, lv, v0, vr, us, view, rfl, sG8, hch, hlv6, elv, hv0, hps, hvl, hvo, by omega, hvr⟩)⟩
      refine ⟨_, rfl, wl, _, _, _, rfl, rfl, SqL.of (sG8 _ _ eW6), p1, le2, fun f0 hf0 => ⟨_, rfl, wl, _, _, _, rfl, rfl, SqL.of (Same.new hf0 _ _ (sG8 _ _ eW6)), p0, _, rfl, cl, _, _, _, rfl, rfl, SqL.of (Same.new hf0 _ _ (sG8 _ _ eC6)), hz5, _, _, rfl, rfl, ⟨by decide, by decide⟩, _, _, rfl, rfl, (show (0 : Int) < 2 by decide), le2, fun f1' hf1' => ⟨le2, fun cb hcb => ?_⟩⟩⟩
      have d1 := Same.new (o := .tup [V.str w1, V.int 0]) hf0
      have d2 := Same.new (o := .tup [V.str w0, V.int (z5 / 8 % 2)]) hf1'
      have d3 := Same.new (o := .tup [V.ref f0, V.ref f1']) hcb
      have x1' : f0 ≠ lv := (ne_of_none elv hf0).symm
      have x2' : f1' ≠ lv := (ne_of_none (d1 _ _ elv) hf1').symm
      have x3' : cb ≠ lv := (ne_of_none (d2 _ _ (d1 _ _ elv)) hcb).symm
      have e9 := d3 _ _ (d2 _ _ (d1 _ _ elv))
      refine ⟨_, rfl, .inl ⟨rfl, _, SqL.of e9⟩, le1, fun nn hnn => ?_⟩
      have d4 := Same.new (o := .lst [V.non]) hnn
      have x4' : nn ≠ lv := (ne_of_none e9 hnn).symm
      have d14 := ((d1.trans d2).trans d3).trans d4
      have dE := d14.ers (l := lv)
      refine ⟨lv, _, _, rfl, rfl, d4 _ _ e9, small1000 (by show vr.length + 1 ≤ 1000; omega), cb, [⟨f0, w1, 0⟩, ⟨f1', w0, z5 / 8 % 2⟩], lv, v0, vr ++ [V.ref nn], us, view, rfl, (sG8.trans d14).upd hlv6, ?_, hlv6, upd_same, ?_, ?_, hvl, hvo, (by rw [List.length_append]; show vr.length + 1 ≤ 1; omega), ?_⟩
      · rw [ers_upd]
        refine ⟨SqT.of (by rw [ers_ne x3']; exact d4 _ _ upd_same), fun f hf => ?_⟩
        rcases List.mem_cons.mp hf with h | h
        · rw [h]
          exact ⟨SqT.of (by show ers lv _ f0 = _; rw [ers_ne x1']; exact d4 _ _ (d3 _ _ (d2 _ _ upd_same))), sok (wnm _ w1m)⟩
        · rw [List.mem_singleton.mp h]
          exact ⟨SqT.of (by show ers lv _ f1' = _; rw [ers_ne x2']; exact d4 _ _ (d3 _ _ upd_same)), sok (wnm _ w0m)⟩
      · rw [ers_upd]
        exact dE.seq hv0
      · rw [ers_upd]
        exact Rk2.Ps.imp (fun _ _ z => VAt.mono z dE) hps
      · rw [ers_upd]
        intro v hv
        rcases List.mem_append.mp hv with h | h
        · obtain ⟨p, e, z⟩ := hvr v h
          exact ⟨p, e, dE.seq z⟩
        · rw [List.mem_singleton.mp h]
          exact ⟨nn, rfl, SqL.of (by rw [ers_ne x4']; exact upd_same)⟩
    rintro σ G9 ⟨ca, fr, lv, v0, vr, us, view, rfl, sG9, hch, hlv6, elv, hv0, hps, hvl, hvo, hvn, hvr⟩
    have aA : ∀ {x y : Addr} {i : Int}, 0 ≤ i → i < 2 → atI [V.ref x, V.ref y] i = some (V.ref (if i = 0 then x else y)) := fun {x y i} h0 h1 => by
      rcases (show i = 0 ∨ i = 1 by omega) with h | h <;> (rw [h]; rfl)
    have b62 := emod_bd' (z6 / 8) 2 (by decide)
    refine ⟨le2, fun g0 hg0 => ⟨le2, fun n3 hn3 => ⟨le2, fun b0 hb0 => ⟨le2, fun LA hLA => ?_⟩⟩⟩⟩
    have o1' := Same.new (o := .tup [V.str "go", V.int 0]) hg0
    have o2' := Same.new (o := .tup [V.str "num", V.int 3]) hn3
    have o3' := Same.new (o := .tup [V.str "back", V.ref n3]) hb0
    have o4' := Same.new (o := .lst [V.ref g0, V.ref b0]) hLA
    have o14 := ((o1'.trans o2').trans o3').trans o4'
    refine ⟨_, rfl, cl, _, _, _, rfl, rfl, SqL.of (o14 _ _ (sG9 _ _ eC6)), hz6, _, _, rfl, rfl, ⟨by decide, by decide⟩, _, _, rfl, rfl, (show (0 : Int) < 2 by decide), LA, _, _, _, rfl, rfl, SqL.of upd_same, aA b62.1 b62.2, ?_⟩
    have hacT : ∃ kd ar, SqT K (upd (upd (upd (upd G9 g0 (.tup [V.str "go", V.int 0])) n3 (.tup [V.str "num", V.int 3])) b0 (.tup [V.str "back", V.ref n3])) LA (.lst [V.ref g0, V.ref b0])) (if z6 / 8 % 2 = 0 then g0 else b0) (V.str kd :: ar) ∧ HasD K (upd (upd (upd (upd G9 g0 (.tup [V.str "go", V.int 0])) n3 (.tup [V.str "num", V.int 3])) b0 (.tup [V.str "back", V.ref n3])) LA (.lst [V.ref g0, V.ref b0])) 2 (.ref (if z6 / 8 % 2 = 0 then g0 else b0)) := by
      have j1 := SqT.of (K := K) (o4' _ _ (o3' _ _ (o2' _ _ (upd_same (H := G9) (a := g0) (o := .tup [V.str "go", V.int 0])))))
      have j2 := SqT.of (K := K) (o4' _ _ (o3' _ _ (upd_same (H := upd G9 g0 (.tup [V.str "go", V.int 0])) (a := n3) (o := .tup [V.str "num", V.int 3]))))
      have j3 := SqT.of (K := K) (o4' _ _ (upd_same (H := upd (upd G9 g0 (.tup [V.str "go", V.int 0])) n3 (.tup [V.str "num", V.int 3])) (a := b0) (o := .tup [V.str "back", V.ref n3])))
      by_cases h : z6 / 8 % 2 = 0
      · rw [if_pos h]
        exact ⟨_, _, j1, HasD.up (n := 1) (HasD.tup j1 (.cons (.str (by decide +kernel)) (.cons .int .nil))) (by decide)⟩
      · rw [if_neg h]
        exact ⟨_, _, j3, HasD.tup j3 (.cons (.str (by decide +kernel)) (.cons (HasD.tup (n := 0) j2 (.cons (.str (by decide +kernel)) (.cons .int .nil))) .nil))⟩
    obtain ⟨kd0, ar0, hacS, hacD⟩ := hacT
    generalize (if z6 / 8 % 2 = 0 then g0 else b0) = ac0 at hacS hacD ⊢
    generalize upd (upd (upd (upd G9 g0 (.tup [V.str "go", V.int 0])) n3 (.tup [V.str "num", V.int 3])) b0 (.tup [V.str "back", V.ref n3])) LA (.lst [V.ref g0, V.ref b0]) = GA at o14 hacS hacD ⊢
    have sGA := sG9.trans o14
    have oE := (ers_same (l := lv)).trans o14
    refine ⟨fun σ G => ∃ (ca' : Addr) (fr' : List Bg.Fr) (lv' v0' : Addr) (vr' us' : List V) (view' : List (Option Rk2.Tr)) (ac' : Addr) (kd' : Str) (ar' : List V), σ = [some (.ref a), some (.ref cl), some (.ref wl), some (.ref nl), some (.int M), some (.int S), some (.ref bl), some (.ref lr), some (.ref fa1), some (.ref pl), some (.ref ca'), some (.ref lv'), some (.ref ac'), none, none, none, none, none] ∧ Same G6 G ∧ ChAt K G ca' fr' ∧ SqL K G lv' (.ref v0' :: vr') ∧ SqL K G v0' us' ∧ Rk2.Ps (VAt G) us' view' ∧ view'.length = S ∧ (∀ t, some t ∈ view' → TOk t) ∧ vr'.length ≤ 1 ∧ (∀ v ∈ vr', ∃ p, v = .ref p ∧ SqL K G p [.non]) ∧ SqT K G ac' (.str kd' :: ar') ∧ HasD K G 2 (.ref ac'), ?_, ?_⟩
    · have keep : (∃ (ca' : Addr) (fr' : List Bg.Fr) (lv' v0' : Addr) (vr' us' : List V) (view' : List (Option Rk2.Tr)) (ac' : Addr) (kd' : Str) (ar' : List V), ([some (.ref a), some (.ref cl), some (.ref wl), some (.ref nl), some (.int M), some (.int S), some (.ref bl), some (.ref lr), some (.ref fa1), some (.ref pl), some (.ref ca), some (.ref lv), some (.ref ac0), none, none, none, none, none] : St) = [some (.ref a), some (.ref cl), some (.ref wl), some (.ref nl), some (.int M), some (.int S), some (.ref bl), some (.ref lr), some (.ref fa1), some (.ref pl), some (.ref ca'), some (.ref lv'), some (.ref ac'), none, none, none, none, none] ∧ Same G6 GA ∧ ChAt K GA ca' fr' ∧ SqL K GA lv' (.ref v0' :: vr') ∧ SqL K GA v0' us' ∧ Rk2.Ps (VAt GA) us' view' ∧ view'.length = S ∧ (∀ t, some t ∈ view' → TOk t) ∧ vr'.length ≤ 1 ∧ (∀ v ∈ vr', ∃ p, v = .ref p ∧ SqL K GA p [.non]) ∧ SqT K GA ac' (.str kd' :: ar') ∧ HasD K GA 2 (.ref ac')) := ⟨ca, fr, lv, v0, vr, us, view, ac0, kd0, ar0, rfl, sGA, hch.mono oE, SqL.of (o14 _ _ elv), oE.seq hv0, Rk2.Ps.imp (fun _ _ z => VAt.mono z oE) hps, hvl, hvo, hvn, (fun v hv => let ⟨p, e, z⟩ := hvr v hv; ⟨p, e, oE.seq z⟩), hacS, hacD⟩
      refine ⟨_, rfl, cl, _, _, _, rfl, rfl, SqL.of (sGA _ _ eC6), hz6, _, _, rfl, rfl, (show (0 : Int) < 8 by decide), rfl, _, rfl, ite2 (fun _ => ⟨_, rfl, cl, _, _, _, rfl, rfl, SqL.of (sGA _ _ eC6), hz5, _, _, rfl, rfl, (show (0 : Int) < 8 by decide), rfl, _, rfl, ite2 (fun _ => ?_) (fun _ => keep)⟩) (fun _ => iteF keep)⟩
      refine ⟨le3, fun wa hwa => ⟨_, rfl, wl, _, _, _, rfl, rfl, SqL.of (Same.new hwa _ _ (sGA _ _ eW6)), p1, le2, fun d0 hd0 => ⟨le1, fun cb hcb => ⟨_, rfl, _, rfl, lv, _, rfl, SqL.of (Same.new hcb _ _ (Same.new hd0 _ _ (Same.new hwa _ _ (o14 _ _ elv)))), fun l2 hl2 => ?_⟩⟩⟩⟩
      have r1' := Same.new (o := .tup [V.str "wait", V.non, V.int 0]) hwa
      have r2' := Same.new (o := .tup [V.str w1, V.int 0]) hd0
      have r3' := Same.new (o := .tup [V.ref d0]) hcb
      have ecv : cutV (V.ref v0 :: vr) none (some 1) = [V.ref v0] := by
        unfold cutV
        rw [HT.sIx_none, show HT.sIx (V.ref v0 :: vr).length (V.ref v0 :: vr).length (some 1) = min 1 (V.ref v0 :: vr).length from HT.sIx_nat _ _ 1, List.drop_zero, Nat.sub_zero, Nat.min_eq_left (by simp)]
        rfl
      have r4' := Same.new (o := .lst (cutV (V.ref v0 :: vr) none (some 1))) hl2
      have r14 := ((r1'.trans r2').trans r3').trans r4'
      have oR := oE.trans r14
      have hw := SqT.of (K := K) (r4' _ _ (r3' _ _ (r2' _ _ (upd_same (H := GA) (a := wa) (o := .tup [V.str "wait", V.non, V.int 0])))))
      exact ⟨cb, [⟨d0, w1, 0⟩], l2, v0, [], us, view, wa, "wait", _, rfl, sGA.trans r14, ⟨SqT.of (r4' _ _ upd_same), fun f hf => by
        cases List.mem_singleton.mp hf
        exact ⟨SqT.of (r4' _ _ (r3' _ _ upd_same)), sok (wnm _ w1m)⟩⟩, SqL.of (by rw [upd_same, ecv]), oR.seq hv0, Rk2.Ps.imp (fun _ _ z => VAt.mono z oR) hps, hvl, hvo, Nat.zero_le _, (fun v hv => by cases hv), hw, HasD.up (n := 1) (HasD.tup hw (.cons (.str (by decide +kernel)) (.cons .non (.cons .int .nil)))) (by decide)⟩
    rintro σ GB ⟨ca, fr, lv, v0, vr, us, view, ac, kd, ar, rfl, sGB, hch, hlv, hv0, hps, hvl, hvo, hvn, hvr, hacS, hacD⟩
    have cut2 : ∀ {x y : V} {i : Int}, (i = 1 ∨ i = 2) → cutV [x, y] none (some i) = x :: (if i = 1 then [] else [y]) := fun {x y i} h => by
      rcases h with h | h <;> (rw [h]; rfl)
    have b72 := emod_bd' z7 2 (by decide)
    have h12 : 1 + z7 % 2 = 1 ∨ 1 + z7 % 2 = 2 := by omega
    refine ⟨fun σ G => ∃ (sA' s0' : Addr) (u0' : V) (sr' : List V), σ = [some (.ref a), some (.ref cl), some (.ref wl), some (.ref nl), some (.int M), some (.int S), some (.ref bl), some (.ref lr), some (.ref fa1), some (.ref pl), some (.ref ca), some (.ref lv), some (.ref ac), some (.ref sA'), none, none, none, none] ∧ Same GB G ∧ SqL K G sA' (.ref s0' :: sr') ∧ SqT K G s0' [u0', .ref ac] ∧ HasA K G 6 (.ref s0' :: sr'), ?_, ?_⟩
    · refine ⟨le0, fun e0 he0 => ⟨_, rfl, le2, fun s0 hs0 => ⟨le2, fun n5 hn5 => ⟨le2, fun p1' hp1 => ⟨le1, fun l1 hl1 => ⟨le2, fun g1 hg1 => ⟨le2, fun s1' hs1 => ⟨le2, fun LS hLS => ?_⟩⟩⟩⟩⟩⟩⟩⟩
      have t1 := Same.new (o := .lst []) he0
      have t2 := Same.new (o := .tup [V.ref e0, V.ref ac]) hs0
      have t3 := Same.new (o := .tup [V.str "num", V.int 5]) hn5
      have t4 := Same.new (o := .tup [V.int 1, V.ref n5]) hp1
      have t5 := Same.new (o := .lst [V.ref p1']) hl1
      have t6 := Same.new (o := .tup [V.str "go", V.int 0]) hg1
      have t7 := Same.new (o := .tup [V.ref l1, V.ref g1]) hs1
      have t8 := Same.new (o := .lst [V.ref s0, V.ref s1']) hLS
      have t38 := ((((t3.trans t4).trans t5).trans t6).trans t7).trans t8
      have t18 := (t1.trans t2).trans t38
      refine ⟨_, rfl, cl, _, _, _, rfl, rfl, SqL.of (t18 _ _ (sGB _ _ eC6)), hz7, _, _, rfl, rfl, (show (0 : Int) < 2 by decide), _, _, rfl, rfl, _, rfl, LS, _, rfl, SqL.of upd_same, fun sA hsA => ?_⟩
      have t9 := Same.new (o := .lst (cutV [V.ref s0, V.ref s1'] none (some (1 + z7 % 2)))) hsA
      have k2 := SqT.of (K := K) (t9 _ _ (t38 _ _ (upd_same (H := upd GB e0 (.lst [])) (a := s0) (o := .tup [V.ref e0, V.ref ac]))))
      have k1 := SqL.of (K := K) (t9 _ _ (t38 _ _ (t2 _ _ (upd_same (H := GB) (a := e0) (o := .lst [])))))
      have D0 := HasD.up (m := 6) (HasD.tup (n := 2) k2 (.cons (HasD.up (HasD.lst (n := 0) k1 .nil) (by decide)) (.cons (hacD.mono (t18.trans t9)) .nil))) (by decide)
      have q3 := SqT.of (K := K) (t9 _ _ (t8 _ _ (t7 _ _ (t6 _ _ (t5 _ _ (t4 _ _ (upd_same (a := n5) (o := .tup [V.str "num", V.int 5]))))))))
      have q4 := SqT.of (K := K) (t9 _ _ (t8 _ _ (t7 _ _ (t6 _ _ (t5 _ _ (upd_same (a := p1') (o := .tup [V.int 1, V.ref n5])))))))
      have q5 := SqL.of (K := K) (t9 _ _ (t8 _ _ (t7 _ _ (t6 _ _ (upd_same (a := l1) (o := .lst [V.ref p1']))))))
      have q6 := SqT.of (K := K) (t9 _ _ (t8 _ _ (t7 _ _ (upd_same (a := g1) (o := .tup [V.str "go", V.int 0])))))
      have q7 := SqT.of (K := K) (t9 _ _ (t8 _ _ (upd_same (a := s1') (o := .tup [V.ref l1, V.ref g1]))))
      have D1 := HasD.up (m := 6) (HasD.tup (n := 3) q7 (.cons (HasD.lst q5 (.cons (HasD.tup q4 (.cons .int (.cons (HasD.tup (n := 0) q3 (.cons (.str (by decide +kernel)) (.cons .int .nil))) .nil))) .nil)) (.cons (HasD.up (HasD.tup (n := 0) q6 (.cons (.str (by decide +kernel)) (.cons .int .nil))) (by decide)) .nil))) (by decide)
      refine ⟨sA, s0, V.ref e0, if 1 + z7 % 2 = 1 then [] else [V.ref s1'], rfl, t18.trans t9, SqL.of (by rw [upd_same, cut2 h12]), k2, .cons D0 ?_⟩
      split
      · exact .nil
      · exact .cons D1 .nil
    rintro σ GC ⟨sA, s0, u0, sr, rfl, sGC, hsA, hs0, hsD⟩
    have sG6C := sGB.trans sGC
    refine ⟨fun σ G => ∃ (mA' m0' : Addr) (mr' : List V), σ = [some (.ref a), some (.ref cl), some (.ref wl), some (.ref nl), some (.int M), some (.int S), some (.ref bl), some (.ref lr), some (.ref fa1), some (.ref pl), some (.ref ca), some (.ref lv), some (.ref ac), some (.ref sA), some (.ref mA'), none, none, none] ∧ Same GC G ∧ SqL K G mA' (.ref m0' :: mr') ∧ SqT K G m0' [.ref ca, .ref lv] ∧ mr'.length ≤ 1 ∧ HasA K G 12 mr', ?_, ?_⟩
    · refine ⟨_, rfl, _, rfl, le2, fun m0 hm0 => ⟨_, rfl, wl, _, _, _, rfl, rfl, SqL.of (Same.new hm0 _ _ (sG6C _ _ eW6)), p1, le2, fun a1 ha1 => ⟨le1, fun a2 ha2 => ⟨le1, fun ln hln => ⟨_, rfl, ln, _, _, rfl, rfl, upd_same, by omega, by omega, lt_line (by show 1 * ((S : Int)).toNat < 1000000; omega), fun lp hlp => ⟨le1, fun lvv hlvv => ⟨le2, fun m1 hm1 => ⟨le2, fun LM hLM => ?_⟩⟩⟩⟩⟩⟩⟩⟩
      have t1 := Same.new (o := .tup [V.ref ca, V.ref lv]) hm0
      have t2 := Same.new (o := .tup [V.str w1, V.int 0]) ha1
      have t3 := Same.new (o := .tup [V.ref a1]) ha2
      have t4 := Same.new (o := .lst [V.non]) hln
      have t5 := Same.new (o := .lst (List.replicate ((S : Int)).toNat [V.non]).flatten) hlp
      have t6 := Same.new (o := .lst [V.ref lp]) hlvv
      have t7 := Same.new (o := .tup [V.ref a2, V.ref lvv]) hm1
      have t8 := Same.new (o := .lst [V.ref m0, V.ref m1]) hLM
      have t28 := (((((t2.trans t3).trans t4).trans t5).trans t6).trans t7).trans t8
      have t18 := t1.trans t28
      refine ⟨_, rfl, cl, _, _, _, rfl, rfl, SqL.of (t18 _ _ (sG6C _ _ eC6)), hz7, _, _, rfl, rfl, (show (0 : Int) < 2 by decide), _, _, rfl, rfl, _, rfl, LM, _, rfl, SqL.of upd_same, fun mA hmA => ?_⟩
      have t9 := Same.new (o := .lst (cutV [V.ref m0, V.ref m1] none (some (1 + z7 % 2)))) hmA
      have k1 := SqT.of (K := K) (t9 _ _ (t28 _ _ (upd_same (H := GC) (a := m0) (o := .tup [V.ref ca, V.ref lv]))))
      have q2' := SqT.of (K := K) (t9 _ _ (t8 _ _ (t7 _ _ (t6 _ _ (t5 _ _ (t4 _ _ (t3 _ _ (upd_same (a := a1) (o := .tup [V.str w1, V.int 0])))))))))
      have q3 := SqT.of (K := K) (t9 _ _ (t8 _ _ (t7 _ _ (t6 _ _ (t5 _ _ (t4 _ _ (upd_same (a := a2) (o := .tup [V.ref a1]))))))))
      have q5 := SqL.of (K := K) (t9 _ _ (t8 _ _ (t7 _ _ (t6 _ _ (upd_same (a := lp) (o := .lst (List.replicate ((S : Int)).toNat [V.non]).flatten))))))
      have q6 := SqL.of (K := K) (t9 _ _ (t8 _ _ (t7 _ _ (upd_same (a := lvv) (o := .lst [V.ref lp])))))
      have q7 := SqT.of (K := K) (t9 _ _ (t8 _ _ (upd_same (a := m1) (o := .tup [V.ref a2, V.ref lvv]))))
      have allN : ∀ x ∈ (List.replicate ((S : Int)).toNat [V.non]).flatten, x = V.non := fun x hx => by
        obtain ⟨l, hl, hx⟩ := List.mem_flatten.mp hx
        rw [(List.mem_replicate.mp hl).2] at hx
        exact List.mem_singleton.mp hx
      have D1 := HasD.up (m := 12) (HasD.tup (n := 2) q7 (.cons (HasD.tup q3 (.cons (HasD.tup (n := 0) q2' (.cons (.str (sok (wnm _ w1m))) (.cons .int .nil))) .nil)) (.cons (HasD.lst q6 (.cons (HasD.lst (n := 0) q5 (.of fun x hx => by rw [allN x hx]; exact .non)) .nil)) .nil))) (by decide)
      refine ⟨mA, m0, if 1 + z7 % 2 = 1 then [] else [V.ref m1], rfl, t18.trans t9, SqL.of (by rw [upd_same, cut2 h12]), k1, (by split <;> simp), ?_⟩
      split
      · exact .nil
      · exact .cons D1 .nil
    rintro σ GD ⟨mA, m0, mr, rfl, sGD, hmA, hm0, hml, hmD⟩
    have sBD := sGC.trans sGD
    have s6D := sGB.trans sBD
    have hplD := s6D.seq hpl
    have hsAD := sGD.seq hsA
    refine ⟨_, rfl, pl, _, rfl, .inl hplD, fun h0 hh0 => ⟨_, rfl, sA, _, rfl, .inl ((Same.new hh0).seq hsAD), fun h1 hh1' => ?_⟩⟩
    have f1s := Same.new (o := .lst [V.ref f1.fa, V.ref f2.fa]) hh0
    have f2s := Same.new (o := .lst (V.ref s0 :: sr)) hh1'
    have f12 := f1s.trans f2s
    have eh0 := SqL.of (K := K) (f2s _ _ (upd_same (H := GD) (a := h0) (o := .lst [V.ref f1.fa, V.ref f2.fa])))
    have eh1 := SqL.of (K := K) (upd_same (H := upd GD h0 (.lst [V.ref f1.fa, V.ref f2.fa])) (a := h1) (o := .lst (V.ref s0 :: sr)))
    generalize upd (upd GD h0 (.lst [V.ref f1.fa, V.ref f2.fa])) h1 (.lst (V.ref s0 :: sr)) = GE at f12 eh0 eh1 ⊢
    have sBE := sBD.trans f12
    have hlvE := sBE.seq hlv
    have vws : ∀ (j : Nat) x, (V.ref v0 :: vr)[j]? = some x → ∃ p ys, x = .ref p ∧ SqL K GE p ys ∧ HasA K GE 9 ys ∧ (j = 0 → ys = us) := fun j x hx => by
      cases j with
      | zero =>
        cases hx
        refine ⟨v0, us, rfl, sBE.seq hv0, .of fun y hy => ?_, fun _ => rfl⟩
        obtain ⟨n, hn⟩ := List.getElem?_of_mem hy
        have hlt : n < view.length := by rw [← Rk2.Ps.len hps]; exact (List.getElem?_eq_some_iff.mp hn).1
        obtain ⟨u, o, e1', e2', hv⟩ := Rk2.Ps.at hps hlt
        rw [hn] at e1'
        cases e1'
        exact VAt.has (VAt.mono hv sBE) fun t ht => hvo t (by rw [← ht]; exact List.mem_of_getElem? e2')
      | succ j =>
        obtain ⟨p, e, z⟩ := hvr x (List.mem_of_getElem? hx)
        exact ⟨p, [.non], e, sBE.seq z, .cons .non .nil, fun h => by cases h⟩
    refine ⟨_, rfl, _, rfl, lv, rfl, ⟨_, hlvE⟩, fun u hu => comp_list (xs := V.ref v0 :: vr) (by show vr.length + 1 ≤ 1000000; omega) (fun i acc H2 => Same GE H2 ∧ H2 u = some (.lst acc) ∧ acc.length = i ∧ ∀ (j : Nat) x, j < i → (V.ref v0 :: vr)[j]? = some x → ∃ p q ys, x = .ref p ∧ acc[j]? = some (.ref q) ∧ SqL K GE p ys ∧ HasA K GE 9 ys ∧ (j = 0 → ys = us) ∧ SqL K (ers u H2) q ys) ⟨Same.new hu, upd_same, rfl, fun j x h => absurd h (Nat.not_lt_zero _)⟩ ?_ ?_ ?_⟩
    · rintro i acc H2 hi ⟨s2, e2, la, _⟩
      exact ⟨e2, by omega, s2.seq hlvE⟩
    · rintro i x acc H2 hx ⟨s2, e2, la, ha⟩
      obtain ⟨p, ys, rfl, hp, hd, h0'⟩ := vws i x hx
      refine ⟨_, rfl, p, ys, rfl, .inl (s2.seq hp), fun q hq => ?_⟩
      have nq : q ≠ u := (ne_of_none e2 hq).symm
      have sq := Same.new (o := .lst ys) hq
      refine ⟨sq _ _ e2, (s2.trans sq).upd hu, upd_same, by rw [List.length_append, la]; rfl, fun j x' hj hx' => ?_⟩
      rw [ers_upd]
      by_cases hji : j = i
      · subst hji
        rw [hx] at hx'
        cases hx'
        exact ⟨p, q, ys, rfl, by rw [List.getElem?_append_right (by omega), la, Nat.sub_self]; rfl, hp, hd, h0', SqL.of (by rw [ers_ne nq]; exact upd_same)⟩
      · obtain ⟨p', q', ys', e', a', z1', z2', z3', z4'⟩ := ha j x' (by omega) hx'
        exact ⟨p', q', ys', e', by rw [List.getElem?_append_left (by omega)]; exact a', z1', z2', z3', sq.ers.seq z4'⟩
    rintro acc GF ⟨sF, eF, la, hA⟩
    have hmF := (f12.trans sF).seq hmA
    refine ⟨le2, fun m' hm' => ⟨le1, fun lm hlm => ⟨_, rfl, _, rfl, mA, _, rfl, (Same.new hlm).seq ((Same.new hm').seq hmF), fun ms hms => ?_⟩⟩⟩
    have ecm : cutV (V.ref m0 :: mr) (some 1) none = mr := by
      unfold cutV
      rw [show HT.sIx (V.ref m0 :: mr).length 0 (some 1) = min 1 (V.ref m0 :: mr).length from HT.sIx_nat _ _ 1, HT.sIx_none, Nat.min_eq_left (by simp)]
      simp
    have w1' := Same.new (o := .tup [V.ref ca, V.ref u]) hm'
    have w2' := Same.new (o := .lst [V.ref m']) hlm
    have w3' := Same.new (o := .lst (cutV (V.ref m0 :: mr) (some 1) none)) hms
    have elm := w3' _ _ (upd_same (H := upd GF m' (.tup [V.ref ca, V.ref u])) (a := lm) (o := .lst [V.ref m']))
    have ems := upd_same (H := upd (upd GF m' (.tup [V.ref ca, V.ref u])) lm (.lst [V.ref m'])) (a := ms) (o := .lst (cutV (V.ref m0 :: mr) (some 1) none))
    have emm := w3' _ _ (w2' _ _ (upd_same (H := GF) (a := m') (o := .tup [V.ref ca, V.ref u])))
    have w13 := (w1'.trans w2').trans w3'
    rw [ecm] at *
    generalize upd (upd (upd GF m' (.tup [V.ref ca, V.ref u])) lm (.lst [V.ref m'])) ms (.lst mr) = GI at w13 elm ems emm ⊢
    refine ⟨lm, ms, _, _, rfl, rfl, elm, ems, lt_line (by show 1 + mr.length < 1000000; omega), fun h2 hh2' => ⟨le3, fun HD hHD => ?_⟩⟩
    have w4' := Same.new (o := .lst ([V.ref m'] ++ mr)) hh2'
    have w5' := Same.new (o := .lst [V.ref h0, V.ref h1, V.ref h2]) hHD
    have eHD := upd_same (H := upd GI h2 (.lst ([V.ref m'] ++ mr))) (a := HD) (o := .lst [V.ref h0, V.ref h1, V.ref h2])
    have eh2 := w5' _ _ (upd_same (H := GI) (a := h2) (o := .lst ([V.ref m'] ++ mr)))
    have w15 := (w13.trans w4').trans w5'
    have emJ := (w4'.trans w5') _ _ emm
    generalize upd (upd GI h2 (.lst ([V.ref m'] ++ mr))) HD (.lst [V.ref h0, V.ref h1, V.ref h2]) = GJ at w15 eHD eh2 emJ ⊢
    have sFJ := w15
    have sEJ := sF.trans w15
    have sDJ := f12.trans sEJ
    have sBJ := sBD.trans sDJ
    have s6J := sGB.trans sBJ
    obtain ⟨p00, q00, ys0, e00, a00, _, _, y00, hq00⟩ := hA 0 (.ref v0) (by show 0 < (V.ref v0 :: vr).length; simp) rfl
    have y00 := y00 rfl
    subst y00
    have euJ := sFJ _ _ eF
    obtain ⟨ac0', acr, eac⟩ : ∃ x r, acc = x :: r := by
      cases acc with
      | nil => cases a00
      | cons x r => exact ⟨x, r, rfl⟩
    have bg1 : BgAt K GJ h1 h2 kd fr view := by
      rw [eac] at euJ a00
      cases a00
      exact ⟨s0, ac, m', ca, u, q00, u0, sr, ar, mr, acr, _, sEJ.seq eh1, (sGD.trans sDJ).tup hs0, sBJ.tup hacS, SqL.of eh2, SqT.of emJ, hch.mono sBJ, SqL.of euJ, (ers_same.trans sFJ).seq hq00, Rk2.Ps.imp (fun _ _ z => VAt.mono z sBJ) hps, by omega, hvo⟩
    have bg2 : BgAt K GJ sA mA kd fr view := ⟨s0, ac, m0, ca, lv, v0, u0, sr, ar, mr, vr, _, (sGD.trans sDJ).seq hsA, (sGD.trans sDJ).tup hs0, sBJ.tup hacS, sDJ.seq hmA, sDJ.tup hm0, hch.mono sBJ, sBJ.seq hlv, sBJ.seq hv0, Rk2.Ps.imp (fun _ _ z => VAt.mono z sBJ) hps, by omega, hvo⟩
    have w01 : w0 ≠ w1 := fun h => by
      have h1' : ws[0]? = some w1 := by rw [← h]; exact i0
      have := (List.getElem?_inj (List.getElem?_eq_some_iff.mp h1').1 wnd).mp (h1'.trans (show some w1 = ws[1]? from (show ws[1]? = some w1 from i1).symm))
      omega
    have eWJ := s6J _ _ eW6
    refine ⟨_, rfl, HD, _, _, _, rfl, rfl, SqL.of eHD, at0, _, rfl, wl, _, _, _, rfl, rfl, SqL.of eWJ, p1, _, rfl, HD, _, _, _, rfl, rfl, SqL.of eHD, rfl, _, rfl, HD, _, _, _, rfl, rfl, SqL.of eHD, rfl, h0, h1, h2, [f1, f2], f2, kd, fr, view, (by show [V.ref h0, V.str w1, V.ref h1, V.ref h2] = [V.ref h0, V.str f2.name, V.ref h1, V.ref h2]; rw [n2]), sEJ.seq eh0, (by decide : 2 ≤ 12), (fun f hf => ?_), ?_, (by simp), (by rw [n2]; exact sok (wnm _ w1m)), bg1, fun b1 GK sK hb1 => ?_⟩
    · rcases List.mem_cons.mp hf with h | h
      · rw [h]; exact hf1.mono s6J
      · rw [List.mem_singleton.mp h]; exact hf2.mono s6J
    · show [f1.name, f2.name].Nodup
      rw [n1, n2]
      simp [w01]
    refine ⟨_, rfl, _, rfl, _, rfl, wl, _, _, _, rfl, rfl, SqL.of (sK _ _ eWJ), p1, _, rfl, sA, mA, w1, M, kd, fr, view, rfl, by omega, sok (wnm _ w1m), bg2.mono sK, fun b2 GL sL hb2 => ?_⟩
    rw [n2, fl2] at hb1
    have hbb : b1 = b2 := by
      cases b1 <;> cases b2 <;> first | rfl | exact absurd (hb1.mpr (hb2.mp rfl)) (by decide) | exact absurd (hb2.mpr (hb1.mp rfl)) (by decide)
    refine ⟨_, rfl, _, _, _, true, rfl, .bl _, rfl, _, rfl, iteT ?_⟩
    refine ⟨_, rfl, _, rfl, rfl, _, rfl, iteP (decide_eq_true (congrArg V.bl hbb)) ?_⟩
    refine ⟨_, rfl, _, rfl, _, rfl, _, rfl, le3, fun LZ hLZ => ?_⟩
    have sJZ := (sK.trans sL).trans (Same.new (o := .lst [V.ref pl, V.ref sA, V.ref mA]) hLZ)
    have sEZ := sEJ.trans sJZ
    have sDZ := sDJ.trans sJZ
    have sBZ := sBJ.trans sJZ
    have s6Z := s6J.trans sJZ
    have tw1 : Twin K _ 13 (.ref h0) (.ref pl) := Twin.up (Twin.lst (sEZ.seq eh0) (s6Z.seq hpl) (.of (.cons (hh1.mono s6Z) (.cons (hh2.mono s6Z) .nil)))) (by decide)
    have tw2 : Twin K _ 13 (.ref h1) (.ref sA) := Twin.up (Twin.lst (sEZ.seq eh1) ((sGD.trans sDZ).seq hsA) (.of (let ⟨ds, l, z⟩ := hsD; ⟨ds, l, DatAll.mono (sGD.trans sDZ) ds _ z⟩))) (by decide)
    have twv : TwinA K _ 10 acc (V.ref v0 :: vr) := TwinA.at (by rw [la]) fun i x y hx hy => by
      obtain ⟨p, q, ys, rfl, aq, hp, hd, _, hq⟩ := hA i y (List.getElem?_eq_some_iff.mp hy).1 hy
      rw [aq] at hx
      cases hx
      exact Twin.lst ((ers_same.trans (sFJ.trans sJZ)).seq hq) (sEZ.seq hp) (.of (let ⟨ds, l, z⟩ := hd; ⟨ds, l, DatAll.mono sEZ ds _ z⟩))
    have tw3 : Twin K _ 13 (.ref h2) (.ref mA) := Twin.lst (SqL.of (sJZ _ _ eh2)) (sDZ.seq hmA) (.cons (Twin.tup (SqT.of (sJZ _ _ emJ)) (sDZ.tup hm0) (.cons (Twin.up (.of (hch.mono sBZ).has) (by decide)) (.cons (Twin.lst (SqL.of (sJZ _ _ euJ)) (sBZ.seq hlv) twv) .nil))) (.of (let ⟨ds, l, z⟩ := hmD; ⟨ds, l, DatAll.mono sDZ ds _ z⟩)))
    exact Twin.eq (Twin.lst (n := 13) (SqL.of (sJZ _ _ eHD)) (SqL.of upd_same) (.cons tw1 (.cons tw2 (.cons tw3 .nil)))) (by decide) (q _)
end
end K42

set_option Elab.async false
set_option linter.all false
set_option maxRecDepth 100000
set_option maxHeartbeats 4000000
namespace K42
open PySem L2
set_option maxHeartbeats 4000000 in
theorem txt_mk {K : PySem.W.Frag} {h : Heap} {mg : Str → Option Value} (X : K.In h) (G : h.Ns mainGlobals mg)
    {C_Flows : Addr} (aC_Flows : PySem.W.nsIn K mainGlobals "Flows" = some (some (.ref C_Flows))) (pg_Flows : PySem.W.plainGet K C_Flows Str.empty = true) (hd_Flows : PySem.W.hasDictIn K C_Flows = true) (po_Flows : PySem.W.plainOver K C_Flows = true) (sa_Flows : PySem.W.findIn K (.ref C_Flows) "__setattr__" = some (some (.builtin "object.__setattr__"))) (mk_Flows : PySem.W.makesIn K C_Flows = true) (kc_Flows : PySem.W.keepIn K (.ref C_Flows) = true)
    (n_Flows_last : PySem.W.findIn K (.ref C_Flows) "last" = some none)
    (n_Flows_number_of : PySem.W.findIn K (.ref C_Flows) "number_of" = some none)
    (n_Flows_folded_of : PySem.W.findIn K (.ref C_Flows) "folded_of" = some none)
    (n_Flows_params_of : PySem.W.findIn K (.ref C_Flows) "params_of" = some none)
    (n_Flows_rows_of : PySem.W.findIn K (.ref C_Flows) "rows_of" = some none)
    (n_Flows_names_in : PySem.W.findIn K (.ref C_Flows) "names_in" = some none)
    (n_Flows_ways_in : PySem.W.findIn K (.ref C_Flows) "ways_in" = some none)
    {f0 : Addr} {oc0 kV0 dc0 pm0 cd0 ct0 : Value} {od0 an0 : Option Addr} {sl0 : Array (Option Value)} (a0 : PySem.W.nsIn K mainGlobals "names_of" = some (some (.ref f0))) (l0 : K.lookup f0 = some ⟨oc0, od0, .func (PySem.W.fnOf "names_of" "names_of" (defArgs s_names_of) (defBody s_names_of) (defScope s_names_of) .none kV0 dc0 pm0 an0 cd0 ct0), sl0⟩) (c0 : PySem.W.codeIn K cd0 "names_of" = true) (k0 : PySem.W.keepIn K (.ref f0) = true)
    {f1 : Addr} {oc1 kV1 dc1 pm1 cd1 ct1 : Value} {od1 an1 : Option Addr} {sl1 : Array (Option Value)} (a1 : PySem.W.nsIn K mainGlobals "reads" = some (some (.ref f1))) (l1 : K.lookup f1 = some ⟨oc1, od1, .func (PySem.W.fnOf "reads" "reads" (defArgs s_reads) (defBody s_reads) (defScope s_reads) .none kV1 dc1 pm1 an1 cd1 ct1), sl1⟩) (c1 : PySem.W.codeIn K cd1 "reads" = true) (k1 : PySem.W.keepIn K (.ref f1) = true)
    {f2 : Addr} {oc2 kV2 dc2 pm2 cd2 ct2 : Value} {od2 an2 : Option Addr} {sl2 : Array (Option Value)} (a2 : PySem.W.nsIn K mainGlobals "gives" = some (some (.ref f2))) (l2 : K.lookup f2 = some ⟨oc2, od2, .func (PySem.W.fnOf "gives" "gives" (defArgs s_gives) (defBody s_gives) (defScope s_gives) .none kV2 dc2 pm2 an2 cd2 ct2), sl2⟩) (c2 : PySem.W.codeIn K cd2 "gives" = true) (k2 : PySem.W.keepIn K (.ref f2) = true)
    {f3 : Addr} {oc3 kV3 dc3 pm3 cd3 ct3 : Value} {od3 an3 : Option Addr} {sl3 : Array (Option Value)} (a3 : PySem.W.nsIn K mainGlobals "atoms_of" = some (some (.ref f3))) (l3 : K.lookup f3 = some ⟨oc3, od3, .func (PySem.W.fnOf "atoms_of" "atoms_of" (defArgs s_atoms_of) (defBody s_atoms_of) (defScope s_atoms_of) .none kV3 dc3 pm3 an3 cd3 ct3), sl3⟩) (c3 : PySem.W.codeIn K cd3 "atoms_of" = true) (k3 : PySem.W.keepIn K (.ref f3) = true)
    {f4 : Addr} {oc4 kV4 dc4 pm4 cd4 ct4 : Value} {od4 an4 : Option Addr} {sl4 : Array (Option Value)} (a4 : PySem.W.nsIn K mainGlobals "each_once" = some (some (.ref f4))) (l4 : K.lookup f4 = some ⟨oc4, od4, .func (PySem.W.fnOf "each_once" "each_once" (defArgs s_each_once) (defBody s_each_once) (defScope s_each_once) .none kV4 dc4 pm4 an4 cd4 ct4), sl4⟩) (c4 : PySem.W.codeIn K cd4 "each_once" = true) (k4 : PySem.W.keepIn K (.ref f4) = true)
    {f5 : Addr} {oc5 kV5 dc5 pm5 cd5 ct5 : Value} {od5 an5 : Option Addr} {sl5 : Array (Option Value)} (a5 : PySem.W.nsIn K mainGlobals "ways" = some (some (.ref f5))) (l5 : K.lookup f5 = some ⟨oc5, od5, .func (PySem.W.fnOf "ways" "ways" (defArgs s_ways) (defBody s_ways) (defScope s_ways) .none kV5 dc5 pm5 an5 cd5 ct5), sl5⟩) (c5 : PySem.W.codeIn K cd5 "ways" = true) (k5 : PySem.W.keepIn K (.ref f5) = true)
    {f6 : Addr} {oc6 kV6 dc6 pm6 cd6 ct6 : Value} {od6 an6 : Option Addr} {sl6 : Array (Option Value)} (a6 : PySem.W.nsIn K mainGlobals "begins_of" = some (some (.ref f6))) (l6 : K.lookup f6 = some ⟨oc6, od6, .func (PySem.W.fnOf "begins_of" "begins_of" (defArgs s_begins_of) (defBody s_begins_of) (defScope s_begins_of) .none kV6 dc6 pm6 an6 cd6 ct6), sl6⟩) (c6 : PySem.W.codeIn K cd6 "begins_of" = true) (k6 : PySem.W.keepIn K (.ref f6) = true)
    {f7 : Addr} {oc7 kV7 dc7 pm7 cd7 ct7 : Value} {od7 an7 : Option Addr} {sl7 : Array (Option Value)} (a7 : PySem.W.nsIn K mainGlobals "firsts_behind" = some (some (.ref f7))) (l7 : K.lookup f7 = some ⟨oc7, od7, .func (PySem.W.fnOf "firsts_behind" "firsts_behind" (defArgs s_firsts_behind) (defBody s_firsts_behind) (defScope s_firsts_behind) .none kV7 dc7 pm7 an7 cd7 ct7), sl7⟩) (c7 : PySem.W.codeIn K cd7 "firsts_behind" = true) (k7 : PySem.W.keepIn K (.ref f7) = true)
    {f8 : Addr} {oc8 kV8 dc8 pm8 cd8 ct8 : Value} {od8 an8 : Option Addr} {sl8 : Array (Option Value)} (a8 : PySem.W.findIn K (.ref C_Flows) "__init__" = some (some (.ref f8))) (i8 : PySem.W.isFn K (.ref f8) = true) (l8 : K.lookup f8 = some ⟨oc8, od8, .func (PySem.W.fnOf "__init__" "Flows.__init__" (defArgs s_Flows_init) (defBody s_Flows_init) (defScope s_Flows_init) .none kV8 dc8 pm8 an8 cd8 ct8), sl8⟩) (c8 : PySem.W.codeIn K cd8 "Flows.__init__" = true) (k8 : PySem.W.keepIn K (.ref f8) = true)
    {f9 : Addr} {oc9 kV9 dc9 pm9 cd9 ct9 : Value} {od9 an9 : Option Addr} {sl9 : Array (Option Value)} (a9 : PySem.W.nsIn K mainGlobals "value" = some (some (.ref f9))) (l9 : K.lookup f9 = some ⟨oc9, od9, .func (PySem.W.fnOf "value" "value" (defArgs s_value) (defBody s_value) (defScope s_value) .none kV9 dc9 pm9 an9 cd9 ct9), sl9⟩) (c9 : PySem.W.codeIn K cd9 "value" = true) (k9 : PySem.W.keepIn K (.ref f9) = true)
    {f10 : Addr} {oc10 kV10 dc10 pm10 cd10 ct10 : Value} {od10 an10 : Option Addr} {sl10 : Array (Option Value)} (a10 : PySem.W.nsIn K mainGlobals "is_leaf" = some (some (.ref f10))) (l10 : K.lookup f10 = some ⟨oc10, od10, .func (PySem.W.fnOf "is_leaf" "is_leaf" (defArgs s_is_leaf) (defBody s_is_leaf) (defScope s_is_leaf) .none kV10 dc10 pm10 an10 cd10 ct10), sl10⟩) (c10 : PySem.W.codeIn K cd10 "is_leaf" = true) (k10 : PySem.W.keepIn K (.ref f10) = true)
    {f11 : Addr} {oc11 kV11 dc11 pm11 cd11 ct11 : Value} {od11 an11 : Option Addr} {sl11 : Array (Option Value)} (a11 : PySem.W.nsIn K mainGlobals "together" = some (some (.ref f11))) (l11 : K.lookup f11 = some ⟨oc11, od11, .func (PySem.W.fnOf "together" "together" (defArgs s_together) (defBody s_together) (defScope s_together) .none kV11 dc11 pm11 an11 cd11 ct11), sl11⟩) (c11 : PySem.W.codeIn K cd11 "together" = true) (k11 : PySem.W.keepIn K (.ref f11) = true)
    {f12 : Addr} {oc12 kV12 dc12 pm12 cd12 ct12 : Value} {od12 an12 : Option Addr} {sl12 : Array (Option Value)} (a12 : PySem.W.nsIn K mainGlobals "put_through" = some (some (.ref f12))) (l12 : K.lookup f12 = some ⟨oc12, od12, .func (PySem.W.fnOf "put_through" "put_through" (defArgs s_put_through) (defBody s_put_through) (defScope s_put_through) .none kV12 dc12 pm12 an12 cd12 ct12), sl12⟩) (c12 : PySem.W.codeIn K cd12 "put_through" = true) (k12 : PySem.W.keepIn K (.ref f12) = true)
    {f13 : Addr} {oc13 kV13 dc13 pm13 cd13 ct13 : Value} {od13 an13 : Option Addr} {sl13 : Array (Option Value)} (a13 : PySem.W.nsIn K mainGlobals "boxes_of" = some (some (.ref f13))) (l13 : K.lookup f13 = some ⟨oc13, od13, .func (PySem.W.fnOf "boxes_of" "boxes_of" (defArgs s_boxes_of) (defBody s_boxes_of) (defScope s_boxes_of) .none kV13 dc13 pm13 an13 cd13 ct13), sl13⟩) (c13 : PySem.W.codeIn K cd13 "boxes_of" = true) (k13 : PySem.W.keepIn K (.ref f13) = true)
    {f14 : Addr} {oc14 kV14 dc14 pm14 cd14 ct14 : Value} {od14 an14 : Option Addr} {sl14 : Array (Option Value)} (a14 : PySem.W.nsIn K mainGlobals "begin_holds" = some (some (.ref f14))) (l14 : K.lookup f14 = some ⟨oc14, od14, .func (PySem.W.fnOf "begin_holds" "begin_holds" (defArgs s_begin_holds) (defBody s_begin_holds) (defScope s_begin_holds) .none kV14 dc14 pm14 an14 cd14 ct14), sl14⟩) (c14 : PySem.W.codeIn K cd14 "begin_holds" = true) (k14 : PySem.W.keepIn K (.ref f14) = true)
    {f15 : Addr} {oc15 kV15 dc15 pm15 cd15 ct15 : Value} {od15 an15 : Option Addr} {sl15 : Array (Option Value)} (a15 : PySem.W.nsIn K mainGlobals "is_begin" = some (some (.ref f15))) (l15 : K.lookup f15 = some ⟨oc15, od15, .func (PySem.W.fnOf "is_begin" "is_begin" (defArgs s_is_begin) (defBody s_is_begin) (defScope s_is_begin) .none kV15 dc15 pm15 an15 cd15 ct15), sl15⟩) (c15 : PySem.W.codeIn K cd15 "is_begin" = true) (k15 : PySem.W.keepIn K (.ref f15) = true)
    {f16 : Addr} {oc16 kV16 dc16 pm16 cd16 ct16 : Value} {od16 an16 : Option Addr} {sl16 : Array (Option Value)} (a16 : PySem.W.nsIn K mainGlobals "at_begin" = some (some (.ref f16))) (l16 : K.lookup f16 = some ⟨oc16, od16, .func (PySem.W.fnOf "at_begin" "at_begin" (defArgs s_at_begin) (defBody s_at_begin) (defScope s_at_begin) .none kV16 dc16 pm16 an16 cd16 ct16), sl16⟩) (c16 : PySem.W.codeIn K cd16 "at_begin" = true) (k16 : PySem.W.keepIn K (.ref f16) = true)
    {f17 : Addr} {oc17 kV17 dc17 pm17 cd17 ct17 : Value} {od17 an17 : Option Addr} {sl17 : Array (Option Value)} (a17 : PySem.W.nsIn K mainGlobals "_law_cell_at" = some (some (.ref f17))) (l17 : K.lookup f17 = some ⟨oc17, od17, .func (PySem.W.fnOf "_law_cell_at" "_law_cell_at" (defArgs s_l_cell_at) (defBody s_l_cell_at) (defScope s_l_cell_at) .none kV17 dc17 pm17 an17 cd17 ct17), sl17⟩) (c17 : PySem.W.codeIn K cd17 "_law_cell_at" = true) (k17 : PySem.W.keepIn K (.ref f17) = true)
    {f18 : Addr} {oc18 kV18 dc18 pm18 cd18 ct18 : Value} {od18 an18 : Option Addr} {sl18 : Array (Option Value)} (a18 : PySem.W.nsIn K mainGlobals "_law_value" = some (some (.ref f18))) (l18 : K.lookup f18 = some ⟨oc18, od18, .func (PySem.W.fnOf "_law_value" "_law_value" (defArgs s_l_value) (defBody s_l_value) (defScope s_l_value) .none kV18 dc18 pm18 an18 cd18 ct18), sl18⟩) (c18 : PySem.W.codeIn K cd18 "_law_value" = true) (k18 : PySem.W.keepIn K (.ref f18) = true)
    {f19 : Addr} {oc19 kV19 dc19 pm19 cd19 ct19 : Value} {od19 an19 : Option Addr} {sl19 : Array (Option Value)} (a19 : PySem.W.nsIn K mainGlobals "_law_names" = some (some (.ref f19))) (l19 : K.lookup f19 = some ⟨oc19, od19, .func (PySem.W.fnOf "_law_names" "_law_names" (defArgs s_l_names) (defBody s_l_names) (defScope s_l_names) .none kV19 dc19 pm19 an19 cd19 ct19), sl19⟩) (c19 : PySem.W.codeIn K cd19 "_law_names" = true) (k19 : PySem.W.keepIn K (.ref f19) = true)
    {f20 : Addr} {oc20 kV20 dc20 pm20 cd20 ct20 : Value} {od20 an20 : Option Addr} {sl20 : Array (Option Value)} (a20 : PySem.W.nsIn K mainGlobals "_law_some" = some (some (.ref f20))) (l20 : K.lookup f20 = some ⟨oc20, od20, .func (PySem.W.fnOf "_law_some" "_law_some" (defArgs s_l_some) (defBody s_l_some) (defScope s_l_some) .none kV20 dc20 pm20 an20 cd20 ct20), sl20⟩) (c20 : PySem.W.codeIn K cd20 "_law_some" = true) (k20 : PySem.W.keepIn K (.ref f20) = true)
    {f21 : Addr} {oc21 kV21 dc21 pm21 cd21 ct21 : Value} {od21 an21 : Option Addr} {sl21 : Array (Option Value)} (a21 : PySem.W.nsIn K mainGlobals "_law_through" = some (some (.ref f21))) (l21 : K.lookup f21 = some ⟨oc21, od21, .func (PySem.W.fnOf "_law_through" "_law_through" (defArgs s_l_through) (defBody s_l_through) (defScope s_l_through) .none kV21 dc21 pm21 an21 cd21 ct21), sl21⟩) (c21 : PySem.W.codeIn K cd21 "_law_through" = true) (k21 : PySem.W.keepIn K (.ref f21) = true)
    {f22 : Addr} {oc22 kV22 dc22 pm22 cd22 ct22 : Value} {od22 an22 : Option Addr} {sl22 : Array (Option Value)} (a22 : PySem.W.nsIn K mainGlobals "_law_place" = some (some (.ref f22))) (l22 : K.lookup f22 = some ⟨oc22, od22, .func (PySem.W.fnOf "_law_place" "_law_place" (defArgs s_l_place) (defBody s_l_place) (defScope s_l_place) .none kV22 dc22 pm22 an22 cd22 ct22), sl22⟩) (c22 : PySem.W.codeIn K cd22 "_law_place" = true) (k22 : PySem.W.keepIn K (.ref f22) = true)
    {f23 : Addr} {oc23 kV23 dc23 pm23 cd23 ct23 : Value} {od23 an23 : Option Addr} {sl23 : Array (Option Value)} (a23 : PySem.W.nsIn K mainGlobals "_law_view" = some (some (.ref f23))) (l23 : K.lookup f23 = some ⟨oc23, od23, .func (PySem.W.fnOf "_law_view" "_law_view" (defArgs s_l_view) (defBody s_l_view) (defScope s_l_view) .none kV23 dc23 pm23 an23 cd23 ct23), sl23⟩) (c23 : PySem.W.codeIn K cd23 "_law_view" = true) (k23 : PySem.W.keepIn K (.ref f23) = true)
    {f24 : Addr} {oc24 kV24 dc24 pm24 cd24 ct24 : Value} {od24 an24 : Option Addr} {sl24 : Array (Option Value)} (a24 : PySem.W.nsIn K mainGlobals "_law_due" = some (some (.ref f24))) (l24 : K.lookup f24 = some ⟨oc24, od24, .func (PySem.W.fnOf "_law_due" "_law_due" (defArgs s_l_due) (defBody s_l_due) (defScope s_l_due) .none kV24 dc24 pm24 an24 cd24 ct24), sl24⟩) (c24 : PySem.W.codeIn K cd24 "_law_due" = true) (k24 : PySem.W.keepIn K (.ref f24) = true)
    {f25 : Addr} {oc25 kV25 dc25 pm25 cd25 ct25 : Value} {od25 an25 : Option Addr} {sl25 : Array (Option Value)} (a25 : PySem.W.nsIn K mainGlobals "law" = some (some (.ref f25))) (l25 : K.lookup f25 = some ⟨oc25, od25, .func (PySem.W.fnOf "law" "law" (defArgs s_law) (defBody s_law) (defScope s_law) .none kV25 dc25 pm25 an25 cd25 ct25), sl25⟩) (c25 : PySem.W.codeIn K cd25 "law" = true) (k25 : PySem.W.keepIn K (.ref f25) = true)
    {tk0 : Tok} (w0 : PySem.W.nsIn K mainGlobals "WIDE" = some (some (.int 281474976710656 tk0)))
    {aT0 : Addr} {odT0 : Option Addr} {itT0 : Array Value} {nT0 : Nat} {slT0 : Array (Option Value)} (q0 : PySem.W.nsIn K mainGlobals "GIVING_KINDS" = some (some (.ref aT0))) (m0 : K.lookup aT0 = some ⟨.type "tuple", odT0, .seq itT0 nT0, slT0⟩) (v0 : Vals (K12.giving.map V.str) itT0.toList) (s0 : itT0.size ≤ sizeLine)
    {aD0 : Addr} (qD0 : PySem.W.nsIn K mainGlobals "ATOM_PLACES" = some (some (.ref aD0))) (mD0 : PyProof.Rows.KTD.tabLook (tupLook K) (fun a => K.lookup a) aD0 K12.tabl = true)
    (z_len : PySem.W.nsIn K mainGlobals "len" = some none)
    (z_list : PySem.W.nsIn K mainGlobals "list" = some none)
    (z_tuple : PySem.W.nsIn K mainGlobals "tuple" = some none)
    (z_isinstance : PySem.W.nsIn K mainGlobals "isinstance" = some none)
    (z_range : PySem.W.nsIn K mainGlobals "range" = some none)
    (z_all : PySem.W.nsIn K mainGlobals "all" = some none)
    (z_enumerate : PySem.W.nsIn K mainGlobals "enumerate" = some none)
    (z_dict : PySem.W.nsIn K mainGlobals "dict" = some none)
    (z_str : PySem.W.nsIn K mainGlobals "str" = some none)
    (z_zip : PySem.W.nsIn K mainGlobals "zip" = some none)
    (z_bool : PySem.W.nsIn K mainGlobals "bool" = some none)
    (z_int : PySem.W.nsIn K mainGlobals "int" = some none)
    (z_max : PySem.W.nsIn K mainGlobals "max" = some none)
    : ∃ t, Txt K mg t := by
  refine ⟨⟨C_Flows, f0, PySem.W.fnOf "names_of" "names_of" (defArgs s_names_of) (defBody s_names_of) (defScope s_names_of) .none kV0 dc0 pm0 an0 cd0 ct0, f1, PySem.W.fnOf "reads" "reads" (defArgs s_reads) (defBody s_reads) (defScope s_reads) .none kV1 dc1 pm1 an1 cd1 ct1, f2, PySem.W.fnOf "gives" "gives" (defArgs s_gives) (defBody s_gives) (defScope s_gives) .none kV2 dc2 pm2 an2 cd2 ct2, f3, PySem.W.fnOf "atoms_of" "atoms_of" (defArgs s_atoms_of) (defBody s_atoms_of) (defScope s_atoms_of) .none kV3 dc3 pm3 an3 cd3 ct3, f4, PySem.W.fnOf "each_once" "each_once" (defArgs s_each_once) (defBody s_each_once) (defScope s_each_once) .none kV4 dc4 pm4 an4 cd4 ct4, f5, PySem.W.fnOf "ways" "ways" (defArgs s_ways) (defBody s_ways) (defScope s_ways) .none kV5 dc5 pm5 an5 cd5 ct5, f6, PySem.W.fnOf "begins_of" "begins_of" (defArgs s_begins_of) (defBody s_begins_of) (defScope s_begins_of) .none kV6 dc6 pm6 an6 cd6 ct6, f7, PySem.W.fnOf "firsts_behind" "firsts_behind" (defArgs s_firsts_behind) (defBody s_firsts_behind) (defScope s_firsts_behind) .none kV7 dc7 pm7 an7 cd7 ct7, f8, PySem.W.fnOf "__init__" "Flows.__init__" (defArgs s_Flows_init) (defBody s_Flows_init) (defScope s_Flows_init) .none kV8 dc8 pm8 an8 cd8 ct8, f9, PySem.W.fnOf "value" "value" (defArgs s_value) (defBody s_value) (defScope s_value) .none kV9 dc9 pm9 an9 cd9 ct9, f10, PySem.W.fnOf "is_leaf" "is_leaf" (defArgs s_is_leaf) (defBody s_is_leaf) (defScope s_is_leaf) .none kV10 dc10 pm10 an10 cd10 ct10, f11, PySem.W.fnOf "together" "together" (defArgs s_together) (defBody s_together) (defScope s_together) .none kV11 dc11 pm11 an11 cd11 ct11, f12, PySem.W.fnOf "put_through" "put_through" (defArgs s_put_through) (defBody s_put_through) (defScope s_put_through) .none kV12 dc12 pm12 an12 cd12 ct12, f13, PySem.W.fnOf "boxes_of" "boxes_of" (defArgs s_boxes_of) (defBody s_boxes_of) (defScope s_boxes_of) .none kV13 dc13 pm13 an13 cd13 ct13, f14, PySem.W.fnOf "begin_holds" "begin_holds" (defArgs s_begin_holds) (defBody s_begin_holds) (defScope s_begin_holds) .none kV14 dc14 pm14 an14 cd14 ct14, f15, PySem.W.fnOf "is_begin" "is_begin" (defArgs s_is_begin) (defBody s_is_begin) (defScope s_is_begin) .none kV15 dc15 pm15 an15 cd15 ct15, f16, PySem.W.fnOf "at_begin" "at_begin" (defArgs s_at_begin) (defBody s_at_begin) (defScope s_at_begin) .none kV16 dc16 pm16 an16 cd16 ct16, f17, PySem.W.fnOf "_law_cell_at" "_law_cell_at" (defArgs s_l_cell_at) (defBody s_l_cell_at) (defScope s_l_cell_at) .none kV17 dc17 pm17 an17 cd17 ct17, f18, PySem.W.fnOf "_law_value" "_law_value" (defArgs s_l_value) (defBody s_l_value) (defScope s_l_value) .none kV18 dc18 pm18 an18 cd18 ct18, f19, PySem.W.fnOf "_law_names" "_law_names" (defArgs s_l_names) (defBody s_l_names) (defScope s_l_names) .none kV19 dc19 pm19 an19 cd19 ct19, f20, PySem.W.fnOf "_law_some" "_law_some" (defArgs s_l_some) (defBody s_l_some) (defScope s_l_some) .none kV20 dc20 pm20 an20 cd20 ct20, f21, PySem.W.fnOf "_law_through" "_law_through" (defArgs s_l_through) (defBody s_l_through) (defScope s_l_through) .none kV21 dc21 pm21 an21 cd21 ct21, f22, PySem.W.fnOf "_law_place" "_law_place" (defArgs s_l_place) (defBody s_l_place) (defScope s_l_place) .none kV22 dc22 pm22 an22 cd22 ct22, f23, PySem.W.fnOf "_law_view" "_law_view" (defArgs s_l_view) (defBody s_l_view) (defScope s_l_view) .none kV23 dc23 pm23 an23 cd23 ct23, f24, PySem.W.fnOf "_law_due" "_law_due" (defArgs s_l_due) (defBody s_l_due) (defScope s_l_due) .none kV24 dc24 pm24 an24 cd24 ct24, f25, PySem.W.fnOf "law" "law" (defArgs s_law) (defBody s_law) (defScope s_law) .none kV25 dc25 pm25 an25 cd25 ct25, aT0, aD0⟩, ?_⟩
  have bl : ∀ (s : Shared) (u : Value), BindsTo s (PySem.W.fnOf "law" "law" (defArgs s_law) (defBody s_law) (defScope s_law) .none kV25 dc25 pm25 an25 cd25 ct25) ⟨[u], []⟩ [("_law_script", u)] := fun s u => .of_eq rfl
  exact ⟨(defOk_mk X G a0 l0 c0 k0 fun _ _ _ _ _ _ us hl => match us, hl with | [_], _ => rfl),
    (defOk_mk X G a1 l1 c1 k1 fun _ _ _ _ _ _ us hl => match us, hl with | [_], _ => rfl),
    (defOk_mk X G a2 l2 c2 k2 fun _ _ _ _ _ _ us hl => match us, hl with | [_], _ => rfl),
    (defOk_mk X G a3 l3 c3 k3 fun _ _ _ _ _ _ us hl => match us, hl with | [_], _ => rfl),
    (defOk_mk X G a4 l4 c4 k4 fun _ _ _ _ _ _ us hl => match us, hl with | [_], _ => rfl),
    (defOk_mk X G a5 l5 c5 k5 fun _ _ _ _ _ _ us hl => match us, hl with | [_], _ => rfl),
    (defOk_mk X G a6 l6 c6 k6 fun _ _ _ _ _ _ us hl => match us, hl with | [_], _ => rfl),
    (defOk_mk X G a7 l7 c7 k7 fun _ _ _ _ _ _ us hl => match us, hl with | [_, _], _ => rfl),
    (iniOk_mk mk_Flows kc_Flows a8 i8 l8 c8 k8 fun _ _ _ _ _ _ us hl => match us, hl with | [_, _], _ => rfl),
    (defOk_mk X G a9 l9 c9 k9 fun _ _ _ _ _ _ us hl => match us, hl with | [_, _, _], _ => rfl),
    (defOk_mk X G a10 l10 c10 k10 fun _ _ _ _ _ _ us hl => match us, hl with | [_], _ => rfl),
    (defOk_mk X G a11 l11 c11 k11 fun _ _ _ _ _ _ us hl => match us, hl with | [_, _, _], _ => rfl),
    (defOk_mk X G a12 l12 c12 k12 fun _ _ _ _ _ _ us hl => match us, hl with | [_, _], _ => rfl),
    (defOk_mk X G a13 l13 c13 k13 fun _ _ _ _ _ _ us hl => match us, hl with | [_], _ => rfl),
    (defOk_mk X G a14 l14 c14 k14 fun _ _ _ _ _ _ us hl => match us, hl with | [_, _, _, _], _ => rfl),
    (defOk_mk X G a15 l15 c15 k15 fun _ _ _ _ _ _ us hl => match us, hl with | [_, _, _, _], _ => rfl),
    (defOk_mk X G a16 l16 c16 k16 fun _ _ _ _ _ _ us hl => match us, hl with | [_, _], _ => rfl),
    (defOk_mk X G a17 l17 c17 k17 fun _ _ _ _ _ _ us hl => match us, hl with | [_, _], _ => rfl),
    (defOk_mk X G a18 l18 c18 k18 fun _ _ _ _ _ _ us hl => match us, hl with | [_, _, _], _ => rfl),
    (defOk_mk X G a19 l19 c19 k19 fun _ _ _ _ _ _ us hl => match us, hl with | [_, _], _ => rfl),
    (defOk_mk X G a20 l20 c20 k20 fun _ _ _ _ _ _ us hl => match us, hl with | [_, _], _ => rfl),
    (defOk_mk X G a21 l21 c21 k21 fun _ _ _ _ _ _ us hl => match us, hl with | [_, _], _ => rfl),
    (defOk_mk X G a22 l22 c22 k22 fun _ _ _ _ _ _ us hl => match us, hl with | [_, _, _, _], _ => rfl),
    (defOk_mk X G a23 l23 c23 k23 fun _ _ _ _ _ _ us hl => match us, hl with | [_, _, _, _], _ => rfl),
    (defOk_mk X G a24 l24 c24 k24 fun _ _ _ _ _ _ us hl => match us, hl with | [_, _, _, _], _ => rfl),
    (defOk_mk X G a25 l25 c25 k25 fun _ _ _ _ _ _ us hl => match us, hl with | [_], _ => rfl),
    ⟨⟨pg_Flows, hd_Flows, po_Flows, sa_Flows⟩, PySem.W.mg_of X G aC_Flows⟩,
    n_Flows_last,
    n_Flows_number_of,
    n_Flows_folded_of,
    n_Flows_params_of,
    n_Flows_rows_of,
    n_Flows_names_in,
    n_Flows_ways_in,
    ⟨_, PySem.W.mg_of X G w0⟩,
    PySem.W.mg_of X G q0,
    (fun H => .inr ⟨_, itT0, nT0, m0, rfl, rfl, s0, v0⟩),
    PySem.W.mg_of X G qD0,
    tabK_of_look mD0,
    PySem.W.mg_none_of X G z_len,
    PySem.W.mg_none_of X G z_list,
    PySem.W.mg_none_of X G z_tuple,
    PySem.W.mg_none_of X G z_isinstance,
    PySem.W.mg_none_of X G z_range,
    PySem.W.mg_none_of X G z_all,
    PySem.W.mg_none_of X G z_enumerate,
    PySem.W.mg_none_of X G z_dict,
    PySem.W.mg_none_of X G z_str,
    PySem.W.mg_none_of X G z_zip,
    PySem.W.mg_none_of X G z_bool,
    PySem.W.mg_none_of X G z_int,
    PySem.W.mg_none_of X G z_max,
    bl⟩
end K42
open PySem PySem.W PyProof.Rows
set_option maxRecDepth 100000 in
set_option maxHeartbeats 0 in
theorem PySem.Challenge.cw_stopglass_k42_begins_that_hold_holds : PySem.Challenge.rw_stopglass_k42_begins_that_hold.Holds := by
  w_on; o_law; k_head; (case hw => w_witness2)
  k_fill
  refine L2.walk_ofK (l := PySem.Challenge.rw_stopglass_k42_begins_that_hold) (n := 63) (k := 18) (x := "_law_script") (CX := L2.CX0) (sp := K42.sp_law) rfl (by decide) rfl ⟨rfl, by decide, by decide⟩ (fun w h Y => PySem.W.kIn_of Y) ?F ?S ?C
  case F =>
    intro w mg fa h KX G hmg
    have T : ∃ t, K42.Txt (L2.KOf KX) mg t := by
      dsimp only [L2.KOf]
      refine' K42.txt_mk KX G ?aC_Flows ?pg_Flows ?hd_Flows ?po_Flows ?sa_Flows ?mk_Flows ?kc_Flows ?n_Flows_last ?n_Flows_number_of ?n_Flows_folded_of ?n_Flows_params_of ?n_Flows_rows_of ?n_Flows_names_in ?n_Flows_ways_in ?a0 ?l0 ?c0 ?k0 ?a1 ?l1 ?c1 ?k1 ?a2 ?l2 ?c2 ?k2 ?a3 ?l3 ?c3 ?k3 ?a4 ?l4 ?c4 ?k4 ?a5 ?l5 ?c5 ?k5 ?a6 ?l6 ?c6 ?k6 ?a7 ?l7 ?c7 ?k7 ?a8 ?i8 ?l8 ?c8 ?k8 ?a9 ?l9 ?c9 ?k9 ?a10 ?l10 ?c10 ?k10 ?a11 ?l11 ?c11 ?k11 ?a12 ?l12 ?c12 ?k12 ?a13 ?l13 ?c13 ?k13 ?a14 ?l14 ?c14 ?k14 ?a15 ?l15 ?c15 ?k15 ?a16 ?l16 ?c16 ?k16 ?a17 ?l17 ?c17 ?k17 ?a18 ?l18 ?c18 ?k18 ?a19 ?l19 ?c19 ?k19 ?a20 ?l20 ?c20 ?k20 ?a21 ?l21 ?c21 ?k21 ?a22 ?l22 ?c22 ?k22 ?a23 ?l23 ?c23 ?k23 ?a24 ?l24 ?c24 ?k24 ?a25 ?l25 ?c25 ?k25 ?w0 ?q0 ?m0 ?v0 ?s0 ?qD0 ?mD0 ?z_len ?z_list ?z_tuple ?z_isinstance ?z_range ?z_all ?z_enumerate ?z_dict ?z_str ?z_zip ?z_bool ?z_int ?z_max
      (case aC_Flows => k_is)
      (case pg_Flows => k_is)
      (case hd_Flows => k_is)
      (case po_Flows => k_is)
      (case sa_Flows => k_is)
      (case mk_Flows => k_is)
      (case kc_Flows => k_is)
      (case n_Flows_last => k_is)
      (case n_Flows_number_of => k_is)
      (case n_Flows_folded_of => k_is)
      (case n_Flows_params_of => k_is)
      (case n_Flows_rows_of => k_is)
      (case n_Flows_names_in => k_is)
      (case n_Flows_ways_in => k_is)
      (case a0 => k_is)
      (case l0 => k_is)
      (case c0 => k_is)
      (case k0 => k_is)
      (case a1 => k_is)
      (case l1 => k_is)
      (case c1 => k_is)
      (case k1 => k_is)
      (case a2 => k_is)
      (case l2 => k_is)
      (case c2 => k_is)
      (case k2 => k_is)
      (case a3 => k_is)
      (case l3 => k_is)
      (case c3 => k_is)
      (case k3 => k_is)
      (case a4 => k_is)
      (case l4 => k_is)
      (case c4 => k_is)
      (case k4 => k_is)
      (case a5 => k_is)
      (case l5 => k_is)
      (case c5 => k_is)
      (case k5 => k_is)
      (case a6 => k_is)
      (case l6 => k_is)
      (case c6 => k_is)
      (case k6 => k_is)
      (case a7 => k_is)
      (case l7 => k_is)
      (case c7 => k_is)
      (case k7 => k_is)
      (case a8 => k_is)
      (case i8 => k_is)
      (case l8 => k_is)
      (case c8 => k_is)
      (case k8 => k_is)
      (case a9 => k_is)
      (case l9 => k_is)
      (case c9 => k_is)
      (case k9 => k_is)
      (case a10 => k_is)
      (case l10 => k_is)
      (case c10 => k_is)
      (case k10 => k_is)
      (case a11 => k_is)
      (case l11 => k_is)
      (case c11 => k_is)
      (case k11 => k_is)
      (case a12 => k_is)
      (case l12 => k_is)
      (case c12 => k_is)
      (case k12 => k_is)
      (case a13 => k_is)
      (case l13 => k_is)
      (case c13 => k_is)
      (case k13 => k_is)
      (case a14 => k_is)
      (case l14 => k_is)
      (case c14 => k_is)
      (case k14 => k_is)
      (case a15 => k_is)
      (case l15 => k_is)
      (case c15 => k_is)
      (case k15 => k_is)
      (case a16 => k_is)
      (case l16 => k_is)
      (case c16 => k_is)
      (case k16 => k_is)
      (case a17 => k_is)
      (case l17 => k_is)
      (case c17 => k_is)
      (case k17 => k_is)
      (case a18 => k_is)
      (case l18 => k_is)
      (case c18 => k_is)
      (case k18 => k_is)
      (case a19 => k_is)
      (case l19 => k_is)
      (case c19 => k_is)
      (case k19 => k_is)
      (case a20 => k_is)
      (case l20 => k_is)
      (case c20 => k_is)
      (case k20 => k_is)
      (case a21 => k_is)
      (case l21 => k_is)
      (case c21 => k_is)
      (case k21 => k_is)
      (case a22 => k_is)
      (case l22 => k_is)
      (case c22 => k_is)
      (case k22 => k_is)
      (case a23 => k_is)
      (case l23 => k_is)
      (case c23 => k_is)
      (case k23 => k_is)
      (case a24 => k_is)
      (case l24 => k_is)
      (case c24 => k_is)
      (case k24 => k_is)
      (case a25 => k_is)
      (case l25 => k_is)
      (case c25 => k_is)
      (case k25 => k_is)
      (case w0 => k_is)
      (case q0 => k_is)
      (case m0 => k_is)
      (case v0 => (repeat (first | exact .nil | refine .cons ⟨_, rfl⟩ ?_)))
      (case s0 => decide)
      (case qD0 => k_is)
      (case mD0 => kernel_rfl)
      (case z_len => k_is)
      (case z_list => k_is)
      (case z_tuple => k_is)
      (case z_isinstance => k_is)
      (case z_range => k_is)
      (case z_all => k_is)
      (case z_enumerate => k_is)
      (case z_dict => k_is)
      (case z_str => k_is)
      (case z_zip => k_is)
      (case z_bool => k_is)
      (case z_int => k_is)
      (case z_max => k_is)
    obtain ⟨t, T⟩ := T
    have e0 := hmg.symm.trans T.law.g
    cases e0
    exact ⟨t.d_law, T.bl, fun base kb nb => K42.ok_law T⟩
  case S => exact fun K H a ns hl hO hS => ⟨a, ns, rfl, hS, hl, fun _ => rfl⟩
  case C => exact fun _ _ _ _ z => z


