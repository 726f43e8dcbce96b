import PyProof.Rows.All
import Wide.All
import OpenK.AllK
import Wide.FinOn
import Lean
import PyProof.EqAt
import PyProof.EqKinds
import PyProof.TupleCall
import KE.KDictLaws
import KE.KDictOf
import KE.KEqDict
import KE.BitLaws
import PyProof.ZipIter
import PyProof.Rows.ZipGen
import PyProof.Rows.StrSplitAre
import PyProof.ExcInit
import PyProof.ExcBaseAll.ValueError
import PyProof.PassesOwn
import PyProof.StationsW
import PyProof.InstStoreFacts
import PyProof.ExcAttrAll.ValueError
import PyProof.NsDelKeeps
import KE.KListMore
import PyProof.P3Eq
import PyProof.Rows.TupDisplay
import PyProof.Rows.SetFrom
import PyProof.SetRoads
import PyProof.StrLawsReplace
import PyProof.StrCalls6
import PyProof.Rows.StrStrike
import KE.KIntText
import KE.IntTextText
import PySem.Challenge.RW_stopglass_k51_stations
set_option Elab.async false
set_option linter.all false
set_option maxRecDepth 100000
section
namespace Hd
open PySem PySem.W PyProof.Rows
lay_quick PySem.W.topFrom
noncomputable abbrev TQ := PySem.W.Fast.tw370005188180407882 PySem.W.Fast.tw14364793385576792824
noncomputable abbrev OQ := PySem.W.Fast.tw4187177175401517315
noncomputable abbrev tp : Program := PySem.Challenge.pw_stopglass_k51_stations
abbrev lo : List Str := [PySem.Str.ofString "ATOM_PLACES"]
def keeps : PySem.Stmt → Bool
 | .Assign [.Name x _] _ _ => !decide (x = "__name__")
 | _ => true
def viewOf (p : Program) : Program := { p with main := { p.main with body := p.main.body.filter keeps } }
abbrev Xf : Program → Shared → Bool := (fun p s => xlAt (viewOf p) [] s && recOk (RowW.records (OpenRow.toRowW (OpenLaw.row PySem.Challenge.rw_stopglass_k51_stations))) s)
noncomputable def S0 (w : World) (os : OsState) : Shared := ⟨boot_heap w.params, Array.mk [], boot_drawn, boot_toks, os⟩
theorem ws : PySem.Challenge.rw_stopglass_k51_stations.wellSaid = true := by kernel_rfl
section
local macro_rules | `(tactic| o_head $H) => `(tactic| (case Hk => exact $H))
noncomputable def hk : (H : Hook) ×' ((∀ P : Prop, P) → PySem.Challenge.rw_stopglass_k51_stations.Holds) := by
 refine ⟨?Hk, fun h => ?m⟩
 rotate_left
 w_on; refine holds_law ws fun said => ?_; k_head; exact h _
end
noncomputable def fs {α β : Type} (x : α × β) : α := Prod.rec (fun a _ => a) x
noncomputable def sn {α β : Type} (x : α × β) : β := Prod.rec (fun _ b => b) x
def tk {α : Type} : Nat → List α → List α
 | 0, _ => []
 | _ + 1, [] => []
 | n + 1, a :: l => a :: tk n l
def dk {α : Type} : Nat → List α → List α
 | 0, l => l
 | _ + 1, [] => []
 | n + 1, _ :: l => dk n l
theorem tk_eq {α : Type} : ∀ (n : Nat) (l : List α), tk n l = l.take n
 | 0, _ => rfl
 | _ + 1, [] => rfl
 | n + 1, a :: l => congrArg (a :: ·) (tk_eq n l)
theorem dk_eq {α : Type} : ∀ (n : Nat) (l : List α), dk n l = l.drop n
 | 0, _ => rfl
 | _ + 1, [] => rfl
 | n + 1, _ :: l => dk_eq n l
theorem opt11 {σ a1 a2 a3 a4 a5 a6 a7 a8 ρ δ : Type} {x : Option σ} {f : σ → a1 × a2 × a3 × a4 × a5 × a6 × a7 × a8 × ρ} {v : a1 × a2 × a3 × a4 × a5 × a6 × a7 × a8 × ρ} {g : σ → List δ} {c : List δ} {n : Nat}
 (hB : x.map (fun s => ((f s).1, (f s).2.1, (f s).2.2.1, (f s).2.2.2.2.1, (f s).2.2.2.2.2.2.1, (f s).2.2.2.2.2.2.2.1)) = some (fs v, fs (sn v), fs (sn (sn v)), fs (sn (sn (sn (sn v)))), fs (sn (sn (sn (sn (sn (sn v)))))), fs (sn (sn (sn (sn (sn (sn (sn v)))))))))
 (hC : x.map (fun s => (f s).2.2.2.2.2.1) = some (fs (sn (sn (sn (sn (sn v)))))))
 (hD : x.map (fun s => ((f s).2.2.2.1, (f s).2.2.2.2.2.2.2.2)) = some (fs (sn (sn (sn v))), (sn (sn (sn (sn (sn (sn (sn (sn v))))))))))
 (hE : x.map (fun s => List.take n (g s)) = some (tk n c)) (hF : x.map (fun s => List.drop n (g s)) = some (dk n c)) : x.map (fun s => (f s, g s)) = some (v, c) := by
 cases x with
 | none => cases hE
 | some s =>
  have eB := Option.some.inj hB
  have eD := Option.some.inj hD
  have key : ∀ u w : a1 × a2 × a3 × a4 × a5 × a6 × a7 × a8 × ρ, u.1 = fs w → u.2.1 = fs (sn w) → u.2.2.1 = fs (sn (sn w)) → u.2.2.2.1 = fs (sn (sn (sn w))) → u.2.2.2.2.1 = fs (sn (sn (sn (sn w)))) → u.2.2.2.2.2.1 = fs (sn (sn (sn (sn (sn w))))) → u.2.2.2.2.2.2.1 = fs (sn (sn (sn (sn (sn (sn w)))))) → u.2.2.2.2.2.2.2.1 = fs (sn (sn (sn (sn (sn (sn (sn w))))))) → u.2.2.2.2.2.2.2.2 = sn (sn (sn (sn (sn (sn (sn (sn w))))))) → u = w := by
   rintro ⟨u1, u2, u3, u4, u5, u6, u7, u8, ur⟩ ⟨v1, v2, v3, v4, v5, v6, v7, v8, vr⟩ h1 h2 h3 h4 h5 h6 h7 h8 h9
   cases h1; cases h2; cases h3; cases h4; cases h5; cases h6; cases h7; cases h8; cases h9
   rfl
  have ef : f s = v := key _ _ (congrArg (fun z => z.1) eB) (congrArg (fun z => z.2.1) eB) (congrArg (fun z => z.2.2.1) eB) (congrArg (fun z => z.1) eD) (congrArg (fun z => z.2.2.2.1) eB) (Option.some.inj hC) (congrArg (fun z => z.2.2.2.2.1) eB) (congrArg (fun z => z.2.2.2.2.2) eB) (congrArg (fun z => z.2) eD)
  show some (f s, g s) = _
  have eE : List.take n (g s) = List.take n c := (Option.some.inj hE).trans (tk_eq n c)
  have eF : List.drop n (g s) = List.drop n c := (Option.some.inj hF).trans (dk_eq n c)
  have eg : g s = c := by rw [← List.take_append_drop n (g s), ← List.take_append_drop n c, eE, eF]
  rw [ef, eg]
theorem r1b : ∀ (w : World) (os : OsState), (TQ tp (w.withFollow "special-get-raises" true) 20000 (S0 (w.withFollow "special-get-raises" true) os)).map (fun s => ((OQ (viewOf tp) lo (importedModules tp.main.body) (Xf tp) true s).1, (OQ (viewOf tp) lo (importedModules tp.main.body) (Xf tp) true s).2.1, (OQ (viewOf tp) lo (importedModules tp.main.body) (Xf tp) true s).2.2.1, (OQ (viewOf tp) lo (importedModules tp.main.body) (Xf tp) true s).2.2.2.2.1, (OQ (viewOf tp) lo (importedModules tp.main.body) (Xf tp) true s).2.2.2.2.2.2.1, (OQ (viewOf tp) lo (importedModules tp.main.body) (Xf tp) true s).2.2.2.2.2.2.2.1)) = some ((fs (openGood (viewOf tp) lo)), (fs (sn (openGood (viewOf tp) lo))), (fs (sn (sn (openGood (viewOf tp) lo)))), (fs (sn (sn (sn (sn (openGood (viewOf tp) lo)))))), (fs (sn (sn (sn (sn (sn (sn (openGood (viewOf tp) lo)))))))), (fs (sn (sn (sn (sn (sn (sn (sn (openGood (viewOf tp) lo)))))))))) := by
 intro w os; kernel_rfl
theorem r0b : ∀ (w : World) (os : OsState), (TQ tp (w.withFollow "special-get-raises" false) 20000 (S0 (w.withFollow "special-get-raises" false) os)).map (fun s => ((OQ (viewOf tp) lo (importedModules tp.main.body) (Xf tp) true s).1, (OQ (viewOf tp) lo (importedModules tp.main.body) (Xf tp) true s).2.1, (OQ (viewOf tp) lo (importedModules tp.main.body) (Xf tp) true s).2.2.1, (OQ (viewOf tp) lo (importedModules tp.main.body) (Xf tp) true s).2.2.2.2.1, (OQ (viewOf tp) lo (importedModules tp.main.body) (Xf tp) true s).2.2.2.2.2.2.1, (OQ (viewOf tp) lo (importedModules tp.main.body) (Xf tp) true s).2.2.2.2.2.2.2.1)) = some ((fs (openGood (viewOf tp) lo)), (fs (sn (openGood (viewOf tp) lo))), (fs (sn (sn (openGood (viewOf tp) lo)))), (fs (sn (sn (sn (sn (openGood (viewOf tp) lo)))))), (fs (sn (sn (sn (sn (sn (sn (openGood (viewOf tp) lo)))))))), (fs (sn (sn (sn (sn (sn (sn (sn (openGood (viewOf tp) lo)))))))))) := by
 intro w os; kernel_rfl
theorem r1c : ∀ (w : World) (os : OsState), (TQ tp (w.withFollow "special-get-raises" true) 20000 (S0 (w.withFollow "special-get-raises" true) os)).map (fun s => (OQ (viewOf tp) lo (importedModules tp.main.body) (Xf tp) true s).2.2.2.2.2.1) = some ((fs (sn (sn (sn (sn (sn (openGood (viewOf tp) lo)))))))) := by
 intro w os; kernel_rfl
theorem r0c : ∀ (w : World) (os : OsState), (TQ tp (w.withFollow "special-get-raises" false) 20000 (S0 (w.withFollow "special-get-raises" false) os)).map (fun s => (OQ (viewOf tp) lo (importedModules tp.main.body) (Xf tp) true s).2.2.2.2.2.1) = some ((fs (sn (sn (sn (sn (sn (openGood (viewOf tp) lo)))))))) := by
 intro w os; kernel_rfl
theorem r1e : ∀ (w : World) (os : OsState), (TQ tp (w.withFollow "special-get-raises" true) 20000 (S0 (w.withFollow "special-get-raises" true) os)).map (fun s => List.take 300 (Hook.obs hk.1 s : List (Option Obj))) = some (tk 300 (Hook.val hk.1 (w.withFollow "special-get-raises" true) : List (Option Obj))) := by
 intro w os; kernel_rfl
theorem r0e : ∀ (w : World) (os : OsState), (TQ tp (w.withFollow "special-get-raises" false) 20000 (S0 (w.withFollow "special-get-raises" false) os)).map (fun s => List.take 300 (Hook.obs hk.1 s : List (Option Obj))) = some (tk 300 (Hook.val hk.1 (w.withFollow "special-get-raises" false) : List (Option Obj))) := by
 intro w os; kernel_rfl
theorem r1f : ∀ (w : World) (os : OsState), (TQ tp (w.withFollow "special-get-raises" true) 20000 (S0 (w.withFollow "special-get-raises" true) os)).map (fun s => List.drop 300 (Hook.obs hk.1 s : List (Option Obj))) = some (dk 300 (Hook.val hk.1 (w.withFollow "special-get-raises" true) : List (Option Obj))) := by
 intro w os; kernel_rfl
theorem r0f : ∀ (w : World) (os : OsState), (TQ tp (w.withFollow "special-get-raises" false) 20000 (S0 (w.withFollow "special-get-raises" false) os)).map (fun s => List.drop 300 (Hook.obs hk.1 s : List (Option Obj))) = some (dk 300 (Hook.val hk.1 (w.withFollow "special-get-raises" false) : List (Option Obj))) := by
 intro w os; kernel_rfl
theorem r1d : ∀ (w : World) (os : OsState), (TQ tp (w.withFollow "special-get-raises" true) 20000 (S0 (w.withFollow "special-get-raises" true) os)).map (fun s => ((OQ (viewOf tp) lo (importedModules tp.main.body) (Xf tp) true s).2.2.2.1, (OQ (viewOf tp) lo (importedModules tp.main.body) (Xf tp) true s).2.2.2.2.2.2.2.2)) = some ((fs (sn (sn (sn (openGood (viewOf tp) lo))))), (sn (sn (sn (sn (sn (sn (sn (sn (openGood (viewOf tp) lo)))))))))) := by
 intro w os; kernel_rfl
theorem r0d : ∀ (w : World) (os : OsState), (TQ tp (w.withFollow "special-get-raises" false) 20000 (S0 (w.withFollow "special-get-raises" false) os)).map (fun s => ((OQ (viewOf tp) lo (importedModules tp.main.body) (Xf tp) true s).2.2.2.1, (OQ (viewOf tp) lo (importedModules tp.main.body) (Xf tp) true s).2.2.2.2.2.2.2.2)) = some ((fs (sn (sn (sn (openGood (viewOf tp) lo))))), (sn (sn (sn (sn (sn (sn (sn (sn (openGood (viewOf tp) lo)))))))))) := by
 intro w os; kernel_rfl
theorem r0 : ∀ (w : World) (os : OsState), (TQ tp (w.withFollow "special-get-raises" false) 20000 (S0 (w.withFollow "special-get-raises" false) os)).map (fun s => ((OQ (viewOf tp) lo (importedModules tp.main.body) (Xf tp) true s), Hook.obs hk.1 s)) = some ((openGood (viewOf tp) lo), Hook.val hk.1 (w.withFollow "special-get-raises" false)) := fun w os => opt11 (r0b w os) (r0c w os) (r0d w os) (r0e w os) (r0f w os)
theorem r1 : ∀ (w : World) (os : OsState), (TQ tp (w.withFollow "special-get-raises" true) 20000 (S0 (w.withFollow "special-get-raises" true) os)).map (fun s => ((OQ (viewOf tp) lo (importedModules tp.main.body) (Xf tp) true s), Hook.obs hk.1 s)) = some ((openGood (viewOf tp) lo), Hook.val hk.1 (w.withFollow "special-get-raises" true)) := fun w os => opt11 (r1b w os) (r1c w os) (r1d w os) (r1e w os) (r1f w os)
theorem left_twin {p p' : Program} {F : Program → Program} {X : Program → Shared → Bool} {loose : List Str} {α : Type} {Yf : Shared → α} {Ya : World → α} {N : Nat} {g0 : Bool} (row : String) (ep : p = p') (e : opening p = plainProg p.main.scope.names) (hN : Nat.ble 600 N = true) (f : ∀ s, fenceModules? p s = some s)
  (h0 : ∀ (w : World) (os : OsState), (TQ p' (w.withFollow row false) N (S0 (w.withFollow row false) os)).map (fun s => (OQ (F p') loose (importedModules p'.main.body) (X p') g0 s, Yf s)) = some (openGood (F p') loose, Ya (w.withFollow row false)))
  (h1 : ∀ (w : World) (os : OsState), (TQ p' (w.withFollow row true) N (S0 (w.withFollow row true) os)).map (fun s => (OQ (F p') loose (importedModules p'.main.body) (X p') g0 s, Yf s)) = some (openGood (F p') loose, Ya (w.withFollow row true))) : LeftO p (F p) loose (X p) Yf Ya N g0 := fun w => by
 subst ep
 have key : ∀ b, (openEnds treeTable p (w.withFollow row b) N).map (fun s => (openSeen (F p) loose (importedModules p.main.body) (X p) g0 s, Yf s)) = some (openGood (F p) loose, Ya (w.withFollow row b)) := by
  intro b
  obtain ⟨s, hs, hv⟩ := Option.map_eq_some_iff.mp (boot_open e hN f (w.withFollow row b))
  have es : s = S0 (w.withFollow row b) s.os := by
   cases s
   simp only [Prod.mk.injEq] at hv
   obtain ⟨a1, a2, a3, a4⟩ := hv
   subst a1 a2 a3 a4
   rfl
  unfold openEnds
  rw [hs, es, PySem.W.Fast.te370005188180407882, PySem.W.Fast.te14364793385576792824, PySem.W.Fast.te4187177175401517315]
  cases b
  . exact h0 w s.os
  . exact h1 w s.os
 have e0 := World.withFollow_self w row
 have := key (w.params.followText row)
 rwa [e0] at this
theorem left : LeftO PySem.Challenge.pw_stopglass_k51_stations (viewOf PySem.Challenge.pw_stopglass_k51_stations) lo (Xf PySem.Challenge.pw_stopglass_k51_stations) (Hook.obs hk.1) (Hook.val hk.1) 20000 true :=
 left_twin (p := PySem.Challenge.pw_stopglass_k51_stations) (p' := tp) (F := viewOf) (X := Xf) (loose := lo) (Yf := Hook.obs hk.1) (Ya := Hook.val hk.1) (N := 20000) (g0 := true) "special-get-raises" rfl (by kernel_rfl) (by decide) (fun s => by kernel_rfl) r0 r1
theorem left_of {H : Hook} (e : H = hk.1) : LeftO PySem.Challenge.pw_stopglass_k51_stations (viewOf PySem.Challenge.pw_stopglass_k51_stations) lo (Xf PySem.Challenge.pw_stopglass_k51_stations) (Hook.obs H) (Hook.val H) 20000 true := by subst e; exact left
local macro_rules | `(tactic| o_head $H) => `(tactic| (
 refine holds_open (q := viewOf PySem.Challenge.pw_stopglass_k51_stations) (loose := lo) (Xt := Xf PySem.Challenge.pw_stopglass_k51_stations) (XP := XL (viewOf PySem.Challenge.pw_stopglass_k51_stations) []) (Yf := Hook.obs $H) (Ya := Hook.val $H) (YP := Hook.says $H) (N := 20000) ?hl (Hook.of $H) (Hook.keeps $H) (fun s e => xl_of s (Bool.and_eq_true_iff.mp e).1) XL.keeps (by rfl) (by rfl) (by rfl) (fun s e => recFacts_of (Bool.and_eq_true_iff.mp e).2) (by rfl) (by assumption) (by decide +kernel) ⟨rfl, rfl, rfl, rfl, rfl, by decide +kernel⟩ ?hw ?hc
 (case hl => exact left_of (H := $H) (by kernel_rfl))))
set_option maxHeartbeats 0 in
noncomputable def pk : (G : Prop) ×' (G → PySem.Challenge.rw_stopglass_k51_stations.Holds) := by
 refine' ⟨_, fun h => _⟩
 rotate_left
 w_on; refine holds_law ws fun said => ?_; k_head; (case hw => w_witness2)
 exact h
end Hd
end
abbrev BA:=@List.length_map
abbrev BB:=@PySem.wpAny_bind
abbrev BC:=@List.getElem?_eq_some_iff
abbrev BE:=@if_neg
abbrev BF:=@PySem.wpAny_pure
abbrev BG:=@Nat.le_refl
abbrev BH:=@List.length_append
abbrev BI:=@List.getElem?_map
abbrev BJ:=@if_pos
abbrev BK:=@List.map_append
abbrev BL:=@decide_eq_true_eq
abbrev BM:=@PySem.Heap.get?_push_of_some
abbrev BN:=@decide_eq_true
abbrev BO:=@Bool.false_ne_true
abbrev BP:=@List.getElem?_eq_getElem
abbrev BQ:=@List.mem_of_getElem?
abbrev BR:=@PySem.F.plainAttrs_list
abbrev BS:=@List.mem_cons_of_mem
abbrev BU:=@List.mem_cons_self
abbrev BV:=@List.length_cons
abbrev BW:=@Nat.zero_le
abbrev BX:=@List.size_toArray
abbrev BY:=@decide_eq_false
abbrev BZ:=@PySem.Heap.lt_size
abbrev Ba:=@List.mem_map
abbrev Bb:=@PySem.F.slot_list_append
abbrev Bc:=@PySem.F.type_list_append
abbrev Bd:=@List.length_take
abbrev Be:=@List.mem_cons
abbrev Bh:=@PySem.Heap.get?_push_size
abbrev Bj:=@Nat.lt_of_lt_of_le
abbrev Bk:=@Nat.le_trans
abbrev Bl:=@Nat.lt_or_ge
abbrev Bm:=@List.take_add_one
abbrev Bn:=@Bool.and_eq_true
abbrev Bo:=@of_decide_eq_true
abbrev Bp:=@List.getElem?_of_mem
abbrev Bq:=@List.mem_singleton
abbrev Br:=@List.mem_append_right
abbrev Bt:=@Bool.false_eq_true
abbrev Bu:=@Nat.ne_of_lt
abbrev Bv:=@congrArg
abbrev Bw:=@List.take_length
abbrev Bx:=@List.map_cons
abbrev By:=@List.all_eq_true
abbrev Bz:=@List.getElem?_append_right
abbrev B':=@Int.toNat_natCast
abbrev C0:=@List.getElem?_append_left
abbrev C1:=@Array.length_toList
abbrev C2:=@PySem.wpAny_holding
abbrev C3:=@Bool.eq_iff_iff
abbrev C4:=@List.getD_eq_getElem?_getD
abbrev C5:=@List.mem_append
abbrev C6:=@Nat.lt_irrefl
abbrev C7:=@Option.map_eq_some_iff
abbrev C8:=@List.mem_append_left
abbrev C9:=@List.take_of_length_le
abbrev CA:=@Nat.lt_succ_self
abbrev CB:=@PyProof.Rows.slot_tuple_getitem
abbrev CC:=@List.not_mem_nil
abbrev CD:=@List.length_reverse
abbrev CF:=@List.append_assoc
abbrev CG:=@List.foldl_append
abbrev CH:=@List.reverse_cons
abbrev CI:=@List.mem_of_mem_head?
abbrev CJ:=@List.append_nil
abbrev CK:=@PyProof.Rows.callWith_type1
abbrev CL:=@Nat.le_of_lt
abbrev CM:=@List.replicate_succ
abbrev CN:=@List.map_map
abbrev CO:=@Nat.succ_pos
abbrev CP:=@List.length_drop
abbrev CQ:=@PySem.wpAny_call_entry
abbrev CS:=@List.lookup_cons
abbrev CT:=@PySem.wpAny_specialOf
abbrev CU:=@List.mem_of_mem_take
abbrev CV:=@PySem.wpAny_truthy_bool
abbrev CW:=@PySem.wpAny_newObj_type
abbrev CY:=@List.getElem?_inj
abbrev CZ:=@List.map_congr_left
abbrev Ca:=@List.mem_range
abbrev Cb:=@List.dropLast_concat_getLast
abbrev Cd:=@Array.getD_eq_getD_getElem?
abbrev Ce:=@List.idxOf_lt_length_of_mem
abbrev Cf:=@PySem.wpAny_passesOwn
abbrev Cg:=@List.nodup_cons
abbrev Ch:=@List.foldl_cons
abbrev Ci:=@PySem.F.slot_tuple_iterator_next
abbrev Cj:=@PySem.wpAny_setState_of
abbrev Ck:=@Array.mem_toList_iff
abbrev Cm:=@Array.getElem?_eq_getElem
abbrev Cn:=@List.filterMap_cons
abbrev Co:=@Bool.not_true
abbrev Cp:=@Bool.or_eq_true
abbrev Cq:=@List.find?_cons
abbrev Cr:=@Nat.le_succ
abbrev Cs:=@PySem.wpAny_pyIter_list
abbrev Ct:=@PySem.F.slot_tuple_hash
abbrev Cu:=@List.idxOf_append
abbrev Cv:=@List.length_replicate
abbrev Cw:=@PySem.Heap.get?_update_self
abbrev Cy:=@Array.getElem?_toList
abbrev Cz:=@Nat.zero_add
abbrev C':=@List.getElem?_set_ne
abbrev D0:=@Option.bind_some
abbrev D1:=@PySem.wpAny_forIn_list
abbrev D2:=@List.drop_length
abbrev D3:=@Array.getElem?_eq_some_iff
abbrev D4:=@List.map_take
abbrev D5:=@PySem.wpAny_field
abbrev D6:=@List.drop_eq_getElem_cons
abbrev D7:=@List.length_nil
abbrev D8:=@PySem.codeAny_builtin
abbrev D9:=@Nat.not_lt_zero
abbrev DA:=@Nat.min_eq_left
abbrev DB:=@Nat.ne_of_gt
abbrev DC:=@List.mem_filterMap
abbrev DD:=@PySem.codeAny_mono
abbrev DE:=@PySem.wpAny_Call_Name_kw
abbrev DF:=@Option.isSome_iff_exists
abbrev DG:=@List.getElem?_take_of_lt
abbrev DH:=@PySem.F.args_tuple_add_2
abbrev DI:=@PySem.wpAny_typeOf
abbrev DJ:=@PySem.F.slot_list_getattribute
abbrev DL:=@Array.forIn_toList
abbrev DM:=@PySem.wpAny_mono
abbrev DN:=@PySem.Heap.size_push
abbrev DO:=@PySem.F.entry_tuple_add
abbrev DP:=@List.length_eq_zero_iff
abbrev DQ:=@PyProof.Rows.F.plain_set_update_loop
abbrev DR:=@List.flatten_cons
abbrev DS:=@Nat.lt_succ_of_lt
abbrev DT:=@PySem.wpAny_pyIter_enum
abbrev DU:=@Nat.lt_trichotomy
abbrev DV:=@List.getElem?_set_self
abbrev DW:=@PySem.wpAny_pyNext_list_item
abbrev DX:=@PySem.F.slot_tuple_add
abbrev DY:=@Bool.or_false
abbrev DZ:=@List.any_cons
abbrev Da:=@Nat.add_assoc
abbrev Db:=@List.getElem_mem
abbrev Dc:=@List.any_eq_true
abbrev Dd:=@Nat.le_add_right
abbrev De:=@PySem.F.slot_bool_hash
abbrev Df:=@Nat.min_eq_right
abbrev Dg:=@PySem.wpAny_pyNext_list_end
abbrev Dh:=@List.getElem?_eq_none
abbrev Di:=@Bool.beq_eq_decide_eq
abbrev Dj:=@PySem.wpAny_execs_nil
abbrev Dk:=@Option.map_some
abbrev Dl:=@List.length_zip
abbrev Dm:=@Nat.add_le_add_right
abbrev Dn:=@Nat.mul_le_mul_right
abbrev Do:=@PySem.F.slot_dict_itemiterator_iter
abbrev Dp:=@List.take_append_of_le_length
abbrev Dq:=@List.eq_nil_of_length_eq_zero
abbrev Dr:=@List.map_eq_nil_iff
abbrev Ds:=@Bool.and_false
abbrev Dt:=@List.drop_zero
abbrev Du:=@PySem.F.args_tuple_iterator_next_1
abbrev Dv:=@PySem.F.slot_dict_setdefault
abbrev Dw:=@PySem.wpAny_pyIter_tuple
abbrev Dx:=@Nat.lt_of_le_of_lt
abbrev Dy:=@PySem.F.entry_tuple_iterator_next
abbrev Dz:=@List.mem_replicate
abbrev D':=@PySem.wpAny_standAt
abbrev E1:=@Int.fdiv_eq_ediv_of_nonneg
abbrev E2:=@PySem.wpAny_letOwnedTupleGo_enum
abbrev E3:=@Bool.true_and
abbrev E4:=@PySem.wpAny_sequenceKey
abbrev E5:=@Option.isSome_map
abbrev E6:=@Bool.eq_false_iff
abbrev E7:=@List.getElem?_zip_eq_some
abbrev E8:=@beq_iff_eq
abbrev E9:=@PySem.F.slot_dict_getitem
abbrev EA:=@PySem.wpAny_pyHash_str
abbrev EB:=@PySem.wpAny_execs_cons
abbrev EC:=@Nat.le_of_eq
abbrev ED:=@Nat.succ_mul
abbrev EE:=@List.length_erase_of_mem
abbrev EF:=@decide_eq_decide
abbrev EG:=@PySem.wpAny_Call_method0_late
abbrev EH:=@PySem.wpAny_pyNext_enum_itemD
abbrev EI:=@PySem.F.plainAttrs_dict
abbrev EJ:=@PySem.F.slot_dict_items
abbrev EK:=@Nat.add_sub_cancel_left
abbrev EL:=@Int.eq_ofNat_of_zero_le
abbrev EM:=@PyProof.Rows.F.entry_set_update_loop
abbrev EN:=@PySem.F.slot_list_index
abbrev EO:=@PySem.F.type_list_index
abbrev EQ:=@List.mem_filter
abbrev ER:=@List.of_mem_zip
abbrev ES:=@List.length_set
abbrev ET:=@List.mem_mapIdx
abbrev EU:=@PySem.wpAny_seqItems
abbrev EV:=@PySem.wpAny_load
abbrev EW:=@PySem.wpAny_rule
abbrev EX:=@Nat.mod_lt
abbrev EY:=@List.map_drop
local macro_rules | `(tactic| walk_at "f") => `(tactic| (first|exact .inl rfl|exact .inr rfl|assumption))
local macro_rules | `(tactic| walk_at "s") => `(tactic| exact ⟨rfl, rfl, rfl, by decide +kernel, rfl, by decide +kernel, by decide +kernel⟩)
namespace K11
end K11
namespace L2
open PySem PySem.Spec PyProof.Rows
abbrev aD:=Sum Int Str
def fL:aD->Value->Bool
 | .inl k,v=>Value.isInt k v
 | .inr x,v=>Value.isStrOf x v
def uP (w:World):aD->Int
 | .inl k=>hashInt k
 | .inr x=>hashStr w x
theorem dW:∀{k:aD} {v:Value},fL k v=true->(∃i t,k=Sum.inl i/\v=Value.int i t)\/(∃x t,k=Sum.inr x/\v=Value.str x t)
 | .inl i,v,h=>by obtain⟨t,e⟩:=Value.isInt_shape (k:=i) (v:=v) h;exact .inl ⟨i,t,rfl,e⟩
 | .inr x,v,h=>by obtain⟨t,e⟩:=Value.isStrOf_shape (x:=x) (v:=v) h;exact .inr ⟨x,t,rfl,e⟩
theorem wO (i:Int) (t:Tok):fL (.inl i) (.int i t)=true:=by simp [fL,Value.isInt]
theorem uR (x:Str) (t:Tok):fL (.inr x) (.str x t)=true:=by simp [fL,Value.isStrOf]
theorem tG (a b:Int):decide ((Sum.inl a:aD)=Sum.inl b)=(a==b):=by
 by_cases e:a=b
 . subst e; simp
 . have h:¬ (Sum.inl a:aD)=Sum.inl b:=λq=>e (Sum.inl.inj q);rw[BY h];exact(beq_eq_false_iff_ne.mpr e).symm
theorem uX (a b:Str):decide ((Sum.inr a:aD)=Sum.inr b)=decide (a=b):=by
 by_cases e:a=b
 . subst e; simp
 . have h:¬ (Sum.inr a:aD)=Sum.inr b:=λq=>e (Sum.inr.inj q);rw[BY h,BY e]
theorem zc (a:Int) (b:Str):decide ((Sum.inl a:aD)=Sum.inr b)=false:=BY (λq=>nomatch q)
theorem yJ (a:Str) (b:Int):decide ((Sum.inr a:aD)=Sum.inl b)=false:=BY (λq=>nomatch q)
def bY (prog:Program) (w:World):PySem.KeyKind prog w aD where
 is:=fL
 hash:=uP w
 inj:=λv a b ha hb=>by
   rcases dW ha with⟨i,t,rfl,rfl⟩|⟨x,t,rfl,rfl⟩
   . rcases dW hb with⟨j,u,rfl,e⟩|⟨y,u,rfl,e⟩
     . injection e with e1 _; rw[e1]
     . exact nomatch e
   . rcases dW hb with⟨j,u,rfl,e⟩|⟨y,u,rfl,e⟩
     . exact nomatch e
     . injection e with e1 _; rw[e1]
 byValue:=λk v h=>by rcases dW h with⟨i,t,rfl,rfl⟩|⟨x,t,rfl,rfl⟩ <;> rfl
 pyHash:=λhv h=>by
   rcases dW hv with⟨i,t,rfl,rfl⟩|⟨x,t,rfl,rfl⟩
   . exact wpAny_pyHash_int h
   . exact EA h
 eqBool:=λhu hv h=>by
   rcases dW hu with⟨i,t,rfl,rfl⟩|⟨x,t,rfl,rfl⟩
   . rcases dW hv with⟨j,u,rfl,rfl⟩|⟨y,u,rfl,rfl⟩
     . rw[tG] at h; exact wpAny_eqBool_int h
     . rw[zc] at h; exact SeqAt.EqAt.int_str i t y u _ _ _ _ h
   . rcases dW hv with⟨j,u,rfl,rfl⟩|⟨y,u,rfl,rfl⟩
     . rw[yJ] at h; exact SeqAt.EqAt.str_int x t j u _ _ _ _ h
     . rw[uX] at h; exact wpAny_eqBool_str h
 «strs»:=λk x t v h=>by
   rcases dW h with⟨i,u,rfl,e⟩|⟨y,u,rfl,e⟩
   . exact nomatch e
   . injection e with e1 _
     subst e1;cases v <;> rfl
theorem yf (prog:Program) (w:World) (i:Int) (t:Tok):(bY prog w).is (.inl i) (.int i t)=true:=wO i t
theorem ut (prog:Program) (w:World) (x:Str) (t:Tok):(bY prog w).is (.inr x) (.str x t)=true:=uR x t
inductive V where
 | non|bl (b:Bool)|int (i:Int)|str (x:Str)|byt (b:Array UInt8)|flt (b:UInt64)|ref (a:Addr)|ty (n:String)
 deriving DecidableEq
def aJ:V->Value->Prop
 | .non,u=>u=Value.none
 | .bl b,u=>u=Value.bool b
 | .int i,u=>∃t,u=Value.int i t
 | .str x,u=>∃t,u=Value.str x t
 | .byt b,u=>∃t,u=Value.bytes b t
 | .flt b,u=>∃t,u=Value.float b t
 | .ref a,u=>u=Value.ref a
 | .ty n,u=>u=Value.type n
abbrev aI:List V->List Value->Prop:=Paired aJ
theorem aI.length {xs:List V} {us:List Value} (r:aI xs us):xs.length=us.length:=Paired.length r
theorem aI.get:∀{xs:List V} {us:List Value} {i:Nat} {x:V},aI xs us->xs[i]?=some x->∃u,us[i]?=some u/\aJ x u
 | _,_,_,_,.nil,e=>by simp at e
 | _,_,0,_,.cons r _,e=>by simp at e; subst e; exact⟨_,rfl,r⟩
 | _,_,i+1,x,.cons _ t,e=>by obtain⟨u,h1,h2⟩:=aI.get (i:=i) (x:=x) t (by simpa using e);exact⟨u,by simpa using h1,h2⟩
theorem aI.set {x:V} {u:Value} (r:aJ x u):∀{xs:List V} {us:List Value} (i:Nat),aI xs us->aI (xs.set i x) (us.set i u)
 | _,_,_,.nil=>.nil
 | _,_,0,.cons _ t=>.cons r t
 | _,_,i+1,.cons q t=>.cons q (aI.set r i t)
theorem aI.append:∀{xs ys:List V} {us ws:List Value},aI xs us->aI ys ws->aI (xs++ys) (us++ws)
 | _,_,_,_,.nil,s=>s
 | _,_,_,_,.cons r t,s=>.cons r (aI.append t s)
theorem aI.take:∀{xs:List V} {us:List Value} (n:Nat),aI xs us->aI (xs.take n) (us.take n)
 | _,_,0,_=>.nil
 | _,_,_+1,.nil=>.nil
 | _,_,n+1,.cons r t=>.cons r (aI.take n t)
theorem aI.drop:∀{xs:List V} {us:List Value} (n:Nat),aI xs us->aI (xs.drop n) (us.drop n)
 | _,_,0,r=>r
 | _,_,_+1,.nil=>.nil
 | _,_,n+1,.cons _ t=>aI.drop n t
def cL:Option V->Option Value->Prop
 | some v,some u=>aJ v u
 | none,none=>True
 | _,_=>False
def KV {κ:Type}:List (κ×V)->List (κ×Value)->Prop:=Paired λ(p:κ×V) (q:κ×Value)=>p.1=q.1/\aJ p.2 q.2
def kV:aD->V
 | .inl i=>.int i
 | .inr x=>.str x
inductive HO where
 | lst (xs:List V)
 | tup (xs:List V)
 | dK (kvs:List (aD×V))|dT (kvs:List (List aD×V))
 | set (S:Int->Bool) (n:Nat)
 | ins (C dx:Addr) (fs:List (Str×V))
 | own (x:Addr)
 | xd (fs:List (Str×V))
 | met (f x:Addr)
 | rng (lo hi:Int)
 | frz (o:Obj) (u:HO)
 | tbl (ps:Array Value)
 | ext (φ:Heap->Prop)
abbrev Hp:=Addr->Option HO
def upd (H:Hp) (a:Addr) (o:HO):Hp:=λb=>if b=a then some o else H b
variable {H:Hp} {a:Addr} {o:HO}
theorem a8 :upd H a o a=some o:=by unfold upd; rw[BJ rfl]
variable {b:Addr}
theorem aH (h:b≠a):upd H a o b=H b:=by unfold upd; rw[BE h]
theorem kX {u:HO}:upd (upd H a o) a u=upd H a u:=by funext b; unfold upd; split <;> rfl
theorem cY {u:HO}(h:H a=some o) (h':H b=some u) (d:o≠u):a≠b:=by intro e; subst e; rw[h] at h'; exact d (Option.some.inj h')
theorem bJ (h:H a=some o) (h':H b=none):a≠b:=by intro e; subst e; rw[h] at h'; cases h'
section
variable (P:Program) (w:World)
def bH (H:Hp) (h:Heap) (a:Addr):HO->Prop
 | .lst xs=>xs.length<=sizeLine/\∃(its:List Value) (n:Nat),aI xs its/\h.get? a=some { cls:=.type "list",data:=.seq its.toArray n }
 | .tup xs=>xs.length<=sizeLine/\∃its:List Value,aI xs its/\IsTup h a its.toArray
 | .dK kvs=>kvs.length<=sizeLine/\(a==sysModules)=false/\∃vs,KV kvs vs/\h.DictOf (bY P w) a vs
 | .dT kvs=>kvs.length<=sizeLine/\(a==sysModules)=false/\∃xs:List (List aD×Addr×Value),
     Paired (λ(p:List aD×V) (q:List aD×Addr×Value)=>p.1=q.1/\H q.2.1=some (.tup (p.1.map kV))/\aJ p.2 q.2.2) kvs xs /\
     ∃o es ep,h.get? a=some o/\o.ExactDict/\o.data=.dict es ep/\es.toList=xs.map (entryOfKey (tupleKind (bY P w)))/\(xs.map (·.1)).Nodup
 | .set S n=>h.SetOf (intKind P w) a S n
 | .ins C dx fs=>H dx=some (.own a)/\fs.length<=1000/\dx≠a/\h.get? a=some (PySem.W.instObj C dx) /\
     ∃mA,h.Ns1 dx mA/\(∀f,cL (fs.lookup f) (mA f))/\PySem.Within mA (fs.map (·.1))
 | .own _=>∃o,h.get? a=some o
 | .xd fs=>∃mA,h.Ns1 a mA/\∀f,cL (fs.lookup f) (mA f)
 | .rng lo hi=>∃t u v,h.get? a=some { cls:=.type "range",data:=.fields #[.int lo t,.int hi u,.int 1 v] }
 | .frz o u=>h.get? a=some o/\bH H h a u
 | .tbl ps=>h.get? a=some { cls:=.none,data:=.fields ps }
 | .met f x=>h.get? a=some (PySem.W.methodObj (.ref f) (.ref x))
 | .ext φ=>φ h/\(∃o,h.get? a=some o)/\∀h1 h2:Heap,φ h1->(∀o,h1.get? a=some o->h2.get? a=some o)->φ h2
def bK (H:Hp) (h:Heap):Prop:=∀a o,H a=some o->bH P w H h a o
end
section
variable {P:Program} {w:World} {H H':Hp} {h h':Heap} {a:Addr} {o:HO}
theorem bH.lt (x:bH P w H h a o):a<h.objs.size:=by
 cases o with
 | lst xs=>obtain⟨_,_,_,_,e⟩:=x; exact BZ e
 | tup xs=>obtain⟨_,_,_,p⟩:=x; exact p.lt
 | dK kvs=>obtain⟨_,_,_,_,o,_,_,e,_⟩:=x; exact BZ e
 | dT kvs=>obtain⟨_,_,_,_,o,_,_,e,_⟩:=x; exact BZ e
 | set S n=>obtain⟨o,_,_,_,e,_⟩:=x; exact BZ e
 | ins C dx fs=>obtain⟨_,_,_,e,_⟩:=x; exact BZ e
 | own y=>obtain⟨_,e⟩:=x; exact BZ e
 | xd fs=>obtain⟨_,⟨_,_,_,e,_⟩,_⟩:=x; exact BZ e
 | rng lo hi=>obtain⟨_,_,_,e⟩:=x; exact BZ e
 | frz ob u=>obtain⟨e,_⟩:=x; exact BZ e
 | tbl ps=>exact BZ (show h.get? a=some _ from x)
 | met f y=>exact BZ (show h.get? a=some _ from x)
 | ext φ=>obtain⟨_,⟨_,e⟩,_⟩:=x; exact BZ e
theorem Paired.mapP {α β:Type} {F G:α->β->Prop}:∀{l₁:List α} {l₂:List β},Paired F l₁ l₂->(∀a b,F a b->G a b)->Paired G l₁ l₂
 | _,_,.nil,_=>.nil
 | _,_,.cons r t,f=>.cons (f _ _ r) (Paired.mapP t f)
theorem bH.stay (x:bH P w H h a o) (k:∀b u,(b=a\/H b=some (.own a))->h.get? b=some u->h'.get? b=some u)
   (ho:∀b,H b=some (.own a)->H' b=some (.own a)) (ht:∀b xs,H b=some (.tup xs)->H' b=some (.tup xs)):bH P w H' h' a o:=by
 induction o with
 | lst xs=>obtain⟨z,its,n,r,e⟩:=x; exact⟨z,its,n,r,k _ _ (.inl rfl) e⟩
 | tup xs=>obtain⟨z,its,r,ob,e,c⟩:=x; exact⟨z,its,r,ob,k _ _ (.inl rfl) e,c⟩
 | dK kvs=>obtain⟨z,y,vs,r,ob,es,ep,e,c⟩:=x; exact⟨z,y,vs,r,ob,es,ep,k _ _ (.inl rfl) e,c⟩
 | dT kvs =>
   obtain⟨z,y,xs,r,ob,es,ep,e,c⟩:=x;exact⟨z,y,xs,Paired.mapP r λp q z=>⟨z.1,ht _ _ z.2.1,z.2.2⟩,ob,es,ep,k _ _ (.inl rfl) e,c⟩
 | set S n=>obtain⟨ob,es,ep,t,e,c⟩:=x; exact⟨ob,es,ep,t,k _ _ (.inl rfl) e,c⟩
 | ins C dx fs =>
   obtain⟨d,z,ne,e,mA,⟨od,es,ep,e2,c⟩,r⟩:=x;exact⟨ho _ d,z,ne,k _ _ (.inl rfl) e,mA,⟨od,es,ep,k _ _ (.inr d) e2,c⟩,r⟩
 | own y=>obtain⟨ob,e⟩:=x; exact⟨ob,k _ _ (.inl rfl) e⟩
 | xd fs=>obtain⟨mA,⟨od,es,ep,e,c⟩,r⟩:=x; exact⟨mA,⟨od,es,ep,k _ _ (.inl rfl) e,c⟩,r⟩
 | rng lo hi=>obtain⟨t,u,v,e⟩:=x; exact⟨t,u,v,k _ _ (.inl rfl) e⟩
 | frz ob u ih=>obtain⟨e,q⟩:=x; exact⟨k _ _ (.inl rfl) e,ih q⟩
 | tbl ps =>
   have e:h.get? a=some { cls:=.none,data:=.fields ps }:=x;show h'.get? a=some { cls:=.none,data:=.fields ps };exact k a _ (.inl rfl) e
 | met f y =>
   have e:h.get? a=some (PySem.W.methodObj (.ref f) (.ref y)):=x;show h'.get? a=some (PySem.W.methodObj (.ref f) (.ref y));exact k a _ (.inl rfl) e
 | ext φ=>obtain⟨p,⟨o,e⟩,st⟩:=x; exact⟨st _ _ p λo q=>k _ _ (.inl rfl) q,⟨o,k _ _ (.inl rfl) e⟩,st⟩
theorem bK.lt (x:bK P w H h) (e:H a=some o):a<h.objs.size:=(x a o e).lt
theorem bK.fresh (x:bK P w H h) (e:h.objs.size<=a):H a=none:=by
 cases q:H a with
 | none=>rfl
 | some u=>exact absurd (Bj (x.lt q) e) (C6 _)
theorem bK.kept (x:bK P w H h) (k:∀b u,h.get? b=some u->h'.get? b=some u):bK P w H h':=λa o e =>
 (x a o e).stay (λb u _ q=>k b u q) (λ_ q=>q) λ_ _ q=>q
theorem bK.laid (x:bK P w H h) (k:∀b u,h.get? b=some u->h'.get? b=some u) (hp:h.objs.size<=a) (new:bH P w (upd H a o) h' a o):bK P w (upd H a o) h':=λb u e=>by
 have hn:=x.fresh hp;by_cases hb:b=a
 . subst hb; rw[a8] at e; cases e; exact new
 . rw[aH hb] at e;exact(x b u e).stay (λc v _ q=>k c v q) (λc q=>by rw[aH (bJ q hn)]; exact q) λc xs q=>by rw[aH (bJ q hn)]; exact q
end
def Rd (H:Hp) (a:Addr) (u:HO):Prop:=H a=some u\/∃o,H a=some (.frz o u)
variable {P:Program} {w:World} {h:Heap}
theorem Rd.ok {u:HO} (r:Rd H a u) (x:bK P w H h):bH P w H h a u:=by
 rcases r with r|⟨o,r⟩
 . exact x a u r
 . obtain⟨_,q⟩:=x a _ r;exact q
def iJ:Option HO->Prop
 | some (.lst _)=>True
 | some (.dK _)=>True
 | some (.dT _)=>True
 | some (.set _ _)=>True
 | some (.ins _ _ _)=>True
 | some (.ext _)=>True
 | _=>False
section
variable {P:Program} {w:World} {H:Hp} {h h':Heap} {x e:Addr} {o':HO}
theorem bK.write (ok:bK P w H h) (mu:iJ (H x)) (he:e=x\/H e=some (.own x)) (k:∀b u,b≠e->h.get? b=some u->h'.get? b=some u) (heo:∃u,h'.get? e=some u)
   (new:bH P w (upd H x o') h' x o'):bK P w (upd H x o') h':=λb u q=>by
 have nown:∀c y,H c=some (.own y)->c≠x:=λc y r z=>by subst z; rw[r] at mu; exact mu
 have ntup:∀c xs,H c=some (.tup xs)->c≠x:=λc xs r z=>by subst z; rw[r] at mu; exact mu
 by_cases hb:b=x
 . subst hb; rw[a8] at q; cases q; exact new
 . rw[aH hb] at q;by_cases hbe:b=e
   . have q':H b=some (.own x):=by
       rcases he with z|z
       . exact absurd (hbe.trans z) hb
       . rw[hbe]; exact z
     rw[q] at q'; cases q';obtain⟨v,hv⟩:=heo;exact⟨v,by rw[hbe]; exact hv⟩
   . refine(ok b u q).stay (λc v hc r=>k c v ?_ r) (λc r=>by rw[aH (nown c b r)]; exact r) λc xs r=>by rw[aH (ntup c xs r)]; exact r
     rcases hc with rfl|hc
     . exact hbe
     . rintro rfl;rcases he with z|z
       . exact nown c b hc z
       . rw[hc] at z; cases z; exact hb rfl
end
structure Un (fs ex:List Addr) (H H':Hp) (h h':Heap):Prop where
 keep:∀b o,h.get? b=some o->H b=none->b ∉ fs->b ∉ ex->h'.get? b=some o
 slot:∀b o,h.get? b=some o->H b=none->b∈fs->b ∉ ex->∃sl,h'.get? b=some { o with slots:=sl }
 free:∀b o,h.get? b=some o->H b=none->b ∉ ex->H' b=none
 there:∀b o,h.get? b=some o->b ∉ ex->∃o',h'.get? b=some o'
 tups:∀b xs,H b=some (.tup xs)->H' b=some (.tup xs)
 frzs:∀b o u,H b=some (.frz o u)->H' b=some (.frz o u)
 tbls:∀b ps,H b=some (.tbl ps)->∃more,H' b=some (.tbl (ps++more))
section
variable {fs fs' ex ex':List Addr} {H H1 H2:Hp} {h h1 h2 h':Heap} {a x e:Addr} {o:HO}
theorem Un.any (u:Un fs ex H H1 h h1) {ob:Obj} (q:h.get? b=some ob) (n:H b=none) (hx:b ∉ ex):∃sl,h1.get? b=some { ob with slots:=sl }:=by
 by_cases hb:b∈fs
 . exact u.slot b ob q n hb hx
 . exact⟨ob.slots,u.keep b ob q n hb hx⟩
theorem Un.kept (k:∀b u,h.get? b=some u->h'.get? b=some u):Un fs ex H H h h' :=
 ⟨λb ob q _ _ _=>k b ob q,λb ob q _ _ _=>⟨ob.slots,k b ob q⟩,λ_ _ _ n _=>n,λb ob q _=>⟨ob,k b ob q⟩,λ_ _ q=>q,λ_ _ _ q=>q,λ_ ps q=>⟨#[],by rw[q]; simp⟩⟩
theorem Un.refl:Un fs ex H H h h:=Un.kept λ_ _ q=>q
theorem Un.laid (k:∀b u,h.get? b=some u->h'.get? b=some u) (hp:h.objs.size<=a) (hn:H a=none):Un fs ex H (upd H a o) h h' where
 keep:=λb u q _ _ _=>k b u q
 slot:=λb u q _ _ _=>⟨u.slots,k b u q⟩
 free:=λb u q n _=>by rw[aH (Bu (Bj (BZ q) hp))]; exact n
 there:=λb u q _=>⟨u,k b u q⟩
 tups:=λb xs q=>by rw[aH (bJ q hn)]; exact q
 frzs:=λb u xs q=>by rw[aH (bJ q hn)]; exact q
 tbls:=λb ps q=>⟨#[],by rw[aH (bJ q hn),q]; simp⟩
theorem Un.write (mu:iJ (H x)) (he:e=x\/H e=some (.own x)) (k:∀b u,b≠e->h.get? b=some u->h'.get? b=some u) (heo:∃u,h'.get? e=some u):Un fs ex H (upd H x o) h h':=by
 have hx:∀b,H b=none->b≠x:=λb n z=>by subst z; rw[n] at mu; exact mu
 have hb:∀b,H b=none->b≠e:=λb n z=>by
   subst z;rcases he with r|r
   . exact hx b n r
   . rw[n] at r; cases r
 have hm:∀b u,H b=some u->¬ iJ (some u)->b≠x:=λb u q nm z=>by subst z; rw[q] at mu; exact nm mu
 refine⟨λb u q n _ _=>k b u (hb b n) q,λb u q n _ _=>⟨u.slots,k b u (hb b n) q⟩,λb u q n _=>by rw[aH (hx b n)]; exact n,λb u q _=>?_,
   λb xs q=>by rw[aH (hm b _ q λz=>z)]; exact q,λb u xs q=>by rw[aH (hm b _ q λz=>z)]; exact q,λb ps q=>⟨#[],by rw[aH (hm b _ q λz=>z),q]; simp⟩⟩
 by_cases hbe:b=e
 . subst hbe; exact heo
 . exact⟨u,k b u hbe q⟩
end
def j8 (h:Heap) (H:Hp):List Addr:=(List.range h.objs.size).filter λa=>(H a).isSome
def eM (h:Heap) (H:Hp):Heap:=PySem.W.hideAll h (j8 h H)
theorem Ac (h:Heap) (H:Hp):(eM h H).objs.size=h.objs.size:=PySem.W.hideAll_size _ _
theorem vg {o:Obj} (e:h.get? b=some o) (n:H b=none):(eM h H).get? b=some o :=
 PySem.W.hideAll_get _ e λhm=>by have q:(H b).isSome=true:=(EQ.mp hm).2;rw[n] at q; simp at q
theorem vN {o:Obj} (e:(eM h H).get? b=some o):h.get? b=some o/\H b=none:=by
 have e':h.get? b=some o:=PySem.W.of_hideAll (j8 h H) e;refine⟨e',?_⟩;cases q:H b with
 | none=>rfl
 | some x =>
   have hm:b∈j8 h H:=EQ.mpr ⟨Ca.mpr (BZ e'),by simp [q]⟩;have z:(eM h H).get? b=none:=PySem.W.hideAll_none (j8 h H) hm;rw[z] at e; cases e
structure Mod (K:W.Frag) (mg:Str->Option Value) (base:Heap):Prop where
 kin:K.In base
 glob:base.Ns mainGlobals mg
 blt:∃mb,base.Ns builtinsNs mb/\∀x:Str,x≠"__name__"->mb x=bootBuiltins x
 nolimit:base.NoLimit
structure Cx where
 prog:Program
 w:World
 K:W.Frag
 mg:Str->Option Value
 base:Heap
 A:Around
 N:List Str
 s₀:Shared
 H₀:Hp
 env:Env
 outer:List Env
 stack:List Env
 ex:List Addr
 fn:Str->Bool
 calm:Bool
 pn:List (Addr×Obj)
 xe:Value->Shared->Prop
def dO (l:List Env):List Addr:=l.filterMap (·.frame)
abbrev Cx.fs (X:Cx):List Addr:=dO X.outer
def jJ (sc:Scope) (x:Str):Prop:=sc.names.lookup x=some .local\/sc.names.lookup x=some .cell\/sc.names.lookup x=some .free
def gZ (sc:Scope) (x:Str):Prop:=sc.names.lookup x=some .local\/sc.names.lookup x=some .cell
def ya (env:Env) (h:Heap) (m:Str->Option Value) (x:Str) (u:Value):Prop :=
 (env.kindOf x=some .local/\m x=some u)\/((env.kindOf x=some .cell\/env.kindOf x=some .free)/\∃c,env.cells.lookup x=some c/\h.IsCell c (some u))
structure Cx.Ok (X:Cx):Prop where
 mod:Mod X.K X.mg X.base
 kind:X.env.scope.kind=.function
 glob:X.env.globals=mainGlobals
 blt:X.env.builtins=builtinsNs
 above:X.s₀.heap.objs.size<=X.env.locals
 inj:∀x y c,X.env.cells.lookup x=some c->X.env.cells.lookup y=some c->x=y
 has:∀x,(X.env.kindOf x=some .cell\/X.env.kindOf x=some .free)->∃c,X.env.cells.lookup x=some c
 cab:∀x c,X.fn x=true->X.env.cells.lookup x=some c->X.s₀.heap.objs.size<=c
 hd:X.calm=true->X.A.handled=none
 frames:X.A.frames=some X.stack
 stk:X.stack=X.outer\/(X.stack=X.env :: X.outer/\X.env.frame=some X.env.locals)
 exf:∀b∈X.ex,b≠X.env.locals/\∀x c,X.env.cells.lookup x=some c->c≠b
 bs:∀b o,X.base.get? b=some o->X.s₀.heap.get? b=some o/\X.H₀ b=none
 bsz:X.base.objs.size<=X.s₀.heap.objs.size
 noex:∀b o,X.base.get? b=some o->b ∉ X.ex
 exfs:∀b∈X.ex,b ∉ X.fs
 funs:X.s₀.heap.FunFrames X.base X.outer
 frf:∀b∈X.fs,X.H₀ b=none
structure Inv (X:Cx) (pins:List (Addr×Obj)) (σ:List (Option V)) (H:Hp) (s:Shared):Prop where
 ok:X.Ok
 os:s.os=X.s₀.os
 bare:AllBare s.gens
 base:Un X.fs X.ex X.H₀ H X.s₀.heap s.heap
 loc:∃m,s.heap.Ns X.env.locals m/\∀(i:Nat) (x:Str) (v:V),X.N[i]?=some x->σ[i]?=some (some v)->jJ X.env.scope x->∃u,aJ v u/\ya X.env s.heap m x u
 cell:∀x c,X.env.cells.lookup x=some c->∃v,s.heap.IsCell c v
 free:H X.env.locals=none
 freeC:∀x c,X.env.cells.lookup x=some c->H c=none
 pin:∀p∈X.pn++pins,s.heap.get? p.1=some p.2/\H p.1=none/\p.1≠X.env.locals/\p.1 ∉ X.fs/\∀v,p.2.data≠.cell v
 hok:bK X.prog X.w H s.heap
 len:σ.length=X.N.length
variable {u:Value} {t' i:Nat} {x:Str} {M:Model} {A:Around} {E:Value->Shared->Prop} {v:V}
section
variable {X:Cx} {pins:List (Addr×Obj)} {σ:List (Option V)} {H H':Hp} {s:Shared} {h':Heap}
theorem Cx.Ok.nofr (ok:X.Ok) {o:Obj} (e:X.base.get? b=some o):b ∉ X.fs:=λhb=>by have:=(ok.funs.mem hb).1;rw[e] at this; cases this
theorem Inv.bs (I:Inv X pins σ H s):∀b o,X.base.get? b=some o->s.heap.get? b=some o/\H b=none:=λb o e =>
 ⟨I.base.keep b o (I.ok.bs b o e).1 (I.ok.bs b o e).2 (I.ok.nofr e) (I.ok.noex b o e),I.base.free b o (I.ok.bs b o e).1 (I.ok.bs b o e).2 (I.ok.noex b o e)⟩
theorem Inv.bk (I:Inv X pins σ H s):∀b o,X.base.get? b=some o->s.heap.get? b=some o:=λb o e=>(I.bs b o e).1
theorem Inv.mod (I:Inv X pins σ H s):Mod X.K X.mg X.base:=I.ok.mod
theorem Inv.kIn (I:Inv X pins σ H s):X.K.In s.heap:=I.ok.mod.kin.keeps I.bk
theorem Inv.fr (I:Inv X pins σ H s):∃m,Fr X.base X.env.locals s.heap m :=
 let ⟨m,hn,_⟩:=I.loc
 ⟨m,hn,I.bk,Bk I.ok.bsz I.ok.above⟩
theorem Inv.lt (I:Inv X pins σ H s):X.env.locals<s.heap.objs.size:=let ⟨_,hn,_⟩:=I.loc; hn.lt
theorem Inv.sz (I:Inv X pins σ H s):X.s₀.heap.objs.size<=s.heap.objs.size:=Bk I.ok.above (CL I.lt)
theorem Inv.nofs (I:Inv X pins σ H s) (h:s.heap.objs.size<=a):a ∉ X.fs:=λhb=>by obtain⟨_,o,ho,_⟩:=I.ok.funs.mem hb;exact absurd (Bj (BZ ho) (Bk I.sz h)) (C6 _)
theorem Inv.cne (I:Inv X pins σ H s):∀x c,X.env.cells.lookup x=some c->c≠X.env.locals:=λx c e z=>by obtain⟨v,o,ho,hd⟩:=I.cell x c e;obtain⟨m,⟨o',es,ep,ho',hd',_⟩,_⟩:=I.loc;rw[z,ho'] at ho; cases ho; rw[hd'] at hd; cases hd
theorem Inv.funs (I:Inv X pins σ H s):s.heap.FunFrames X.base X.outer:=by
 have all:∀(l:List Env),(∀b∈dO l,b∈X.fs)->X.s₀.heap.FunFrames X.base l->s.heap.FunFrames X.base l:=by
   intro l
   induction l with
   | nil=>intro _ _; trivial
   | cons env r ih =>
     intro hs hl;obtain⟨hk,⟨L,o,hf,hn,ho,hd⟩,hr⟩:=hl;have hL:L∈X.fs:=hs L (by unfold dO; rw[Cn,hf]; exact BU);obtain⟨sl,e⟩:=I.base.slot L o ho (I.ok.frf L hL) hL λz=>I.ok.exfs L z hL;exact⟨hk,⟨L,_,hf,hn,e,hd⟩,ih (λb hb=>hs b (by unfold dO; rw[Cn,hf]; exact BS _ hb)) hr⟩
 exact all X.outer (λ_ hb=>hb) I.ok.funs
theorem Inv.stack (I:Inv X pins σ H s):s.heap.FunFrames X.base X.stack:=by
 rcases I.ok.stk with e|⟨e,hf⟩
 . rw[e]; exact I.funs
 . rw[e];obtain⟨m,hn,_⟩:=I.loc;refine .cons (by rw[I.ok.kind]; decide) hf hn ?_ I.funs;exact Heap.get?_none_of_le (Bk I.ok.bsz I.ok.above)
theorem Inv.stkSub (I:Inv X pins σ H s):∀b∈dO X.stack,b∈X.env.locals :: X.fs:=λb hb=>by
 rcases I.ok.stk with e|⟨e,hf⟩
 . rw[e] at hb; exact BS _ hb
 . rw[e] at hb;unfold dO at hb;rw[Cn,hf] at hb;exact hb
theorem Inv.stkFree (I:Inv X pins σ H s):∀b∈dO X.stack,H b=none:=λb hb=>by
 rcases Be.mp (I.stkSub b hb) with e|hb
 . rw[e]; exact I.free
 . obtain⟨_,o,ho,_⟩:=I.ok.funs.mem hb;exact I.base.free b o ho (I.ok.frf b hb) λz=>I.ok.exfs b z hb
theorem Inv.step {g':Array GenState} {d':Drawn} {ch:List Addr} (I:Inv X pins σ H s)
   (hch:∀b∈ch,(b∈X.ex\/X.s₀.heap.objs.size<=b)/\b≠X.env.locals/\(∀x c,X.env.cells.lookup x=some c->c≠b)/\∀p∈X.pn++pins,p.1≠b)
   (keep:∀b o,b≠X.env.locals->b ∉ X.fs->b ∉ ch->s.heap.get? b=some o->H b=none->h'.get? b=some o)
   (slot:∀b o,b≠X.env.locals->b∈X.fs->b ∉ ch->s.heap.get? b=some o->H b=none->∃sl,h'.get? b=some { o with slots:=sl }) (free:∀b o,b ∉ ch->s.heap.get? b=some o->H b=none->H' b=none)
   (there:∀b o,b ∉ ch->s.heap.get? b=some o->∃o',h'.get? b=some o')
   (tups:∀b xs,H b=some (.tup xs)->H' b=some (.tup xs)) (frzs:∀b o u,H b=some (.frz o u)->H' b=some (.frz o u)) (tbls:∀b ps,H b=some (.tbl ps)->∃more,H' b=some (.tbl (ps++more)))
   (ns:∀m,s.heap.Ns X.env.locals m->h'.Ns X.env.locals m) (hok:bK X.prog X.w H' h') (hg:AllBare g') :
   Inv X pins σ H' { s with heap:=h',gens:=g',drawn:=d',toks:=t' }:=by
 have neL:∀b o,X.s₀.heap.get? b=some o->b≠X.env.locals:=λb o e=>Bu (Bj (BZ e) I.ok.above);have neC:∀b o,X.s₀.heap.get? b=some o->b ∉ X.ex->b ∉ ch:=λb o e hx hb=>by
   rcases (hch b hb).1 with z|z
   . exact hx z
   . exact absurd (Bj (BZ e) z) (C6 _)
 have cellK:∀x c,X.env.cells.lookup x=some c->∀v,s.heap.IsCell c v->h'.IsCell c v:=λx c e v ⟨o,ho,hd⟩=>by
   have nch:c ∉ ch:=λz=>(hch c z).2.2.1 x c e rfl;by_cases hc:c∈X.fs
   . obtain⟨sl,q⟩:=slot c o (I.cne x c e) hc nch ho (I.freeC x c e);exact⟨_,q,hd⟩
   . exact⟨o,keep c o (I.cne x c e) hc nch ho (I.freeC x c e),hd⟩
 refine⟨I.ok,I.os,hg,⟨λb o e n hb hx=>?_,λb o e n hb hx=>?_,λb o e n hx=>?_,λb o e hx=>?_,λb xs e=>tups b xs (I.base.tups b xs e),λb o xs e=>frzs b o xs (I.base.frzs b o xs e),λb ps e=>?_⟩,?_,λx c e=>?_,?_,λx c e=>?_,λp hp=>?_,hok,I.len⟩
 . exact keep b o (neL b o e) hb (neC b o e hx) (I.base.keep b o e n hb hx) (I.base.free b o e n hx)
 . obtain⟨sl,e1⟩:=I.base.slot b o e n hb hx;obtain⟨sl',e2⟩:=slot b _ (neL b o e) hb (neC b o e hx) e1 (I.base.free b o e n hx);exact⟨sl',e2⟩
 . obtain⟨o',e1⟩:=I.base.there b o e hx;exact free b o' (neC b o e hx) e1 (I.base.free b o e n hx)
 . obtain⟨o',e1⟩:=I.base.there b o e hx;exact there b o' (neC b o e hx) e1
 . obtain⟨m1,e1⟩:=I.base.tbls b ps e;obtain⟨m2,e2⟩:=tbls b _ e1;exact⟨m1++m2,by rw[e2,Array.append_assoc]⟩
 . obtain⟨m,hn,hl⟩:=I.loc;refine⟨m,ns m hn,λi x v e1 e2 e3=>?_⟩;obtain⟨u,r,l⟩:=hl i x v e1 e2 e3;refine⟨u,r,?_⟩;rcases l with l|⟨k,c,e,z⟩
   . exact .inl l
   . exact .inr ⟨k,c,e,cellK x c e _ z⟩
 . obtain⟨v,z⟩:=I.cell x c e;exact⟨v,cellK x c e v z⟩
 . obtain⟨m,⟨o,_,_,ho,_⟩,_⟩:=I.loc;exact free _ o (λz=>(hch _ z).2.1 rfl) ho I.free
 . obtain⟨v,o,ho,hd⟩:=I.cell x c e;exact free c o (λz=>(hch c z).2.2.1 x c e rfl) ho (I.freeC x c e)
 . obtain⟨e,n,ne,nf,d⟩:=I.pin p hp;have nch:p.1 ∉ ch:=λz=>(hch p.1 z).2.2.2 p hp rfl;exact⟨keep p.1 p.2 ne nf nch e n,free p.1 p.2 nch e n,ne,nf,d⟩
theorem Inv.un (I:Inv X pins σ H s) (u:Un X.fs [] H H' s.heap h') (hok:bK X.prog X.w H' h'):Inv X pins σ H' { s with heap:=h',toks:=t' }:=by
 obtain⟨m,⟨o,es,ep,ho,r⟩,_⟩:=id I.loc;obtain⟨sl,hL⟩:=u.any ho I.free (by simp);exact I.step (g':=s.gens) (d':=s.drawn) (ch:=[]) (λ_ z=>nomatch z) (λb o _ hb _ e n=>u.keep b o e n hb (by simp)) (λb o _ hb _ e n=>u.slot b o e n hb (by simp)) (λb o _ e n=>u.free b o e n (by simp)) (λb o _ e=>u.there b o e (by simp)) u.tups u.frzs u.tbls (λm' hm=>by obtain⟨o',es',ep',ho',r'⟩:=hm;rw[ho] at ho'; cases ho';exact⟨_,es',ep',hL,r'⟩) hok I.bare
theorem Inv.call {g':Array GenState} {d':Drawn} {ch:List Addr} (I:Inv X pins σ H s) (u:Un (dO X.stack) ch H H' s.heap h') (hok:bK X.prog X.w H' h') (hg:AllBare g')
   (hch:∀b∈ch,(b∈X.ex\/X.s₀.heap.objs.size<=b)/\b≠X.env.locals/\(∀x c,X.env.cells.lookup x=some c->c≠b)/\∀p∈X.pn++pins,p.1≠b) :
   Inv X pins σ H' { s with heap:=h',gens:=g',drawn:=d',toks:=t' }:=by
 obtain⟨m,⟨o,es,ep,ho,r⟩,_⟩:=id I.loc;obtain⟨sl,hL⟩:=u.any ho I.free λz=>(hch _ z).2.1 rfl;exact I.step (ch:=ch) hch (λb o hL hb hc e n=>u.keep b o e n (λz=>(Be.mp (I.stkSub b z)).elim hL hb) hc) (λb o _ _ hc e n=>u.any e n hc) (λb o hc e n=>u.free b o e n hc) (λb o hc e=>u.there b o e hc) u.tups u.frzs u.tbls (λm' hm=>by obtain⟨o',es',ep',ho',r'⟩:=hm;rw[ho] at ho'; cases ho';exact⟨_,es',ep',hL,r'⟩) hok hg
theorem Inv.turned {it:Addr} (I:Inv X pins σ H s) (k:∀b o,b≠it->s.heap.get? b=some o->h'.get? b=some o) (hn:H it=none) (hL:it≠X.env.locals)
   (h1:it∈X.ex\/X.s₀.heap.objs.size<=it) (h2:∀x c,X.env.cells.lookup x=some c->c≠it) (h3:∀p∈X.pn++pins,p.1≠it):Inv X pins σ H { s with heap:=h',toks:=t' }:=by
 have nit:∀b u,H b=some u->b≠it:=λb u e z=>by rw[z,hn] at e; cases e
 refine I.step (g':=s.gens) (d':=s.drawn) (ch:=[it]) (λb hb=>?_) (λb o _ _ hc e _=>k b o (λz=>hc (by simp [z])) e) (λb o _ _ hc e _=>⟨o.slots,k b o (λz=>hc (by simp [z])) e⟩) (λ_ _ _ _ n=>n)
   (λb o hc e=>⟨o,k b o (λz=>hc (by simp [z])) e⟩) (λ_ _ e=>e) (λ_ _ _ e=>e) (λb ps e=>⟨#[],by rw[e]; simp⟩) (λm hm=>?_) (λb u e=>?_) I.bare
 . have e:b=it:=by simpa using hb
   subst e;exact⟨h1,hL,h2,h3⟩
 . obtain⟨o,es,ep,ho,r⟩:=hm;exact⟨o,es,ep,k _ o (Ne.symm hL) ho,r⟩
 . refine(I.hok b u e).stay (λc v hc q=>k c v ?_ q) (λ_ q=>q) λ_ _ q=>q;rcases hc with z|z
   . rw[z]; exact nit b u e
   . exact nit c _ z
theorem Inv.tok (I:Inv X pins σ H s) (t:Nat):Inv X pins σ H { s with toks:=t }:=I.un (h':=s.heap) (t':=t) Un.refl I.hok
theorem Inv.kept {t':Nat} (I:Inv X pins σ H s) (k:∀b u,s.heap.get? b=some u->h'.get? b=some u):Inv X pins σ H { s with heap:=h',toks:=t' }:=I.un (Un.kept k) (I.hok.kept k)
theorem Inv.laid {a:Addr} {o:HO} {t':Nat} (I:Inv X pins σ H s) (k:∀b u,s.heap.get? b=some u->h'.get? b=some u) (hp:s.heap.objs.size<=a) (new:bH X.prog X.w (upd H a o) h' a o) :
   Inv X pins σ (upd H a o) { s with heap:=h',toks:=t' }:=I.un (Un.laid k hp (I.hok.fresh hp)) (I.hok.laid k hp new)
theorem Inv.write {x e:Addr} {o:HO} {t':Nat} (I:Inv X pins σ H s) (mu:iJ (H x)) (he:e=x\/H e=some (.own x)) (k:∀b u,b≠e->s.heap.get? b=some u->h'.get? b=some u) (heo:∃u,h'.get? e=some u)
   (new:bH X.prog X.w (upd H x o) h' x o):Inv X pins σ (upd H x o) { s with heap:=h',toks:=t' }:=I.un (Un.write mu he k heo) (I.hok.write mu he k heo new)
theorem Inv.weak {σ':List (Option V)} (I:Inv X pins σ H s) (hl:σ'.length=σ.length) (w:∀(i:Nat) v,σ'[i]?=some (some v)->σ[i]?=some (some v)):Inv X pins σ' H s :=
 ⟨I.ok,I.os,I.bare,I.base,let ⟨m,hn,hl'⟩:=I.loc; ⟨m,hn,λi x v e1 e2 e3=>hl' i x v e1 (w i v e2) e3⟩,I.cell,I.free,I.freeC,I.pin,I.hok,hl.trans I.len⟩
theorem Inv.pins_of {pins':List (Addr×Obj)} (I:Inv X pins σ H s) (h:∀p∈pins',s.heap.get? p.1=some p.2/\H p.1=none/\p.1≠X.env.locals/\p.1 ∉ X.fs/\∀v,p.2.data≠.cell v):Inv X pins' σ H s :=
 ⟨I.ok,I.os,I.bare,I.base,I.loc,I.cell,I.free,I.freeC,λp hp=>(C5.mp hp).elim (λz=>I.pin p (C8 _ z)) (h p),I.hok,I.len⟩
theorem oM {N:List Str} (hN:N.Nodup) {j:Nat}(a:N[i]?=some x) (b:N[j]?=some x):i=j:=by obtain⟨h1,e1⟩:=BC.mp a;obtain⟨h2,e2⟩:=BC.mp b;exact(List.getElem_inj hN).mp (e1.trans e2.symm)
theorem pH {Q:Unit->Shared->Prop} (I:Inv X pins σ H s) (hN:X.N.Nodup) (hi:X.N[i]?=some x) (hx:gZ X.env.scope x) (r:aJ v u)
   (h:∀s',Inv X pins (σ.set i (some v)) H s'->(∃a,Heap.SameBut a s.heap s'.heap/\(a=X.env.locals\/X.env.cells.lookup x=some a))->Q () s') (hf:X.fn x=true\/X.env.scope.names.lookup x=some .local:=by first|exact .inl rfl|exact .inr rfl|assumption):wpAny M A (storeName X.env x u) Q E s:=by
 obtain⟨m,hn,hl⟩:=id I.loc;have hcls:(X.env.scope.kind==.class || (X.env.scope.kind==.module&&X.env.locals != X.env.globals))=false:=by rw[I.ok.kind]; rfl
 have hiσ:i<σ.length:=by rw[I.len]; exact(BC.mp hi).1
 have cne:=I.cne;have tracked:∀{a:Addr} {h':Heap},(∃o,s.heap.get? a=some o/\H a=none)->Heap.SameBut a s.heap h'->bK X.prog X.w H h':=λ{a h'} ha hs b ob e=>by
   obtain⟨_,_,hfree⟩:=ha;refine(I.hok b ob e).stay (λc w' hc q=>(hs.2 c ?_).trans q) (λ_ q=>q) λ_ _ q=>q;rintro rfl;rcases hc with rfl|hc
   . rw[hfree] at e; cases e
   . rw[hfree] at hc; cases hc
 rcases hx with hk|hk
 . refine wpAny_storeName_local hk hn (λh' hn' hs=>?_) hcls;obtain⟨oL,_,_,hoL,_⟩:=id hn;refine h _ ⟨I.ok,I.os,I.bare,⟨λb o e n hb hx=>?_,λb o e n hb hx=>?_,I.base.free,λb o e hx=>?_,I.base.tups,I.base.frzs,I.base.tbls⟩,⟨_,hn',λj y v' e1 e2 e3=>?_⟩,λy c e=>?_,I.free,I.freeC,λp hp=>?_,tracked ⟨oL,hoL,I.free⟩ hs,by simpa using I.len⟩ ⟨_,hs,.inl rfl⟩
   . exact(hs.2 b (Bu (Bj (BZ e) I.ok.above))).trans (I.base.keep b o e n hb hx)
   . obtain⟨sl,e1⟩:=I.base.slot b o e n hb hx;exact⟨sl,(hs.2 b (Bu (Bj (BZ e) I.ok.above))).trans e1⟩
   . obtain⟨o',e1⟩:=I.base.there b o e hx;exact⟨o',(hs.2 b (Bu (Bj (BZ e) I.ok.above))).trans e1⟩
   . by_cases hj:j=i
     . subst hj;rw[hi] at e1; cases e1;rw[DV hiσ] at e2;cases e2;exact⟨u,r,.inl ⟨hk,by simp⟩⟩
     . rw[C' (Ne.symm hj)] at e2;obtain⟨u',r',q⟩:=hl j y v' e1 e2 e3;refine⟨u',r',?_⟩;rcases q with⟨k,e⟩|⟨k,c,e,z⟩
       . refine .inl ⟨k,?_⟩;have:y≠x:=λe=>hj (oM hN e1 (e ▸ hi));simp [this,e]
       . exact .inr ⟨k,c,e,z.sameBut hs (cne y c e)⟩
   . obtain⟨w',z⟩:=I.cell y c e;exact⟨w',z.sameBut hs (cne y c e)⟩
   . obtain⟨e,n,ne,nf,d⟩:=I.pin p hp;exact⟨(hs.2 p.1 ne).trans e,n,ne,nf,d⟩
 . have dq:X.fn x=true:=by
     rcases hf with z|z
     . exact z
     . rw[z] at hk; cases hk
   obtain⟨c,hc⟩:=I.ok.has x (.inl hk);obtain⟨w',z⟩:=I.cell x c hc;refine wpAny_storeName_cell I.ok.kind hk hc z (λh' hc' hs=>?_);obtain⟨oc,hoc,hocd⟩:=id z;refine h { s with heap:=h' } ⟨I.ok,I.os,I.bare,⟨λb o e n hb hx=>?_,λb o e n hb hx=>?_,I.base.free,λb o e hx=>?_,I.base.tups,I.base.frzs,I.base.tbls⟩,⟨m,hn.sameBut hs (Ne.symm (cne x c hc)),λj y v' e1 e2 e3=>?_⟩,λy c' e=>?_,I.free,I.freeC,λp hp=>?_,tracked ⟨oc,hoc,I.freeC x c hc⟩ hs,by simpa using I.len⟩ ⟨c,hs,.inr hc⟩
   . exact(hs.2 b (Bu (Bj (BZ e) (I.ok.cab x c dq hc)))).trans (I.base.keep b o e n hb hx)
   . obtain⟨sl,e1⟩:=I.base.slot b o e n hb hx;exact⟨sl,(hs.2 b (Bu (Bj (BZ e) (I.ok.cab x c dq hc)))).trans e1⟩
   . obtain⟨o',e1⟩:=I.base.there b o e hx;exact⟨o',(hs.2 b (Bu (Bj (BZ e) (I.ok.cab x c dq hc)))).trans e1⟩
   . by_cases hj:j=i
     . subst hj;rw[hi] at e1; cases e1;rw[DV hiσ] at e2;cases e2;exact⟨u,r,.inr ⟨.inl hk,c,hc,hc'⟩⟩
     . rw[C' (Ne.symm hj)] at e2;obtain⟨u',r',q⟩:=hl j y v' e1 e2 e3;refine⟨u',r',?_⟩;rcases q with q|⟨k,c',e,z'⟩
       . exact .inl q
       . refine .inr ⟨k,c',e,z'.sameBut hs ?_⟩;rintro rfl;exact hj (oM hN e1 (I.ok.inj _ _ _ e hc ▸ hi))
   . by_cases hcc:c'=c
     . subst hcc; exact⟨_,hc'⟩
     . obtain⟨w2,z2⟩:=I.cell y c' e;exact⟨w2,z2.sameBut hs hcc⟩
   . obtain⟨e,n,ne,nf,d⟩:=I.pin p hp;refine⟨(hs.2 p.1 ?_).trans e,n,ne,nf,d⟩;intro q;rw[q,hoc] at e;have q':oc=p.2:=Option.some.inj e;exact d w' (by rw[<- q']; exact hocd)
theorem k7 {Q:Unit->Shared->Prop} (I:Inv X pins σ H s) (hN:X.N.Nodup) (hi:X.N[i]?=some x) (hx:gZ X.env.scope x) (r:aJ v u)
   (h:∀s',Inv X pins (σ.set i (some v)) H s'->Q () s') (hf:X.fn x=true\/X.env.scope.names.lookup x=some .local:=by first|exact .inl rfl|exact .inr rfl|assumption):wpAny M A (storeName X.env x u) Q E s :=
 pH I hN hi hx r (λs' I' _=>h s' I') hf
theorem Inv.call' {s':Shared} {ch:List Addr} (I:Inv X pins σ H s) (ho:s'.os=s.os) (u:Un (dO X.stack) ch H H' s.heap s'.heap) (hok:bK X.prog X.w H' s'.heap) (hg:AllBare s'.gens)
   (hch:∀b∈ch,(b∈X.ex\/X.s₀.heap.objs.size<=b)/\b≠X.env.locals/\(∀x c,X.env.cells.lookup x=some c->c≠b)/\∀p∈X.pn++pins,p.1≠b):Inv X pins σ H' s':=by
 obtain⟨h',g',d',t',o'⟩:=s';have e:o'=s.os:=ho;subst e;exact I.call (g':=g') (t':=t') (d':=d') u hok hg hch
end
abbrev XK:=Value->Option Addr->Hp->Prop
abbrev St:=List (Option V)
abbrev VK:=V->Hp->Prop
abbrev TE:=St->Hp->VK->Prop
abbrev TT:=St->Hp->(Bool->Hp->Prop)->Prop
abbrev TA:=St->Hp->(List V->Hp->Prop)->Prop
structure Ends where
 nx:St->Hp->Prop
 rt:VK
 bk:St->Hp->Prop:=λ_ _=>False
 ct:St->Hp->Prop:=λ_ _=>False
abbrev TS:=Ends->St->Hp->Prop
def EP (X:Cx) (pins:List (Addr×Obj)) (σ:St) (Q:VK) (u:Value) (s':Shared):Prop:=∃v H',Inv X pins σ H' s'/\aJ v u/\Q v H'
def TP (X:Cx) (pins:List (Addr×Obj)) (σ:St) (Q:Bool->Hp->Prop) (b:Bool) (s':Shared):Prop:=∃H',Inv X pins σ H' s'/\Q b H'
def AP (X:Cx) (pins:List (Addr×Obj)) (σ:St) (Q:List V->Hp->Prop) (us:List Value) (s':Shared):Prop:=∃vs H',Inv X pins σ H' s'/\aI vs us/\Q vs H'
def SP (X:Cx) (pins:List (Addr×Obj)) (D:Ends) (f:Flow) (s':Shared):Prop :=
 match f with
 | .next=>∃σ' H',Inv X pins σ' H' s'/\D.nx σ' H'
 | .brk=>∃σ' H',Inv X pins σ' H' s'/\D.bk σ' H'
 | .cont=>∃σ' H',Inv X pins σ' H' s'/\D.ct σ' H'
 | .ret u=>∃v σ' H',Inv X pins σ' H' s'/\aJ v u/\D.rt v H'
def PE (X:Cx) (e:Expr) (t:TE):Prop :=
 ∀(pins:List (Addr×Obj)) (s:Shared) (σ:St) (H:Hp) (Q:VK),Inv X pins σ H s->t σ H Q->wpAny (model X.prog X.w) X.A (eval e X.env) (EP X pins σ Q) X.xe s
def PT (X:Cx) (e:Expr) (t:TT):Prop :=
 ∀(pins:List (Addr×Obj)) (s:Shared) (σ:St) (H:Hp) (Q:Bool->Hp->Prop),Inv X pins σ H s->t σ H Q->wpAny (model X.prog X.w) X.A (isTrue e X.env (eval e X.env)) (TP X pins σ Q) X.xe s
def PW (X:Cx) (e:Expr) (t:TT):Prop :=
 ∀(whole:Sem Value) (pins:List (Addr×Obj)) (s:Shared) (σ:St) (H:Hp) (Q:Bool->Hp->Prop),Inv X pins σ H s->t σ H Q->wpAny (model X.prog X.w) X.A (isTrue e X.env whole) (TP X pins σ Q) X.xe s
theorem PW.pt {X:Cx} {e:Expr} {t:TT} (h:PW X e t):PT X e t:=h _
def PA (X:Cx) (es:List Expr) (t:TA):Prop :=
 ∀(pos:Pos) (pins:List (Addr×Obj)) (s:Shared) (σ:St) (H:Hp) (Q:List V->Hp->Prop),Inv X pins σ H s->t σ H Q->wpAny (model X.prog X.w) X.A (spliced (backTo pos (starEach es X.env))) (AP X pins σ Q) X.xe s
def PS (X:Cx) (st:Stmt) (t:TS):Prop :=
 ∀(pins:List (Addr×Obj)) (s:Shared) (σ:St) (H:Hp) (D:Ends),Inv X pins σ H s->t D σ H->wpAny (model X.prog X.w) X.A (exec st X.env) (SP X pins D) X.xe s
def cB (X:Cx) (st:List Stmt) (t:TS):Prop :=
 ∀(pins:List (Addr×Obj)) (s:Shared) (σ:St) (H:Hp) (D:Ends),Inv X pins σ H s->t D σ H->wpAny (model X.prog X.w) X.A (execs st X.env) (SP X pins D) X.xe s
variable {s:Shared}
theorem aF {α:Type} {t:Sem α} {Q Q':α->Shared->Prop} (h:wpAny M A t Q E s) (hQ:∀a s,Q a s->Q' a s):wpAny M A t Q' E s:=DM h hQ λ_ _ x=>x
variable {pos:Pos} {pins:List (Addr×Obj)} {σ:St} {op:CmpOp} {e:Expr}
section
variable {X:Cx}
def oF (i:Nat):TE:=λσ H Q=>∃v,σ[i]?=some (some v)/\Q v H
def tC (v:V):TE:=λ_ H Q=>Q v H
theorem xM (hN:X.N[i]?=some x) (hv:jJ X.env.scope x) (hd:(x==("__debug__":Str))=false:=by decide) (hcd:(x==("__classdict__":Str))=false:=by decide):PE X (.Name x pos) (oF i):=by
 intro pins s σ H Q I h;obtain⟨v,e,h⟩:=h;obtain⟨m,hn,hl⟩:=I.loc;obtain⟨u,r,l⟩:=hl i x v hN e hv;have fin:EP X pins σ Q u s:=⟨v,H,I,r,h⟩
 rcases l with⟨hk,hm⟩|⟨hk,c,hc,hcell⟩
 . exact wpAny_Name (wpAny_loadName_local I.ok.kind hk hn hm fin) hd
 . rcases hk with hk|hk
   . exact wpAny_Name (wpAny_loadName_cell I.ok.kind hk hc hcell fin) hd
   . exact wpAny_Name (wpAny_loadName_free I.ok.kind hk hc hcell fin hcd) hd
theorem a6 {i j pos}:PE X (.Constant (.int i) j pos) (tC (.int i)):=λ_ _ _ H _ I h=>wpAny_Constant_int ⟨.int i,H,I.tok _,⟨_,rfl⟩,h⟩
theorem bQ {b j pos}:PE X (.Constant (.bool b) j pos) (tC (.bl b)):=λ_ _ _ H _ I h=>Constant_bool ⟨.bl b,H,I,rfl,h⟩
theorem gi {j pos}:PE X (.Constant .none j pos) (tC .non):=λ_ _ _ H _ I h=>Constant_none ⟨.non,H,I,rfl,h⟩
theorem af {x j pos}:PE X (.Constant (.str x) j pos) (tC (.str x)):=λ_ _ _ H _ I h=>Calls.Constant_str ⟨.str x,H,I.tok _,⟨_,rfl⟩,h⟩
def Gl (X:Cx) (x:Str):Prop:=X.env.kindOf x=some .globalImplicit
theorem jY {Q:Value->Shared->Prop} (I:Inv X pins σ H s) (hg:Gl X x) (hm:X.mg x=some u) (h:Q u s)
   (hd:(x==("__debug__":Str))=false:=by decide):wpAny (model X.prog X.w) X.A (eval (.Name x pos) X.env) Q E s :=
 Calls.Name_function_global I.ok.kind hg (Calls.loadGlobal_global (by rw[I.ok.glob]; exact I.mod.glob.keeps I.bk) hm h) hd
theorem eY {Q:Value->Shared->Prop} (I:Inv X pins σ H s) (hg:Gl X x) (hm:X.mg x=none) (hv:bootBuiltins x=some u) (h:Q u s)
   (hn:x≠"__name__":=by decide) (hd:(x==("__debug__":Str))=false:=by decide):wpAny (model X.prog X.w) X.A (eval (.Name x pos) X.env) Q E s:=by
 obtain⟨mb,h1,h2⟩:=I.mod.blt;exact Calls.Name_function_global I.ok.kind hg (Calls.loadGlobal_builtin (by rw[I.ok.glob]; exact I.mod.glob.keeps I.bk) hm (by rw[I.ok.blt]; exact h1.keeps I.bk) ((h2 x hn).trans hv) h) hd
theorem nP (hg:Gl X x) (hm:X.mg x=some u) (r:aJ v u) (hd:(x==("__debug__":Str))=false:=by decide):PE X (.Name x pos) (tC v) :=
 λ_ _ _ H _ I h=>jY I hg hm ⟨v,H,I,r,h⟩ hd
theorem fW (hg:Gl X x) (hm:X.mg x=none) (hv:bootBuiltins x=some u) (r:aJ v u) (hn:x≠"__name__":=by decide) (hd:(x==("__debug__":Str))=false:=by decide):PE X (.Name x pos) (tC v) :=
 λ_ _ _ H _ I h=>eY I hg hm hv ⟨v,H,I,r,h⟩ hn hd
variable {a b:Expr} {ta tb:TE} {pos:Pos}
def PC (X:Cx) (op:CmpOp) (a b:Expr) (t:TE):Prop :=
 ∀(pins:List (Addr×Obj)) (s:Shared) (σ:St) (H:Hp) (Q:VK),Inv X pins σ H s->t σ H Q ->
   wpAny (model X.prog X.w) X.A (eval a X.env) (λv s₁=>wpAny (model X.prog X.w) X.A (eval b X.env) (λu s₂=>wpAny (model X.prog X.w) X.A (compareOp op v u) (EP X pins σ Q) X.xe s₂) X.xe s₁) X.xe s
theorem wA (b:Expr) (h:op≠.In) (h2:op≠.NotIn):behindInMarks op b=false:=by
 have e1:(op==CmpOp.In)=false:=by cases op <;> first|rfl|exact absurd rfl h
 have e2:(op==CmpOp.NotIn)=false:=by cases op <;> first|rfl|exact absurd rfl h2
 cases b <;> simp [behindInMarks,e1,e2]
def xo (ta:TE):TE:=λσ H Q=>ta σ H λx H1=>Q (.bl (decide (x=.non))) H1
def Au (ta:TE):TE:=λσ H Q=>ta σ H λx H1=>Q (.bl (!decide (x=.non))) H1
theorem aJ.none_iff {x:V} {v:Value} (r:aJ x v):(v==Value.none)=decide (x=.non):=by
 cases x with
 | non=>cases r; rfl
 | bl _=>cases r; rfl
 | int _=>obtain⟨t,rfl⟩:=r; rfl
 | str _=>obtain⟨t,rfl⟩:=r; rfl
 | byt _=>obtain⟨t,rfl⟩:=r; rfl
 | flt _=>obtain⟨t,rfl⟩:=r; rfl
 | ref _=>cases r; rfl
 | ty _=>cases r; rfl
theorem um {j pos'} (ha:PE X a ta):PC X .Is a (.Constant .none j pos') (xo ta):=by intro pins s σ H Q I h;refine aF (ha pins s σ H _ I h) λv s1 ⟨x,H1,I1,r1,q1⟩=>?_;exact Constant_none (is_none_gen ⟨.bl _,H1,I1,by rw[r1.none_iff]; rfl,q1⟩)
theorem Aq {j pos'} (ha:PE X a ta):PC X .IsNot a (.Constant .none j pos') (Au ta):=by intro pins s σ H Q I h;refine aF (ha pins s σ H _ I h) λv s1 ⟨x,H1,I1,r1,q1⟩=>?_;exact Constant_none (isnot_none_gen ⟨.bl _,H1,I1,by rw[r1.none_iff]; rfl,q1⟩)
def tB (t:TE):TT:=λσ H Q=>t σ H λx H1=>∃c,x=.bl c/\Q c H1
theorem lh {t:TE} (h:PC X op a b t) (h1:behindInMarks op b=false:=by first|exact wA _ (by decide) (by decide)|rfl):PT X (.Compare a [op] [b] pos) (tB t):=by intro pins s σ H Q I hw;refine wpAny_isTrue_Compare1 (aF (h pins s σ H _ I hw) λv s1 h1=>aF h1 λu s2 h2=>aF h2 λc s3 ⟨x,H1,I1,r1,q1⟩=>?_) h1;obtain⟨d,rfl,q⟩:=q1;cases r1;exact CV ⟨H1,I1,q⟩
theorem cu {t:TE} (h:PE X e t) (he:∀whole,isTrue e X.env whole=(do let v <- whole; standAt e.pos; holding [v] (truthy v)):=by intro _; rfl):PT X e (tB t):=by intro pins s σ H Q I hw;refine isTrue_plain (aF (h pins s σ H _ I hw) λv s1 ⟨x,H1,I1,r1,q1⟩=>?_) (he _);obtain⟨d,rfl,q⟩:=q1;cases r1;exact CV ⟨H1,I1,q⟩
variable {tA tB':TT} {rest:List Expr}
def Ax (t u:TT):TT:=λσ H Q=>t σ H λc H1=>if c=true then u σ H1 Q else Q false H1
def tOr (t u:TT):TT:=λσ H Q=>t σ H λc H1=>if c=true then Q true H1 else u σ H1 Q
def zR (t:TT):TT:=λσ H Q=>t σ H λc H1=>Q (!c) H1
theorem cV (ha:PT X a tA):PW X (.BoolOp .And [a] pos) tA:=by
 intro wh pins s σ H Q I h;refine isTrue_and (aF (ha pins s σ H Q I h) λc s1 e=>?_);cases c with
 | true=>exact isTrue_and_nil e
 | false=>exact e
theorem g7 (ha:PT X a tA):PW X (.BoolOp .Or [a] pos) tA:=by
 intro wh pins s σ H Q I h;refine isTrue_or (aF (ha pins s σ H Q I h) λc s1 e=>?_);cases c with
 | false=>exact isTrue_or_nil e
 | true=>exact e
theorem cT (ha:PT X a tA) (hb:PW X (.BoolOp .And (b :: rest) pos) tB'):PW X (.BoolOp .And (a :: b :: rest) pos) (Ax tA tB'):=by
 intro wh pins s σ H Q I h;refine isTrue_and (aF (ha pins s σ H _ I h) λc s1 ⟨H1,I1,q1⟩=>?_);cases c with
 | true=>exact hb wh pins s1 σ H1 Q I1 q1
 | false=>exact⟨H1,I1,q1⟩
theorem fj (ha:PT X a tA) (hb:PW X (.BoolOp .Or (b :: rest) pos) tB'):PW X (.BoolOp .Or (a :: b :: rest) pos) (tOr tA tB'):=by
 intro wh pins s σ H Q I h;refine isTrue_or (aF (ha pins s σ H _ I h) λc s1 ⟨H1,I1,q1⟩=>?_);cases c with
 | true=>exact⟨H1,I1,q1⟩
 | false=>exact hb wh pins s1 σ H1 Q I1 q1
theorem dU (ha:PT X a tA):PT X (.UnaryOp .Not a pos) (zR tA):=by intro pins s σ H Q I h;exact isTrue_not (ha pins s σ H (λc H1=>Q (!c) H1) I h)
def tL (ta tb:TE):TE:=λσ H Q=>ta σ H λx H1=>∃c,x=.bl c/\if c=true then tb σ H1 Q else Q (.bl false) H1
def As (ta:TE):TE:=λσ H Q=>ta σ H λx H1=>∃c,x=.bl c/\Q (.bl (!c)) H1
theorem iy {op} {t:TE} (h:PE X a t):PE X (.BoolOp op [a] pos) t:=λpins s σ H Q I hw=>BoolOp_one (h pins s σ H Q I hw)
theorem i8 (ha:PE X a ta) (hb:PE X (.BoolOp .And (b :: rest) pos) tb):PE X (.BoolOp .And (a :: b :: rest) pos) (tL ta tb):=by
 intro pins s σ H Q I h;refine BoolOp_and (aF (ha pins s σ H _ I h) λv s1 ⟨x,H1,I1,r1,q1⟩=>?_);obtain⟨c,rfl,q1⟩:=q1;cases r1;refine CV ?_;cases c with
 | true=>exact hb pins s1 σ H1 Q I1 q1
 | false=>exact⟨.bl false,H1,I1,rfl,q1⟩
theorem tP (ha:PE X a ta):PE X (.UnaryOp .Not a pos) (As ta):=by intro pins s σ H Q I h;refine UnaryOp_ (aF (ha pins s σ H _ I h) λv s1 ⟨x,H1,I1,r1,q1⟩=>?_);obtain⟨c,rfl,q1⟩:=q1;cases r1;exact not_of (CV ⟨.bl (!c),H1,I1,rfl,q1⟩)
def tIf (t:TT) (ta tb:TE):TE:=λσ H Q=>t σ H λc H1=>if c=true then ta σ H1 Q else tb σ H1 Q
theorem kY {c:Expr} (hc:PT X c tA) (ha:PE X a ta) (hb:PE X b tb):PE X (.IfExp c a b pos) (tIf tA ta tb):=by
 intro pins s σ H Q I h;refine wpAny_IfExp (aF (hc pins s σ H _ I h) λd s1 ⟨H1,I1,q1⟩=>?_);cases d with
 | true=>exact ha pins s1 σ H1 Q I1 q1
 | false=>exact hb pins s1 σ H1 Q I1 q1
end
def aA (K:W.Frag) (H:Hp) (a:Addr) (xs:List V):Prop :=
 Rd H a (.lst xs) \/
   ∃(o:Obj) (its:Array Value) (n:Nat),K.lookup a=some o/\o.cls=.type "list"/\o.dict=none/\o.data=.seq its n/\its.size<=sizeLine/\aI xs its.toList
def a9 (K:W.Frag) (H:Hp) (a:Addr) (xs:List V):Prop :=
 Rd H a (.tup xs) \/
   ∃(o:Obj) (its:Array Value) (n:Nat),K.lookup a=some o/\o.cls=.type "tuple"/\o.data=.seq its n/\its.size<=sizeLine/\aI xs its.toList
def uk:Value->Option V
 | .none=>some .non
 | .bool b=>some (.bl b)
 | .int i _=>some (.int i)
 | .str x _=>some (.str x)
 | .bytes b _=>some (.byt b)
 | .float b _=>some (.flt b)
 | .ref a=>some (.ref a)
 | .type n=>some (.ty n)
 | _=>none
theorem aJ.abs {x:V} (r:aJ x u):uk u=some x:=by
 cases x with
 | non=>cases r; rfl
 | bl _=>cases r; rfl
 | int _=>obtain⟨t,rfl⟩:=r; rfl
 | str _=>obtain⟨t,rfl⟩:=r; rfl
 | byt _=>obtain⟨t,rfl⟩:=r; rfl
 | flt _=>obtain⟨t,rfl⟩:=r; rfl
 | ref _=>cases r; rfl
 | ty _=>cases r; rfl
theorem aJ.inj {x y:V} {u:Value} (r:aJ x u) (q:aJ y u):x=y:=Option.some.inj (r.abs.symm.trans q.abs)
theorem aI.inj:∀{xs ys:List V} {us:List Value},aI xs us->aI ys us->xs=ys
 | _,_,_,.nil,.nil=>rfl
 | _,_,_,.cons r t,.cons r' t'=>by rw[r.inj r',aI.inj t t']
variable {K:W.Frag}
section
variable {X:Cx} {pins:List (Addr×Obj)} {σ:St} {H:Hp} {s:Shared} {a:Addr} {xs ys:List V}
theorem aA.of (h:H a=some (.lst xs)):aA K H a xs:=.inl (.inl h)
theorem a9.of (h:H a=some (.tup xs)):a9 K H a xs:=.inl (.inl h)
theorem Inv.list (I:Inv X pins σ H s) (h:aA X.K H a xs):∃its:List Value,aI xs its/\PlainL s.heap a its.toArray/\xs.length<=sizeLine:=by
 rcases h with h|⟨o,its,n,hk,hc,hd,hs,hz,r⟩
 . obtain⟨z,its,n,r,e⟩:=h.ok I.hok;exact⟨its,r,⟨_,n,e,rfl,rfl,rfl⟩,z⟩
 . refine⟨its.toList,r,⟨o,n,I.kIn a o hk,hc,hd,by simpa using hs⟩,?_⟩;have e:=r.length;simp only[C1] at e;omega
theorem Inv.tuple (I:Inv X pins σ H s) (h:a9 X.K H a xs):∃its:List Value,aI xs its/\IsTup s.heap a its.toArray/\xs.length<=sizeLine:=by
 rcases h with h|⟨o,its,n,hk,hc,hs,hz,r⟩
 . obtain⟨z,its,r,p⟩:=h.ok I.hok;exact⟨its,r,p,z⟩
 . refine⟨its.toList,r,⟨o,I.kIn a o hk,hc,n,by simpa using hs⟩,?_⟩;have e:=r.length;simp only[C1] at e;omega
theorem Inv.list_inj (I:Inv X pins σ H s) (h:aA X.K H a xs) (h':aA X.K H a ys):xs=ys:=by
 obtain⟨its,r,⟨o,n,e,_,_,d⟩,_⟩:=I.list h;obtain⟨its',r',⟨o',n',e',_,_,d'⟩,_⟩:=I.list h';rw[e] at e'; cases e';rw[d] at d';injection d' with d1 _
 have:its=its':=by simpa using Bv Array.toList d1
 subst this;exact r.inj r'
theorem Inv.tuple_inj (I:Inv X pins σ H s) (h:a9 X.K H a xs) (h':a9 X.K H a ys):xs=ys:=by
 obtain⟨its,r,⟨o,e,_,n,d⟩,_⟩:=I.tuple h;obtain⟨its',r',⟨o',e',_,n',d'⟩,_⟩:=I.tuple h';rw[e] at e'; cases e';rw[d] at d';injection d' with d1 _
 have:its=its':=by simpa using Bv Array.toList d1
 subst this;exact r.inj r'
end
abbrev Cx.wish (X:Cx) (E:Value->Shared->Prop):Cx:={ X with xe:=E }
abbrev Cx.nox (X:Cx):Cx:=X.wish λ_ _=>False
variable {X:Cx}
theorem Cx.Ok.wish (ok:X.Ok) (E:Value->Shared->Prop):(X.wish E).Ok :=
 ⟨ok.mod,ok.kind,ok.glob,ok.blt,ok.above,ok.inj,ok.has,ok.cab,ok.hd,ok.frames,ok.stk,ok.exf,ok.bs,ok.bsz,ok.noex,ok.exfs,ok.funs,ok.frf⟩
theorem Cx.Ok.unwish (ok:(X.wish E).Ok):X.Ok :=
 ⟨ok.mod,ok.kind,ok.glob,ok.blt,ok.above,ok.inj,ok.has,ok.cab,ok.hd,ok.frames,ok.stk,ok.exf,ok.bs,ok.bsz,ok.noex,ok.exfs,ok.funs,ok.frf⟩
section
variable {X:Cx} {pins:List (Addr×Obj)} {σ:St} {H:Hp} {s:Shared} {E:Value->Shared->Prop}
theorem Inv.wish (I:Inv X pins σ H s) (E:Value->Shared->Prop):Inv (X.wish E) pins σ H s:=⟨I.ok.wish E,I.os,I.bare,I.base,I.loc,I.cell,I.free,I.freeC,I.pin,I.hok,I.len⟩
theorem Inv.unwish (I:Inv (X.wish E) pins σ H s):Inv X pins σ H s:=⟨I.ok.unwish,I.os,I.bare,I.base,I.loc,I.cell,I.free,I.freeC,I.pin,I.hok,I.len⟩
theorem SP.unwish {D:Ends} {f:Flow} {s':Shared} (h:SP (X.wish E) pins D f s'):SP X pins D f s':=by
 cases f with
 | next=>obtain⟨σ',H',I,q⟩:=h; exact⟨σ',H',I.unwish,q⟩
 | brk=>obtain⟨σ',H',I,q⟩:=h; exact⟨σ',H',I.unwish,q⟩
 | cont=>obtain⟨σ',H',I,q⟩:=h; exact⟨σ',H',I.unwish,q⟩
 | ret u=>obtain⟨v,σ',H',I,r,q⟩:=h; exact⟨v,σ',H',I.unwish,r,q⟩
theorem cB.nox {st:List Stmt} {t:TS} (h:cB X.nox st t):cB X st t:=λpins s σ H D I hw =>
 DM (h pins s σ H D (I.wish _) hw) (λ_ _ q=>q.unwish) λ_ _ z=>False.elim z
end
section
variable {X:Cx} {st:Stmt} {rest:List Stmt} {t u:TS} {e:Expr} {te:TE} {pos:Pos}
def B0:TS:=λD σ H=>D.nx σ H
def zE (t u:TS):TS:=λD σ H=>t { D with nx:=u D } σ H
theorem aX:cB X [] B0:=λ_ _ σ H _ I h=>Dj ⟨σ,H,I,h⟩
theorem aC (h1:PS X st t) (h2:cB X rest u):cB X (st :: rest) (zE t u):=by
 intro pins s σ H D I h;refine EB (aF (h1 pins s σ H { D with nx:=u D } I h) λf s1 q=>?_);cases f with
 | next =>
   obtain⟨σ',H',I',q⟩:=q;exact h2 pins s1 σ' H' D I' q
 | ret v=>exact q
 | brk=>exact q
 | cont=>exact q
theorem aE (h1:PS X st t):cB X [st] t:=by
 intro pins s σ H D I h;refine EB (aF (h1 pins s σ H D I h) λf s1 q=>?_);cases f with
 | next=>exact Dj q
 | ret v=>exact q
 | brk=>exact q
 | cont=>exact q
theorem Inv.quiet (I:Inv X pins σ H s):interactive X.env=false:=by simp [interactive,I.ok.kind]
def tH (te:TE):TS:=λD σ H=>te σ H λ_ H1=>D.nx σ H1
theorem bS (he:PE X e te) (hs:swapsWith e none pos.line X.env=pure false:=by rfl):PS X (.Expr e pos) (tH te):=by intro pins s σ H D I h;exact wpAny_Expr_any (aF (he pins s σ H _ I h) λv s1 ⟨x,H1,I1,r1,q1⟩=>⟨σ,H1,I1,q1⟩) I.quiet hs
def xD (te:TE):TS:=λD σ H=>te σ H D.rt
theorem aQ (he:PE X e te):PS X (.Return (some e) pos) (xD te):=by intro pins s σ H D I h;exact wpAny_Return_some (aF (he pins s σ H _ I h) λv s1 ⟨x,H1,I1,r1,q1⟩=>⟨x,σ,H1,I1,r1,q1⟩)
def zF (c:TT) (t u:TS):TS:=λD σ H=>c σ H λb H1=>if b=true then t D σ H1 else u D σ H1
theorem aT {c:Expr} {a b:List Stmt} {tc:TT} (hc:PT X c tc) (ha:cB X a t) (hb:cB X b u):PS X (.If c a b pos) (zF tc t u):=by
 intro pins s σ H D I h;refine wpAny_If (aF (hc pins s σ H _ I h) λd s1 ⟨H1,I1,q1⟩=>?_);cases d with
 | true=>exact ha pins s1 σ H1 D I1 q1
 | false=>exact hb pins s1 σ H1 D I1 q1
def vQ:TS:=λ_ _ _=>False
theorem xI {sts:List Stmt}:cB X sts vQ:=λ_ _ _ _ _ _ h=>h.elim
end
abbrev TG:=V->St->Hp->(St->Hp->Prop)->Prop
abbrev eK:=List V->St->Hp->(St->Hp->Prop)->Prop
def PG (X:Cx) (target:Expr) (t:TG):Prop :=
 ∀(pins:List (Addr×Obj)) (s:Shared) (σ:St) (H:Hp) (v:V) (u:Value) (Q:St->Hp->Prop),Inv X pins σ H s->aJ v u->t v σ H Q ->
   wpAny (model X.prog X.w) X.A (assign target X.env u) (λ_ s'=>∃σ' H',Inv X pins σ' H' s'/\Q σ' H') X.xe s
def iD (X:Cx) (ts:List Expr) (t:eK):Prop :=
 ∀(pins:List (Addr×Obj)) (s:Shared) (σ:St) (H:Hp) (vs:List V) (us:List Value) (Q:St->Hp->Prop),Inv X pins σ H s->aI vs us->t vs σ H Q ->
   wpAny (model X.prog X.w) X.A (assignInOrder ((assignEach ts X.env).map (·.2)) us) (λ_ s'=>∃σ' H',Inv X pins σ' H' s'/\Q σ' H') X.xe s
abbrev jb:=V->V->V->Hp->(Hp->Prop)->Prop
def nC (X:Cx) (t:jb):Prop :=
 ∀(pins:List (Addr×Obj)) (s:Shared) (σ:St) (H:Hp) (o i v:V) (ov iv u:Value) (Q:Hp->Prop),Inv X pins σ H s->aJ o ov->aJ i iv->aJ v u->t o i v H Q ->
   wpAny (model X.prog X.w) X.A (setItem ov iv u) (λ_ s'=>∃H',Inv X pins σ H' s'/\Q H') X.xe s
abbrev iP:=V->V->Hp->VK->Prop
def PIp (X:Cx) (op:Operator) (t:iP):Prop :=
 ∀(pins:List (Addr×Obj)) (s:Shared) (σ:St) (H:Hp) (x y:V) (v u:Value) (Q:VK),Inv X pins σ H s->aJ x v->aJ y u->t x y H Q ->
   wpAny (model X.prog X.w) X.A (inplaceOp op v u) (EP X pins σ Q) X.xe s
variable {tg:Expr} {te:TE} {g:TG}
section
variable {X:Cx} {pos:Pos}
def gI (i:Nat):TG:=λv σ H Q=>Q (σ.set i (some v)) H
theorem ai (hN:X.N.Nodup) (hi:X.N[i]?=some x) (hx:gZ X.env.scope x) (hf:X.fn x=true\/X.env.scope.names.lookup x=some .local:=by first|exact .inl rfl|exact .inr rfl|assumption):PG X (.Name x pos) (gI i):=by intro pins s σ H v u Q I r h;exact wpAny_assign_Name (k7 I hN hi hx r (λs' I'=>⟨_,H,I',h⟩) hf)
def wV:eK:=λvs σ H Q=>vs=[]/\Q σ H
def yw (t:TG) (u:eK):eK:=λvs σ H Q=>∃v r,vs=v :: r/\t v σ H λσ' H'=>u r σ' H' Q
theorem dm:iD X [] wV:=by intro pins s σ H vs us Q I r h;obtain⟨e,h⟩:=h;subst e;cases r;exact assignInOrder_nil ⟨σ,H,I,h⟩
theorem bW {es:List Expr} {t:TG} {u:eK} (h1:PG X e t) (h2:iD X es u)
   (hs:(assignEach (e :: es) X.env).map (·.2)=assign e X.env :: (assignEach es X.env).map (·.2):=by rfl):iD X (e :: es) (yw t u):=by
 intro pins s σ H vs us Q I r h;obtain⟨v,vr,e1,h⟩:=h;subst e1;cases r with
 | cons r rr =>
   rw[hs];refine assignInOrder_cons (aF (h1 pins s σ H _ _ _ I r h) λ_ s1 ⟨σ1,H1,I1,q1⟩=>?_);exact h2 pins s1 σ1 H1 _ _ Q I1 rr q1
def zf (K:W.Frag) (n:Nat) (t:eK):TG:=λv σ H Q=>∃a xs,v=.ref a/\a9 K H a xs/\xs.length=n/\t xs σ H Q
theorem eW {es:List Expr} {k:Nat} {t:eK} {n:Nat} (hc:X.calm=true) (h:iD X es t)
   (hn:(assignEach es X.env).length=n:=by rfl) (hst:(assignEach es X.env).findIdx? (·.1)=none:=by rfl):PG X (.Tuple es k pos) (zf X.K n t):=by
 intro pins s σ H v u Q I r hw;obtain⟨a,xs,e1,hq,hl,hw⟩:=hw;subst e1;cases r;obtain⟨its,rv,ht,hz⟩:=I.tuple hq;refine assign_Tuple_tuple (I.ok.hd hc) ht (by simp [hn,<- hl,rv.length]) hst λh' hx=>?_;have I1:Inv X pins σ H { s with heap:=h' }:=I.kept (t':=s.toks) λb o e=>hx b o (Bu (BZ e)) e;exact h pins _ σ H xs _ Q I1 (by simpa using rv) hw
def wj (to ti:TE) (t:jb):TG:=λv σ H Q=>to σ H λo H1=>ti σ H1 λi H2=>t o i v H2 λH3=>Q σ H3
theorem i5 {o i:Expr} {to ti:TE} {t:jb} (ho:PE X o to) (hi:PE X i ti) (hs:nC X t)
   (ha:∀v,assign (.Subscript o i pos) X.env v=(do
     let ov <- holding [v] (eval o X.env)
     let iv <- holding [v,ov] (eval i X.env)
     standAt pos
     holding [v,ov,iv] (setItem ov iv v)
     release [v,ov,iv] []):=by intro _; rfl):PG X (.Subscript o i pos) (wj to ti t):=by
 intro pins s σ H v u Q I r h;rw[ha];refine BB (C2 (aF (ho pins s σ H _ I h) λov s1 ⟨x,H1,I1,r1,q1⟩=>?_));refine BB (C2 (aF (hi pins s1 σ H1 _ I1 q1) λiv s2 ⟨y,H2,I2,r2,q2⟩=>?_));refine BB (D' (BB (C2 (aF (hs pins s2 σ H2 x y v ov iv u _ I2 r1 r2 r q2) λ_ s3 ⟨H3,I3,q3⟩=>?_))));exact wpAny_release ⟨σ,H3,I3,q3⟩
def ji (te:TE) (g:TG):TS:=λD σ H=>te σ H λx H1=>g x σ H1 D.nx
theorem dZ (he:PE X e te) (hg:PG X tg g) (hs:swapsWithSole [tg] e pos.line X.env=pure false:=by rfl) (hw:swappedStores [tg] e X.env=pure none:=by rfl)
   (h1:(assignEach [tg] X.env).map (·.2)=[assign tg X.env]:=by rfl):PS X (.Assign [tg] e pos) (ji te g):=by
 intro pins s σ H D I h;refine wpAny_Assign_stores (aF (he pins s σ H _ I h) λv s1 ⟨x,H1,I1,r1,q1⟩=>?_) hs hw;rw[h1];exact aF (hg pins s1 σ H1 x v _ I1 r1 q1) λ_ s2 q=>q
theorem aK {i:Nat} {x:Str} {e:Expr} {te:TE} {pos':Pos} (hN:X.N.Nodup) (hi:X.N[i]?=some x) (hx:gZ X.env.scope x) (he:PE X e te) (hs:swapsWith e (some (.Name x pos')) pos.line X.env=pure false:=by rfl) (hf:X.fn x=true\/X.env.scope.names.lookup x=some .local:=by first|exact .inl rfl|exact .inr rfl|assumption) :
   PS X (.Assign [.Name x pos'] e pos) (ji te (gI i)):=by
 intro pins s σ H D I h;refine wpAny_Assign_Name (aF (he pins s σ H _ I h) λv s1 ⟨y,H1,I1,r1,q1⟩=>?_) hs;exact k7 I1 hN hi hx r1 (λs2 I2=>⟨_,H1,I2,q1⟩) hf
def wk (i:Nat) (te:TE) (ti:iP):TS:=λD σ H=>∃x,σ[i]?=some (some x)/\te σ H λy H1=>ti x y H1 λz H2=>D.nx (σ.set i (some z)) H2
theorem vw {op:Operator} {ti:iP} {pos':Pos} (hN:X.N.Nodup) (hi:X.N[i]?=some x) (hx:gZ X.env.scope x) (he:PE X e te) (ho:PIp X op ti) (hf:X.fn x=true\/X.env.scope.names.lookup x=some .local:=by first|exact .inl rfl|exact .inr rfl|assumption) :
   PS X (.AugAssign (.Name x pos') op e pos) (wk i te ti):=by
 intro pins s σ H D I h;obtain⟨v,e1,h⟩:=h;obtain⟨m,hn,hl⟩:=I.loc;have vis:jJ X.env.scope x:=by rcases hx with k|k; exact .inl k; exact .inr (.inl k)
 obtain⟨u,r,l⟩:=hl i x v hi e1 vis;refine wpAny_AugAssign_Name ?_;have go:wpAny (model X.prog X.w) X.A (eval e X.env) (λw s₂=>wpAny (model X.prog X.w) X.A (inplaceOp op u w) (λr s₃=>wpAny (model X.prog X.w) X.A (storeName X.env x r) (λ_=>SP X pins D .next) X.xe s₃) X.xe s₂) X.xe s:=by refine aF (he pins s σ H _ I h) λw s1 ⟨y,H1,I1,r1,q1⟩=>?_;refine aF (ho pins s1 σ H1 v y u w _ I1 r r1 q1) λz s2 ⟨zv,H2,I2,r2,q2⟩=>?_;exact k7 I2 hN hi hx r2 (λs3 I3=>⟨_,H2,I3,q2⟩) hf
 rcases l with⟨hk,hm⟩|⟨hk,c,hc,hcell⟩
 . exact wpAny_loadName_local I.ok.kind hk hn hm go
 . rcases hk with hk|hk
   . exact wpAny_loadName_cell I.ok.kind hk hc hcell go
   . rcases hx with k|k
     . have:X.env.scope.names.lookup x=some .free:=hk;rw[k] at this; cases this
     . have:X.env.scope.names.lookup x=some .free:=hk;rw[k] at this; cases this
def ipI (f:Int->Int->Int):iP:=λx y H Q=>∃i j,x=.int i/\y=.int j/\Q (.int (f i j)) H
theorem wZ:PIp X .Add (ipI λi j=>i+j):=by intro pins s σ H x y v u Q I r1 r2 h;obtain⟨i,j,e1,e2,q⟩:=h;subst e1; subst e2;obtain⟨t,rfl⟩:=r1;obtain⟨t',rfl⟩:=r2;exact iadd_int ⟨.int _,H,I.tok _,⟨_,rfl⟩,q⟩
end
variable {tb:TS}
section
variable {X:Cx} {pos:Pos}
def pB (c:TT) (tb:TS):TS:=λD σ H=>∃W:Nat->St->Hp->Prop,(∃m,W m σ H)/\∀m σ H,W m σ H ->
 c σ H λb H1=>if b=true then ∃N:St->Hp->Prop,(∀σ' H',N σ' H'->∃m',m'<m/\W m' σ' H')/\tb { D with nx:=N,ct:=N,bk:=D.nx } σ H1 else D.nx σ H1
theorem pi {c:Expr} {body:List Stmt} {tc:TT} (hp:PassesOwn (model X.prog X.w) X.A X.env X.xe) (hc:PT X c tc) (hb:cB X body tb):PS X (.While c body [] pos) (pB tc tb):=by
 intro pins s σ H D I h;obtain⟨W,⟨m0,w0⟩,turn⟩:=h;refine wpAny_While (codeAny_whileLoop (λn s'=>∃σ' H',Inv X pins σ' H' s'/\W n σ' H') ?_ m0 ⟨σ,H,I,w0⟩);rintro n s1 ⟨σ1,H1,I1,w1⟩;refine Cf hp (aF (hc pins s1 σ1 H1 _ I1 (turn n σ1 H1 w1)) λb s2 ⟨H2,I2,q2⟩=>?_);cases b with
 | true =>
   obtain⟨N,hN,q2⟩:=q2;rw[BJ rfl];refine Cf hp (aF (hb pins s2 σ1 H2 _ I2 q2) λf s3 q3=>?_);cases f with
   | next =>
     obtain⟨σ3,H3,I3,n3⟩:=q3;obtain⟨m',hm,w3⟩:=hN σ3 H3 n3;exact⟨m',hm,σ3,H3,I3,w3⟩
   | cont =>
     obtain⟨σ3,H3,I3,n3⟩:=q3;obtain⟨m',hm,w3⟩:=hN σ3 H3 n3;exact⟨m',hm,σ3,H3,I3,w3⟩
   | brk=>exact q3
   | ret v=>exact q3
 | false =>
   rw[BE BO];exact Dj ⟨σ1,H2,I2,q2⟩
end
structure It where
 go:Nat->Hp->Prop
 yld:Nat->Hp->V->Hp->Prop
 stop:Nat->Hp->Prop
def dM (X:Cx) (pins:List (Addr×Obj)) (H:Hp) (b:Addr):Prop :=
 H b=none/\b≠X.env.locals/\b ∉ X.fs/\(b∈X.ex\/X.s₀.heap.objs.size<=b)/\(∀x c,X.env.cells.lookup x=some c->c≠b)/\∀p∈X.pn++pins,p.1≠b
theorem Inv.fpOk {H':Hp}(I:Inv X pins σ H s) (hb:s.heap.objs.size<=b) (hn:H' b=none):dM X pins H' b:=by
 refine⟨hn,DB (Bj I.lt hb),I.nofs hb,.inr (Bk I.sz hb),λx c e z=>?_,λp hp z=>?_⟩
 . obtain⟨v,q⟩:=I.cell x c e;exact absurd (Bj q.lt (by rw[z]; exact hb)) (C6 _)
 . exact absurd (Bj (BZ (I.pin p hp).1) (by rw[z]; exact hb)) (C6 _)
structure Turn (P:Program) (w:World) (K:W.Frag) (tg:Expr) (J:It) (fp:List Addr) (it:Addr) (tn:Nat->Heap->Prop):Prop where
 mem:it∈fp
 obj:∀i h,tn i h->∀b∈fp,∃o,h.get? b=some o/\∀v,o.data≠.cell v
 keep:∀i h h',tn i h->(∀b∈fp,∀o,h.get? b=some o->h'.get? b=some o)->tn i h'
 item:∀(X:Cx),X.prog=P->X.w=w->X.K=K->X.calm=true->∀(i:Nat) (pins:List (Addr×Obj)) (s:Shared) (σ:St) (H:Hp) (E:Value->Shared->Prop),Inv X pins σ H s->(∀b∈fp,dM X pins H b)->tn i s.heap->J.go i H ->
   wpAny (model P w) X.A (pyNext (.ref it)) (λr s1=>∃u,r=some u /\
     wpAny (model P w) X.A (letOwnedTupleGo tg (.ref it) u) (λ_ s2=>∃x H',Inv X pins σ H' s2/\aJ x u/\J.yld i H x H'/\tn (i+1) s2.heap/\∀b∈fp,H' b=none) E s1) E s
 done:∀(X:Cx),X.prog=P->X.w=w->X.K=K->X.calm=true->∀(i:Nat) (pins:List (Addr×Obj)) (s:Shared) (σ:St) (H:Hp) (E:Value->Shared->Prop),Inv X pins σ H s->(∀b∈fp,dM X pins H b)->tn i s.heap->J.stop i H ->
   wpAny (model P w) X.A (pyNext (.ref it)) (λr s1=>r=none/\Inv X pins σ H s1) E s
 self:∀(A:Around) (i:Nat) (s:Shared) (Q:Value->Shared->Prop) (E:Value->Shared->Prop),tn i s.heap->Q (.ref it) s->wpAny (model P w) A (pyIter (.ref it)) Q E s
abbrev TI:=St->Hp->(It->Hp->Prop)->Prop
def PIE (X:Cx) (pins:List (Addr×Obj)) (σ:St) (tg:Expr) (R:It->Hp->Prop) (itv:Value) (s2:Shared):Prop :=
 ∃(it:Addr) (fp:List Addr) (tn:Nat->Heap->Prop) (J:It) (H':Hp),itv=.ref it/\Inv X pins σ H' s2/\Turn X.prog X.w X.K tg J fp it tn/\tn 0 s2.heap/\(∀b∈fp,dM X pins H' b)/\R J H'
def PI (X:Cx) (tg iter:Expr) (wi:TI):Prop :=
 ∀(pins:List (Addr×Obj)) (s:Shared) (σ:St) (H:Hp) (R:It->Hp->Prop),Inv X pins σ H s->wi σ H R ->
   wpAny (model X.prog X.w) X.A (eval iter X.env) (λv s1=>wpAny (model X.prog X.w) X.A (pyIter v) (PIE X pins σ tg R) X.xe s1) X.xe s
theorem jE {it:Addr} {o:Obj} {n:String} {vs:Array Value} {Q:Unit->Shared->Prop} (ho:s.heap.get? it=some o) (hc:o.cls=.type n) (hd:o.data=.fields vs)
   (hn:["enumerate","zip","dict_itemiterator","dict_reverseitemiterator","odict_iterator","itertools.zip_longest","itertools.pairwise"].contains n=false) (hQ:Q () s):wpAny M A (letOwnedTupleGo tg (.ref it) u) Q E s:=by
 unfold letOwnedTupleGo;cases tg <;> first
   | exact BF hQ
   | (cases u <;> first
       | exact BF hQ
       | (refine BB (EV ho ?_)
          rw[hc,hd];show wpAny M A (if(["enumerate","zip","dict_itemiterator","dict_reverseitemiterator","odict_iterator","itertools.zip_longest","itertools.pairwise"].contains n&&vs[0]?==some (rawInt _))=true then _ else _) Q E s;rw[BE (by intro h; rw[hn,Bool.false_and] at h; cases h)];exact BF hQ))
def g9 (K:W.Frag) (a:Addr):It :=
 ⟨λi H=>∃xs x,aA K H a xs/\xs[i]?=some x,λi H x H'=>H'=H/\∀xs,aA K H a xs->xs[i]?=some x,λi H=>∃xs,aA K H a xs/\xs.length<=i⟩
def ft (K:W.Frag) (a:Addr):It :=
 ⟨λi H=>∃xs x,a9 K H a xs/\xs[i]?=some x,λi H x H'=>H'=H/\∀xs,a9 K H a xs->xs[i]?=some x,λi H=>∃xs,a9 K H a xs/\xs.length<=i⟩
def fB (lo:Int) (n:Nat):It:=⟨λi _=>i<n,λi H x H'=>H'=H/\x=.int (lo+i),λi _=>n<=i⟩
theorem zw (a it:Addr):Turn P w K tg (g9 K a) [it] it (λi h=>h.IsListIter it a i) where
 mem:=by simp
 obj:=λi h st b hb=>by
   have e:b=it:=by simpa using hb
   subst e;obtain⟨o,e,c,d⟩:=st;exact⟨o,e,λv z=>by rw[d] at z; cases z⟩
 keep:=λi h h' st k=>st.at λo e=>k it (by simp) o e
 item:=by intro X hP hw hK hc i pins s σ H E I hf st hg;subst hP hw hK;obtain⟨xs,x,hq,hx⟩:=hg;obtain⟨its,rv,p,hz⟩:=I.list hq;obtain⟨u,hu,ru⟩:=rv.get hx;obtain⟨f0,f1,f2,f3,f4,f5⟩:=hf it (by simp);refine DW st p.isList (x:=u) (by simpa using hu) λh' st' sb=>?_;have I1:Inv X pins σ H { s with heap:=h' }:=I.turned (t':=s.toks) (λb o hb e=>(sb.2 b hb).trans e) f0 f1 f3 f4 f5;obtain⟨o,e,c,d⟩:=id st';exact⟨u,rfl,jE (s:={ s with heap:=h' }) e c d (by decide) ⟨x,H,I1,ru,⟨rfl,λys hy=>by rw[I.list_inj hy hq]; exact hx⟩,st',λb hb=>(hf b hb).1⟩⟩
 done:=by intro X hP hw hK hc i pins s σ H E I hf st hg;subst hP hw hK;obtain⟨xs,hq,hx⟩:=hg;obtain⟨its,rv,p,hz⟩:=I.list hq;obtain⟨f0,f1,f2,f3,f4,f5⟩:=hf it (by simp);have hl:=rv.length;exact Dg (I.ok.hd hc) st p.isList (by simp; omega) λh' eb=>⟨rfl,I.turned (t':=s.toks) (λb o hb e=>eb b o hb e) f0 f1 f3 f4 f5⟩
 self:=λ_ _ _ _ _ st h=>wpAny_pyIter_listiter st h
theorem zS (a it:Addr):Turn P w K tg (ft K a) [it] it (λi h=>h.IsTupleIter it a i) where
 mem:=by simp
 obj:=λi h st b hb=>by
   have e:b=it:=by simpa using hb
   subst e;obtain⟨o,e,c,d⟩:=st;exact⟨o,e,λv z=>by rw[d] at z; cases z⟩
 keep:=λi h h' st k=>st.at λo e=>k it (by simp) o e
 item:=by intro X hP hw hK hc i pins s σ H E I hf st hg;subst hP hw hK;obtain⟨xs,x,hq,hx⟩:=hg;obtain⟨its,rv,p,hz⟩:=I.tuple hq;obtain⟨u,hu,ru⟩:=rv.get hx;obtain⟨f0,f1,f2,f3,f4,f5⟩:=hf it (by simp);refine wpAny_pyNext_tuple_item st (show s.heap.IsTuple a its.toArray from p) (x:=u) (by simpa using hu) λh' st' sb=>?_;have I1:Inv X pins σ H { s with heap:=h' }:=I.turned (t':=s.toks) (λb o hb e=>(sb.2 b hb).trans e) f0 f1 f3 f4 f5;obtain⟨o,e,c,d⟩:=id st';exact⟨u,rfl,jE (s:={ s with heap:=h' }) e c d (by decide) ⟨x,H,I1,ru,⟨rfl,λys hy=>by rw[I.tuple_inj hy hq]; exact hx⟩,st',λb hb=>(hf b hb).1⟩⟩
 done:=by intro X hP hw hK hc i pins s σ H E I hf st hg;subst hP hw hK;obtain⟨xs,hq,hx⟩:=hg;obtain⟨its,rv,p,hz⟩:=I.tuple hq;obtain⟨f0,f1,f2,f3,f4,f5⟩:=hf it (by simp);have hl:=rv.length;exact wpAny_pyNext_tuple_end (I.ok.hd hc) st (show s.heap.IsTuple a its.toArray from p) (by simp; omega) λh' eb=>⟨rfl,I.turned (t':=s.toks) (λb o hb e=>eb b o hb e) f0 f1 f3 f4 f5⟩
 self:=λ_ _ _ _ _ st h=>wpAny_pyIter_tupleiter st h
theorem u6 (it:Addr) (lo:Int) (n:Nat):Turn P w K tg (fB lo n) [it] it (λi h=>IsRangeIter h it (lo+(i:Nat) * 1) ((n:Int) - (i:Nat)) 1) where
 mem:=by simp
 obj:=λi h st b hb=>by
   have e:b=it:=by simpa using hb
   subst e;exact⟨_,st,λv z=>by have z':Data.fields _=Data.cell v:=z;cases z'⟩
 keep:=λi h h' st k=>k it (by simp) _ st
 item:=by intro X hP hw hK hc i pins s σ H E I hf st hg;subst hP hw hK;obtain⟨f0,f1,f2,f3,f4,f5⟩:=hf it (by simp);have W:=Walks.range (prog:=X.prog) (w:=X.w) (I.ok.hd hc) it lo 1 n;refine W.item i s _ _ hg st λv h' tk hv st' kk=>?_;obtain⟨t,rfl⟩:=hv;have I1:Inv X pins σ H { s with heap:=h',toks:=tk }:=I.turned (λb o hb e=>kk b o (by simpa using hb) e) f0 f1 f3 f4 f5;refine⟨_,rfl,jE (s:={ s with heap:=h',toks:=tk }) (n:="range_iterator") st' rfl rfl (by decide) ⟨.int (lo+i),H,I1,⟨t,?_⟩,⟨rfl,rfl⟩,st',λb hb=>(hf b hb).1⟩⟩;rw[Int.mul_one]
 done:=by intro X hP hw hK hc i pins s σ H E I hf st hg;subst hP hw hK;obtain⟨f0,f1,f2,f3,f4,f5⟩:=hf it (by simp);exact wpAny_pyNext_range_end (I.ok.hd hc) st (by have:n<=i:=hg; omega) λh' eb=>⟨rfl,I.turned (t':=s.toks) (λb o hb e=>eb b o hb e) f0 f1 f3 f4 f5⟩
 self:=λ_ _ _ _ _ st h=>wpAny_pyIter_rangeiter st h
section
variable {X:Cx} {tg:Expr}
def AF (K:W.Frag) (tl:TE):TI:=λσ H R=>tl σ H λx H1=>∃a,x=.ref a/\(∃xs,aA K H1 a xs)/\R (g9 K a) H1
def wY (K:W.Frag) (tl:TE):TI:=λσ H R=>tl σ H λx H1=>∃a,x=.ref a/\(∃xs,a9 K H1 a xs)/\R (ft K a) H1
theorem cq {l:Expr} {tl:TE} (hl:PE X l tl):PI X tg l (AF X.K tl):=by
 intro pins s σ H R I h;refine aF (hl pins s σ H _ I h) λv s1 ⟨x,H1,I1,r1,q1⟩=>?_;obtain⟨a,e,⟨xs,hq⟩,q⟩:=q1;subst e;cases r1;obtain⟨its,rv,p,hz⟩:=I1.list hq;refine Cs p.isList ?_;refine⟨s1.heap.objs.size,[s1.heap.objs.size],_,_,H1,rfl,I1.kept (t':=s1.toks) λb o e=>BM _ e,zw a _,⟨_,Bh _ rfl,rfl,rfl⟩,λb hb=>?_,q⟩;have e:b=s1.heap.objs.size:=by simpa using hb
 subst e;exact I1.fpOk (BG _) (I1.hok.fresh (BG _))
theorem gb {l:Expr} {tl:TE} (hl:PE X l tl):PI X tg l (wY X.K tl):=by
 intro pins s σ H R I h;refine aF (hl pins s σ H _ I h) λv s1 ⟨x,H1,I1,r1,q1⟩=>?_;obtain⟨a,e,⟨xs,hq⟩,q⟩:=q1;subst e;cases r1;obtain⟨its,rv,p,hz⟩:=I1.tuple hq;refine Dw (show s1.heap.IsTuple a its.toArray from p) ?_;refine⟨s1.heap.objs.size,[s1.heap.objs.size],_,_,H1,rfl,I1.kept (t':=s1.toks) λb o e=>BM _ e,zS a _,⟨_,Bh _ rfl,rfl,rfl⟩,λb hb=>?_,q⟩;have e:b=s1.heap.objs.size:=by simpa using hb
 subst e;exact I1.fpOk (BG _) (I1.hok.fresh (BG _))
theorem pT {R:It->Hp->Prop} {lo hi:Int} {t u v:Tok} {tk:Nat} (I:Inv X pins σ H s) (h1:-(2 ^ 62)<=lo) (h2:lo<2 ^ 62) (h3:-(2 ^ 62)<=hi) (h4:hi<2 ^ 62)
   (q:R (fB lo (hi - lo).toNat) H):wpAny (model X.prog X.w) X.A (pyIter (.ref s.heap.objs.size)) (PIE X pins σ tg R) E { s with heap:=s.heap.push { cls:=.type "range",data:=.fields #[.int lo t,.int hi u,.int 1 v] },toks:=tk }:=by
 refine wpAny_pyIter_range (IsRange.new ..) (small_one h1 h2 h3 h4) ?_;have I1:Inv X pins σ H { s with heap:=s.heap.push { cls:=.type "range",data:=.fields #[.int lo t,.int hi u,.int 1 v] },toks:=tk }:=I.kept λb o e=>BM _ e;refine⟨(s.heap.push { cls:=.type "range",data:=.fields #[.int lo t,.int hi u,.int 1 v] }).objs.size,[(s.heap.push { cls:=.type "range",data:=.fields #[.int lo t,.int hi u,.int 1 v] }).objs.size],_,_,H,rfl,
   I1.kept (t':=tk) λb o e=>BM _ e,u6 _ lo (hi - lo).toNat,?_,λb hb=>?_,q⟩
 . have e1:lo+((0:Nat):Int) * 1=lo:=by simp
   have e2:(((hi - lo).toNat:Nat):Int) - ((0:Nat):Int)=Builtin.Range.rangeSize lo hi 1:=by rw[rangeSize_one]; split <;> omega
   show IsRangeIter _ _ (lo+((0:Nat):Int) * 1) ((((hi - lo).toNat:Nat):Int) - ((0:Nat):Int)) 1;rw[e1,e2];exact Bh _ rfl
 . have e:b=(s.heap.push { cls:=.type "range",data:=.fields #[.int lo t,.int hi u,.int 1 v] }).objs.size:=by simpa using hb
   subst e;exact I1.fpOk (BG _) (I1.hok.fresh (BG _))
def yz (ta:TA):TI:=λσ H R=>ta σ H λvs H1=>∃j:Int,vs=[.int j]/\-(2 ^ 62)<=j/\j<2 ^ 62/\R (fB 0 j.toNat) H1
def Aw (ta:TA):TI:=λσ H R=>ta σ H λvs H1=>∃i j:Int,vs=[.int i,.int j]/\(-(2 ^ 62)<=i/\i<2 ^ 62/\-(2 ^ 62)<=j/\j<2 ^ 62)/\R (fB i (j - i).toNat) H1
theorem gK {a:Expr} {ta:TA} {p:Pos}(hg:Gl X "range") (hm:X.mg "range"=none) (ha:PA X [a] ta) (hs:starEach [a] X.env=[(false,eval a X.env)]:=by rfl):PI X tg (.Call (.Name "range" p) [a] [] pos) (yz ta):=by
 intro pins s σ H R I h;refine Call_ (eY I hg hm boot_range (CK (aF (ha pos pins s σ H _ I h) λus s1 ⟨vs,H1,I1,r1,q1⟩=>?_) hs rfl));obtain⟨j,e,q1,q2,q⟩:=q1;subst e;cases r1 with
 | cons r rr =>
   cases rr;obtain⟨t,rfl⟩:=r;exact call_range_1 (pT I1 (by omega) (by omega) q1 q2 (by simpa using q))
theorem yM {a b:Expr} {ta:TA} {p:Pos}(hg:Gl X "range") (hm:X.mg "range"=none) (ha:PA X [a,b] ta) (hs:starEach [a,b] X.env=[(false,eval a X.env),(false,eval b X.env)]:=by rfl) (hs2:starEach [b] X.env=[(false,eval b X.env)]:=by rfl) :
   PI X tg (.Call (.Name "range" p) [a,b] [] pos) (Aw ta):=by
 intro pins s σ H R I h;refine Call_ (eY I hg hm boot_range (CK (aF (ha pos pins s σ H _ I h) λus s1 ⟨vs,H1,I1,r1,q1⟩=>?_) (by rw[hs,hs2]) (by rw[hs2]; rfl)));obtain⟨i,j,e,⟨q1,q2,q3,q4⟩,q⟩:=q1;subst e;cases r1 with
 | cons r rr =>
   cases rr with
   | cons r' rr =>
     cases rr;obtain⟨t,rfl⟩:=r;obtain⟨t',rfl⟩:=r';exact call_range_2 (pT I1 q1 q2 q3 q4 q)
def vk (wi:TI) (g:TG) (tb:TS):TS:=λD σ H=>wi σ H λJ H1=>∃W:Nat->Nat->St->Hp->Prop,(∃m,W 0 m σ H1)/\∀i m σ H,W i m σ H ->
 (J.stop i H/\D.nx σ H)\/(J.go i H/\∃N:St->Hp->Prop,(∀σ' H',N σ' H'->∃m',m'<m/\W (i+1) m' σ' H')/\∀x H',J.yld i H x H'->g x σ H' λσ2 H2=>tb { D with nx:=N,ct:=N,bk:=D.nx } σ2 H2)
def iG (fp:List Addr) (h:Heap):List (Addr×Obj):=fp.filterMap λb=>(h.get? b).map λo=>(b,o)
theorem ig {fp:List Addr} {o:Obj} (hb:b∈fp) (e:h.get? b=some o):(b,o)∈iG fp h:=DC.mpr ⟨b,hb,by rw[e]; rfl⟩
theorem uD {fp:List Addr} {p:Addr×Obj} (hp:p∈iG fp h):p.1∈fp/\h.get? p.1=some p.2:=by
 obtain⟨b,hb,e⟩:=DC.mp hp;cases q:h.get? b with
 | none=>rw[q] at e; cases e
 | some o =>
   rw[q] at e;have e':(b,o)=p:=Option.some.inj e;subst e';exact⟨hb,q⟩
theorem Inv.pinned {fp:List Addr} (I:Inv X pins σ H s) (hf:∀b∈fp,dM X pins H b) (ho:∀b∈fp,∃o,s.heap.get? b=some o/\∀v,o.data≠.cell v):Inv X (pins++iG fp s.heap) σ H s :=
 I.pins_of λp hp=>(C5.mp hp).elim (λz=>I.pin p (Br _ z)) λz=>by obtain⟨hb,e⟩:=uD z;obtain⟨f0,f1,f2,_⟩:=hf p.1 hb;obtain⟨o,e',d⟩:=ho p.1 hb;rw[e] at e'; cases e';exact⟨e,f0,f1,f2,d⟩
theorem Inv.unpinned {pl:List (Addr×Obj)}(I:Inv X (pins++pl) σ H s):Inv X pins σ H s:=I.pins_of λp hp=>I.pin p (Br _ (C8 _ hp))
theorem cD {iter:Expr} {body:List Stmt} {wi:TI} (hp:PassesOwn (model X.prog X.w) X.A X.env X.xe) (hc:X.calm=true) (hi:PI X tg iter wi) (hg:PG X tg g) (hb:cB X body tb)
   (hs:∀x,foldedSetIterable iter X.env x=pure x:=by intro _; rfl):PS X (.For tg iter body [] pos) (vk wi g tb):=by
 intro pins s σ H D I h;refine wpAny_For (aF (hi pins s σ H _ I h) λv s1 h1=>aF h1 λitv s2 h2=>?_) hs;obtain⟨it,fp,tn,J,H2,e,I2,T,st2,f2,W,⟨m0,w0⟩,turn⟩:=h2;subst e
 -- what stays true of the iterator's objects through the loop
 have stat:∀{H':Hp},(∀b∈fp,H' b=none)->∀b∈fp,dM X pins H' b:=λhn b hb=>⟨hn b hb,(f2 b hb).2⟩
 refine codeAny_forLoop_any (λn s'=>∃i σ' H',Inv X pins σ' H' s'/\tn i s'.heap/\(∀b∈fp,H' b=none)/\W i n σ' H') ?_ m0 ⟨0,σ,H2,I2,st2,λb hb=>(f2 b hb).1,w0⟩;rintro n s3 ⟨i,σ3,H3,I3,st3,fr3,w3⟩;rcases turn i n σ3 H3 w3 with⟨stop,qn⟩|⟨go,N,hN,step⟩
 . refine Cf hp (aF (T.done X rfl rfl rfl hc i pins s3 σ3 H3 X.xe I3 (stat fr3) st3 stop) λr s4 ⟨hr,I4⟩=>?_);subst hr;exact Dj ⟨σ3,H3,I4,qn⟩
 . refine Cf hp (aF (T.item X rfl rfl rfl hc i pins s3 σ3 H3 X.xe I3 (stat fr3) st3 go) λr s4 ⟨u,hr,h4⟩=>?_);subst hr;refine Cf hp (aF h4 λ_ s5 ⟨x,H5,I5,r5,y5,st5,fr5⟩=>?_);have I5':=I5.pinned (stat fr5) (T.obj _ _ st5);refine Cf hp (aF (hg _ s5 σ3 H5 x u _ I5' r5 (step x H5 y5)) λ_ s6 ⟨σ6,H6,I6,q6⟩=>?_);refine Cf hp (aF (hb _ s6 σ6 H6 _ I6 q6) λf s7 q7=>?_);have again:∀{σ7:St} {H7:Hp},Inv X (pins++iG fp s5.heap) σ7 H7 s7->N σ7 H7->∃m,m<n/\∃i σ' H',Inv X pins σ' H' s7/\tn i s7.heap/\(∀b∈fp,H' b=none)/\W i m σ' H':=λ{σ7 H7} I7 n7=>by obtain⟨m',hm,w7⟩:=hN σ7 H7 n7;refine⟨m',hm,i+1,σ7,H7,I7.unpinned,T.keep _ _ _ st5 λb hb o e=>(I7.pin (b,o) (Br _ (Br _ (ig hb e)))).1,λb hb=>?_,w7⟩;obtain⟨o,e,d⟩:=T.obj _ _ st5 b hb;exact(I7.pin (b,o) (Br _ (Br _ (ig hb e)))).2.1
   cases f with
   | next=>obtain⟨σ7,H7,I7,n7⟩:=q7; exact again I7 n7
   | cont=>obtain⟨σ7,H7,I7,n7⟩:=q7; exact again I7 n7
   | brk=>obtain⟨σ7,H7,I7,q7⟩:=q7; exact⟨σ7,H7,I7.unpinned,q7⟩
   | ret v=>obtain⟨x7,σ7,H7,I7,r7,q7⟩:=q7; exact⟨x7,σ7,H7,I7.unpinned,r7,q7⟩
end
variable {D:Ends}
theorem fP {xs:List V} (Pv:Nat->St->Hp->Prop) (h0:Pv 0 σ H) (hl:∀i σ H,i<=xs.length->Pv i σ H->aA K H a xs)
   (hs:∀i x σ H,xs[i]?=some x->Pv i σ H->g x σ H λσ2 H2=>tb { D with nx:=Pv (i+1),ct:=Pv (i+1),bk:=D.nx } σ2 H2) (hd:∀σ H,Pv xs.length σ H->D.nx σ H) :
   ∃W:Nat->Nat->St->Hp->Prop,(∃m,W 0 m σ H)/\∀i m σ H,W i m σ H ->
     ((g9 K a).stop i H/\D.nx σ H)\/((g9 K a).go i H/\∃N:St->Hp->Prop,(∀σ' H',N σ' H'->∃m',m'<m/\W (i+1) m' σ' H')/\∀x H',(g9 K a).yld i H x H'->g x σ H' λσ2 H2=>tb { D with nx:=N,ct:=N,bk:=D.nx } σ2 H2):=by
 refine⟨λi m σ H=>m=xs.length - i/\i<=xs.length/\Pv i σ H,⟨xs.length,by simp,BW _,h0⟩,?_⟩;rintro i m σ H ⟨rfl,hi,p⟩;have q:=hl i σ H hi p;by_cases hlt:i<xs.length
 . refine .inr ⟨⟨xs,xs[i],q,by simp [hlt]⟩,Pv (i+1),λσ' H' p'=>⟨xs.length - (i+1),by omega,rfl,hlt,p'⟩,λx H' y=>?_⟩;obtain⟨e,y⟩:=y;subst e;exact hs i x σ _ (y xs q) p
 . have e:i=xs.length:=by omega
   subst e;exact .inl ⟨⟨xs,q,BG _⟩,hd σ H p⟩
theorem ql {xs:List V} (Pv:Nat->St->Hp->Prop) (h0:Pv 0 σ H) (hl:∀i σ H,i<=xs.length->Pv i σ H->a9 K H a xs)
   (hs:∀i x σ H,xs[i]?=some x->Pv i σ H->g x σ H λσ2 H2=>tb { D with nx:=Pv (i+1),ct:=Pv (i+1),bk:=D.nx } σ2 H2) (hd:∀σ H,Pv xs.length σ H->D.nx σ H) :
   ∃W:Nat->Nat->St->Hp->Prop,(∃m,W 0 m σ H)/\∀i m σ H,W i m σ H ->
     ((ft K a).stop i H/\D.nx σ H)\/((ft K a).go i H/\∃N:St->Hp->Prop,(∀σ' H',N σ' H'->∃m',m'<m/\W (i+1) m' σ' H')/\∀x H',(ft K a).yld i H x H'->g x σ H' λσ2 H2=>tb { D with nx:=N,ct:=N,bk:=D.nx } σ2 H2):=by
 refine⟨λi m σ H=>m=xs.length - i/\i<=xs.length/\Pv i σ H,⟨xs.length,by simp,BW _,h0⟩,?_⟩;rintro i m σ H ⟨rfl,hi,p⟩;have q:=hl i σ H hi p;by_cases hlt:i<xs.length
 . refine .inr ⟨⟨xs,xs[i],q,by simp [hlt]⟩,Pv (i+1),λσ' H' p'=>⟨xs.length - (i+1),by omega,rfl,hlt,p'⟩,λx H' y=>?_⟩;obtain⟨e,y⟩:=y;subst e;exact hs i x σ _ (y xs q) p
 . have e:i=xs.length:=by omega
   subst e;exact .inl ⟨⟨xs,q,BG _⟩,hd σ H p⟩
theorem kK {lo:Int} {n:Nat} (Pv:Nat->St->Hp->Prop) (h0:Pv 0 σ H)
   (hs:∀i σ H,i<n->Pv i σ H->g (.int (lo+i)) σ H λσ2 H2=>tb { D with nx:=Pv (i+1),ct:=Pv (i+1),bk:=D.nx } σ2 H2) (hd:∀σ H,Pv n σ H->D.nx σ H) :
   ∃W:Nat->Nat->St->Hp->Prop,(∃m,W 0 m σ H)/\∀i m σ H,W i m σ H ->
     ((fB lo n).stop i H/\D.nx σ H)\/((fB lo n).go i H/\∃N:St->Hp->Prop,(∀σ' H',N σ' H'->∃m',m'<m/\W (i+1) m' σ' H')/\∀x H',(fB lo n).yld i H x H'->g x σ H' λσ2 H2=>tb { D with nx:=N,ct:=N,bk:=D.nx } σ2 H2):=by
 refine⟨λi m σ H=>m=n - i/\i<=n/\Pv i σ H,⟨n,by simp,BW _,h0⟩,?_⟩;rintro i m σ H ⟨rfl,hi,p⟩;by_cases hlt:i<n
 . refine .inr ⟨hlt,Pv (i+1),λσ' H' p'=>⟨n - (i+1),by omega,rfl,hlt,p'⟩,λx H' y=>?_⟩;obtain⟨e,y⟩:=y;subst e y;exact hs i σ _ hlt p
 . have e:i=n:=by omega
   subst e;exact .inl ⟨BG _,hd σ H p⟩
theorem Az {c:TT} (Pv:St->Hp->Prop) (μ:St->Hp->Nat) (h0:Pv σ H)
   (hs:∀σ H,Pv σ H->c σ H λb H1=>if b=true then tb { D with nx:=λσ' H'=>Pv σ' H'/\μ σ' H'<μ σ H,ct:=λσ' H'=>Pv σ' H'/\μ σ' H'<μ σ H,bk:=D.nx } σ H1 else D.nx σ H1)
   (mono:∀σ H Q Q',(∀b H1,Q b H1->Q' b H1)->c σ H Q->c σ H Q'):pB c tb D σ H:=by
 refine⟨λm σ H=>m=μ σ H/\Pv σ H,⟨_,rfl,h0⟩,?_⟩;rintro m σ H ⟨rfl,p⟩;refine mono σ H _ _ (λb H1 q=>?_) (hs σ H p);cases b with
 | true=>exact⟨_,λσ' H' ⟨p',l⟩=>⟨_,l,rfl,p'⟩,q⟩
 | false=>exact q
abbrev R2:=V->V->Hp->VK->Prop
def aj (X:Cx) (f:Value->Value->Sem Value) (r:R2):Prop :=
 ∀(pins:List (Addr×Obj)) (s:Shared) (σ:St) (H:Hp) (x y:V) (v u:Value) (Q:VK),Inv X pins σ H s->aJ x v->aJ y u->r x y H Q ->
   wpAny (model X.prog X.w) X.A (f v u) (EP X pins σ Q) X.xe s
def jg (X:Cx) (f:Value->Sem Value) (r:V->Hp->VK->Prop):Prop :=
 ∀(pins:List (Addr×Obj)) (s:Shared) (σ:St) (H:Hp) (x:V) (v:Value) (Q:VK),Inv X pins σ H s->aJ x v->r x H Q ->
   wpAny (model X.prog X.w) X.A (f v) (EP X pins σ Q) X.xe s
def bo (X:Cx) (f:Value) (r:List V->Hp->VK->Prop):Prop :=
 ∀(pins:List (Addr×Obj)) (s:Shared) (σ:St) (H:Hp) (xs:List V) (us:List Value) (Q:VK),Inv X pins σ H s->aI xs us->r xs H Q ->
   wpAny (model X.prog X.w) X.A (call f us) (EP X pins σ Q) X.xe s
def iq (r:R2) (ta tb:TE):TE:=λσ H Q=>ta σ H λx H1=>tb σ H1 λy H2=>r x y H2 Q
def tUn (r:V->Hp->VK->Prop) (ta:TE):TE:=λσ H Q=>ta σ H λx H1=>r x H1 Q
def rI (C:Int->Int->Prop) (g:Int->Int->V):R2:=λx y H Q=>∃i j,x=.int i/\y=.int j/\C i j/\Q (g i j) H
def fD (g:Int->Int->V):R2:=λx y H Q=>∃i j,x=.int i/\y=.int j/\Q (g i j) H
def rU (g:Int->V):V->Hp->VK->Prop:=λx H Q=>∃i,x=.int i/\Q (g i) H
section
variable {X:Cx} {a b c:Expr} {ta tb tc:TE} {pos:Pos}
theorem jj (ha:PE X a ta) (hb:PE X b tb) {R:V->V->Hp->Prop} (I:Inv X pins σ H s)
   (h:ta σ H λx H1=>tb σ H1 λy H2=>R x y H2) {Q:Value->Shared->Prop} {f:Value->Value->Sem Value}
   (hf:∀v u s2 x y H2,Inv X pins σ H2 s2->aJ x v->aJ y u->R x y H2->wpAny (model X.prog X.w) X.A (f v u) Q X.xe s2) :
   wpAny (model X.prog X.w) X.A (eval a X.env) (λv s₁=>wpAny (model X.prog X.w) X.A (eval b X.env) (λu s₂=>wpAny (model X.prog X.w) X.A (f v u) Q X.xe s₂) X.xe s₁) X.xe s:=by
 refine aF (ha pins s σ H _ I h) λv s1 ⟨x,H1,I1,r1,q1⟩=>?_;refine aF (hb pins s1 σ H1 _ I1 q1) λu s2 ⟨y,H2,I2,r2,q2⟩=>?_;exact hf v u s2 x y H2 I2 r1 r2 q2
theorem aM {op:Operator} {r:R2} (ho:aj X (binaryOp op) r) (ha:PE X a ta) (hb:PE X b tb):PE X (.BinOp a op b pos) (iq r ta tb):=by intro pins s σ H Q I h;exact wpAny_BinOp (jj ha hb I h λv u s2 x y H2 I2 rx ry q=>ho pins s2 σ H2 x y v u Q I2 rx ry q)
theorem bO {op:UnaryOp} {r:V->Hp->VK->Prop} (ho:jg X (unaryOp op) r) (ha:PE X a ta):PE X (.UnaryOp op a pos) (tUn r ta):=by intro pins s σ H Q I h;exact UnaryOp_ (aF (ha pins s σ H _ I h) λv s1 ⟨x,H1,I1,r1,q1⟩=>ho pins s1 σ H1 x v Q I1 r1 q1)
theorem io {f:Value->Value->Sem Value} {C:Int->Int->Prop} {g:Int->Int->Int}
   (rule:∀(i j:Int) (t u:Tok) (s:Shared) (Q:Value->Shared->Prop) (E:Value->Shared->Prop),C i j->Q (.int (g i j) s.toks) { s with toks:=s.toks+1 }->wpAny (model X.prog X.w) X.A (f (.int i t) (.int j u)) Q E s) :
   aj X f (rI C λi j=>.int (g i j)):=by
 intro pins s σ H x y v u Q I rx ry h;obtain⟨i,j,rfl,rfl,hc,q⟩:=h;obtain⟨t,rfl⟩:=rx;obtain⟨t',rfl⟩:=ry;exact rule i j t t' s _ _ hc ⟨.int (g i j),H,I.tok _,⟨_,rfl⟩,q⟩
theorem qm {f:Value->Value->Sem Value} {g:Int->Int->Int}
   (rule:∀(i j:Int) (t u:Tok) (s:Shared) (Q:Value->Shared->Prop) (E:Value->Shared->Prop),Q (.int (g i j) s.toks) { s with toks:=s.toks+1 }->wpAny (model X.prog X.w) X.A (f (.int i t) (.int j u)) Q E s) :
   aj X f (fD λi j=>.int (g i j)):=by
 intro pins s σ H x y v u Q I rx ry h;obtain⟨i,j,rfl,rfl,q⟩:=h;obtain⟨t,rfl⟩:=rx;obtain⟨t',rfl⟩:=ry;exact rule i j t t' s _ _ ⟨.int (g i j),H,I.tok _,⟨_,rfl⟩,q⟩
theorem ia {f:Value->Value->Sem Value} {g:Int->Int->Bool}
   (rule:∀(i j:Int) (t u:Tok) (s:Shared) (Q:Value->Shared->Prop) (E:Value->Shared->Prop),Q (.bool (g i j)) s->wpAny (model X.prog X.w) X.A (f (.int i t) (.int j u)) Q E s) :
   aj X f (fD λi j=>.bl (g i j)):=by
 intro pins s σ H x y v u Q I rx ry h;obtain⟨i,j,rfl,rfl,q⟩:=h;obtain⟨t,rfl⟩:=rx;obtain⟨t',rfl⟩:=ry;exact rule i j t t' s _ _ ⟨.bl (g i j),H,I,rfl,q⟩
def Ak (i j:Int):Prop:=0<j/\j<1073741824
def je (i j:Int):Prop:=(-(2 ^ 64)<i/\i<2 ^ 64)\/(-(2 ^ 64)<j/\j<2 ^ 64)
theorem je.ok {i j:Int} (h:je i j):IntMulOk i j:=by
 rcases h with⟨h1,h2⟩|⟨h1,h2⟩
 . exact .of_left (intBits_le_64 h1 h2)
 . exact .of_right (intBits_le_64 h1 h2)
theorem cE:aj X (binaryOp .Add) (fD λi j=>.int (i+j)):=qm λ_ _ _ _ _ _ _ q=>add_int q
theorem fH:aj X (binaryOp .Sub) (fD λi j=>.int (i - j)):=qm λ_ _ _ _ _ _ _ q=>sub_int q
theorem dn:aj X (binaryOp .Mult) (rI je λi j=>.int (i * j)):=io λ_ _ _ _ _ _ _ hc q=>mul_int q hc.ok
theorem iX:aj X (binaryOp .FloorDiv) (rI Ak λi j=>.int (i / j)):=io λi j _ _ _ _ _ hc q=>by have h1:(0:Int)<j:=hc.1;have h2:j<1073741824:=hc.2;exact floordiv_int (by omega) (by rw[E1 i (by omega)]; exact q) (.inl (PyProof.noPylong_small (by omega)))
theorem cA:aj X (binaryOp .Mod) (rI (λ_ j=>0<j) λi j=>.int (i%j)):=io λi j _ _ _ _ _ hc q=>by have h1:(0:Int)<j:=hc;exact mod_int' (by omega) (by rw[Int.fmod_eq_emod_of_nonneg i (by omega)]; exact q)
theorem unI {f:Value->Sem Value} {g:Int->Int}
   (rule:∀(i:Int) (t:Tok) (s:Shared) (Q:Value->Shared->Prop) (E:Value->Shared->Prop),Q (.int (g i) s.toks) { s with toks:=s.toks+1 }->wpAny (model X.prog X.w) X.A (f (.int i t)) Q E s) :
   jg X f (rU λi=>.int (g i)):=by
 intro pins s σ H x v Q I rx h;obtain⟨i,rfl,q⟩:=h;obtain⟨t,rfl⟩:=rx;exact rule i t s _ _ ⟨.int (g i),H,I.tok _,⟨_,rfl⟩,q⟩
theorem bN:jg X (unaryOp .USub) (rU λi=>.int (-i)):=unI λ_ _ _ _ _ q=>neg_int q
end
def qG:V->V->Bool
 | .non,.non=>true | .non,.int _=>true | .int _,.non=>true | .non,.bl _=>true | .bl _,.non=>true | .non,.str _=>true | .str _,.non=>true
 | .int _,.int _=>true | .bl _,.bl _=>true | .str _,.str _=>true | .byt _,.byt _=>true
 | .int _,.str _=>true | .str _,.int _=>true | .bl _,.str _=>true | .str _,.bl _=>true
 | _,_=>false
def rEq:R2:=λx y H Q=>qG x y=true/\Q (.bl (decide (x=y))) H
def rNe:R2:=λx y H Q=>qG x y=true/\Q (.bl (!decide (x=y))) H
theorem oV {i j:Int}:decide (V.int i=V.int j)=(i==j):=by rw[C3];simp
theorem nj {i j:Bool}:decide (V.bl i=V.bl j)=(i==j):=by rw[C3];simp
theorem pW {i j:Str}:decide (V.str i=V.str j)=(i==j):=by rw[C3];simp
theorem om {i j:Array UInt8}:decide (V.byt i=V.byt j)=(i.toList==j.toList):=by rw[C3];cases i;cases j;simp
variable {us:List Value}
section
variable {X:Cx} {a b c:Expr} {ta tb tc:TE} {pos:Pos}
theorem bG {Q:VK} {k k':Bool} (I:Inv X pins σ H s) (q:Q (.bl k) H) (e:k=k'):EP X pins σ Q (.bool k') s:=by subst e;exact⟨.bl k,H,I,rfl,q⟩
theorem am:aj X (compareOp .Eq) rEq:=by
 intro pins s σ H x y v u Q I rx ry h;obtain⟨hs,q⟩:=h;cases x with
 | non =>
   cases rx;cases y with
   | non=>cases ry; exact PySem.EqNone.eq_none_none (bG I q (by simp))
   | bl j=>cases ry; exact PySem.EqNone.eq_none_bool (bG I q (by simp))
   | int j=>obtain⟨t',rfl⟩:=ry; exact PySem.EqNone.eq_none_int (bG I q (by simp))
   | str j=>obtain⟨t',rfl⟩:=ry; exact PySem.EqNone.eq_none_str (bG I q (by simp))
   | _=>exact absurd (show false=true from hs) BO
 | bl i =>
   cases rx;cases y with
   | non=>cases ry; exact PySem.EqNone.eq_bool_none (bG I q (by simp))
   | bl j=>cases ry; exact eq_bool (bG I q nj)
   | str j=>obtain⟨t',rfl⟩:=ry; exact PySem.EqMixed.eq_bool_str (bG I q (by simp))
   | _=>exact absurd (show false=true from hs) BO
 | int i =>
   obtain⟨t,rfl⟩:=rx;cases y with
   | non=>cases ry; exact PySem.EqNone.eq_int_none (bG I q (by simp))
   | int j=>obtain⟨t',rfl⟩:=ry; exact eq_int (bG I q oV)
   | str j=>obtain⟨t',rfl⟩:=ry; exact PySem.EqMixed.eq_int_str (bG I q (by simp))
   | _=>exact absurd (show false=true from hs) BO
 | str i =>
   obtain⟨t,rfl⟩:=rx;cases y with
   | non=>cases ry; exact PySem.EqNone.eq_str_none (bG I q (by simp))
   | bl j=>cases ry; exact PySem.EqMixed.eq_str_bool (bG I q (by simp))
   | int j=>obtain⟨t',rfl⟩:=ry; exact PySem.EqMixed.eq_str_int (bG I q (by simp))
   | str j=>obtain⟨t',rfl⟩:=ry; exact eq_str (bG I q pW)
   | _=>exact absurd (show false=true from hs) BO
 | byt i =>
   obtain⟨t,rfl⟩:=rx;cases y with
   | byt j=>obtain⟨t',rfl⟩:=ry; exact PySem.W.eq_bytes (bG I q om)
   | _=>exact absurd (show false=true from hs) BO
 | _=>cases y <;> exact absurd (show false=true from hs) BO
theorem nv:aj X (compareOp .NotEq) rNe:=by
 intro pins s σ H x y v u Q I rx ry h;obtain⟨hs,q⟩:=h;cases x with
 | non =>
   cases rx;cases y with
   | non=>cases ry; exact PySem.EqNone.ne_none_none (bG I q (by simp))
   | bl j=>cases ry; exact PySem.EqNone.ne_none_bool (bG I q (by simp))
   | int j=>obtain⟨t',rfl⟩:=ry; exact PySem.EqNone.ne_none_int (bG I q (by simp))
   | str j=>obtain⟨t',rfl⟩:=ry; exact PySem.EqNone.ne_none_str (bG I q (by simp))
   | _=>exact absurd (show false=true from hs) BO
 | bl i =>
   cases rx;cases y with
   | non=>cases ry; exact PySem.EqNone.ne_bool_none (bG I q (by simp))
   | bl j=>cases ry; exact ne_bool (bG I q (Bv not nj))
   | str j=>obtain⟨t',rfl⟩:=ry; exact PySem.EqMixed.ne_bool_str (bG I q (by simp))
   | _=>exact absurd (show false=true from hs) BO
 | int i =>
   obtain⟨t,rfl⟩:=rx;cases y with
   | non=>cases ry; exact PySem.EqNone.ne_int_none (bG I q (by simp))
   | int j=>obtain⟨t',rfl⟩:=ry; exact ne_int (bG I q (Bv not oV))
   | str j=>obtain⟨t',rfl⟩:=ry; exact PySem.EqMixed.ne_int_str (bG I q (by simp))
   | _=>exact absurd (show false=true from hs) BO
 | str i =>
   obtain⟨t,rfl⟩:=rx;cases y with
   | non=>cases ry; exact PySem.EqNone.ne_str_none (bG I q (by simp))
   | bl j=>cases ry; exact PySem.EqMixed.ne_str_bool (bG I q (by simp))
   | int j=>obtain⟨t',rfl⟩:=ry; exact PySem.EqMixed.ne_str_int (bG I q (by simp))
   | str j=>obtain⟨t',rfl⟩:=ry; exact ne_str (bG I q (Bv not pW))
   | _=>exact absurd (show false=true from hs) BO
 | byt i =>
   obtain⟨t,rfl⟩:=rx;cases y with
   | byt j=>obtain⟨t',rfl⟩:=ry; exact PySem.W.ne_bytes (bG I q (Bv not om))
   | _=>exact absurd (show false=true from hs) BO
 | _=>cases y <;> exact absurd (show false=true from hs) BO
theorem fE:aj X (compareOp .Lt) (fD λi j=>.bl (decide (i<j))):=ia λ_ _ _ _ _ _ _ q=>lt_int q
theorem Ar:aj X (compareOp .LtE) (fD λi j=>.bl (decide (i<=j))):=ia λ_ _ _ _ _ _ _ q=>le_int q
theorem eT:aj X (compareOp .Gt) (fD λi j=>.bl (decide (j<i))):=ia λ_ _ _ _ _ _ _ q=>gt_int q
theorem yO:aj X (compareOp .GtE) (fD λi j=>.bl (decide (j<=i))):=ia λ_ _ _ _ _ _ _ q=>ge_int q
theorem aj.or {f:Value->Value->Sem Value} {r r':R2} (h:aj X f r) (h':aj X f r'):aj X f (λx y H Q=>r x y H Q\/r' x y H Q):=by
 intro pins s σ H x y v u Q I rx ry q;rcases q with q|q
 . exact h pins s σ H x y v u Q I rx ry q
 . exact h' pins s σ H x y v u Q I rx ry q
theorem aN (b:Expr) (h:op≠.In:=by decide) (h2:op≠.NotIn:=by decide):behindInMarks op b=false:=by
 have e1:(op==CmpOp.In)=false:=by cases op <;> first|rfl|exact absurd rfl h
 have e2:(op==CmpOp.NotIn)=false:=by cases op <;> first|rfl|exact absurd rfl h2
 cases b <;> simp [behindInMarks,e1,e2]
theorem eB {r:R2} (ho:aj X (compareOp op) r) (ha:PE X a ta) (hb:PE X b tb) (hm:behindInMarks op b=false):PE X (.Compare a [op] [b] pos) (iq r ta tb):=by intro pins s σ H Q I h;exact wpAny_Compare1 (jj ha hb I h λv u s2 x y H2 I2 rx ry q=>ho pins s2 σ H2 x y v u Q I2 rx ry q) hm
def yc (t:TE):TT:=λσ H Q=>t σ H λx H'=>∃k,x=.bl k/\Q k H'
theorem aL {op:CmpOp} {r:R2} (ho:aj X (compareOp op) r) (ha:PE X a ta) (hb:PE X b tb) (hm:behindInMarks op b=false):PT X (.Compare a [op] [b] pos) (yc (iq r ta tb)):=by
 intro pins s σ H Q I h;refine wpAny_isTrue_Compare1 (aF (ha pins s σ H _ I h) λv s1 ⟨x,H1,I1,r1,q1⟩=>aF (hb pins s1 σ H1 _ I1 q1) λu s2 ⟨y,H2,I2,r2,q2⟩ =>
   aF (ho pins s2 σ H2 x y v u _ I2 r1 r2 q2) λc s3 ⟨z,H3,I3,r3,k,e,q3⟩=>?_) hm
 subst e;cases r3;exact CV ⟨H3,I3,q3⟩
def Aa (r r':R2) (ta tb tc:TE):TE:=λσ H Q=>ta σ H λx H1=>tb σ H1 λy H2=>r x y H2 λz H3=>∃k,z=.bl k /\
 (if k=true then tc σ H3 λw' H4=>r' y w' H4 Q else Q (.bl false) H3)
theorem wX {op':CmpOp}{r r':R2} (ho:aj X (compareOp op) r) (ho':aj X (compareOp op') r') (ha:PE X a ta) (hb:PE X b tb) (hc:PE X c tc)
   (hm:lastMarks [op,op'] [b,c]=false:=by with_unfolding_all rfl):PE X (.Compare a [op,op'] [b,c] pos) (Aa r r' ta tb tc):=by
 intro pins s σ H Q I h;refine Compare_chain (aF (ha pins s σ H _ I h) λv s1 ⟨x,H1,I1,r1,q1⟩=>chain_link (aF (hb pins s1 σ H1 _ I1 q1) λu s2 ⟨y,H2,I2,r2,q2⟩ =>
   aF (ho pins s2 σ H2 x y v u _ I2 r1 r2 q2) λd s3 ⟨z,H3,I3,r3,k,e,q3⟩=>?_)) hm
 subst e;cases r3;refine CV ?_;cases k with
 | false=>exact ite_ff ⟨.bl false,H3,I3,rfl,q3⟩
 | true=>exact ite_tt (chain_last (aF (hc pins s3 σ H3 _ I3 q3) λw' s4 ⟨z',H4,I4,r4,q4⟩=>ho' pins s4 σ H4 y z' u w' Q I4 r2 r4 q4))
theorem gf:(sizeLine:Nat)<2 ^ 63:=by rw[sizeLine_eq]; decide
theorem nH:aj X (binaryOp .Add) (λx y H Q=>∃i j,x=.str i/\y=.str j/\i.length+j.length<=sizeLine/\Q (.str (i++j)) H):=by intro pins s σ H x y v u Q I rx ry h;obtain⟨i,j,rfl,rfl,hz,q⟩:=h;obtain⟨t,rfl⟩:=rx;obtain⟨t',rfl⟩:=ry;exact add_str (λt' tk=>⟨.str (i++j),H,I.tok _,⟨_,rfl⟩,q⟩) hz
theorem dj {x:V} (r:aI [x] us):∃u,us=[u]/\aJ x u:=by
 cases r with
 | cons r1 r2=>cases r2; exact⟨_,rfl,r1⟩
theorem lO {x y:V} (r:aI [x,y] us):∃u w',us=[u,w']/\aJ x u/\aJ y w':=by
 cases r with
 | cons r1 r2 =>
   cases r2 with
   | cons r3 r4=>cases r4; exact⟨_,_,rfl,r1,r3⟩
theorem yN (hc:X.calm=true):bo X (.builtin "max") (λxs H Q=>∃i j,xs=[.int i,.int j]/\Q (.int (if j > i then j else i)) H):=by
 intro pins s σ H xs us Q I r h;obtain⟨i,j,rfl,q⟩:=h;obtain⟨u,w',rfl,⟨t,rfl⟩,⟨t',rfl⟩⟩:=lO r;refine max_two_ints (I.ok.hd hc) λh' tk k=>⟨_,H,I.kept k,?_,q⟩
 by_cases hj:j > i
 . rw[BJ hj,BJ hj]; exact⟨_,rfl⟩
 . rw[BE hj,BE hj]; exact⟨_,rfl⟩
theorem kU:bo X (.type "int") (λxs H Q=>(∃i,xs=[.int i]/\Q (.int i) H)\/∃k,xs=[.bl k]/\Q (.int (if k then 1 else 0)) H):=by
 intro pins s σ H xs us Q I r h;rcases h with⟨i,rfl,q⟩|⟨k,rfl,q⟩
 . obtain⟨u,rfl,t,rfl⟩:=dj r;exact call_int_int ⟨.int i,H,I,⟨_,rfl⟩,q⟩
 . obtain⟨u,rfl,r1⟩:=dj r;cases r1;exact call_int_bool ⟨.int (if k then 1 else 0),H,I.tok _,⟨_,rfl⟩,q⟩
end
structure ObjM (h:Heap) (x dx C:Addr) (mA:Str->Option Value):Prop where
 obj:h.get? x=some (PySem.W.instObj C dx)
 ns:h.Ns1 dx mA
 ne:dx≠x
theorem tW {dx:Addr} {mA:Str->Option Value} (n:h.Ns1 dx mA):∃od,h.get? dx=some od/\∀name,PySem.W.lookIn name od=some (mA name):=by
 obtain⟨o,es,ep,ho,hd,hk,_,hm⟩:=n;refine⟨o,ho,λname=>?_⟩;have e:=hm name;unfold nsFind findBy at e;rw[<- Array.find?_toList] at e;unfold PySem.W.lookIn;rw[hd];dsimp only;split
 . rename_i y q
   rw[q] at e;exact Bv some e
 . rename_i q
   rw[q] at e;have a:es.toList.any (·.refKey)=false:=by rw[List.any_eq_false];intro y hy;obtain⟨z,t,hkey⟩:=hk y (Ck.mp hy);simp [DictEntry.refKey,hkey]
   have a':¬ es.toList.any (·.refKey)=true:=by rw[a]; exact BO
   rw[BE a'];exact Bv some e
variable {C:Addr}
theorem ObjM.look {x dx:Addr}{mA:Str->Option Value} (I:ObjM h x dx C mA):∃od,PySem.W.InstAt h x (PySem.W.instObj C dx) C (some od)/\∀name,PySem.W.lookIn name od=some (mA name) :=
 let ⟨od,ho,hl⟩:=tW I.ns
 ⟨od,⟨I.obj,rfl,rfl,ho⟩,hl⟩
section
variable {prog:Program} {w:World} {A:Around} {E:Value->Shared->Prop} {s:Shared} {K:W.Frag} {x dx C f:Addr} {mA:Str->Option Value} {name:Str} {v:Value}
theorem xq {expr:Bool} {Q:Value->Shared->Prop} (X:K.In s.heap) (I:ObjM s.heap x dx C mA) (hg:PySem.W.plainGet K C name=true) (hh:PySem.W.hasDictIn K C=true)
   (ha:PySem.W.findIn K (.ref C) name=some none) (hv:mA name=some v) (hv':PySem.W.handedIn v=true) (h:Q v { s with toks:=s.toks+1 }) :
   wpAny (model prog w) A (getAttr (.ref x) name expr) Q E s:=by
 obtain⟨od,J,hl⟩:=I.look;exact PySem.W.get_value X J (PySem.W.plainGet_of hg).1 (PySem.W.findObj_own hh ha rfl (by rw[hl,hv])) hv' h
theorem zd {pl:Sem Bool} {Q:Value×List Value->Shared->Prop} (X:K.In s.heap) (I:ObjM s.heap x dx C mA) (hg:PySem.W.plainGet K C name=true)
   (hf:PySem.W.findIn K (.ref C) name=some (some (.ref f))) (ht:PySem.W.isFn K (.ref f)=true) (hv:mA name=none) (h:Q (.ref f,[.ref x]) s) :
   wpAny (model prog w) A (getMethod (.ref x) name pl) Q E s:=by
 obtain⟨od,J,hl⟩:=I.look;exact PySem.W.method_fn X J (PySem.W.plainGet_of hg).1 (PySem.W.plainGet_of hg).2 hf (beq_iff_eq.mp ht) (by show(PySem.W.lookIn name od).map (·.isSome)=some false; rw[hl,hv]; rfl) h
theorem AX {ns:List Str} {Q:Unit->Shared->Prop} (X:K.In s.heap) (I:ObjM s.heap x dx C mA)
   (hs:PySem.W.findIn K (.ref C) "__setattr__"=some (some (.builtin "object.__setattr__"))) (hp:PySem.W.plainOver K C=true) (ht:PySem.W.takerIn K C name=some none) (hh:PySem.W.hasDictIn K C=true)
   (hw:PySem.Within mA ns) (hsz:ns.length<=sizeLine)
   (h:∀h',ObjM h' x dx C (λy=>if y=name then some v else mA y)->Heap.SameBut dx s.heap h'->Q () { s with heap:=h',toks:=s.toks+2 }) :
   wpAny (model prog w) A (setAttr (.ref x) name v) Q E s:=by
 obtain⟨od,J,hl⟩:=I.look;refine PySem.W.set_plain X J hs (PySem.W.osa_open (s:={ s with toks:=s.toks+1 }) (r:=none) X J hp ht λb=>?_);obtain⟨cd,hc,hd'⟩:=PySem.W.any_some hh;have hx:s.heap.get? x=some ⟨.ref C,some dx,.plain,#[]⟩:=I.obj;refine BB (BF (BB (BB (wpAny_loadPart hx (BB (PySem.W.Looks.here (s:={ s with toks:=s.toks+1 }) (PySem.W.looks_clsIn X hc) ?_))))));rw[hd'];refine BF (a:=some dx) (BB (BF (BB ?_)));refine wpAny_nsSet1 (s:={ s with toks:=s.toks+1 }) I.ns λh' hn2 hs2=>?_;obtain⟨oD,esD,epD,hoD,hdD,hcD⟩:=hn2.count (PySem.Within.cons name v hw);refine BB (wpAny_lookBehind hoD (by rw[hdD]; exact pastItsLine_dict (Bk hcD (by rw[BV]; omega))) ?_);exact BF (h _ ⟨(hs2.2 _ (Ne.symm I.ne)).trans I.obj,hn2,I.ne⟩ hs2)
theorem x6 {R:Result->Shared->Prop} {vs:List Value} {kw:List (Str×Value)} (X:K.In s.heap) (hm:PySem.W.makesIn K C=true)
   (hi:PySem.W.findIn K (.ref C) "__init__"=some (some (.ref f))) (hf:PySem.W.typeIn K (.ref f)=some (.type "function"))
   (h:codeAny (model prog w) (A.under (.builtin "type.__call__" ⟨.ref C :: vs,kw⟩)) (.call (.ref f) ⟨.ref (s.heap.objs.size+1) :: vs,kw⟩) (PySem.W.InitBack (s.heap.objs.size+1) R)
     { s with heap:=(s.heap.push PySem.W.emptyDict).push (PySem.W.instObj C s.heap.objs.size) }) :
   codeAny (model prog w) A (.call (.ref C) ⟨vs,kw⟩) R s:=by
 obtain⟨hh,g,d,t,os⟩:=s;exact PySem.W.make_core (PySem.W.makes_of X hm) (PySem.W.looks_findIn X hi) (λself=>PySem.W.bind_fn X self hf) (.inl rfl) h
end
def bX (f:Str) (v:V):List (Str×V)->List (Str×V)
 | []=>[(f,v)]
 | (g,x) :: r=>if g=f then(g,v) :: r else(g,x) :: bX f v r
theorem bL (f g:Str) (v:V):∀fs:List (Str×V),(bX f v fs).lookup g=if g=f then some v else fs.lookup g
 | []=>by
   show List.lookup g [(f,v)]=_;by_cases h:g=f
   . have hb:(g==f)=true:=beq_iff_eq.mpr h;simp only[List.lookup,hb,BJ h]
   . have hb:(g==f)=false:=beq_eq_false_iff_ne.mpr h;simp only[List.lookup,hb,BE h]
 | (k,x) :: r=>by
   have ih:=bL f g v r;rw[show bX f v ((k,x) :: r)=(if k=f then(k,v) :: r else(k,x) :: bX f v r) from rfl];by_cases hk:k=f
   . rw[BJ hk];by_cases h:g=k
     . have hb:(g==k)=true:=beq_iff_eq.mpr h;simp only[List.lookup,hb,BJ (h.trans hk)]
     . have hb:(g==k)=false:=beq_eq_false_iff_ne.mpr h;simp only[List.lookup,hb,BE (λe:g=f=>h (e.trans hk.symm))]
   . rw[BE hk];by_cases h:g=k
     . have hb:(g==k)=true:=beq_iff_eq.mpr h;simp only[List.lookup,hb,BE (λe:g=f=>hk (h.symm.trans e))]
     . have hb:(g==k)=false:=beq_eq_false_iff_ne.mpr h;simp only[List.lookup,hb];exact ih
theorem lW (f:Str) (v:V):∀fs:List (Str×V),f∈(bX f v fs).map (·.1)/\∀g,g∈fs.map (·.1)->g∈(bX f v fs).map (·.1)
 | []=>⟨by simp [bX],λg h=>by simp at h⟩
 | (k,x) :: r=>by
   obtain⟨i1,i2⟩:=lW f v r;rw[show bX f v ((k,x) :: r)=(if k=f then(k,v) :: r else(k,x) :: bX f v r) from rfl];by_cases hk:k=f
   . rw[BJ hk];subst hk;exact⟨by simp,λg h=>by simpa using h⟩
   . rw[BE hk];refine⟨?_,λg h=>?_⟩
     . rw[Bx];exact BS _ i1
     . rw[Bx] at h ⊢;rcases Be.mp h with e|e
       . exact Be.mpr (.inl e)
       . exact BS _ (i2 g e)
theorem lS (f:Str) (v:V):∀fs:List (Str×V),(bX f v fs).length<=fs.length+1
 | []=>by simp [bX]
 | (k,x) :: r=>by
   have ih:=lS f v r;rw[show bX f v ((k,x) :: r)=(if k=f then(k,v) :: r else(k,x) :: bX f v r) from rfl];by_cases hk:k=f
   . rw[BJ hk,BV,BV]; omega
   . rw[BE hk,BV,BV]; omega
theorem cL.some_of {o:Option Value} (r:cL (some v) o):∃u,o=some u/\aJ v u:=by
 cases o with
 | none=>exact(show False from r).elim
 | some u=>exact⟨u,rfl,r⟩
theorem cL.none_of {o:Option Value} (r:cL none o):o=none:=by
 cases o with
 | none=>rfl
 | some u=>exact(show False from r).elim
theorem uA (r:aJ v u):PySem.W.handedIn u=true:=by
 cases v with
 | non=>cases (show u=Value.none from r); rfl
 | bl b=>cases (show u=Value.bool b from r); rfl
 | int i=>obtain⟨t,e⟩:=(show ∃t,u=Value.int i t from r); cases e; rfl
 | str x=>obtain⟨t,e⟩:=(show ∃t,u=Value.str x t from r); cases e; rfl
 | byt b=>obtain⟨t,e⟩:=(show ∃t,u=Value.bytes b t from r); cases e; rfl
 | flt b=>obtain⟨t,e⟩:=(show ∃t,u=Value.float b t from r); cases e; rfl
 | ref a=>cases (show u=Value.ref a from r); rfl
 | ty n=>cases (show u=Value.type n from r); rfl
section
variable {P:Program} {w:World} {H H':Hp} {h h':Heap} {a C dx:Addr} {fs fs':List (Str×V)}
theorem iZ (hok:bK P w H h) (e:H a=some (.ins C dx fs)):∃mA,ObjM h a dx C mA/\(∀f,cL (fs.lookup f) (mA f))/\PySem.Within mA (fs.map (·.1))/\fs.length<=1000/\H dx=some (.own a):=by
 obtain⟨d,z,ne,ob,mA,n,r,q⟩:=(show bH P w H h a (.ins C dx fs) from hok a _ e)
 exact⟨mA,⟨ob,n,ne⟩,r,q,z,d⟩
end
structure Cls (K:W.Frag) (C:Addr):Prop where
 pg:PySem.W.plainGet K C Str.empty=true
 hd:PySem.W.hasDictIn K C=true
 po:PySem.W.plainOver K C=true
 sa:PySem.W.findIn K (.ref C) "__setattr__"=some (some (.builtin "object.__setattr__"))
theorem Cls.get {K:W.Frag} {C:Addr} (c:Cls K C) (f:Str):PySem.W.plainGet K C f=true:=c.pg
def cp (K:W.Frag) (C:Addr) (f:Str):Prop:=PySem.W.findIn K (.ref C) f=some none
theorem cp.taker {f:Str} (n:cp K C f):PySem.W.takerIn K C f=some none:=by unfold PySem.W.takerIn;rw[show PySem.W.findIn K (.ref C) f=some none from n];rfl
structure Meth (K:W.Frag) (C:Addr) (m:Str) (f:Addr):Prop where
 at_:PySem.W.findIn K (.ref C) m=some (some (.ref f))
 fn:PySem.W.isFn K (.ref f)=true
 kp:PySem.W.keepIn K (.ref f)=true
section
variable {X:Cx} {pins:List (Addr×Obj)} {σ:St} {H:Hp} {s:Shared} {a C dx:Addr} {fs:List (Str×V)} {f:Str} {v:V} {A:Around} {E:Value->Shared->Prop}
theorem vH {b:Bool} {Q:Value->Shared->Prop} (I:Inv X pins σ H s) (e:H a=some (.ins C dx fs)) (c:Cls X.K C) (n:cp X.K C f) (l:fs.lookup f=some v)
   (h:∀u s',Inv X pins σ H s'->aJ v u->Q u s'):wpAny (model X.prog X.w) A (getAttr (.ref a) f b) Q E s:=by
 obtain⟨mA,O,r,_,_,_⟩:=iZ I.hok e;obtain⟨u,hu,ru⟩:=cL.some_of (v:=v) (o:=mA f) (by rw[<- l]; exact r f);exact xq I.kIn O (c.get f) c.hd n hu (uA ru) (h u _ (I.tok _) ru)
theorem vG {m:Str} {g:Addr} {pl:Sem Bool} {Q:Value×List Value->Shared->Prop} (I:Inv X pins σ H s) (e:H a=some (.ins C dx fs)) (c:Cls X.K C) (k:Meth X.K C m g) (l:fs.lookup m=none)
   (h:Q (.ref g,[.ref a]) s):wpAny (model X.prog X.w) A (getMethod (.ref a) m pl) Q E s:=by
 obtain⟨mA,O,r,_,_,_⟩:=iZ I.hok e;have hn:mA m=none:=cL.none_of (by rw[<- l]; exact r m);exact zd I.kIn O (c.get m) k.at_ k.fn hn h
theorem vJ {y:V} {Q:Unit->Shared->Prop} (I:Inv X pins σ H s) (e:H a=some (.ins C dx fs)) (c:Cls X.K C) (n:cp X.K C f) (hl:fs.length<1000) (ry:aJ y u)
   (h:∀s',Inv X pins σ (upd H a (.ins C dx (bX f y fs))) s'->Q () s'):wpAny (model X.prog X.w) A (setAttr (.ref a) f u) Q E s:=by
 obtain⟨mA,O,r,wi,_,ho⟩:=iZ I.hok e;have hz:(fs.map (·.1)).length<=sizeLine:=by rw[BA,sizeLine_eq]; omega
 refine AX I.kIn O c.sa c.po n.taker c.hd wi hz λh' O' sb=>h _ ?_;have hd:∃o,h'.get? dx=some o:=let ⟨o,_,_,e',_⟩:=O'.ns; ⟨o,e'⟩
 refine I.write (x:=a) (e:=dx) (by rw[e]; exact True.intro) (.inr ho) (λb q hb z=>(sb.2 b hb).trans z) hd ?_;refine⟨by rw[aH O.ne]; exact ho,?_,O.ne,O'.obj,_,O'.ns,λg=>?_,λg hg=>?_⟩
 . have:=lS f y fs; omega
 . show cL ((bX f y fs).lookup g) (if g=f then some u else mA g);rw[bL];by_cases q:g=f
   . rw[BJ q,BJ q]; exact ry
   . rw[BE q,BE q]; exact r g
 . by_cases q:g=f
   . rw[q]; exact(lW f y fs).1
   . refine(lW f y fs).2 g (wi g λz=>hg ?_);show(if g=f then some u else mA g)=none;rw[BE q]; exact z
theorem Inv.made (I:Inv X pins σ H s):Inv X pins σ (upd (upd H s.heap.objs.size (.own (s.heap.objs.size+1))) (s.heap.objs.size+1) (.ins C s.heap.objs.size []))
   { s with heap:=(s.heap.push PySem.W.emptyDict).push (PySem.W.instObj C s.heap.objs.size) }:=by
 have e1:(s.heap.push PySem.W.emptyDict).get? s.heap.objs.size=some PySem.W.emptyDict:=Bh s.heap rfl;have e2:((s.heap.push PySem.W.emptyDict).push (PySem.W.instObj C s.heap.objs.size)).get? (s.heap.objs.size+1)=some (PySem.W.instObj C s.heap.objs.size):=by have:=Bh (s.heap.push PySem.W.emptyDict) (o:=PySem.W.instObj C s.heap.objs.size) rfl;rwa [DN] at this
 have e3:(s.heap.push PySem.W.emptyDict).Ns s.heap.objs.size (λ_=>none):=⟨PySem.W.emptyDict,#[],_,e1,rfl,(λe he=>absurd he (by simp)),λ_=>rfl⟩
 have I1:=I.laid (a:=s.heap.objs.size) (o:=.own (s.heap.objs.size+1)) (h':=s.heap.push PySem.W.emptyDict) (t':=s.toks) (λb u q=>BM _ q) (BG _) ⟨_,e1⟩;refine I1.laid (a:=s.heap.objs.size+1) (o:=.ins C s.heap.objs.size []) (t':=s.toks) (λb u q=>BM _ q) (EC (DN _ _)) ?_;have ne:s.heap.objs.size≠s.heap.objs.size+1:=Bu (CA _);refine⟨by rw[aH ne,a8],BW _,ne,e2,λ_=>none,(Heap.Ns1.of_empty e3).at λo q=>BM _ q,λ_=>True.intro,λy hy=>absurd rfl hy⟩
theorem xl {prog:Program} {env:Env} {f:Str} {Q:Value->Shared->Prop} (hb:attributeBase e f env (eval e env)=eval e env)
   (h:wpAny (model prog w) A (eval e env) (λo s₁=>wpAny (model prog w) A (getAttr o f true) Q E s₁) E s):wpAny (model prog w) A (eval (.Attribute e f pos) env) Q E s :=
 Attribute_any_ h (by rw[arm_eval_Attribute,hb])
end
def tR (K:W.Frag) (ta:TE) (f:Str):TE:=λσ H Q=>ta σ H λx H1=>∃a C dx fs v,x=.ref a/\H1 a=some (.ins C dx fs)/\Cls K C/\cp K C f/\fs.lookup f=some v/\Q v H1
def wJ (K:W.Frag) (ta tv:TE) (f:Str):TS:=λD σ H=>tv σ H λy H1=>ta σ H1 λx H2=>∃a C dx fs,x=.ref a/\H2 a=some (.ins C dx fs)/\Cls K C/\cp K C f/\fs.length<1000 /\
 D.nx σ (upd H2 a (.ins C dx (bX f y fs)))
section
variable {X:Cx} {o e value:Expr} {f:Str} {pos pos' tpos:Pos} {ta tv:TE}
theorem dN (he:PE X e ta) (hb:attributeBase e f X.env (eval e X.env)=eval e X.env):PE X (.Attribute e f pos) (tR X.K ta f):=by intro pins s σ H Q I h;refine xl hb (aF (he pins s σ H _ I h) λu s1 ⟨x,H1,I1,rx,a,C,dx,fs,v,ex,ea,c,n,l,q⟩=>?_);subst ex;obtain rfl:u=Value.ref a:=rx;exact vH I1 ea c n l λu' s2 I2 ru=>⟨v,H1,I2,ru,q⟩
theorem fS (ha:PE X o ta) (hv:PE X value tv) (hs:swapsWith value (some (.Attribute o f pos')) pos.line X.env=pure false):PS X (.Assign [.Attribute o f pos'] value pos) (wJ X.K ta tv f):=by intro pins s σ H D I h;refine plainObj_wpAny_Assign_Attribute (aF (hv pins s σ H _ I h) λu s1 ⟨y,H1,I1,ry,q⟩=>aF (ha pins s1 σ H1 _ I1 q) λov s2 ⟨x,H2,I2,rx,a,C,dx,fs,ex,ea,c,n,l,q2⟩=>?_) hs;subst ex;obtain rfl:ov=Value.ref a:=rx;exact vJ I2 ea c n l ry λs3 I3=>⟨σ,_,I3,q2⟩
end
section
variable {X:Cx} {pins:List (Addr×Obj)} {σ:St} {H:Hp} {s:Shared} {A:Around} {E:Value->Shared->Prop} {Q:Value->Shared->Prop} {c:Value} {b:Bool}
inductive TyOf (K:W.Frag) (H:Hp):V->Value->Prop where
 | non:TyOf K H .non (.type "NoneType")
 | bl (x:Bool):TyOf K H (.bl x) (.type "bool")
 | int (i:Int):TyOf K H (.int i) (.type "int")
 | str (x:Str):TyOf K H (.str x) (.type "str")
 | flt (x:UInt64):TyOf K H (.flt x) (.type "float")
 | lst {a:Addr} {xs:List V} (e:H a=some (.lst xs)):TyOf K H (.ref a) (.type "list")
 | frz {a:Addr} {o:Obj} {xs:List V} (e:H a=some (.frz o (.lst xs))):TyOf K H (.ref a) (.type "list")
 | tup {a:Addr} {xs:List V} (e:H a=some (.tup xs)):TyOf K H (.ref a) (.type "tuple")
 | dK {a:Addr} {kvs:List (aD×V)} (e:H a=some (.dK kvs)):TyOf K H (.ref a) (.type "dict")
 | dT {a:Addr} {kvs:List (List aD×V)} (e:H a=some (.dT kvs)):TyOf K H (.ref a) (.type "dict")
 | ins {a C dx:Addr} {fs:List (Str×V)} (e:H a=some (.ins C dx fs)) (cl:Cls K C) (ha:PySem.W.findIn K (.ref C) "__class__"=some (some (.builtin "object.__class__")))
     (hn:PySem.W.specialIn K (.builtin "object.__class__") "__get__"=some (some (.builtin "getset_descriptor.__get__"))) (htk:PySem.W.takesIn K (.builtin "object.__class__")=some true)
     (hm:PySem.W.mroIn K C (.type "object")=some true):TyOf K H (.ref a) (.ref C)
theorem pK {x:V} {t:Value}(I:Inv X pins σ H s) (rx:aJ x u) (ty:TyOf X.K H x t) (e:PySem.W.kitOne X.K t c=some b) (h:∀tk,Q (.bool b) { s with toks:=tk }) :
   wpAny (model X.prog X.w) A (call (.builtin "isinstance") [u,c]) Q E s:=by
 cases ty with
 | non=>cases (show u=Value.none from rx); exact PySem.W.kia_one PySem.W.kitx_none I.kIn True.intro e (λz=>nomatch z) h
 | bl y=>cases (show u=Value.bool y from rx); exact PySem.W.kia_one PySem.W.kitx_bool I.kIn True.intro e (λz=>nomatch z) h
 | int i=>obtain⟨t,q⟩:=(show ∃t,u=Value.int i t from rx); cases q; exact PySem.W.kia_one PySem.W.kitx_int I.kIn True.intro e (λz=>nomatch z) h
 | str y=>obtain⟨t,q⟩:=(show ∃t,u=Value.str y t from rx); cases q; exact PySem.W.kia_one PySem.W.kitx_str I.kIn True.intro e (λz=>nomatch z) h
 | flt y=>obtain⟨t,q⟩:=(show ∃t,u=Value.float y t from rx); cases q; exact PySem.W.kia_one PySem.W.kitx_float I.kIn True.intro e (λz=>nomatch z) h
 | @lst a xs ea =>
   cases (show u=Value.ref a from rx);obtain⟨_,_,n,_,h1⟩:=(show bH X.prog X.w H s.heap a (.lst xs) from I.hok a _ ea)
   exact PySem.W.kia_one PySem.W.kitx_list I.kIn ⟨_,h1,rfl⟩ e (λz=>nomatch z) h
 | @frz a ob xs ea =>
   cases (show u=Value.ref a from rx);obtain⟨_,_,_,n,_,h1⟩:=(show bH X.prog X.w H s.heap a (.frz ob (.lst xs)) from I.hok a _ ea)
   exact PySem.W.kia_one PySem.W.kitx_list I.kIn ⟨_,h1,rfl⟩ e (λz=>nomatch z) h
 | @tup a xs ea =>
   cases (show u=Value.ref a from rx);obtain⟨_,_,_,p⟩:=(show bH X.prog X.w H s.heap a (.tup xs) from I.hok a _ ea)
   obtain⟨o,h1,h2,_⟩:=p;exact PySem.W.kia_one PySem.W.kitx_tuple I.kIn ⟨o,h1,h2⟩ e (λz=>nomatch z) h
 | @dK a kvs ea =>
   cases (show u=Value.ref a from rx);obtain⟨_,_,vs,_,p⟩:=(show bH X.prog X.w H s.heap a (.dK kvs) from I.hok a _ ea)
   obtain⟨o,es,ep,h1,h2,_⟩:=p;exact PySem.W.kia_one PySem.W.kitx_dict I.kIn ⟨o,h1,h2.1⟩ e (λz=>nomatch z) h
 | @dT a kvs ea =>
   cases (show u=Value.ref a from rx);obtain⟨_,_,xs,_,o,es,ep,h1,h2,_⟩:=(show bH X.prog X.w H s.heap a (.dT kvs) from I.hok a _ ea)
   exact PySem.W.kia_one PySem.W.kitx_dict I.kIn ⟨o,h1,h2.1⟩ e (λz=>nomatch z) h
 | @ins a C dx fs ea cl ha hn htk hm =>
   cases (show u=Value.ref a from rx);obtain⟨mA,O,_⟩:=iZ I.hok ea;obtain⟨od,J,_⟩:=O.look;exact PySem.W.kia_one (PySem.W.kitx_own (cl.get _) cl.hd ha hn htk hm) I.kIn J e (λz=>nomatch z) h
end
structure Room (k:Nat) (A:Around):Prop where
 hd:A.handled=none
 dp:A.depth+3 * k+5<recursionLimit
 un:A.units+16 * k+200<cLine
theorem Room.mono {j k:Nat} (r:Room k A) (h:j<=k):Room j A:=⟨r.hd,by have:=r.dp; omega,by have:=r.un; omega⟩
theorem Room.deeper {k:Nat} (r:Room (k+1) A) (env:Env):Room k (A.deeper env) :=
 ⟨r.hd,by have:=r.dp; show A.depth+1+3 * k+5<_; omega,by have:=r.un; show A.units+3+16 * k+200<_; omega⟩
theorem An {kw:List (Str×Value)}:(A.under (.builtin "type.__call__" ⟨.ref C :: us,kw⟩)).depth=A.depth+1:=by
 first|rfl|simp [Around.under,Code.weight,Code.isCreation,Code.isGuard,Code.isCaller,Code.frames,Code.isFrame,guardIds]
theorem wP {kw:List (Str×Value)}:(A.under (.builtin "type.__call__" ⟨.ref C :: us,kw⟩)).units=A.units+1:=by
 first|rfl|simp [Around.under,Code.cUnits,Code.frames,Code.isFrame]
theorem Room.make {k:Nat} (r:Room (k+1) A) (C:Addr) (us:List Value) (kw:List (Str×Value)):Room k (A.under (.builtin "type.__call__" ⟨.ref C :: us,kw⟩)) :=
 ⟨r.hd,by have:=r.dp; rw[An]; omega,by have:=r.un; rw[wP]; omega⟩
theorem Room.depth {k:Nat} (r:Room k A):A.depth<recursionLimit:=by have:=r.dp; omega
theorem Room.units {k:Nat} (r:Room k A):A.units+64<cLine:=by have:=r.un; omega
def AU:TA:=λ_ H Q=>Q [] H
def qk (ta:TE) (tr:TA):TA:=λσ H Q=>ta σ H λx H1=>tr σ H1 λxs H2=>Q (x :: xs) H2
section
variable {X:Cx} {e:Expr} {es:List Expr} {te:TE} {t:TA} {pos:Pos}
theorem a7:PA X [] AU:=λ_ _ _ _ H Q I h=>Calls.spliced_nil ⟨[],H,I,.nil,h⟩
theorem ae (ha:PE X e te) (hr:PA X es t) (hs:starEach (e :: es) X.env=(false,eval e X.env) :: starEach es X.env:=by rfl):PA X (e :: es) (qk te t):=by intro pos pins s σ H Q I h;rw[hs];show wpAny _ _ (spliced ((false,eval e X.env) :: backTo pos (starEach es X.env))) _ _ s;refine Calls.spliced_cons (aF (ha pins s σ H _ I h) λu s1 ⟨x,H1,I1,r1,q1⟩=>?_);exact aF (hr pos pins s1 σ H1 _ I1 q1) λus s2 ⟨xs,H2,I2,r2,q2⟩=>⟨x :: xs,H2,I2,.cons r1 r2,q2⟩
theorem a4 {es:List Expr} {t:TA} (ha:PE X e te) (hr:PA X es t) (hs:starEach (e :: es) X.env=(false,eval e X.env) :: starEach es X.env):PA X (e :: es) (qk te t):=ae ha hr hs
def pI (t:TA):TE:=λσ H Q=>t σ H λxs H1=>xs.length<=sizeLine/\∀p,H1 p=none->Q (.ref p) (upd H1 p (.tup xs))
def nt (t:TA):TE:=λσ H Q=>t σ H λxs H1=>xs.length<=sizeLine/\∀p,H1 p=none->Q (.ref p) (upd H1 p (.lst xs))
theorem aS {x1} (h:PA X es t):PE X (.Tuple es x1 pos) (pI t):=by intro pins s σ H Q I hq;refine wpAny_Tuple_spliced (aF (h pos pins s σ H _ I hq) λus s1 ⟨xs,H1,I1,r,z,q⟩=>⟨by rw[<- r.length]; exact z,?_⟩);have hf:H1 s1.heap.objs.size=none:=I1.hok.fresh (BG _);refine⟨.ref s1.heap.objs.size,upd H1 s1.heap.objs.size (.tup xs),I1.laid (t':=s1.toks) (λb u e=>BM _ e) (BG _) ?_,rfl,q _ hf⟩;exact⟨z,us,r,⟨_,Bh _ rfl,rfl,_,rfl⟩⟩
theorem bd (h:PA X es t):PE X (.List es pos) (nt t):=by intro pins s σ H Q I hq;refine wpAny_List_spliced (aF (h pos pins s σ H _ I hq) λus s1 ⟨xs,H1,I1,r,z,q⟩=>⟨by rw[<- r.length]; exact z,?_⟩);have hf:H1 s1.heap.objs.size=none:=I1.hok.fresh (BG _);refine⟨.ref s1.heap.objs.size,upd H1 s1.heap.objs.size (.lst xs),I1.laid (t':=s1.toks) (λb u e=>BM _ e) (BG _) ?_,rfl,q _ hf⟩;exact⟨z,us,0,r,Bh _ rfl⟩
end
abbrev Sp:=List V->Hp->VK->XK->Prop
abbrev dP:=List Env->Hp->Shared->XK->Value->Shared->Prop
structure Env0 (P:Program) (w:World) (K:W.Frag) (mg:Str->Option Value) (base:Heap) (A:Around) (outer:List Env) (s:Shared) (H:Hp):Prop where
 frames:A.frames=some outer
 mod:Mod K mg base
 bs:∀b o,base.get? b=some o->s.heap.get? b=some o/\H b=none
 bsz:base.objs.size<=s.heap.objs.size
 funs:s.heap.FunFrames base outer
 frf:∀b∈dO outer,H b=none
 hok:bK P w H s.heap
 bare:AllBare s.gens
def CE (outer:List Env) (P:Program) (w:World) (H:Hp) (s:Shared) (Q:VK) (u:Value) (s':Shared):Prop :=
 ∃v H',s'.os=s.os/\AllBare s'.gens/\Un (dO outer) [] H H' s.heap s'.heap/\bK P w H' s'.heap/\aJ v u/\Q v H'
def CR (CX:dP) (outer:List Env) (P:Program) (w:World) (H:Hp) (s:Shared) (Q:VK) (E:XK) (r:Result) (s':Shared):Prop :=
 match r with
 | .ok (.ret u)=>CE outer P w H s Q u s'
 | .ok _=>False
 | .error e=>CX outer H s E e s'
structure FnOk (P:Program) (w:World) (K:W.Frag) (mg:Str->Option Value) (base:Heap) (CX:dP) (k:Nat) (f:Addr) (fd:FuncData) (ps:List Str) (sp:Sp):Prop where
 len:∀vs H Q E,sp vs H Q E->vs.length=ps.length
 run:∀(A:Around) (outer:List Env) (s:Shared) (H:Hp) (args:Args) (us:List Value) (vs:List V) (Q:VK) (E:XK),Room k A->Env0 P w K mg base A outer s H->BindsTo s fd args (ps.zip us)->aI vs us->sp vs H Q E ->
   codeAny (model P w) A (.call (.ref f) args) (CR CX outer P w H s Q E) s
variable {base:Heap}
theorem Env0.make {mg:Str->Option Value} {outer:List Env} (e:Env0 P w K mg base A outer s H) (C:Addr) (us:List Value) (kw:List (Str×Value)) :
   Env0 P w K mg base (A.under (.builtin "type.__call__" ⟨.ref C :: us,kw⟩)) outer s H:=⟨by first|exact e.frames|(simpa [Around.under,Code.envs,Code.isFrame,pushEnvs] using e.frames),e.mod,e.bs,e.bsz,e.funs,e.frf,e.hok,e.bare⟩
section
variable {X:Cx} {pins:List (Addr×Obj)} {σ:St} {H:Hp} {s s':Shared}
theorem Inv.env0 (I:Inv X pins σ H s):Env0 X.prog X.w X.K X.mg X.base X.A X.stack s H :=
 ⟨I.ok.frames,I.ok.mod,I.bs,Bk I.ok.bsz I.sz,I.stack,I.stkFree,I.hok,I.bare⟩
theorem Inv.after {Q:VK} (I:Inv X pins σ H s) (h:CE X.stack X.prog X.w H s Q u s'):EP X pins σ Q u s':=by obtain⟨v,H',os,bare,un,hok,r,q⟩:=h;obtain⟨hh,g,d,t,os'⟩:=s';obtain rfl:os'=s.os:=os;exact⟨v,H',I.call (h':=hh) (g':=g) (d':=d) (t':=t) (ch:=[]) un hok bare (λb z=>absurd z (by simp)),r,q⟩
end
def qO (sp:Sp) (dvs:List V) (E:XK) (t:TA):TE:=λσ H Q=>t σ H λvs H1=>sp (vs++dvs) H1 Q E
def zW (C:Addr) (m:Str) (sp:Sp) (dvs:List V) (E:XK) (ta:TE) (t:TA):TE:=λσ H Q=>ta σ H λx H1=>∃a dx fs,x=.ref a/\H1 a=some (.ins C dx fs)/\fs.lookup m=none /\
 t σ H1 λvs H2=>sp (x :: (vs++dvs)) H2 Q E
def oO (C:Addr) (sp:Sp) (dvs:List V) (E:XK) (t:TA):TE:=λσ H Q=>t σ H λvs H1=>∀x dx,H1 x=none->H1 dx=none->dx≠x ->
 sp (.ref x :: (vs++dvs)) (upd (upd H1 dx (.own x)) x (.ins C dx [])) (λv H2=>v=.non/\Q (.ref x) H2) E
def dI (K:W.Frag) (fd:FuncData) (ps:List Str) (ds:List Value):Prop :=
 ∀(s:Shared) (us:List Value),K.In s.heap->(us++ds).length=ps.length->BindsTo s fd ⟨us,[]⟩ (ps.zip (us++ds))
theorem dI.all {fd:FuncData} {ps:List Str} (h:∀us:List Value,us.length=ps.length->bindArgs fd ⟨us,[]⟩=pure (ps.zip us)):dI K fd ps []:=λs us _ hl=>by rw[CJ] at hl ⊢;exact .of_eq (h us hl)
def gD (CX:dP) (X:Cx) (E:XK):Prop:=∀(pins:List (Addr×Obj)) (σ:St) (H:Hp) (s:Shared) (e:Value) (s':Shared),Inv X pins σ H s->CX X.stack H s E e s'->X.xe e s'
section
variable {X:Cx} {CX:dP} {k:Nat} {f C:Addr} {fd:FuncData} {ps:List Str} {sp:Sp} {dvs:List V} {ds:List Value} {E:XK} {x m:Str} {p pos apos:Pos} {e o:Expr} {es:List Expr} {ta:TE} {t:TA}
theorem nT {Q:VK} {vs:List V} (F:FnOk X.prog X.w X.K X.mg X.base CX k f fd ps sp) (hr:Room k X.A) (hb:dI X.K fd ps ds) (hd:aI dvs ds) (hx:gD CX X E)
   (I:Inv X pins σ H s) (r:aI vs us) (h:sp (vs++dvs) H Q E):wpAny (model X.prog X.w) X.A (call (.ref f) us) (EP X pins σ Q) X.xe s:=by
 have r2:aI (vs++dvs) (us++ds):=r.append hd;have hl:(us++ds).length=ps.length:=by rw[<- r2.length]; exact F.len _ _ _ _ h
 refine wpAny_call (DD (F.run X.A X.stack s H ⟨us,[]⟩ (us++ds) (vs++dvs) Q E hr I.env0 (hb s us I.kIn hl) r2 h) λr s' hq=>?_);cases r with
 | error e=>exact hx pins σ H s e s' I hq
 | ok fl =>
   cases fl with
   | ret u=>exact I.after hq
   | next=>exact False.elim hq
   | brk=>exact False.elim hq
   | cont=>exact False.elim hq
theorem vz (F:FnOk X.prog X.w X.K X.mg X.base CX k f fd ps sp) (hr:Room k X.A) (hg:Gl X x) (hm:X.mg x=some (.ref f)) (hk:PySem.W.keepIn X.K (.ref f)=true) (hb:dI X.K fd ps ds) (hd:aI dvs ds) (hx:gD CX X E)
   (ha:PA X (e :: es) t) (hdb:(x==("__debug__":Str))=false:=by decide) (he:starEach (e :: es) X.env=(false,eval e X.env) :: starEach es X.env:=by rfl) (hpl:(backTo pos (starEach es X.env)).any (·.1)=false:=by rfl) :
   PE X (.Call (.Name x p) (e :: es) [] pos) (qO sp dvs E t):=by
 intro pins s σ H Q I h;refine DE (jY I hg hm ?_ hdb);refine PySem.W.callWith_K (h₀:=X.base) I.ok.mod.kin hk (aF (ha pos pins s σ H _ I h) λus s1 ⟨vs,H1,I1,r,q⟩=>⟨I1.kIn,?_⟩) he hpl;exact nT F hr hb hd hx I1 r q
theorem jD {pl:Sem Bool} (he:PE X o ta) (c:Cls X.K C) (hm:Meth X.K C m f) (F:FnOk X.prog X.w X.K X.mg X.base CX k f fd ps sp) (hr:Room k X.A) (hb:dI X.K fd ps ds) (hd:aI dvs ds) (hx:gD CX X E) (ha:PA X (e :: es) t)
   (hst:starEach (e :: es) X.env=(false,eval e X.env) :: starEach es X.env:=by rfl) (hpl:(backTo pos (starEach es X.env)).any (·.1)=false:=by rfl)
   (ht:eval (.Call (.Attribute o m apos) (e :: es) [] pos) X.env=(do
     let ov <- eval o X.env
     standAt apos.atName
     let (f,first) <- holding [ov] (getMethod ov m pl)
     callWith pos f first (backTo pos (starEach (e :: es) X.env)) (backToKw pos (keywordEach [] X.env))):=by rfl) :
   PE X (.Call (.Attribute o m apos) (e :: es) [] pos) (zW C m sp dvs E ta t):=by
 intro pins s σ H Q I h;refine PySem.W.methodCall_KW (pl:=pl) (aF (he pins s σ H _ I h) λu s1 ⟨x,H1,I1,rx,a,dx,fs,ex,ea,l,q⟩=>?_) ht;subst ex;obtain rfl:u=Value.ref a:=rx;refine vG I1 ea c hm l ?_;refine PySem.W.callWith_K (first:=[.ref a]) (h₀:=X.base) I.ok.mod.kin hm.kp (aF (ha pos pins s1 σ H1 _ I1 q) λus s2 ⟨vs,H2,I2,r,q2⟩=>⟨I2.kIn,?_⟩) hst hpl;exact nT (us:=.ref a :: us) (vs:=.ref a :: vs) F hr hb hd hx I2 (.cons rfl r) q2
structure Mk (K:W.Frag) (C f:Addr):Prop where
 makes:PySem.W.makesIn K C=true
 init:PySem.W.findIn K (.ref C) "__init__"=some (some (.ref f))
 fn:PySem.W.isFn K (.ref f)=true
 kp:PySem.W.keepIn K (.ref C)=true
theorem Ag {Q:VK} {vs:List V} (M:Mk X.K C f) (F:FnOk X.prog X.w X.K X.mg X.base CX k f fd ps sp) (hr:Room (k+1) X.A) (hb:dI X.K fd ps ds) (hd:aI dvs ds)
   (hx:gD CX X E) (I:Inv X pins σ H s) (r:aI vs us)
   (h:∀x dx,H x=none->H dx=none->dx≠x->sp (.ref x :: (vs++dvs)) (upd (upd H dx (.own x)) x (.ins C dx [])) (λv H2=>v=.non/\Q (.ref x) H2) E) :
   wpAny (model X.prog X.w) X.A (call (.ref C) us) (EP X pins σ Q) X.xe s:=by
 have hq:=h (s.heap.objs.size+1) s.heap.objs.size (I.hok.fresh (Cr _)) (I.hok.fresh (BG _)) (Bu (CA _));have I2:=Inv.made (C:=C) I;have r2:aI (V.ref (s.heap.objs.size+1) :: (vs++dvs)) (Value.ref (s.heap.objs.size+1) :: (us++ds)):=.cons rfl (r.append hd);have hl:(Value.ref (s.heap.objs.size+1) :: us++ds).length=ps.length:=by have e:=r2.length;rw[F.len _ _ _ _ hq] at e;exact e.symm
 refine wpAny_call (x6 (f:=f) I.kIn M.makes M.init (beq_iff_eq.mp M.fn) (DD (F.run _ X.stack _ _ ⟨Value.ref (s.heap.objs.size+1) :: us,[]⟩ (Value.ref (s.heap.objs.size+1) :: (us++ds)) _ _ E (hr.make C us [])
   (I2.env0.make C us []) (hb _ (Value.ref (s.heap.objs.size+1) :: us) I2.kIn hl) r2 hq) λr s' hq'=>?_))
 cases r with
 | error e=>exact hx pins σ _ _ e s' I2 hq'
 | ok fl =>
   cases fl with
   | ret u =>
     obtain⟨v,H',I3,rv,ev,q3⟩:=I2.after hq';subst ev;exact⟨rv,⟨V.ref (s.heap.objs.size+1),H',I3,rfl,q3⟩⟩
   | next=>exact False.elim hq'
   | brk=>exact False.elim hq'
   | cont=>exact False.elim hq'
theorem uU (M:Mk X.K C f) (F:FnOk X.prog X.w X.K X.mg X.base CX k f fd ps sp) (hr:Room (k+1) X.A) (hg:Gl X x) (hm:X.mg x=some (.ref C)) (hb:dI X.K fd ps ds) (hd:aI dvs ds) (hx:gD CX X E)
   (ha:PA X (e :: es) t) (hdb:(x==("__debug__":Str))=false:=by decide) (he:starEach (e :: es) X.env=(false,eval e X.env) :: starEach es X.env:=by rfl) (hpl:(backTo pos (starEach es X.env)).any (·.1)=false:=by rfl) :
   PE X (.Call (.Name x p) (e :: es) [] pos) (oO C sp dvs E t):=by
 intro pins s σ H Q I h;refine DE (jY I hg hm ?_ hdb);refine PySem.W.callWith_K (h₀:=X.base) I.ok.mod.kin M.kp (aF (ha pos pins s σ H _ I h) λus s1 ⟨vs,H1,I1,r,q⟩=>⟨I1.kIn,?_⟩) he hpl;exact Ag M F hr hb hd hx I1 r q
end
structure FnScope (N P:List Str) (sc:Scope):Prop where
 kind:sc.kind=.function
 co:sc.isCoroutine=false
 gen:sc.isGenerator=false
 nd:N.Nodup
 pre:N.take P.length=P
 par:∀x∈P,sc.names.lookup x=some .local\/sc.names.lookup x=some .cell
 nofree:∀y∈sc.names,y.2≠.free
theorem qB {kindOf:Str->Option NameKind} {x:Str}:∀{binds:List (Str×Value)} {m:Str->Option Value},(∀v,(x,v) ∉ binds)->bindL kindOf binds m x=m x
 | [],_,_=>rfl
 | (n,v) :: r,m,h=>by
   unfold bindL;rw[qB λw hw=>h w (BS _ hw)];split
   . have:x≠n:=by rintro rfl; exact h v BU
     simp [this]
   . rfl
theorem oC {kindOf:Str->Option NameKind} {x:Str}:∀{binds:List (Str×Value)} {m:Str->Option Value},(∀v,(x,v) ∉ binds)->bindC kindOf binds m x=m x
 | [],_,_=>rfl
 | (n,v) :: r,m,h=>by
   unfold bindC;rw[oC λw hw=>h w (BS _ hw)];split
   . rfl
   . have:x≠n:=by rintro rfl; exact h v BU
     simp [this]
theorem pb {kindOf:Str->Option NameKind} {x:Str} {v:Value}:∀{P:List Str} {vs:List Value} {i:Nat} {m:Str->Option Value},P.Nodup->P[i]?=some x->vs[i]?=some v->kindOf x=some .local ->
   bindL kindOf (P.zip vs) m x=some v
 | [],_,_,_,_,h,_,_=>by simp at h
 | _ :: _,[],_,_,_,_,h,_=>by simp at h
 | p :: P,w :: vs,0,m,nd,h1,h2,hk=>by simp at h1 h2; subst h1; subst h2;show bindL kindOf ((p,w) :: P.zip vs) m p=_;unfold bindL;rw[qB λv hv=>(Cg.mp nd).1 (ER hv).1,BJ hk];simp
 | p :: P,w :: vs,i+1,m,nd,h1,h2,hk=>by show bindL kindOf ((p,w) :: P.zip vs) m x=_;unfold bindL;exact pb (i:=i) (Cg.mp nd).2 (by simpa using h1) (by simpa using h2) hk
theorem nq {kindOf:Str->Option NameKind} {x:Str} {v:Value}:∀{P:List Str} {vs:List Value} {i:Nat} {m:Str->Option Value},P.Nodup->P[i]?=some x->vs[i]?=some v->kindOf x≠some .local ->
   bindC kindOf (P.zip vs) m x=some v
 | [],_,_,_,_,h,_,_=>by simp at h
 | _ :: _,[],_,_,_,_,h,_=>by simp at h
 | p :: P,w :: vs,0,m,nd,h1,h2,hk=>by simp at h1 h2; subst h1; subst h2;show bindC kindOf ((p,w) :: P.zip vs) m p=_;unfold bindC;rw[oC λv hv=>(Cg.mp nd).1 (ER hv).1,BE hk];simp
 | p :: P,w :: vs,i+1,m,nd,h1,h2,hk=>by show bindC kindOf ((p,w) :: P.zip vs) m x=_;unfold bindC;exact nq (i:=i) (Cg.mp nd).2 (by simpa using h1) (by simpa using h2) hk
def fC (N:List Str) (vs:List V):St:=vs.map some++List.replicate (N.length - vs.length) none
def gE (CX:dP) (P:Program) (w:World) (K:W.Frag) (mg:Str->Option Value) (base:Heap) (N:List Str) (qual:Str) (scope:Scope) (f:Addr) (cd:Value) (A:Around) (outer:List Env) (s:Shared) (H:Hp) (E:XK):Cx where
 prog:=P
 w:=w
 K:=K
 mg:=mg
 base:=base
 A:=A.deeper (envOfC qual scope s.heap.objs.size f cd)
 N:=N
 s₀:=s
 H₀:=H
 env:=envOfC qual scope s.heap.objs.size f cd
 outer:=outer
 stack:=envOfC qual scope s.heap.objs.size f cd :: outer
 ex:=[]
 calm:=true
 fn:=λ_=>true
 pn:=[]
 xe:=λe s'=>wpAny (model P w) (A.deeper (envOfC qual scope s.heap.objs.size f cd)) (leaving (envOfC qual scope s.heap.objs.size f cd) e) (λ_ s''=>CX outer H s E e s'') (λe' s''=>CX outer H s E e' s'') s'
theorem p5 {sc:Scope} {n:Nat} (h:sc.names.lookup x=some .cell):∃c,(cellsFrom n sc.names []).lookup x=some c:=by have q:=PySem.W.cellsFrom_some sc.names n [] (.inl h);exact DF.mp q
theorem AV {CX:dP} {mg:Str->Option Value} {N ps:List Str} {qual:Str} {scope:Scope} {f:Addr} {cd:Value} {outer:List Env} {s1:Shared}{E:XK} {vs:List V}
   (S:FnScope N ps scope) (hd:A.handled=none) (e0:Env0 P w K mg base A outer s H) (hl:vs.length=ps.length) (r:aI vs us)
   (x:InCallC s s.heap.objs.size (bindL (envOfC qual scope s.heap.objs.size f cd).kindOf (ps.zip us) λ_=>none) (cellsFrom (s.heap.objs.size+1) scope.names []) (bindC (envOfC qual scope s.heap.objs.size f cd).kindOf (ps.zip us) λ_=>none) s1) :
   Inv (gE CX P w K mg base N qual scope f cd A outer s H E) [] (fC N vs) H s1:=by
 have hpl:ps.length<=N.length:=by have:=Bv List.length S.pre; rw[Bd] at this; omega
 obtain⟨h1,tk,rfl,hk⟩:=x.done;have noA:∀b:Addr,b ∉ (gE CX P w K mg base N qual scope f cd A outer s H E).ex:=λb z=>absurd (show b∈([]:List Addr) from z) (by simp);refine⟨⟨e0.mod,S.kind,rfl,rfl,BG _,λy z c h1 h2=>?_,λy hy=>?_,λy c _ h=>?_,λ_=>hd,Around.frames_deeper e0.frames,.inr ⟨rfl,rfl⟩,λb z=>absurd z (noA b),e0.bs,e0.bsz,λb _ _=>noA b,λb z=>absurd z (noA b),e0.funs,e0.frf⟩,
   rfl,e0.bare,Un.kept hk,⟨_,x.toInCall.ns,λi y v h1 h2 h3=>?_⟩,λy c h=>⟨_,x.cell y c h⟩,e0.hok.fresh (BG _),λy c h=>?_,λp hp=>absurd (show p∈([]:List (Addr×Obj)) from hp) (by simp),e0.hok.kept hk,?_⟩
 . exact name_of_addr x.apart (PySem.mem_of_lookup h1) (PySem.mem_of_lookup h2)
 . have hy:scope.names.lookup y=some .cell\/scope.names.lookup y=some .free:=hy;rcases hy with hy|hy
   . exact p5 hy
   . exact absurd rfl (S.nofree _ (PySem.mem_of_lookup hy))
 . exact CL (x.above y c (PySem.mem_of_lookup h))
 . have hi:i<vs.length:=by
     unfold fC at h2;by_cases hi:i<vs.length
     . exact hi
     . rw[Bz (by simpa using hi)] at h2;rw[List.getElem?_replicate] at h2;split at h2 <;> cases h2
   have ha:vs[i]?=some v:=by
     unfold fC at h2;rw[C0 (by simpa using hi),BI] at h2;cases e:vs[i]? with
     | none=>rw[e] at h2; cases h2
     | some a=>rw[e] at h2; cases h2; rfl
   obtain⟨u,hu,rv⟩:=r.get ha;have hp:ps[i]?=some y:=by rw[<- S.pre,DG (by omega)]; exact h1
   have ndP:ps.Nodup:=by rw[<- S.pre]; exact S.nd.sublist (List.take_sublist _ _)
   refine⟨u,rv,?_⟩;rcases S.par y (BQ hp) with k|k
   . exact .inl ⟨k,pb ndP hp hu k⟩
   . obtain⟨c,e⟩:=p5 (n:=s.heap.objs.size+1) k;refine .inr ⟨.inl k,c,e,?_⟩;have q:=x.cell y c e;rw[nq ndP hp hu (by show scope.names.lookup y≠_; rw[k]; decide)] at q;exact q
 . exact e0.hok.fresh (CL (x.above y c (PySem.mem_of_lookup h)))
 . unfold fC;show _=N.length;rw[BH,BA,Cv];omega
theorem w6 {CX:dP} {mg:Str->Option Value} {k:Nat} {f:Addr} {name qual:Str} {params:Arguments} {body:List Stmt} {scope:Scope} {dV kV doc pm cdv ct oc:Value} {an od:Option Addr}
   {osl:Array (Option Value)} {N ps:List Str} {sp:Sp} (lk:K.lookup f=some ⟨oc,od,.func (PySem.W.fnOf name qual params body scope dV kV doc pm an cdv ct),osl⟩) (hcd:PySem.W.codeIn K cdv qual=true) (S:FnScope N ps scope)
   (len:∀vs H Q E,sp vs H Q E->vs.length=ps.length)
   (hbody:∀(A:Around) (outer:List Env) (s:Shared) (H:Hp) (vs:List V) (Q:VK) (E:XK),Room k (A.deeper (envOfC qual scope s.heap.objs.size f cdv))->sp vs H Q E ->
     ∃t,cB (gE CX P w K mg base N qual scope f cdv A outer s H E) body t/\t { nx:=λ_ H'=>Q .non H',rt:=Q } (fC N vs) H) :
   FnOk P w K mg base CX (k+1) f (PySem.W.fnOf name qual params body scope dV kV doc pm an cdv ct) ps sp:=by
 refine⟨len,λA outer s H args us vs Q E hr e0 hb r hsp=>?_⟩;have hl:=len _ _ _ _ hsp;have KX:K.In s.heap:=e0.mod.kin.keeps λb o e=>(e0.bs b o e).1;have lim:s.heap.NoLimit:=e0.mod.nolimit.keeps λb o e=>(e0.bs b o e).1;have hkind:∀y∈ps.zip us,scope.names.lookup y.1=some .local\/(scope.names.lookup y.1=some .cell/\((cellsFrom (s.heap.objs.size+1) scope.names []).lookup y.1).isSome=true):=λ⟨n,v⟩ hy=>by
   rcases S.par n (ER hy).1 with q|q
   . exact .inl q
   . exact .inr ⟨q,PySem.W.cellsFrom_some _ _ _ (.inl q)⟩
 refine codeAny_call_function hr.depth (KX _ _ lk) rfl S.co S.gen rfl (PySem.W.codeRec_of KX hcd) (hb _ _ _ _ ?_);refine wpAny_newFunctionEnv_cells S.kind hkind λenv he s1 x=>?_;subst he;refine⟨lim.keeps x.toInCall.keep,codeAny_func ?_⟩;obtain⟨t,ht,hq⟩:=hbody A outer s H vs Q E (hr.deeper _) hsp;have I:Inv (gE CX P w K mg base N qual scope f cdv A outer s H E) [] (fC N vs) H s1:=AV S hr.hd e0 hl r x;refine DM (ht [] s1 (fC N vs) H _ I hq) (λfl s' hs=>?_) λe s' hs=>hs;have fin:∀{σ':St} {H':Hp} {v:V} {u:Value},Inv (gE CX P w K mg base N qual scope f cdv A outer s H E) [] σ' H' s'->aJ v u->Q v H'->CE outer P w H s Q u s' :=
   λ{σ' H' v u} J rv q=>⟨v,H',J.os,J.bare,J.base,J.hok,rv,q⟩
 cases fl with
 | ret u =>
   obtain⟨v,σ',H',J,rv,q⟩:=hs;exact fin J rv q
 | next =>
   obtain⟨σ',H',J,q⟩:=hs;exact fin (v:=V.non) (u:=Value.none) J rfl q
 | brk =>
   obtain⟨_,_,_,q⟩:=hs;exact False.elim q
 | cont =>
   obtain⟨_,_,_,q⟩:=hs;exact False.elim q
section
variable {X:Cx} {x:Str} {p pos:Pos} {e:Expr} {es:List Expr} {t:TA} {id T:String} {r:List V->Hp->VK->Prop}
def tCB (r:List V->Hp->VK->Prop) (t:TA):TE:=λσ H Q=>t σ H λvs H1=>r vs H1 Q
theorem au (hc:bo X (.builtin id) r) (hg:Gl X x) (hm:X.mg x=none) (hv:bootBuiltins x=some (.builtin id)) (ha:PA X (e :: es) t) (hn:x≠"__name__":=by decide) (hdb:(x==("__debug__":Str))=false:=by decide)
   (he:starEach (e :: es) X.env=(false,eval e X.env) :: starEach es X.env:=by rfl) (hpl:(backTo pos (starEach es X.env)).any (·.1)=false:=by rfl):PE X (.Call (.Name x p) (e :: es) [] pos) (tCB r t):=by
 intro pins s σ H Q I h;refine DE (eY I hg hm hv ?_ hn hdb);exact PyProof.Rows.callWith_builtin1 (aF (ha pos pins s σ H _ I h) λus s1 ⟨vs,H1,I1,r1,q1⟩=>hc pins s1 σ H1 vs us Q I1 r1 q1) he hpl
theorem ci (hc:bo X (.type T) r) (hg:Gl X x) (hm:X.mg x=none) (hv:bootBuiltins x=some (.type T)) (ha:PA X (e :: es) t) (hn:x≠"__name__":=by decide) (hdb:(x==("__debug__":Str))=false:=by decide)
   (he:starEach (e :: es) X.env=(false,eval e X.env) :: starEach es X.env:=by rfl) (hpl:(backTo pos (starEach es X.env)).any (·.1)=false:=by rfl):PE X (.Call (.Name x p) (e :: es) [] pos) (tCB r t):=by
 intro pins s σ H Q I h;refine DE (eY I hg hm hv ?_ hn hdb);exact CK (aF (ha pos pins s σ H _ I h) λus s1 ⟨vs,H1,I1,r1,q1⟩=>hc pins s1 σ H1 vs us Q I1 r1 q1) he hpl
end
end L2
namespace HT
open PySem PyProof.Rows
section
variable {prog:Program} {w:World} {A:Around} {E:Value->Shared->Prop} {s:Shared}
theorem cat_tup {t b:Addr} {vs ws:List Value} {Q:Value->Shared->Prop} (ht:IsTup s.heap t vs.toArray) (hb:IsTup s.heap b ws.toArray) (hv:vs≠[])
   (h1:ws=[]->Q (.ref t) s) (h2:ws≠[]->Q (.ref s.heap.objs.size) { s with heap:=s.heap.push { cls:=.type "tuple",data:=.seq (vs++ws).toArray } })
   (hsz:vs.length+ws.length<=sizeLine):wpAny (model prog w) A (binaryOp .Add (.ref t) (.ref b)) Q E s:=by
 obtain⟨⟨cls,dd,data,sl⟩,ho,hc,n,hd⟩:=id ht;obtain⟨⟨cls2,dd2,data2,sl2⟩,ho2,hc2,n2,hd2⟩:=id hb;simp only at hc hd hc2 hd2;subst hc hd hc2 hd2;have e:vs.toArray++ws.toArray=(vs++ws).toArray:=by simp
 by_cases hw:ws=[]
 . exact concat_meets ⟨_,ho,rfl⟩ ⟨_,ho2,rfl⟩ noFill_tuple_add seq_tuple_add DX DO (DH _ _)
     (tuple_addW1 t b vs.toArray ws.toArray n n2 dd dd2 sl sl2 (by simpa using hv) (by simp [hw])) ⟨ho,ho2,h1 hw⟩
 . refine concat_meets ⟨_,ho,rfl⟩ ⟨_,ho2,rfl⟩ noFill_tuple_add seq_tuple_add DX DO (DH _ _)
     (tuple_addW2 t b vs.toArray ws.toArray n n2 dd dd2 sl sl2 (by simpa using hv) (by simpa using hw) (by rw[BX,BX]; exact hsz)) ⟨ho,ho2,?_⟩
   rw[e];exact h2 hw
def sIx (n d:Nat):Option Int->Nat
 | none=>d
 | some v=>if v<0 then(v+(n:Int)).toNat else min v.toNat n
theorem sIx_none (n d:Nat):sIx n d none=d:=rfl
theorem sIx_nat (n d k:Nat):sIx n d (some (k:Int))=min k n:=by show(if(k:Int)<0 then((k:Int)+(n:Int)).toNat else min (k:Int).toNat n)=min k n;rw[BE (by omega),B']
theorem Af (n d:Nat) (hd:d<=n) (o:Option Int):sIx n d o<=n:=by
 cases o with
 | none=>exact hd
 | some v =>
   show(if v<0 then(v+(n:Int)).toNat else min v.toNat n)<=n;by_cases hv:v<0
   . rw[BJ hv]; omega
   . rw[BE hv]; exact Nat.min_le_right _ _
theorem oJ (v:Int) (n d:Nat):(if v<0 then max (v+(n:Int)) 0 else min v (n:Int))=((sIx n d (some v):Nat):Int):=by
 show(if v<0 then max (v+(n:Int)) 0 else min v (n:Int))=(((if v<0 then(v+(n:Int)).toNat else min v.toNat n):Nat):Int);by_cases hv:v<0
 . simp only[BJ hv]; omega
 . simp only[BE hv]; omega
theorem wv (lo hi:Option Int) (n:Nat):Builtin.Slice.sliceAdjust lo hi 1 (n:Int)=(((sIx n 0 lo:Nat):Int),((sIx n n hi:Nat):Int)):=by
 have h1:¬ ((1:Int)<0):=by omega
 unfold Builtin.Slice.sliceAdjust;simp only[h1,if_false];refine Prod.ext ?_ ?_
 . cases lo with
   | none=>rfl
   | some v=>exact oJ v n 0
 . cases hi with
   | none=>rfl
   | some v=>exact oJ v n n
theorem zJ (i j:Nat):Builtin.Slice.slicePlaces (i:Int) (j:Int) 1=j - i:=by
 unfold Builtin.Slice.slicePlaces;have h1:(1:Int) > 0:=by omega
 simp only[h1,if_true,Int.ediv_one];split <;> omega
theorem qL {v:Value} {o:Option Int} {Q:Option Int->Shared->Prop} (p:IsPart v o) (h:Q o s):wpAny (model prog w) A (Builtin.Slice.slicePartIndex v) Q E s:=by
 cases p with
 | none=>exact slicePart_none h
 | int i t=>exact slicePart_int h
theorem ng {sl:Addr} {vl vu:Value} {lo hi:Option Int} {n:Nat} {Q:Int×Int×Nat->Shared->Prop} (hs:s.heap.IsSliceOf sl vl vu .none) (pl:IsPart vl lo) (pu:IsPart vu hi)
   (h:Q (((sIx n 0 lo:Nat):Int),1,sIx n n hi - sIx n 0 lo) s):wpAny (model prog w) A (Builtin.Slice.sliceApplied (.ref sl) (pure (n:Int))) Q E s:=by
 obtain⟨os,hos,hcs,hds⟩:=id hs;unfold Builtin.Slice.sliceApplied Builtin.Slice.sliceFields;refine BB (BB (D5 hos hds (x:=vl) rfl (BB (D5 hos hds (x:=vu) rfl (BB (D5 hos hds (x:=.none) rfl (BF ?_)))))));refine BB (slicePart_none ?_);show wpAny _ _ (if((1:Int)==0)=true then _ else _) _ _ s;rw[BE (by decide)];refine BB (qL pl (BB (qL pu (BB (BF ?_)))));show wpAny _ _ (match Builtin.Slice.sliceAdjust lo hi 1 (n:Int) with|(lo,hi)=>pure (lo,(1:Int),Builtin.Slice.slicePlaces lo hi 1)) _ _ s;rw[wv lo hi n];show wpAny _ _ (pure (((sIx n 0 lo:Nat):Int),(1:Int),Builtin.Slice.slicePlaces ((sIx n 0 lo:Nat):Int) ((sIx n n hi:Nat):Int) 1)) _ _ s;rw[zJ];exact BF h
theorem xG (xs:Array Value) (i k:Nat):((List.range k).filterMap λ(m:Nat)=>xs[((i:Int)+(m:Int) * 1).toNat]?).toArray=((xs.toList.drop i).take k).toArray:=by
 have e:(λ(m:Nat)=>xs[((i:Int)+(m:Int) * 1).toNat]?)=λm=>xs[i+m]?:=by
   funext m;have:((i:Int)+(m:Int) * 1).toNat=i+m:=by omega
   rw[this]
 rw[e];have:=pick_run xs i k;rw[List.filterMap_map] at this;have e2:((λx=>xs[x]?) ∘ λx=>i+x)=λm=>xs[i+m]?:=rfl;rw[e2] at this;rw[this]
theorem getItem_tuple_cut {t sl:Addr} {items:Array Value} {vl vu:Value} {lo hi:Option Int} {Q:Value->Shared->Prop} (ht:IsTup s.heap t items) (hs:s.heap.IsSliceOf sl vl vu .none) (pl:IsPart vl lo) (pu:IsPart vu hi)
   (hw:¬ (sIx items.size 0 lo=0/\sIx items.size items.size hi=items.size))
   (h:Q (.ref s.heap.objs.size) { s with heap:=s.heap.push { cls:=.type "tuple",data:=.seq ((items.toList.drop (sIx items.size 0 lo)).take (sIx items.size items.size hi - sIx items.size 0 lo)).toArray } })
   (hsz:items.size<=sizeLine):wpAny (model prog w) A (getItem (.ref t) (.ref sl)) Q E s:=by
 have htake:sizeOk (.seq ((items.toList.drop (sIx items.size 0 lo)).take (sIx items.size items.size hi - sIx items.size 0 lo)).toArray):=by show((items.toList.drop (sIx items.size 0 lo)).take (sIx items.size items.size hi - sIx items.size 0 lo)).toArray.size<=sizeLine;rw[BX,Bd,CP,C1];omega
 have hj:sIx items.size items.size hi<=items.size:=Af _ _ (BG _) hi;obtain⟨os,hos,hcs,hds⟩:=id hs;have hTs:s.TypeIs (.ref sl) "slice":=⟨os,hos,hcs⟩
 unfold getItem
 try with_reducible refine C2 ?_
 first|refine BB (BF ?_)|skip
 refine BB (E4 ht.typeIs (by decide) ?_);refine BB (wpAny_callSpecial?_slot (name:=Str.ofString "__getitem__") ht.typeIs CB
   (CQ CB ht.typeIs entry_tuple_getitem ?_ (args_tuple_getitem _ _)))
 show wpAny _ _ (Builtin.Tuple.tupleItemsOf (.ref t) >>= _) _ _ s;refine BB (tupleItemsOf_ ht ?_);refine BB (DI hTs ?_);rw[BJ (by decide)];refine BB (ng hs pl pu ?_);have hno:¬ ((((sIx items.size 0 lo:Nat):Int)==0&&(1:Int)==1&&(sIx items.size items.size hi - sIx items.size 0 lo)==items.size)=true):=by intro q;rw[Bn,Bn] at q;have q1:((sIx items.size 0 lo:Nat):Int)=0:=eq_of_beq q.1.1;have q2:sIx items.size items.size hi - sIx items.size 0 lo=items.size:=eq_of_beq q.2;exact hw ⟨by omega,by omega⟩
 show wpAny _ _ (if(((sIx items.size 0 lo:Nat):Int)==0&&(1:Int)==1&&(sIx items.size items.size hi - sIx items.size 0 lo)==items.size)=true then _ else _) _ _ s;rw[BE hno,xG]
 first
   | exact BB (m:=Builtin.Tuple.tupleExact _) (CW (BF ⟨_,rfl,BF h⟩) htake)
   | exact BB (m:=Builtin.Tuple.tupleExact _) (CW (BB (BF (BF ⟨_,rfl,BF h⟩))) htake)
   | exact BB (BB (m:=Builtin.Tuple.tupleExact _) (CW (BF (BF ⟨_,rfl,BF h⟩)) htake))
   | exact BB (BB (m:=Builtin.Tuple.tupleExact _) (CW (BF ⟨_,rfl,BF h⟩) htake))
end
end HT
namespace L2
open PySem PySem.Spec PyProof.Rows
abbrev TO:=St->Hp->(Option Int->Hp->Prop)->Prop
def PO (X:Cx) (e:Option Expr) (t:TO):Prop :=
 ∀(pins:List (Addr×Obj)) (s:Shared) (σ:St) (H:Hp) (Q:Option Int->Hp->Prop),Inv X pins σ H s->t σ H Q ->
   wpAny (model X.prog X.w) X.A (evalPart e X.env) (λu s'=>∃o H',Inv X pins σ H' s'/\IsPart u o/\Q o H') X.xe s
def y':TO:=λ_ H Q=>Q none H
def z7 (t:TE):TO:=λσ H Q=>t σ H λx H1=>∃i,x=.int i/\Q (some i) H1
section
variable {X:Cx} {e:Expr} {te:TE} {lo hi:Option Expr} {tl th:TO} {pos p2:Pos}
theorem cW:PO X none y':=by intro pins s σ H Q I h;rw[evalPart_none];exact BF ⟨none,H,I,.none,h⟩
theorem cC (h:PE X e te):PO X (some e) (z7 te):=by intro pins s σ H Q I hw;rw[evalPart_some];refine aF (h pins s σ H _ I hw) λu s1 ⟨x,H1,I1,r1,q1⟩=>?_;obtain⟨i,rfl,q⟩:=q1;obtain⟨t,rfl⟩:=r1;exact⟨some i,H1,I1,.int i t,q⟩
def cX (X:Cx) (r:V->Option Int->Option Int->Hp->VK->Prop):Prop :=
 ∀(pins:List (Addr×Obj)) (s:Shared) (σ:St) (H:Hp) (x:V) (v vl vu:Value) (lo hi:Option Int) (sl:Addr) (Q:VK),Inv X pins σ H s->aJ x v->s.heap.IsSliceOf sl vl vu .none->IsPart vl lo->IsPart vu hi->r x lo hi H Q ->
   ∃T id,typeLookup (.type T) "__getitem__"=pure (some (.builtin id))/\s.TypeIs v T/\wpAny (model X.prog X.w) X.A (getItem v (.ref sl)) (EP X pins σ Q) X.xe s
theorem cX.or {r r':V->Option Int->Option Int->Hp->VK->Prop} (h:cX X r) (h':cX X r'):cX X (λx lo hi H Q=>r x lo hi H Q\/r' x lo hi H Q):=by
 intro pins s σ H x v vl vu lo hi sl Q I rx hs pl pu q;rcases q with q|q
 . exact h pins s σ H x v vl vu lo hi sl Q I rx hs pl pu q
 . exact h' pins s σ H x v vl vu lo hi sl Q I rx hs pl pu q
def tSl (r:V->Option Int->Option Int->Hp->VK->Prop) (te:TE) (tl th:TO):TE:=λσ H Q=>te σ H λx H1=>tl σ H1 λl H2=>th σ H2 λu H3=>r x l u H3 Q
theorem cN {r:V->Option Int->Option Int->Hp->VK->Prop} (hr:cX X r) (he:PE X e te) (hl:PO X lo tl) (hu:PO X hi th):PE X (.Subscript e (.Slice lo hi none p2) pos) (tSl r te tl th):=by intro pins s σ H Q I h;refine Subscript_ (aF (he pins s σ H _ I h) λv s1 ⟨x,H1,I1,r1,q1⟩=>?_);refine wpAny_Slice (aF (hl pins s1 σ H1 _ I1 q1) λvl s2 ⟨l,H2,I2,pl,q2⟩=>aF (hu pins s2 σ H2 _ I2 q2) λvu s3 ⟨u,H3,I3,pu,q3⟩=>?_);rw[evalPart_none];refine BF ?_;have I4:Inv X pins σ H3 { s3 with heap:=s3.heap.push { cls:=.type "slice",data:=.fields #[vl,vu,.none] } }:=I3.kept (t':=s3.toks) λb ob q=>BM _ q;obtain⟨T,id,hT,ht,hg⟩:=hr pins { s3 with heap:=s3.heap.push { cls:=.type "slice",data:=.fields #[vl,vu,.none] } } σ H3 x v vl vu l u s3.heap.objs.size Q I4 r1 (Heap.IsSliceOf.new ..) pl pu q3;show wpAny (model X.prog X.w) X.A (subscriptTail e (.Slice lo hi none p2) v (.ref s3.heap.objs.size)) (EP X pins σ Q) X.xe { s3 with heap:=s3.heap.push { cls:=.type "slice",data:=.fields #[vl,vu,.none] } };exact tail_any (ops:=[.ref s3.heap.objs.size,v]) ht hT hg (by with_unfolding_all rfl)
def ak (xs:List V) (lo hi:Option Int):List V:=(xs.drop (HT.sIx xs.length 0 lo)).take (HT.sIx xs.length xs.length hi - HT.sIx xs.length 0 lo)
theorem na (xs:List V) (lo hi:Option Int):(ak xs lo hi).length<=xs.length:=by unfold ak;rw[Bd,CP];omega
def mq (K:W.Frag):V->Option Int->Option Int->Hp->VK->Prop:=λx lo hi H Q=>∃a xs,x=.ref a/\a9 K H a xs /\
 ¬ (HT.sIx xs.length 0 lo=0/\HT.sIx xs.length xs.length hi=xs.length)/\∀p,H p=none->Q (.ref p) (upd H p (.tup (ak xs lo hi)))
theorem zT:cX X (mq X.K):=by
 intro pins s σ H x v vl vu lo hi sl Q I rx hs pl pu h;obtain⟨a,xs,rfl,hx,hw,q⟩:=h;cases rx;obtain⟨its,r,ht,hz⟩:=I.tuple hx;have hlen:its.toArray.size=xs.length:=by rw[BX]; exact r.length.symm
 refine⟨"tuple",_,CB.lookup,ht.typeIs,?_⟩;refine HT.getItem_tuple_cut ht hs pl pu (by rw[hlen]; exact hw) ?_ (by rw[hlen]; exact hz);rw[hlen];refine⟨.ref s.heap.objs.size,_,I.laid (t':=s.toks) (o:=.tup (ak xs lo hi)) (λb ob q=>BM _ q) (BG _) ?_,rfl,q _ (I.hok.fresh (BG _))⟩;exact⟨Bk (na xs lo hi) hz,_,(r.drop (HT.sIx xs.length 0 lo)).take (HT.sIx xs.length xs.length hi - HT.sIx xs.length 0 lo),IsTup.new _ _⟩
def ij (K:W.Frag):R2:=λx y H Q=>∃a b xs ys,x=.ref a/\y=.ref b/\a9 K H a xs/\a9 K H b ys/\xs≠[]/\xs.length+ys.length<=sizeLine /\
 (ys=[]->Q (.ref a) H)/\(ys≠[]->∀p,H p=none->Q (.ref p) (upd H p (.tup (xs++ys))))
theorem aI.nil_iff {xs:List V} {us:List Value} (r:aI xs us):us=[] <-> xs=[]:=by
 cases r with
 | nil=>simp
 | cons _ _=>simp
theorem hU:aj X (binaryOp .Add) (ij X.K):=by intro pins s σ H x y v u Q I rx ry h;obtain⟨a,b,xs,ys,rfl,rfl,ha,hb,hx,hz,q1,q2⟩:=h;cases rx;cases ry;obtain⟨its,r1,p1,_⟩:=I.tuple ha;obtain⟨its2,r2,p2,_⟩:=I.tuple hb;refine HT.cat_tup p1 p2 (λz=>hx (r1.nil_iff.mp z)) (λz=>⟨.ref a,H,I,rfl,q1 (r2.nil_iff.mp z)⟩) (λz=>?_) (by rw[<- r1.length,<- r2.length]; exact hz);refine⟨.ref s.heap.objs.size,_,I.laid (t':=s.toks) (o:=.tup (xs++ys)) (λb ob q=>BM _ q) (BG _) ?_,rfl,q2 (λw=>z (r2.nil_iff.mpr w)) _ (I.hok.fresh (BG _))⟩;exact⟨by rw[BH]; exact hz,_,r1.append r2,IsTup.new _ _⟩
end
def bz (n:Nat) (i:Int):Option Nat:=if 0<=i then(if i<n then some i.toNat else none) else if -(n:Int)<=i then some (i+n).toNat else none
def aY {α:Type} (xs:List α) (i:Int):Option α:=(bz xs.length i).bind λj=>xs[j]?
variable {n:Nat}
theorem oU {i:Int} {j:Nat} (h:bz n i=some j):seqIndex? i n=some j/\j<n/\-(n:Int)<=i/\i<n:=by
 unfold bz at h;by_cases h0:0<=i
 . rw[BJ h0] at h;by_cases h1:i<n
   . rw[BJ h1] at h;have e:i.toNat=j:=Option.some.inj h;exact⟨by rw[seqIndex_of h0 h1,e],by omega,by omega,h1⟩
   . rw[BE h1] at h; cases h
 . rw[BE h0] at h;by_cases h1:-(n:Int)<=i
   . rw[BJ h1] at h;have e:(i+n).toNat=j:=Option.some.inj h;exact⟨by rw[seqIndex_neg (by omega) h1,e],by omega,h1,by omega⟩
   . rw[BE h1] at h; cases h
theorem jz {α:Type} {xs:List α} {i:Int} {v:α} (h:aY xs i=some v):∃j,seqIndex? i xs.length=some j/\xs[j]?=some v/\j<xs.length/\-(xs.length:Int)<=i/\i<xs.length:=by
 unfold aY at h;cases e:bz xs.length i with
 | none=>rw[e] at h; cases h
 | some j =>
   rw[e] at h;obtain⟨h1,h2,h3,h4⟩:=oU e;exact⟨j,h1,h,h2,h3,h4⟩
theorem bp {α:Type} {xs:List α} {j:Nat} {v:α} (h:xs[j]?=some v):aY xs (j:Int)=some v:=by
 have hj:j<xs.length:=(BC.mp h).1;have e:bz xs.length (j:Int)=some j:=by unfold bz;rw[BJ (by omega),BJ (by omega)]; simp
 unfold aY; rw[e]; exact h
theorem gR {α:Type} (xs:List α) (v:α):aY (xs++[v]) (-1)=some v:=by
 have hl:(xs++[v]).length=xs.length+1:=by simp
 have e:bz (xs++[v]).length (-1)=some xs.length:=by unfold bz;rw[hl,BE (by decide),BJ (by omega)];congr 1;omega
 unfold aY;rw[e];show(xs++[v])[xs.length]?=some v;simp
def vv (b:Expr):Prop:=∀o i,subscripted b false o i=operate [o,i] (getItem o i)
def cM (X:Cx) (r:R2):Prop :=
 ∀(value slice:Expr) (pins:List (Addr×Obj)) (s:Shared) (σ:St) (H:Hp) (x y:V) (v u:Value) (Q:VK),Inv X pins σ H s->aJ x v->aJ y u->r x y H Q ->
   subscripted slice false v u=operate [v,u] (getItem v u)->wpAny (model X.prog X.w) X.A (subscriptTail value slice v u) (EP X pins σ Q) X.xe s
def kT (X:Cx) (id:String) (r:V->List V->Hp->VK->Prop):Prop :=
 ∀(pins:List (Addr×Obj)) (s:Shared) (σ:St) (H:Hp) (x:V) (xs:List V) (v:Value) (us:List Value) (Q:VK),Inv X pins σ H s->aJ x v->aI xs us->r x xs H Q ->
   wpAny (model X.prog X.w) X.A (call (.builtin id) (v :: us)) (EP X pins σ Q) X.xe s
section
variable {X:Cx} {a b:Expr} {ta tb:TE} {pos:Pos}
theorem aB {r:R2} (hr:cM X r) (ha:PE X a ta) (hb:PE X b tb) (hs:vv b):PE X (.Subscript a b pos) (iq r ta tb):=by intro pins s σ H Q I h;exact Subscript_ (jj ha hb I h λv u s2 x y H2 I2 rx ry q=>hr a b pins s2 σ H2 x y v u Q I2 rx ry q (hs _ _))
def gX (K:W.Frag):R2:=λx y H Q=>∃p xs i v,x=.ref p/\y=.int i/\aA K H p xs/\aY xs i=some v/\Q v H
def dw (K:W.Frag):R2:=λx y H Q=>∃p xs i v,x=.ref p/\y=.int i/\a9 K H p xs/\aY xs i=some v/\Q v H
def w4:R2:=λx y H Q=>∃z i c,x=.str z/\y=.int i/\z.length<=sizeLine/\aY z.cps.toList i=some c/\Q (.str ⟨#[c]⟩) H
theorem aP:cM X (gX X.K):=by
 intro value slice pins s σ H x y v u Q I rx ry h hs;obtain⟨p,xs,i,z,rfl,rfl,hq,he,q⟩:=h;cases rx;obtain⟨t,rfl⟩:=ry;obtain⟨its,r,pl,hz⟩:=I.list hq;obtain⟨j,h1,h2,h3,h4,h5⟩:=jz he;obtain⟨w,ew,rw'⟩:=r.get h2;have hl:=r.length;have hn:=gf;have fin:EP X pins σ Q w s:=⟨z,H,I,rw',q⟩
 by_cases h0:0<=i
 . have hj:i.toNat=j:=by rw[seqIndex_of h0 h5] at h1;exact Option.some.inj h1
   exact item_listR pl.isList h0 (by omega) (by rw[hj]; simpa using ew) fin hs
 . have hj:(i+(its.toArray.size:Int)).toNat=j:=by rw[seqIndex_neg (by omega) h4] at h1;rw[BX,<- hl];exact Option.some.inj h1
   exact subscriptTail_builtinR (x:=w) pl.isList.typeIs slot_list_getitem.lookup
     (wpAny_getItem_list_neg (Q:=λr s'=>r=w/\EP X pins σ Q r s') pl.isList (by omega) (by rw[BX] <;> omega) (by omega) (by rw[hj]; simpa using ew) ⟨rfl,fin⟩) hs
theorem aG:cM X (dw X.K):=by
 intro value slice pins s σ H x y v u Q I rx ry h hs;obtain⟨p,xs,i,z,rfl,rfl,hq,he,q⟩:=h;cases rx;obtain⟨t,rfl⟩:=ry;obtain⟨its,r,pl,hz⟩:=I.tuple hq;obtain⟨j,h1,h2,h3,h4,h5⟩:=jz he;obtain⟨w,ew,rw'⟩:=r.get h2;have hl:=r.length;have hn:=gf;have fin:EP X pins σ Q w s:=⟨z,H,I,rw',q⟩
 exact subscriptTail_builtinR (x:=w) pl.typeIs slot_tuple_getitem.lookup
   (getItem_tuple (j:=j) (Q:=λr s'=>r=w/\EP X pins σ Q r s') pl (by omega) (by omega) (by rw[BX,<- hl]; exact h1) (by simpa using ew) ⟨rfl,fin⟩) hs
theorem m5:cM X w4:=by
 intro value slice pins s σ H x y v u Q I rx ry h hs;obtain⟨z,i,c,rfl,rfl,hz,he,q⟩:=h;obtain⟨t,rfl⟩:=rx;obtain⟨t',rfl⟩:=ry;obtain⟨j,h1,h2,h3,h4,h5⟩:=jz he;have hl:z.cps.toList.length=z.length:=by simp [Str.length]
 rw[hl] at h1 h4 h5;have hn:=gf;exact tail_any (typeIs_str s z t) slot_str_getitem.lookup (getItem_str (c:=c) (by have e1:decide (i < -(2 ^ 63:Int))=false:=BY (by omega);have e2:decide (i>=2 ^ 63)=false:=BY (by omega);rw[e1,e2,DY]) (by rw[h1]; simpa using h2) ⟨.str ⟨#[c]⟩,H,I.tok _,⟨_,rfl⟩,q⟩) hs
theorem AD (its:List Value) (n j:Nat) (u:Value):Obj.mapSeq (·.setIfInBounds j u) { cls:=.type "list",data:=.seq its.toArray n }={ cls:=.type "list",data:=.seq (its.set j u).toArray n }:=by simp [Obj.mapSeq]
theorem Inv.lst {pins:List (Addr×Obj)} {σ:St} {H:Hp} {s:Shared} {p:Addr} {xs:List V} (I:Inv X pins σ H s) (h:H p=some (.lst xs)) :
   ∃(its:List Value) (n:Nat),aI xs its/\s.heap.get? p=some { cls:=.type "list",data:=.seq its.toArray n }/\xs.length<=sizeLine:=by
 obtain⟨z,its,n,r,e⟩:=I.hok p _ h;exact⟨its,n,r,e,z⟩
theorem Inv.lstUpd {pins:List (Addr×Obj)} {σ:St} {H:Hp} {s:Shared} {p:Addr} {xs ys:List V} {its its':List Value} {n':Nat}{f:Obj->Obj} (I:Inv X pins σ H s) (h:H p=some (.lst xs))
   (ho:s.heap.get? p=some { cls:=.type "list",data:=.seq its.toArray n }) (hf:f { cls:=.type "list",data:=.seq its.toArray n }={ cls:=.type "list",data:=.seq its'.toArray n' }) (r:aI ys its') (hz:ys.length<=sizeLine) (t:Nat) :
   Inv X pins σ (upd H p (.lst ys)) { s with heap:=s.heap.update p f,toks:=t }:=by
 have e:(s.heap.update p f).get? p=some { cls:=.type "list",data:=.seq its'.toArray n' }:=by rw[Cw f ho (by rw[hf] <;> rfl),hf]
 refine I.write (x:=p) (e:=p) (by rw[h]; trivial) (.inl rfl) (λb u hb q=>(Heap.get?_update_other _ _ (Ne.symm hb)).trans q) ⟨_,e⟩ ?_;exact⟨hz,its',n',r,e⟩
def vd:V->V->V->Hp->(Hp->Prop)->Prop:=λo i v H Q=>∃p xs k j,o=.ref p/\i=.int k/\H p=some (.lst xs)/\bz xs.length k=some j/\Q (upd H p (.lst (xs.set j v)))
theorem gk:nC X vd:=by
 intro pins s σ H o i v ov iv u Q I ro ri rv h;obtain⟨p,xs,k,j,rfl,rfl,hp,hj,q⟩:=h;cases ro;obtain⟨t,rfl⟩:=ri;obtain⟨its,n,r,ho,hz⟩:=I.lst hp;obtain⟨h1,h2,h3,h4⟩:=oU hj;have hl:=r.length;have hn:=gf;have I':Inv X pins σ (upd H p (.lst (xs.set j v))) { s with heap:=s.heap.update p (Obj.mapSeq (·.setIfInBounds j u)) } :=
   I.lstUpd hp ho (AD its n j u) (r.set rv j) (by rw[ES]; exact hz) s.toks
 by_cases h0:0<=k
 . have hk:k.toNat=j:=by rw[seqIndex_of h0 h4] at h1;exact Option.some.inj h1
   exact PySem.W.ki_setAt ho h0 (by omega) (by rw[BX,<- hl]; exact h4) (by rw[hk]; exact⟨_,I',q⟩)
 . have hk:(k+(its.toArray.size:Int)).toNat=j:=by rw[seqIndex_neg (by omega) h3] at h1;rw[BX,<- hl];exact Option.some.inj h1
   exact PySem.W.ki_setBack ho (by omega) (by rw[BX,<- hl]; exact h3) (by omega) (by rw[hk]; exact⟨_,I',q⟩)
theorem xB (lo hi:Option Int) (n:Nat):(sliceBounds lo hi none n).1=((HT.sIx n 0 lo:Nat):Int)/\(sliceBounds lo hi none n).2.1=((HT.sIx n n hi:Nat):Int)/\(sliceBounds lo hi none n).2.2=1:=by
 refine⟨?_,?_,rfl⟩
 . cases lo with
   | none=>simp [sliceBounds,HT.sIx]
   | some i =>
     simp only[sliceBounds,HT.sIx,Option.getD_none,show(1:Int) > 0 by decide,if_true];by_cases h:i<0
     . simp only[h,if_true] <;> omega
     . simp only[h,if_false] <;> omega
 . cases hi with
   | none=>simp [sliceBounds,HT.sIx]
   | some i =>
     simp only[sliceBounds,HT.sIx,Option.getD_none,show(1:Int) > 0 by decide,if_true];by_cases h:i<0
     . simp only[h,if_true] <;> omega
     . simp only[h,if_false] <;> omega
theorem zu (its:List Value) (lo hi:Option Int):slicePick its.toArray lo hi none=((its.drop (HT.sIx its.length 0 lo)).take (HT.sIx its.length its.length hi - HT.sIx its.length 0 lo)).toArray:=by obtain⟨h1,h2,h3⟩:=xB lo hi its.toArray.size;unfold slicePick;rw[h1,h2,h3];simp only[sliceRange_one,pick_run,BX] <;> rfl
def zN (K:W.Frag):V->Option Int->Option Int->Hp->VK->Prop:=λx lo hi H Q=>∃a xs,x=.ref a/\aA K H a xs/\∀p,H p=none->Q (.ref p) (upd H p (.lst (ak xs lo hi)))
theorem fR:cX X (zN X.K):=by intro pins s σ H x v vl vu lo hi sl Q I rx hs pl pu h;obtain⟨a,xs,rfl,hx,q⟩:=h;cases rx;obtain⟨its,r,ht,hz⟩:=I.list hx;have hlen:=r.length;refine⟨"list",_,slot_list_getitem.lookup,ht.isList.typeIs,?_⟩;refine wpAny_getItem_list_slice ht.isList hs pl pu .none (by simp) ?_ (by rw[BX] <;> omega);rw[zu,<- hlen];refine⟨.ref s.heap.objs.size,_,I.laid (t':=s.toks) (o:=.lst (ak xs lo hi)) (λb ob q=>BM _ q) (BG _) ?_,rfl,q _ (I.hok.fresh (BG _))⟩;exact⟨Bk (na xs lo hi) hz,_,0,(r.drop (HT.sIx xs.length 0 lo)).take (HT.sIx xs.length xs.length hi - HT.sIx xs.length 0 lo),Bh _ rfl⟩
def cv:V->Bool
 | .non=>true
 | .bl _=>true
 | .int _=>true
 | .str _=>true
 | _=>false
def dD:V->V->Bool
 | .non,.non=>true
 | .bl a,.bl b=>a==b
 | .bl a,.int b=>(if a then 1 else 0)==b
 | .int a,.bl b=>a==(if b then 1 else 0)
 | .int a,.int b=>a==b
 | .str a,.str b=>a==b
 | _,_=>false
theorem yA {A:Around} {s:Shared} {y x:V} {u v:Value} (ry:aJ y u) (rx:aJ x v) (fy:cv y=true) (fx:cv x=true):SeqAt.EqAt A s u v (dD y x):=by
 cases y with
 | non =>
   cases ry;cases x with
   | non=>cases rx; exact SeqAt.EqAt.same _
   | bl b=>cases rx; exact SeqAt.EqAt.none_bool b
   | int b=>obtain⟨t,rfl⟩:=rx; exact SeqAt.EqAt.none_int b t
   | str b=>obtain⟨t,rfl⟩:=rx; exact SeqAt.EqAt.none_str b t
   | _=>exact absurd (show false=true from fx) BO
 | bl a =>
   cases ry;cases x with
   | non=>cases rx; exact SeqAt.EqAt.bool_none a
   | bl b=>cases rx; exact SeqAt.EqAt.bool_bool a b
   | int b=>obtain⟨t,rfl⟩:=rx; exact SeqAt.EqAt.bool_int a b t
   | str b=>obtain⟨t,rfl⟩:=rx; exact SeqAt.EqAt.bool_str a b t
   | _=>exact absurd (show false=true from fx) BO
 | int a =>
   obtain⟨t',rfl⟩:=ry;cases x with
   | non=>cases rx; exact SeqAt.EqAt.int_none a t'
   | bl b=>cases rx; exact SeqAt.EqAt.int_bool a t' b
   | int b=>obtain⟨t,rfl⟩:=rx; exact SeqAt.EqAt.int_int a t' b t
   | str b=>obtain⟨t,rfl⟩:=rx; exact SeqAt.EqAt.int_str a t' b t
   | _=>exact absurd (show false=true from fx) BO
 | str a =>
   obtain⟨t',rfl⟩:=ry;cases x with
   | non=>cases rx; exact SeqAt.EqAt.str_none a t'
   | bl b=>cases rx; exact SeqAt.EqAt.str_bool a t' b
   | int b=>obtain⟨t,rfl⟩:=rx; exact SeqAt.EqAt.str_int a t' b t
   | str b=>obtain⟨t,rfl⟩:=rx; exact SeqAt.EqAt.str_str a t' b t
   | _=>exact absurd (show false=true from fx) BO
 | _=>exact absurd (show false=true from fy) BO
def cH (x:V) (u:Value):Bool:=match u with
 | .none=>dD .non x
 | .bool b=>dD (.bl b) x
 | .int i _=>dD (.int i) x
 | .str z _=>dD (.str z) x
 | _=>false
theorem jW {x y:V} {u:Value} (r:aJ y u) (f:cv y=true):cH x u=dD y x:=by
 cases y with
 | non=>cases r; rfl
 | bl b=>cases r; rfl
 | int i=>obtain⟨t,rfl⟩:=r; rfl
 | str z=>obtain⟨t,rfl⟩:=r; rfl
 | _=>exact absurd (show false=true from f) BO
theorem gg {x:V}:∀{xs:List V} {us:List Value},aI xs us->xs.all cv=true->us.any (cH x)=xs.any λy=>dD y x
 | _,_,.nil,_=>rfl
 | y :: xs,u :: us,.cons r t,f=>by rw[List.all_cons,Bn] at f;rw[DZ,DZ,jW r f.1,gg t f.2]
theorem gH {A:Around} {s:Shared} {x:V} {v:Value} (rx:aJ x v) (fx:cv x=true):∀{xs:List V} {us:List Value},aI xs us->xs.all cv=true->∀u∈us,SeqAt.EqAt A s u v (cH x u)
 | _,_,.nil,_=>λu hu=>by cases hu
 | y :: xs,u :: us,.cons r t,f=>λu' hu=>by
   rw[List.all_cons,Bn] at f;rcases Be.mp hu with rfl|hu
   . rw[jW r f.1]; exact yA r rx f.1 fx
   . exact gH rx fx t f.2 u' hu
def cP (x:V) (xs:List V):Bool:=xs.any λy=>dD y x
def j9 (K:W.Frag) (neg:Bool):R2:=λx y H Q=>∃p xs,y=.ref p/\(aA K H p xs\/a9 K H p xs)/\cv x=true/\xs.all cv=true/\Q (.bl (if neg then !cP x xs else cP x xs)) H
theorem dz:aj X (compareOp .In) (j9 X.K false):=by
 intro pins s σ H x y v u Q I rx ry h;obtain⟨p,xs,rfl,hq,fx,fs,q⟩:=h;cases ry;rcases hq with hq|hq
 . obtain⟨its,r,pl,hz⟩:=I.list hq;refine SeqAt.in_listAt (cH x) pl.isList (λw hw=>gH rx fx r fs w (by simpa using hw)) ⟨.bl _,H,I,rfl,?_⟩;rw[show its.toArray.any (cH x)=its.any (cH x) by simp,gg r fs];exact q
 . obtain⟨its,r,pl,hz⟩:=I.tuple hq;refine SeqAt.in_tupleAt (cH x) pl (λw hw=>gH rx fx r fs w (by simpa using hw)) ⟨.bl _,H,I,rfl,?_⟩;rw[show its.toArray.any (cH x)=its.any (cH x) by simp,gg r fs];exact q
theorem vB:aj X (compareOp .NotIn) (j9 X.K true):=by
 intro pins s σ H x y v u Q I rx ry h;obtain⟨p,xs,rfl,hq,fx,fs,q⟩:=h;cases ry;rcases hq with hq|hq
 . obtain⟨its,r,pl,hz⟩:=I.list hq;refine SeqAt.notIn_listAt (cH x) pl.isList (λw hw=>gH rx fx r fs w (by simpa using hw)) ⟨.bl _,H,I,rfl,?_⟩;rw[show its.toArray.any (cH x)=its.any (cH x) by simp,gg r fs];exact q
 . obtain⟨its,r,pl,hz⟩:=I.tuple hq;refine SeqAt.notIn_tupleAt (cH x) pl (λw hw=>gH rx fx r fs w (by simpa using hw)) ⟨.bl _,H,I,rfl,?_⟩;rw[show its.toArray.any (cH x)=its.any (cH x) by simp,gg r fs];exact q
theorem bI:bo X (.builtin "len") (λxs H Q=>∃p ys,xs=[.ref p]/\(aA X.K H p ys\/a9 X.K H p ys)/\Q (.int ys.length) H):=by
 intro pins s σ H xs us Q I r h;obtain⟨p,ys,rfl,hq,q⟩:=h;obtain⟨u,rfl,rx⟩:=dj r;cases rx;have hn:=gf;rcases hq with hq|hq
 . obtain⟨its,r',pl,hz⟩:=I.list hq;have hlen:=r'.length;exact Calls.call_len_list pl.isList (by simp only[BX] <;> omega) ⟨.int ys.length,H,I.tok _,⟨s.toks+1,by rw[BX,hlen]⟩,q⟩
 . obtain⟨its,r',pl,hz⟩:=I.tuple hq;have hlen:=r'.length;exact len_tuple pl (by simp only[BX] <;> omega) ⟨.int ys.length,H,I.tok _,⟨s.toks+1,by rw[BX,hlen]⟩,q⟩
theorem lP:bo X (.type "list") (λxs H Q=>∃p ys,xs=[.ref p]/\(aA X.K H p ys\/a9 X.K H p ys)/\∀l,H l=none->Q (.ref l) (upd H l (.lst ys))):=by
 intro pins s σ H xs us Q I r h;obtain⟨p,ys,rfl,hq,q⟩:=h;obtain⟨u,rfl,rx⟩:=dj r;cases rx;have fin:∀(its:List Value),aI ys its->ys.length<=sizeLine->∀(h':Heap) (c':Nat),(∀b o',s.heap.get? b=some o'->h'.get? b=some o') ->
     h'.get? s.heap.objs.size=some { cls:=.type "list",dict:=none,data:=.seq its.toArray c',slots:=#[] }->EP X pins σ Q (.ref s.heap.objs.size) { s with heap:=h' }:=λits r' hz h' c' kp e =>
   ⟨.ref s.heap.objs.size,_,I.laid (t':=s.toks) kp (BG _) (show bH X.prog X.w _ h' _ (.lst ys) from⟨hz,its,c',r',e⟩),rfl,q _ (I.hok.fresh (BG _))⟩
 rcases hq with hq|hq
 . obtain⟨its,r',pl,hz⟩:=I.list hq;have hlen:=r'.length;obtain⟨o,ho,hc,n,hd⟩:=pl.isList;exact call_list_seq p (.inl rfl) ho hc hd (λh' c' kp e=>fin its r' hz h' c' kp e) (by simp only[BX] <;> omega)
 . obtain⟨its,r',pl,hz⟩:=I.tuple hq;have hlen:=r'.length;obtain⟨o,ho,hc,n,hd⟩:=pl;exact call_list_seq p (.inr rfl) ho hc hd (λh' c' kp e=>fin its r' hz h' c' kp e) (by simp only[BX] <;> omega)
theorem j2:bo X (.type "tuple") (λxs H Q=>∃p ys,xs=[.ref p]/\((aA X.K H p ys/\∀l,H l=none->Q (.ref l) (upd H l (.tup ys)))\/(a9 X.K H p ys/\Q (.ref p) H))):=by
 intro pins s σ H xs us Q I r h;obtain⟨p,ys,rfl,h⟩:=h;obtain⟨u,rfl,rx⟩:=dj r;cases rx;rcases h with⟨hq,q⟩|⟨hq,q⟩
 . obtain⟨its,r',pl,hz⟩:=I.list hq;have hlen:=r'.length;refine call_tuple_list pl.isList (λh' kp=>?_) (by simp only[BX] <;> omega);have I1:Inv X pins σ H { s with heap:=h' }:=I.kept (t':=s.toks) kp;have I2:Inv X pins σ (upd H h'.objs.size (.tup ys)) { s with heap:=h'.push { cls:=.type "tuple",data:=.seq its.toArray } } :=
     I1.laid (t':=s.toks) (λb o e=>BM _ e) (BG _) (show bH X.prog X.w _ _ _ (.tup ys) from⟨hz,its,r',IsTup.new _ _⟩)
   exact⟨.ref h'.objs.size,_,I2,rfl,q _ (I1.hok.fresh (BG _))⟩
 . obtain⟨its,r',pl,hz⟩:=I.tuple hq;exact call_tuple_same pl ⟨.ref p,H,I,rfl,q⟩
def lv (K:W.Frag) (T:String) (x:V) (H:Hp):Prop:=match x with
 | .str _=>T="str"
 | .int _=>T="int"
 | .ref p=>(T="list"/\∃xs,aA K H p xs)\/(T="tuple"/\∃o,K.lookup p=some o/\o.cls=.type "tuple"/\o.dict=none) \/
     (T="dict"/\((∃kvs,H p=some (.dK kvs))\/∃kvs,H p=some (.dT kvs)))\/(T="set"/\∃S n,H p=some (.set S n))
 | _=>False
theorem mR {pins:List (Addr×Obj)} {σ:St} {H:Hp} {s:Shared} {T:String} {x:V} {v:Value} (I:Inv X pins σ H s) (r:aJ x v) (ty:lv X.K T x H) :
   s.TypeIs v T/\∀a,v=.ref a->∃ob,s.heap.get? a=some ob/\ob.dict=none:=by
 cases x with
 | str z =>
   obtain⟨t,rfl⟩:=r;cases (show T="str" from ty);exact⟨typeIs_str s z t,λ_ e=>nomatch e⟩
 | int i =>
   obtain⟨t,rfl⟩:=r;cases (show T="int" from ty);exact⟨typeIs_int s i t,λ_ e=>nomatch e⟩
 | ref p =>
   cases r;rcases ty with⟨rfl,xs,hq⟩|⟨rfl,o,hk,hc,hd⟩|⟨rfl,hk⟩|⟨rfl,S,n,hk⟩
   . obtain⟨its,_,pl,_⟩:=I.list hq;refine⟨pl.isList.typeIs,λa e=>?_⟩;cases e;obtain⟨o,n,e,c,hd,_⟩:=pl;exact⟨o,e,hd⟩
   . refine⟨⟨o,I.kIn p o hk,hc⟩,λa e=>?_⟩;cases e;exact⟨o,I.kIn _ o hk,hd⟩
   . have z:∃o,s.heap.get? p=some o/\o.ExactDict:=by
       rcases hk with⟨kvs,hk⟩|⟨kvs,hk⟩
       . obtain⟨_,_,_,_,o,_,_,e,ex,_⟩:=I.hok p _ hk;exact⟨o,e,ex⟩
       . obtain⟨_,_,_,_,o,_,_,e,ex,_⟩:=I.hok p _ hk;exact⟨o,e,ex⟩
     obtain⟨o,e,ex⟩:=z;refine⟨⟨o,e,ex.1⟩,λa e2=>?_⟩;cases e2;exact⟨o,e,ex.2.1⟩
   . obtain⟨o,_,_,_,e,ex,_⟩:=I.hok p _ hk;refine⟨⟨o,e,ex.1⟩,λa e2=>?_⟩;cases e2;exact⟨o,e,ex.2.1⟩
 | _=>exact False.elim ty
def ze (K:W.Frag) (T:String) (r:V->List V->Hp->VK->Prop) (to:TE):TE:=λσ H Q=>to σ H λx H1=>lv K T x H1/\r x [] H1 Q
def tBM (K:W.Frag) (T:String) (r:V->List V->Hp->VK->Prop) (to:TE) (t:TA):TE:=λσ H Q=>to σ H λx H1=>lv K T x H1/\t σ H1 λxs H2=>r x xs H2 Q
variable {o e:Expr} {es:List Expr} {to:TE} {t:TA} {name:Str} {apos cpos:Pos} {T id:String} {r:V->List V->Hp->VK->Prop}
theorem nn (pa:PlainAttrs T) (slot:Slot T name id) (hty:typeOf (.builtin id)=pure (.type "method_descriptor")) (hm:kT X id r) (ho:PE X o to)
   (hbase:attributeBase o name X.env (eval o X.env)=eval o X.env:=by rfl) (hline:(apos.endLine==cpos.line)=true:=by rfl):PE X (.Call (.Attribute o name apos) [] [] cpos) (ze X.K T r to):=by
 intro pins s σ H Q I h;refine EG hbase hline (aF (ho pins s σ H _ I h) λv s1 ⟨x,H1,I1,r1,ty,q1⟩=>?_);obtain⟨h1,h2⟩:=mR I1 r1 ty;exact⟨T,id,pa,slot,hty,h1,h2,Calls.callWith_builtin rfl (PySem.evalArgs_none (hm pins s1 σ H1 x [] v [] Q I1 r1 .nil q1))⟩
theorem bT (pa:PlainAttrs T) (slot:Slot T name id) (hty:typeOf (.builtin id)=pure (.type "method_descriptor")) (hm:kT X id r) (ho:PE X o to) (ha:PA X (e :: es) t)
   (hbase:attributeBase o name X.env (eval o X.env)=eval o X.env:=by rfl)
   (hfew:((backTo cpos (starEach (e :: es) X.env)).all (λx=>!x.1)&&(backToKw cpos (keywordEach [] X.env)).all (λx=>x.1.isSome)
     && decide ((e :: es).length+([]:List Keyword).length+(if([]:List Keyword).isEmpty then 0 else 1)<30))=true:=by rfl)
   (hline:(apos.endLine==cpos.line)=true:=by rfl) (hs:starEach (e :: es) X.env=(false,eval e X.env) :: starEach es X.env:=by rfl) (hplain:(backTo cpos (starEach es X.env)).any (·.1)=false:=by rfl) :
   PE X (.Call (.Attribute o name apos) (e :: es) [] cpos) (tBM X.K T r to t):=by
 intro pins s σ H Q I h;refine wpAny_Call_method_late hbase hfew hline rfl (aF (ho pins s σ H _ I h) λv s1 ⟨x,H1,I1,r1,ty,q1⟩=>?_);obtain⟨h1,h2⟩:=mR I1 r1 ty;refine⟨T,id,pa,slot,hty,h1,h2,?_⟩;have hA:=ha cpos pins s1 σ H1 _ I1 q1;rw[hs] at hA ⊢;refine Calls.callWith_builtin (by show(false || (backTo cpos (starEach es X.env)).any (·.1))=false; rw[hplain] <;> rfl) (Calls.evalArgs_plain ?_);exact aF hA λus s2 ⟨vs,H2,I2,r2,q2⟩=>hm pins s2 σ H2 x vs v us Q I2 r1 r2 q2
end
def kt (X:Cx) (id:String) (r:V->List V->Hp->VK->Prop):Prop :=
 ∀(pins:List (Addr×Obj)) (s:Shared) (σ:St) (H:Hp) (x:V) (xs:List V) (v:Value) (us:List Value) (Q:VK),Inv X pins σ H s->aJ x v->aI xs us->r x xs H Q ->
   wpAny (model X.prog X.w) X.A (call (.builtin id) (v :: us)) (EP X pins σ Q) X.xe s
theorem aI.one:∀{x:V} {us:List Value},aI [x] us->∃u,us=[u]/\aJ x u
 | _,_,.cons r .nil=>⟨_,rfl,r⟩
theorem aI.zero:∀{us:List Value},aI [] us->us=[]
 | _,.nil=>rfl
theorem aI.dropLast {xs:List V} {us:List Value} (h:aI xs us):aI xs.dropLast us.dropLast:=by
 induction h with
 | nil=>exact .nil
 | cons r t ih =>
   cases t with
   | nil=>exact .nil
   | cons q t'=>exact .cons r ih
theorem aI.rep {xs:List V} {us:List Value} (h:aI xs us):∀k:Nat,aI (List.replicate k xs).flatten (List.replicate k us).flatten
 | 0=>.nil
 | k+1=>by rw[CM,CM,DR,DR];exact aI.append h (aI.rep h k)
theorem zA {α:Type} (l:List α):l.eraseIdx (l.length - 1)=l.dropLast:=by
 induction l with
 | nil=>rfl
 | cons a r ih =>
   cases r with
   | nil=>rfl
   | cons b r =>
     have e:(a :: b :: r).length - 1=((b :: r).length - 1)+1:=by have h1:(a :: b :: r).length=r.length+2:=rfl;have h2:(b :: r).length=r.length+1:=rfl;omega
     rw[e,List.eraseIdx_cons_succ,ih]
     all_goals rfl
theorem mm (its:List Value):∀(k:Nat) (acc:List Value),
   List.foldl (λx1 x2=>x1++x2) acc.toArray (List.replicate k its.toArray)=(acc++(List.replicate k its).flatten).toArray
 | 0,acc=>by simp
 | k+1,acc=>by
   have e:acc.toArray++its.toArray=(acc++its).toArray:=by simp
   have e2:(acc++its)++(List.replicate k its).flatten=acc++(List.replicate (k+1) its).flatten:=by rw[CM,DR,CF]
   rw[<- e2,<- mm its k (acc++its),<- e,CM,Ch]
section
variable {X:Cx} {pins:List (Addr×Obj)} {σ:St} {H:Hp} {s:Shared} {l b:Addr} {xs ys zs:List V}
theorem Inv.lset {its its':List Value} {f:Array Value->Array Value} {t':Nat} (I:Inv X pins σ H s) (hH:H l=some (.lst xs))
   (e:s.heap.get? l=some { cls:=.type "list",data:=.seq its.toArray n }) (hf:f its.toArray=its'.toArray) (hv:aI ys its') (hz:ys.length<=sizeLine) :
   Inv X pins σ (upd H l (.lst ys)) { s with heap:=s.heap.update l (Obj.mapSeq f),toks:=t' }:=by
 have q:=PySem.IsL.update e f;rw[hf] at q;refine I.write (x:=l) (e:=l) (by rw[hH]; exact trivial) (.inl rfl) (λb' u hb hu=>(Heap.get?_update_other s.heap (Obj.mapSeq f) (Ne.symm hb)).trans hu) ⟨_,q⟩ ?_;exact⟨hz,its',_,hv,q⟩
theorem Inv.lnew {its:List Value} {t':Nat} (I:Inv X pins σ H s) (hv:aI ys its) (hz:ys.length<=sizeLine) :
   Inv X pins σ (upd H s.heap.objs.size (.lst ys)) { s with heap:=s.heap.push { cls:=.type "list",data:=.seq its.toArray },toks:=t' } :=
 I.laid (λ_ _ q=>BM _ q) (BG _) ⟨hz,its,0,hv,Bh _ rfl⟩
theorem Inv.fresh (I:Inv X pins σ H s):H s.heap.objs.size=none:=I.hok.fresh (BG _)
theorem Inv.lstM (I:Inv X pins σ H s) (hH:H l=some (.lst xs)):xs.length<=sizeLine/\∃(its:List Value) (n:Nat),aI xs its/\xs.length=its.length/\s.heap.get? l=some { cls:=.type "list",data:=.seq its.toArray n }:=by obtain⟨z,its,n,r,e⟩:=I.hok l _ hH;exact⟨z,its,n,r,r.length,e⟩
theorem oW (h:n<=sizeLine):Builtin.List.listTooLong n=false:=by unfold Builtin.List.listTooLong;exact BY (by omega)
end
section
variable {X:Cx}
def yI:V->List V->Hp->VK->Prop:=λx vs H Q=>∃l xs y,x=.ref l/\vs=[y]/\H l=some (.lst xs)/\xs.length<sizeLine/\Q .non (upd H l (.lst (xs++[y])))
theorem bi:kt X "list.append" yI:=by intro pins s σ H x vs v us Q I rx rv h;obtain⟨l,xs,y,rfl,rfl,hH,hz,q⟩:=h;cases rx;obtain⟨u,rfl,ru⟩:=rv.one;obtain⟨z,its,n,r,hl,e⟩:=I.lstM hH;refine call_meets F.slot_list_append ⟨_,e,rfl⟩ F.entry_list_append (F.args_list_append_2 _ _) (PySem.list_append l its.toArray n u (by rw[BX]; omega)) ⟨e,?_⟩;refine⟨.non,_,I.lset (its':=its++[u]) hH e (by simp) (r.append (.cons ru .nil)) ?_,rfl,q⟩;rw[BH,List.length_singleton];omega
def yW:V->List V->Hp->VK->Prop:=λx vs H Q=>∃l b xs zs,x=.ref l/\vs=[.ref b]/\H l=some (.lst xs)/\H b=some (.lst zs)/\xs.length+zs.length<=sizeLine/\Q .non (upd H l (.lst (xs++zs)))
theorem ve:kt X "list.extend" yW:=by
 intro pins s σ H x vs v us Q I rx rv h;obtain⟨l,b,xs,zs,rfl,rfl,hH,hB,hz,q⟩:=h;cases rx;obtain⟨u,rfl,ru⟩:=rv.one;cases ru;obtain⟨z,its,n,r,hl,e⟩:=I.lstM hH;obtain⟨z2,its2,n2,r2,hl2,e2⟩:=I.lstM hB;have hsz:its.toArray.size+its2.toArray.size<=sizeLine:=by rw[BX,BX]; omega
 have hlong:¬ (!its.toArray.isEmpty&&Builtin.List.listTooLong (its.toArray.size+its2.toArray.size))=true:=by rw[oW hsz,Ds];exact BO
 refine call_meets F.slot_list_extend ⟨_,e,rfl⟩ F.entry_list_extend (F.args_list_extend_2 _ _)
   (AutoSeq1.list_extend_list_list_0 l its.toArray n b its2.toArray n2 hlong (by rw[BX]; omega) (by omega)) ⟨e,e2,?_⟩
 refine⟨.non,_,I.lset (its':=its++its2) hH e (by simp) (r.append r2) ?_,rfl,q⟩;rw[BH];omega
def yk:V->List V->Hp->VK->Prop:=λx vs H Q=>∃l xs y,x=.ref l/\vs=[]/\H l=some (.lst xs)/\xs[xs.length - 1]?=some y/\Q y (upd H l (.lst xs.dropLast))
theorem oG:kt X "list.pop" yk:=by
 intro pins s σ H x vs v us Q I rx rv h;obtain⟨l,xs,y,rfl,rfl,hH,hy,q⟩:=h;cases rx;have hus:=rv.zero;subst hus;obtain⟨z,its,n,r,hl,e⟩:=I.lstM hH;obtain⟨u,hu,ru⟩:=r.get hy;have hy':its.toArray[its.toArray.size - 1]?=some u:=by show its.toArray[its.length - 1]?=some u;rw[<- Cy,<- hl];exact hu
 refine call_meets F.slot_list_pop ⟨_,e,rfl⟩ F.entry_list_pop (F.args_list_pop_1 _) (MeetsSeq.list_pop_last l its.toArray n u hy' (by rw[BX]; omega)) ⟨e,?_⟩;refine⟨y,_,I.lset (its':=its.dropLast) hH e ?_ r.dropLast ?_,ru,q⟩
 . show its.toArray.eraseIdxIfInBounds (its.toArray.size - 1)=its.dropLast.toArray;rw[BX,List.eraseIdxIfInBounds_toArray,zA]
 . rw[List.length_dropLast];omega
def wT:R2:=λx y H Q=>∃l b xs zs,x=.ref l/\y=.ref b/\H l=some (.lst xs)/\H b=some (.lst zs)/\xs.length+zs.length<=sizeLine/\∀p,H p=none->Q (.ref p) (upd H p (.lst (xs++zs)))
theorem wH:aj X (binaryOp .Add) wT:=by
 intro pins s σ H x y v u Q I rx ry h;obtain⟨l,b,xs,zs,rfl,rfl,hH,hB,hz,q⟩:=h;cases rx;cases ry;obtain⟨z,its,n,r,hl,e⟩:=I.lstM hH;obtain⟨z2,its2,n2,r2,hl2,e2⟩:=I.lstM hB;refine PySem.P.add_list e e2 ?_ (by rw[BX,BX]; omega);have ea:its.toArray++its2.toArray=(its++its2).toArray:=by simp
 rw[ea];exact⟨.ref _,_,I.lnew (t':=s.toks) (r.append r2) (by rw[BH]; omega),rfl,q _ I.fresh⟩
def yh:R2:=λx y H Q=>∃l k xs,x=.ref l/\y=.int k/\H l=some (.lst xs)/\-(2 ^ 63)<=k/\k<2 ^ 63/\xs.length * k.toNat<=sizeLine /\
 ∀p,H p=none->Q (.ref p) (upd H p (.lst (List.replicate k.toNat xs).flatten))
theorem ny {α:Type} (xs:List α) (k:Nat):(List.replicate k xs).flatten.length=k * xs.length:=by
 induction k with
 | zero=>simp
 | succ k ih=>rw[CM,DR,BH,ih,ED,Nat.add_comm]
theorem Am:aj X (binaryOp .Mult) yh:=by
 intro pins s σ H x y v u Q I rx ry h;obtain⟨l,k,xs,rfl,rfl,hH,h1,h2,hz,q⟩:=h;cases rx;obtain⟨t,rfl⟩:=ry;obtain⟨z,its,n,r,hl,e⟩:=I.lstM hH;have hlen:its.toArray.size * k.toNat<=sizeLine:=by rw[BX,<- hl]; exact hz
 have hcap:¬ its.toArray.size * k.toNat > (2 ^ 63 - 1) / 8:=by
   have:(sizeLine:Nat)<=(2 ^ 63 - 1) / 8:=by decide
   omega
 have hfit:¬ (!Builtin.List.listFitsIndex k)=true:=by rw[fitsIndex_both h1 h2];exact BO
 have hlong:¬ Builtin.List.listTooLong (its.toArray.size * k.toNat)=true:=by rw[oW hlen];exact BO
 have hnew:List.foldl (λx1 x2=>x1++x2) #[] (List.replicate (if its.toArray.isEmpty=true then 0 else k.toNat) its.toArray)=(List.replicate k.toNat its).flatten.toArray:=by
   have f0:∀m:Nat,List.foldl (λx1 x2=>x1++x2) #[] (List.replicate m its.toArray)=(List.replicate m its).flatten.toArray:=λm=>by have:=mm its m [];rw[List.nil_append] at this;exact this
   rw[f0];cases its with
   | nil=>simp
   | cons a r'=>rw[BE (by simp)]
 refine wpAny_binaryOp_repeat_ref (T:="list") (U:="int") (by decide) ⟨_,e,rfl⟩ (λs'=>typeIs_int s' k t) noFill_list_mul F.fills_int_mul F.slot_int_rmul repeat_list F.slot_int_index.lookup
   (call_meets F.slot_int_rmul (typeIs_int s k t) F.entry_int_rmul (F.args_int_rmul_2 _ _) (int___rmul___int_list k t l its.toArray n)
     ⟨e,rfl,⟨_,e,rfl⟩,call_meets F.slot_list_mul ⟨_,e,rfl⟩ F.entry_list_mul (F.args_list_mul_2 _ _) (AutoListH.list___mul___list_int_3 l its.toArray n k t hfit hcap hlong) ⟨e,?_⟩⟩)
 rw[hnew];exact⟨.ref _,_,I.lnew (t':=s.toks) (r.rep k.toNat) (by rw[ny,Nat.mul_comm]; exact hz),rfl,q _ I.fresh⟩
end
end L2
namespace Att
open PySem PySem.W PySem.Calls PyProof.Rows
theorem xU {P:Params} {h:Heap}:∀(ns:List Int) (vs:List Value),WellAll P h vs (ns.map WData.int)->IntsAre vs ns:=by
 intro ns
 induction ns with
 | nil =>
   intro vs w;rw[List.map_nil] at w;cases w;exact .nil
 | cons n ns ih =>
   intro vs w;rw[Bx] at w;cases w with
   | cons a b =>
     cases a;exact .cons _ _ (ih _ b)
theorem xP {l:OpenLaw} {n:Nat} (hn:l.most=some n) {P:Params} {h:Heap} {args:List WData} {vals:List Value}
   (hpre:l.row.toRowW.claim.pre args=true) (hwl:WellAll P h vals args) :
   ∃a vs ns,vals=[Value.ref a]/\args=[WData.list (ns.map WData.int)]/\h.get? a=some { cls:=.type "list",data:=.seq vs.toArray }/\IntsAre vs ns/\ns.length<=n:=by
 have dX:WShape.hasAll [] args [.list .int]=true:=(pre_splitW hpre).1;have hc:l.pre.holds [] { args:=args }=true:=(pre_splitW hpre).2;obtain⟨d,r,rfl,h1,h2⟩:=hasAllW_cons dX;obtain rfl:=hasAllW_nil h2;obtain⟨xs,rfl,h3⟩:=hasW_list h1;obtain⟨ns,rfl⟩:=items_int h3;have hlen:ns.length<=n:=by
   unfold OpenLaw.pre at hc;have h4:(WTm.not (.lt (.lit (.int (n:Int))) (.len (.arg 0)))).holds [] { args:=[.list (ns.map .int)] }=true:=by have h4:=(holds_andW hc).1;rw[hn] at h4;exact h4
   have h5:=condW_of h4 (w_not (w_lt w_lit (w_len_list (w_arg rfl))));rw[BA] at h5;refine Nat.le_of_not_lt λq=>?_;have q':(n:Int)<((ns.length:Nat):Int):=by omega
   first
     | (rw[BN q'] at h5; exact absurd h5 (by decide))
     | (simp at h5; omega)
 cases hwl with
 | cons w1 w2 =>
   cases w2;cases w1 with
   | list ho hall=>exact⟨_,_,ns,rfl,rfl,ho,xU ns _ hall,hlen⟩
theorem wI (l:OpenLaw) (args:List WData):l.row.toRowW.claim.post args (.bool true) args=true :=
 postW_of (r:=l.row.toRowW) (X:=(true==true))
   (show WShape.has [] (.bool true) .bool=true by first|rfl|decide|simp [WShape.has,WShape.arms,WShape.armsAll])
   (show(WTm.eq .res (.lit (.bool true))).value [] { args:=args,res:=some (.bool true),after:=args }=some (.bool (true==true)) from w_eq_bool (w_res rfl) w_lit) rfl
theorem attach_call {l:OpenLaw} {n:Nat} {q:Program} {loose:List Str} {XP:(Str->Option Value)->Heap->Prop} {YP:World->Heap->Prop} {d:DefRec}
   (hn:l.most=some n) (hdf:d.params.defaults=[])
   (call:∀(w:World) (s₀ s₁:Shared) (mg mb:Str->Option Value) (fa:Addr) (o:Obj) (pm cd doc:Value) (a:Addr) (vs:List Value) (ns:List Int),
     Ground q loose [] XP w s₀ mg mb s₁.heap->YP w s₁.heap ->
     s₁.heap.get? fa=some o->o.data=.func (docDef d.name d.params d.body d.scope pm cd doc)->s₁.heap.CodeRec cd d.name->mg d.name=some (.ref fa) ->
     s₁.heap.get? a=some { cls:=.type "list",data:=.seq vs.toArray }->IntsAre vs ns->ns.length<=n->s₁.gens=#[] ->
     codeAny (model l.prog w) callerA (.call (.ref fa) ⟨[.ref a],[]⟩) (λr s'=>r=.ok (.ret (.bool true))/\OldK s₁.heap s'.heap/\s'.os=s₁.os/\AllBare s'.gens) s₁) :
   WalkO q loose XP YP l.row.toRowW d [] (λf vs=>PySem.call f vs):=by
 intro w s₀ s₁ mg mb G Y fa o pm cd doc dV kV ho hd hcd hD hmg hg args vals as hpre hlay hrd hwl hlo;obtain rfl:dV=.none:=Dflts.none hD hdf;obtain rfl:kV=.none:=Dflts.noKw hD;obtain⟨a,vs,ns,rfl,rfl,hobj,hints,hlen⟩:=xP hn hpre hwl;refine enter_call (DD (call w s₀ s₁ mg mb fa o pm cd doc a vs ns G Y ho (fd_plain hd) hcd hmg hobj hints hlen hg) λr s' hq=>?_);obtain⟨rfl,h2,h3,h4⟩:=hq;exact⟨.inl ⟨.bool true,.bool true,[],rfl,λ_=>rfl,.bool true,wI l _,λ_=>⟨List.Pairwise.nil,λ_ hm=>(nomatch hm)⟩⟩,h2,h3,h4⟩
end Att
namespace L2
open PySem PySem.Spec PyProof.Rows
theorem nF:∀{vs:List Value} {ns:List Int},IntsAre vs ns->aI (ns.map V.int) vs
 | _,_,.nil=>.nil
 | _,_,.cons n t h=>.cons ⟨t,rfl⟩ (nF h)
def iR (H:Hp):Prop:=∀b,H b=none\/∃o xs,H b=some (.frz o (.lst xs))
variable {x:Str}
theorem zx {P:Program} {w:World} {K:W.Frag} {mg mb:Str->Option Value} {CX:dP} {k:Nat} {fa a:Addr} {fd:FuncData} {sp:Sp} {s₁:Shared} {vs:List Value} {ns:List Int}
   (KX:K.In s₁.heap) (hns:s₁.heap.Ns mainGlobals mg) (hb:s₁.heap.Ns builtinsNs mb) (hbb:∀x:Str,x≠"__name__"->mb x=bootBuiltins x) (hlim:s₁.heap.NoLimit) (hg:s₁.gens=#[])
   (ha:s₁.heap.get? a=some { cls:=.type "list",data:=.seq vs.toArray }) (hi:IntsAre vs ns) (hl:ns.length<=sizeLine) (hr:Room k callerA)
   (F:∀base:Heap,K.In base->base.Ns mainGlobals mg->FnOk P w K mg base CX k fa fd [x] sp) (hbind:∀(s:Shared) (u:Value),BindsTo s fd ⟨[u],[]⟩ [(x,u)])
   (hsp:∀H:Hp,iR H->aA K H a (ns.map V.int)->sp [.ref a] H (λv _=>v=.bl true) λ_ _ _=>False)
   (hCX:∀H e s',CX [] H s₁ (λ_ _ _=>False) e s'->False) :
   codeAny (model P w) callerA (.call (.ref fa) ⟨[.ref a],[]⟩) (λr s'=>r=.ok (.ret (.bool true))/\OldK s₁.heap s'.heap/\s'.os=s₁.os/\AllBare s'.gens) s₁:=by
 have rv:=nF hi;have lenV:=hi.length
 -- from an abstract heap in which nothing but the script may be tracked
 have core:∀H:Hp,iR H->aA K H a (ns.map V.int)->bK P w H s₁.heap->(∀b,H b≠none->b=a)->(H a≠none->K.lookup a=none) ->
     codeAny (model P w) callerA (.call (.ref fa) ⟨[.ref a],[]⟩) (λr s'=>r=.ok (.ret (.bool true))/\OldK s₁.heap s'.heap/\s'.os=s₁.os/\AllBare s'.gens) s₁:=by
   intro H hO hS hok hA hK;have base_of:∀{b:Addr} {o:Obj},s₁.heap.get? b=some o->H b=none->(eM s₁.heap H).get? b=some o:=λe n=>vg e n;have noA:∀{b:Addr} {o:Obj} {es:Array DictEntry} {ep:Nat},s₁.heap.get? b=some o->o.data=.dict es ep->H b=none:=λ{b o es ep} e d=>by
     cases q:H b with
     | none=>rfl
     | some u =>
       have e':b=a:=hA b (by rw[q]; simp);subst e';rw[ha] at e; cases e;have d':Data.seq vs.toArray _=Data.dict es ep:=d;cases d'
   have nsK:∀{b:Addr} {m:Str->Option Value},s₁.heap.Ns b m->(eM s₁.heap H).Ns b m:=λ{b m} ⟨o,es,ep,e,d,r⟩=>⟨o,es,ep,base_of e (noA e d),d,r⟩
   have hKb:K.In (eM s₁.heap H):=λb o e=>base_of (KX b o e) (by
     cases q:H b with
     | none=>rfl
     | some u =>
       have e':b=a:=hA b (by rw[q]; simp);subst e';rw[hK (by rw[q]; simp)] at e; cases e)
   have hM:Mod K mg (eM s₁.heap H):=⟨hKb,nsK hns,⟨mb,nsK hb,hbb⟩,let ⟨mc,h1,h2⟩:=hlim; ⟨mc,nsK h1,h2⟩⟩
   have e0:Env0 P w K mg (eM s₁.heap H) callerA [] s₁ H:=⟨rfl,hM,λb o e=>vN e,EC (Ac _ _),trivial,λb hb=>absurd (show b∈([]:List Addr) from hb) (by simp),hok,.of_eq hg⟩
   refine DD ((F _ hKb (nsK hns)).run callerA [] s₁ H ⟨[.ref a],[]⟩ [.ref a] [.ref a] _ _ hr e0 (hbind s₁ (.ref a)) (.cons rfl .nil) (hsp H hO hS)) λr s' h=>?_;cases r with
   | error e=>exact(hCX H e s' h).elim
   | ok fl =>
     cases fl with
     | next=>exact False.elim h
     | brk=>exact False.elim h
     | cont=>exact False.elim h
     | ret u =>
       obtain⟨v,H',os,bare,un,hok',r',q⟩:=h;have q':v=.bl true:=q;subst q';obtain rfl:u=Value.bool true:=r';refine⟨rfl,OldK.of_keep λb o e=>?_,os,bare⟩;cases q:H b with
       | none=>exact un.keep b o e q (by intro z; exact absurd (show b∈([]:List Addr) from z) (by simp)) (by simp)
       | some u =>
         rcases hO b with z|⟨ob,xs,z⟩
         . rw[q] at z; cases z
         . have z2:=un.frzs b ob _ z;obtain⟨e1,_⟩:=hok b _ z;obtain⟨e2,_⟩:=hok' b _ z2;rw[e] at e1; cases e1;exact e2
 cases hk:K.lookup a with
 | some o =>
   -- the script is one of the module's own objects
   have e:=KX a o hk;rw[ha] at e;cases e;refine core (λ_=>none) (λ_=>.inl rfl) (.inr ⟨_,vs.toArray,_,hk,rfl,rfl,rfl,by rw[BX,lenV]; exact hl,by simpa using rv⟩) (λb u z=>by have z':(none:Option HO)=some u:=z; cases z') (λb z=>absurd rfl z) λz=>absurd rfl z
 | none =>
   refine core (λb=>if b=a then some (.frz { cls:=.type "list",data:=.seq vs.toArray } (.lst (ns.map V.int))) else none) (λb=>?_) (.inl (.inr ⟨{ cls:=.type "list",data:=.seq vs.toArray },BJ rfl⟩)) (λb u z=>?_) (λb z=>?_) λ_=>hk
   . by_cases hb:b=a
     . exact .inr ⟨_,_,BJ hb⟩
     . exact .inl (BE hb)
   . by_cases hb:b=a
     . have z':=(BJ hb).symm.trans z;cases z';subst hb;exact⟨ha,by rw[BA]; exact hl,vs,_,rv,ha⟩
     . have z':=(BE hb).symm.trans z;cases z'
   . by_cases hb:b=a
     . exact hb
     . exact absurd (BE hb) z
abbrev KOf {K:W.Frag} {h:Heap} (_:K.In h):W.Frag:=K
theorem w9 {l:PySem.W.OpenLaw} {n k:Nat} {q:Program} {loose:List Str} {XP:(Str->Option Value)->Heap->Prop} {YP:World->Heap->Prop} {d:DefRec} {K:Params->W.Frag} {CX:World->dP} {sp:World->Sp} 
   (hn:l.most=some n) (hn2:n<=sizeLine) (hdf:d.params.defaults=[]) (hr:Room k callerA)
   (hY:∀(w:World) (h:Heap),YP w h->(K w.params).In h)
   (F:∀(w:World) (mg:Str->Option Value) (fa:Addr) (h:Heap),(K w.params).In h->h.Ns mainGlobals mg->mg d.name=some (.ref fa) ->
     ∃fd:FuncData,(∀(s:Shared) (u:Value),BindsTo s fd ⟨[u],[]⟩ [(x,u)]) /\
       ∀base:Heap,(K w.params).In base->base.Ns mainGlobals mg->FnOk l.prog w (K w.params) mg base (CX w) k fa fd [x] (sp w))
   (hsp:∀(w:World) (H:Hp) (a:Addr) (ns:List Int),ns.length<=n->iR H->aA (K w.params) H a (ns.map V.int)->sp w [.ref a] H (λv _=>v=.bl true) λ_ _ _=>False)
   (hCX:∀(w:World) (H:Hp) (s:Shared) (e:Value) (s':Shared),CX w [] H s (λ_ _ _=>False) e s'->False) :
   PySem.W.WalkO q loose XP YP l.row.toRowW d [] (λf vs=>PySem.call f vs):=by
 refine Att.attach_call hn hdf λw s₀ s₁ mg mb fa o pm cd doc a vs ns G Y ho hd hcd hmg hobj hints hlen hg=>?_;have KX:=hY w _ Y;obtain⟨fd,hb,hF⟩:=F w mg fa _ KX G.T.g hmg;exact zx KX G.T.g G.T.b G.T.builtins G.T.nolimit hg hobj hints (Bk hlen hn2) hr hF hb (λH hO hS=>hsp w H a ns hlen hO hS) λH e s'=>hCX w H s₁ e s'
theorem walk_ofK {l:PySem.W.OpenLaw} {n k:Nat} {q:Program} {loose:List Str} {XP:(Str->Option Value)->Heap->Prop} {YP:World->Heap->Prop} {d:DefRec} {K:Params->W.Frag} {CX:dP} {sp:W.Frag->Sp} 
   (hn:l.most=some n) (hn2:n<=sizeLine) (hdf:d.params.defaults=[]) (hr:Room k callerA)
   (hY:∀(w:World) (h:Heap),YP w h->(K w.params).In h)
   (F:∀(w:World) (mg:Str->Option Value) (fa:Addr) (h:Heap),(K w.params).In h->h.Ns mainGlobals mg->mg d.name=some (.ref fa) ->
     ∃fd:FuncData,(∀(s:Shared) (u:Value),BindsTo s fd ⟨[u],[]⟩ [(x,u)]) /\
       ∀base:Heap,(K w.params).In base->base.Ns mainGlobals mg->FnOk l.prog w (K w.params) mg base CX k fa fd [x] (sp (K w.params)))
   (hsp:∀(K:W.Frag) (H:Hp) (a:Addr) (ns:List Int),ns.length<=n->iR H->aA K H a (ns.map V.int)->sp K [.ref a] H (λv _=>v=.bl true) λ_ _ _=>False)
   (hCX:∀(H:Hp) (s:Shared) (e:Value) (s':Shared),CX [] H s (λ_ _ _=>False) e s'->False) :
   PySem.W.WalkO q loose XP YP l.row.toRowW d [] (λf vs=>PySem.call f vs) :=
 w9 (K:=K) (CX:=λ_=>CX) (sp:=λw=>sp (K w.params)) hn hn2 hdf hr hY F (λw H a ns h1 h2 h3=>hsp (K w.params) H a ns h1 h2 h3) λ_ H s e s'=>hCX H s e s'
def lG (s:Stmt) (j:Nat):Stmt:=match s with
 | .ClassDef _ _ _ body _ _ _ _ _ _ _=>body.getD j (.Pass ⟨0,0,0,0⟩)
 | _=>.Pass ⟨0,0,0,0⟩
def c6 (s:Stmt):Arguments:=match s with
 | .FunctionDef _ a _ _ _ _ _ _ _ _=>a
 | _=>{ posonlyargs:=[],args:=[],vararg:=none,kwonlyargs:=[],kw_defaults:=[],kwarg:=none,defaults:=[] }
def bq (s:Stmt):List Stmt:=match s with
 | .FunctionDef _ _ b _ _ _ _ _ _ _=>b
 | _=>[]
def aW (s:Stmt):Scope:=match s with
 | .FunctionDef _ _ _ _ _ _ sc _ _ _=>sc
 | _=>{ kind:=.function,names:=[],isGenerator:=false,isCoroutine:=false }
abbrev CX0:dP:=λ_ _ _ _ _ _=>False
abbrev E0:XK:=λ_ _ _=>False
theorem fw {X:Cx}:gD CX0 X E0:=λ_ _ _ _ _ _ _ h=>h.elim
structure Fun (K:W.Frag) (x qual:Str) (st:Stmt) (f:Addr) (fd:FuncData):Prop where
 ex:∃(oc:Value) (od:Option Addr) (kV doc pm:Value) (an:Option Addr) (cdv ct:Value) (osl:Array (Option Value)),
   fd=PySem.W.fnOf x qual (c6 st) (bq st) (aW st) .none kV doc pm an cdv ct/\K.lookup f=some ⟨oc,od,.func fd,osl⟩/\PySem.W.codeIn K cdv qual=true
 kp:PySem.W.keepIn K (.ref f)=true
variable {qual:Str}
section
variable {P:Program} {w:World} {K:W.Frag} {mg:Str->Option Value} {base:Heap}
theorem Fun.ok {st:Stmt} {f:Addr} {fd:FuncData} {N ps:List Str} {k:Nat} {sp:Sp} (F:Fun K x qual st f fd) (S:FnScope N ps (aW st)) (len:∀vs H Q E,sp vs H Q E->vs.length=ps.length)
   (hbody:∀(cdv:Value) (A:Around) (outer:List Env) (s:Shared) (H:Hp) (vs:List V) (Q:VK) (E:XK),Room k (A.deeper (envOfC qual (aW st) s.heap.objs.size f cdv))->sp vs H Q E ->
     ∃t,cB (gE CX0 P w K mg base N qual (aW st) f cdv A outer s H E).nox (bq st) t/\t { nx:=λ_ H'=>Q .non H',rt:=Q } (fC N vs) H):FnOk P w K mg base CX0 (k+1) f fd ps sp:=by
 obtain⟨oc,od,kV,doc,pm,an,cdv,ct,osl,rfl,lk,hcd⟩:=F.ex;refine w6 lk hcd S len λA outer s H vs Q E hr hsp=>?_;obtain⟨t,h,q⟩:=hbody cdv A outer s H vs Q E hr hsp;exact⟨t,h.nox,q⟩
theorem Fun.binds {st:Stmt} {f:Addr} {fd:FuncData} {ps:List Str} (F:Fun K x qual st f fd)
   (h:∀(kV doc pm:Value) (an:Option Addr) (cdv ct:Value) (us:List Value),us.length=ps.length->bindArgs (PySem.W.fnOf x qual (c6 st) (bq st) (aW st) .none kV doc pm an cdv ct) ⟨us,[]⟩=pure (ps.zip us)):dI K fd ps []:=by
 obtain⟨oc,od,kV,doc,pm,an,cdv,ct,osl,rfl,lk,hcd⟩:=F.ex;exact .all (h kV doc pm an cdv ct)
theorem fi {st:Stmt} {f:Addr} {oc:Value} {od an:Option Addr} {osl:Array (Option Value)} {kV doc pm cdv ct:Value} (l:K.lookup f=some ⟨oc,od,.func (PySem.W.fnOf x qual (c6 st) (bq st) (aW st) .none kV doc pm an cdv ct),osl⟩)
   (c:PySem.W.codeIn K cdv qual=true) (k:PySem.W.keepIn K (.ref f)=true):Fun K x qual st f (PySem.W.fnOf x qual (c6 st) (bq st) (aW st) .none kV doc pm an cdv ct):=⟨⟨oc,od,kV,doc,pm,an,cdv,ct,osl,rfl,l,c⟩,k⟩
end
theorem gT {n:Nat} (h:n<=1000):n<sizeLine:=Dx h (by decide)
section
variable {X:Cx}
theorem pv (i:Nat) {pos:Pos} (hN:X.N[i]?=some x:=by rfl) (hv:jJ X.env.scope x:=by first|exact Or.inl rfl|exact Or.inr (Or.inl rfl)|exact Or.inr (Or.inr rfl)) (hd:(x==("__debug__":Str))=false:=by decide)
   (hcd:(x==("__classdict__":Str))=false:=by decide):PE X (.Name x pos) (oF i):=xM hN hv hd hcd
end
theorem gA {A B:Prop} (h:B):if false=true then A else B:=by rw[BE BO];exact h
theorem ii {A B:Prop} (h:A):if true=true then A else B:=by rw[BJ rfl];exact h
theorem dY {c A B:Prop} [Decidable c] (h1:c->A) (h2:¬ c->B):if c then A else B:=by
 by_cases h:c
 . rw[BJ h];exact h1 h
 . rw[BE h];exact h2 h
def a0 (H H':Hp):Prop:=∀b o,H b=some o->H' b=some o
theorem a0.refl (H:Hp):a0 H H:=λ_ _ h=>h
theorem a0.trans {H H1 H2:Hp} (a:a0 H H1) (b:a0 H1 H2):a0 H H2:=λc o h=>b c o (a c o h)
theorem a0.free {H H':Hp} (e:a0 H H') {l:Addr} (h:H' l=Option.none):H l=Option.none:=by
 cases q:H l with
 | none=>rfl
 | some o =>
   rw[e l o q] at h;cases h
theorem a0.seq {K:W.Frag} {H H':Hp} {a:Addr} {xs:List V} (e:a0 H H') (h:aA K H a xs):aA K H' a xs:=by
 rcases h with(h|⟨o,h⟩)|h
 . exact .inl (.inl (e _ _ h))
 . exact .inl (.inr ⟨o,e _ _ h⟩)
 . exact .inr h
end L2
set_option maxHeartbeats 4000000
namespace L2
open PySem PySem.Spec PyProof.Rows
def cR:List (Str×NameKind)->List (Str×Addr)->List (Str×Addr)->List (Str×Addr)
 | [],_,acc=>acc
 | (n,k) :: r,cells,acc=>if k==.free then cR r cells ((n,(cells.lookup n).getD 0) :: acc) else cR r cells acc
theorem oS {env:Env}:∀(names:List (Str×NameKind)) (acc:List (Str×Addr)),(∀y∈names,y.2=.free->∃c,env.cells.lookup y.1=some c) ->
   (forIn names acc λx r=>(match x with|(name,kind)=>if(kind==NameKind.free)=true then do let a <- cellOf env name; pure (ForInStep.yield ((name,a) :: r)) else pure (ForInStep.yield r):Sem (ForInStep (List (Str×Addr)))))=(pure (cR names env.cells acc):Sem (List (Str×Addr)))
 | [],acc,_=>rfl
 | (n,k) :: r,acc,h=>by
   have ih:=λacc=>oS (env:=env) r acc λy hy=>h y (BS _ hy);rw[List.forIn_cons];unfold cR;cases hk:(k==NameKind.free) with
   | true =>
     obtain⟨c,hc⟩:=h (n,k) BU (by simpa using hk);have hc:env.cells.lookup n=some c:=hc;have e:cellOf env n=pure c:=by unfold cellOf; rw[hc]
     simp only[hk,if_true,e,pure_bind,hc,Option.getD_some];exact ih _
   | false =>
     simp only[hk,Bt,if_false,pure_bind];exact ih _
variable {scope:Scope}
theorem tf {env:Env} (h:∀y∈scope.names,y.2=.free->∃c,env.cells.lookup y.1=some c):closureFor scope env=pure (cR scope.names env.cells []):=by
 have e:=oS (env:=env) scope.names [] h;unfold closureFor
 first
   | (rw[e]; rfl)
   | (simp only[e]; rfl)
   | exact(Bv (λt=>t >>= λr=>pure r) e)
theorem kA {cells:List (Str×Addr)}:∀(names:List (Str×NameKind)) (acc:List (Str×Addr)),(∀y∈names,y.2=.free->∃c,cells.lookup y.1=some c)->(∀x c,acc.lookup x=some c->cells.lookup x=some c) ->
   ∀x c,(cR names cells acc).lookup x=some c->cells.lookup x=some c
 | [],acc,_,h2=>h2
 | (n,k) :: r,acc,h,h2=>by
   unfold cR;cases hk:(k==NameKind.free) with
   | true =>
     rw[BJ rfl];refine kA r _ (λy hy=>h y (BS _ hy)) λx c e=>?_;obtain⟨c',hc⟩:=h (n,k) BU (by simpa using hk);have hc:cells.lookup n=some c':=hc;rw[CS] at e;cases hx:x==n with
     | true =>
       have hx':x=n:=by simpa using hx
       rw[hx] at e;rw[hx',hc];simpa [hc] using e
     | false =>
       rw[hx] at e;exact h2 x c e
   | false =>
     rw[BE (by simp)];exact kA r _ (λy hy=>h y (BS _ hy)) h2
theorem kF {cells:List (Str×Addr)} {x:Str}:∀(names:List (Str×NameKind)) (acc:List (Str×Addr)),(acc.lookup x).isSome=true->((cR names cells acc).lookup x).isSome=true
 | [],_,h=>h
 | (n,k) :: r,acc,h=>by
   unfold cR;split
   . refine kF r _ ?_;rw[CS];cases x==n <;> simp [h]
   . exact kF r _ h
theorem jZ {cells:List (Str×Addr)} {x:Str}:∀(names:List (Str×NameKind)) (acc:List (Str×Addr)),(x,NameKind.free)∈names->((cR names cells acc).lookup x).isSome=true
 | (n,k) :: r,acc,h=>by
   unfold cR;rcases Be.mp h with e|e
   . cases e;rw[BJ (by rfl)];exact kF r _ (by rw[CS]; simp)
   . split
     . exact jZ r _ e
     . exact jZ r _ e
def c9 (X:Cx) (N':List Str) (scope:Scope) (C:Addr) (s:Shared) (H:Hp) (fp:List Addr):Cx :=
 { X with N:=N',s₀:=s,H₀:=H,env:=compEnvC scope (cR scope.names X.env.cells []) C X.env,outer:=X.stack,stack:=X.stack,ex:=fp,fn:=λ_=>false,pn:=[],xe:=λ_ _=>False }
def cap (js:List (Option Nat)) (σ:St):St:=js.map λo=>o.bind λj=>(σ[j]?).join
def gw (scope osc:Scope) (N' N:List Str) (js:List (Option Nat)):Bool :=
 (scope.kind==.function)&&(scope.names.all λy=>y.2 != .cell&&(if y.2==.local then scope.names.lookup y.1==some .local else true) &&
   (if y.2==.free then osc.names.lookup y.1==some .cell || osc.names.lookup y.1==some .free else true)) &&
 js.length==N'.length&&((js.zip N').all λq=>match q.1 with
   | none=>true
   | some j=>N[j]?==some q.2&&(osc.names.lookup q.2==some .cell || osc.names.lookup q.2==some .free)&&scope.names.lookup q.2==some .free)
structure CompOk (scope osc:Scope) (N' N:List Str) (js:List (Option Nat)):Prop where
 kind:scope.kind=.function
 nocell:∀y∈scope.names,y.2≠.cell
 names:∀y∈scope.names,y.2=.local->scope.names.lookup y.1=some .local
 free:∀y∈scope.names,y.2=.free->osc.names.lookup y.1=some .cell\/osc.names.lookup y.1=some .free
 len:js.length=N'.length
 slots:∀(i j:Nat) (x:Str),js[i]?=some (some j)->N'[i]?=some x->N[j]?=some x/\(osc.names.lookup x=some .cell\/osc.names.lookup x=some .free)/\scope.names.lookup x=some .free
variable {N':List Str}
theorem xz {osc:Scope}{N:List Str}{js:List (Option Nat)} (h:gw scope osc N' N js=true):CompOk scope osc N' N js:=by
 unfold gw at h;rw[Bn,Bn,Bn,By,By] at h;obtain⟨⟨⟨h1,h2⟩,h3⟩,h4⟩:=h;refine⟨by cases hk:scope.kind <;> first|rfl|(rw[hk] at h1; cases h1),λy hy e=>?_,λy hy e=>?_,λy hy e=>?_,by simpa using h3,λi j x e1 e2=>?_⟩
 . have q:=h2 y hy;rw[e] at q;simp at q
 . have q:=h2 y hy;rw[Bn,Bn] at q;have q2:=q.1.2;rw[e] at q2;simpa using q2
 . have q:=h2 y hy;rw[Bn,Bn] at q;have q2:=q.2;rw[e] at q2;simpa using q2
 . have hm:(some j,x)∈js.zip N':=by refine BQ (i:=i) ?_;rw[E7];exact⟨e1,e2⟩
   have q:=h4 _ hm;simp only[Bn,Cp,E8] at q;exact⟨q.1.1,q.1.2,q.2⟩
theorem mo {env:Env}:∀(names:List (Str×NameKind)) (x:Str),names.lookup x=some .free ->
   ((names.map λ(n,k)=>if(k==NameKind.free&&env.scope.kind==.function&&env.kindOf n==some .cell) then(n,NameKind.cell) else(n,k)).lookup x=some .cell \/
     (names.map λ(n,k)=>if(k==NameKind.free&&env.scope.kind==.function&&env.kindOf n==some .cell) then(n,NameKind.cell) else(n,k)).lookup x=some .free)
 | [],x,h=>by simp at h
 | (n,k) :: r,x,h=>by
   have ih:=mo (env:=env) r x;rw[Bx];rw[CS] at h;by_cases hb:(k==NameKind.free&&env.scope.kind==.function&&env.kindOf n==some .cell)=true
   . have e1:(if(k==NameKind.free&&env.scope.kind==.function&&env.kindOf n==some .cell)=true then(n,NameKind.cell) else(n,k))=(n,NameKind.cell):=BJ hb;simp only[e1,CS];cases hx:x==n with
     | true=>exact .inl rfl
     | false =>
       rw[hx] at h;exact ih h
   . have e1:(if(k==NameKind.free&&env.scope.kind==.function&&env.kindOf n==some .cell)=true then(n,NameKind.cell) else(n,k))=(n,k):=BE hb;simp only[e1,CS];cases hx:x==n with
     | true =>
       rw[hx] at h;exact .inr h
     | false =>
       rw[hx] at h;exact ih h
theorem nG {scope:Scope} {env:Env}:∀(names:List (Str×NameKind)) (x:Str),(∀y∈names,y.2≠.cell) ->
   ((names.map λ(n,k)=>if(k==NameKind.free&&env.scope.kind==.function&&env.kindOf n==some .cell) then(n,NameKind.cell) else(n,k)).lookup x=some .cell \/
     (names.map λ(n,k)=>if(k==NameKind.free&&env.scope.kind==.function&&env.kindOf n==some .cell) then(n,NameKind.cell) else(n,k)).lookup x=some .free)->(x,NameKind.free)∈names
 | [],x,_,h=>by simp at h
 | (n,k) :: r,x,hc,h=>by
   have ih:=nG (scope:=scope) (env:=env) r x λy hy=>hc y (BS _ hy);rw[Bx] at h;by_cases hb:(k==NameKind.free&&env.scope.kind==.function&&env.kindOf n==some .cell)=true
   . have hkf:k=.free:=by rw[Bn,Bn] at hb;simpa using hb.1.1
     have e1:(if(k==NameKind.free&&env.scope.kind==.function&&env.kindOf n==some .cell)=true then(n,NameKind.cell) else(n,k))=(n,NameKind.cell):=BJ hb;simp only[e1,CS] at h;cases hx:x==n with
     | true =>
       have hx':x=n:=by simpa using hx
       rw[hx',hkf];exact BU
     | false =>
       rw[hx] at h;exact BS _ (ih h)
   . have e1:(if(k==NameKind.free&&env.scope.kind==.function&&env.kindOf n==some .cell)=true then(n,NameKind.cell) else(n,k))=(n,k):=BE hb;simp only[e1,CS] at h;cases hx:x==n with
     | true =>
       have hx':x=n:=by simpa using hx
       rw[hx] at h;rcases h with h|h
       . exact absurd (Option.some.inj h) (hc (n,k) BU)
       . have hkf:k=.free:=Option.some.inj h;rw[hx',hkf];exact BU
     | false =>
       rw[hx] at h;exact BS _ (ih h)
variable {H:Hp}
theorem Un.sameBut {fs ex:List Addr} {H':Hp}{h h1 h2:Heap} {C:Addr} (u:Un fs ex H H' h h1) (hs:Heap.SameBut C h1 h2) (hC:h.objs.size<=C):Un fs ex H H' h h2:=by
 have ne:∀b o,h.get? b=some o->b≠C:=λb o e=>Bu (Bj (BZ e) hC);refine⟨λb o e n hb hx=>(hs.2 b (ne b o e)).trans (u.keep b o e n hb hx),λb o e n hb hx=>?_,u.free,λb o e hx=>?_,u.tups,u.frzs,u.tbls⟩
 . obtain⟨sl,q⟩:=u.slot b o e n hb hx;exact⟨sl,(hs.2 b (ne b o e)).trans q⟩
 . obtain⟨o',q⟩:=u.there b o e hx;exact⟨o',(hs.2 b (ne b o e)).trans q⟩
theorem gY {α:Type} {t:Sem α} {Q Q':α->Shared->Prop} {M:Model} {A:Around} {E:Value->Shared->Prop} {s:Shared} (h:wpAny M A t Q (λ_ _=>False) s) (hQ:∀a s,Q a s->Q' a s):wpAny M A t Q' E s:=DM h hQ λ_ _ f=>f.elim
variable {elt target iter:Expr} {ifs:List Expr} {pos:Pos}
theorem wU {prog:Program} {w:World} {A:Around} {R:Result->Shared->Prop} {s:Shared} {it acc:Value} {env:Env} (I:Nat->Shared->Prop)
   (turn:∀n s,I n s->wpAny (model prog w) A (pyNext it) (λr s₁=>match r with
     | none=>R (.ok .next) s₁
     | some v=>wpAny (model prog w) A (letOwnedTupleGo target it v) (λ_ s₂=>wpAny (model prog w) A (assign target env v) (λ_ s₃ =>
         wpAny (model prog w) A (forIn ifs true λc r=>if r=true then do let ok <- isTrue c env (eval c env); pure (ForInStep.yield ok) else pure (ForInStep.yield r)) (λok s₄ =>
           if ok=true then wpAny (model prog w) A (eval elt env) (λx s₅ =>
             wpAny (model prog w) A (call (.builtin "list.append") [acc,x]) (λ_ s₆=>∃m,m<n/\I m s₆) (λ_ _=>False) s₅) (λ_ _=>False) s₄
           else ∃m,m<n/\I m s₄) (λ_ _=>False) s₃) (λ_ _=>False) s₂) (λ_ _=>False) s₁) (λ_ _=>False) s)
   (n:Nat) (h:I n s):codeAny (model prog w) A (.compLoop (.ListComp elt [⟨target,iter,ifs,0⟩] scope pos) 0 it acc env) R s:=by
 refine codeAny_loop rfl I (λn s hI=>?_) n h;show wpAny _ A ((compTurn (.ListComp elt [⟨target,iter,ifs,0⟩] scope pos) 0 it acc env).onRaise (λx=>do noteFrame x env; theTreesLotGoes x)) _ _ s;refine wpAny_noted ?_;rw[compTurn_list];refine BB (D' (BB (gY (turn n s hI) λr s₁ h₁=>?_)));cases r with
 | none=>exact BF h₁
 | some v =>
   refine BB (gY h₁ λ_ s₂ h₂=>BB (gY h₂ λ_ s₃ h₃=>BB (gY h₃ λok s₄ h₄=>?_)));cases ok with
   | false=>exact BF ⟨rfl,h₄⟩
   | true =>
     exact BB (BB (gY h₄ λx s₅ h₅=>BB (gY h₅ λ_ s₆ h₆=>BF (BF ⟨rfl,h₆⟩))))
def hJ (X:Cx) (ifs:List Expr) (t:TT):Prop :=
 ∀(pins:List (Addr×Obj)) (s:Shared) (σ:St) (H:Hp) (Q:Bool->Hp->Prop),Inv X pins σ H s->t σ H Q ->
   wpAny (model X.prog X.w) X.A (forIn ifs true λc r=>if r=true then do let ok <- isTrue c X.env (eval c X.env); pure (ForInStep.yield ok) else pure (ForInStep.yield r)) (TP X pins σ Q) X.xe s
def uZ:TT:=λ_ H Q=>Q true H
variable {X:Cx}
theorem da :hJ X [] uZ:=λ_ _ _ H _ I h=>wpAny_tests_nil ⟨H,I,h⟩
theorem lI {c:Expr} {t:TT} (h:PT X c t):hJ X [c] t:=λpins s σ H Q I hq=>wpAny_tests_one (h pins s σ H Q I hq)
def j5 (js:List (Option Nat)) (g:TG):Prop:=∀(x:V) (σ:St) (H:Hp) (Q:St->Hp->Prop),σ.length=js.length->g x σ H Q->g x σ H λσ' H'=>Q σ' H'/\σ'.length=js.length/\∀(i j:Nat),js[i]?=some (some j)->σ'[i]?=σ[i]?
theorem cZ {js:List (Option Nat)} {i:Nat} (h:js[i]?=some none:=by rfl):j5 js (gI i):=λx σ H Q hl q=>⟨q,by rw[ES]; exact hl,λk j e=>by rw[C'];intro z;subst z;rw[h] at e;cases e⟩
def ip (J:It) (g:TG) (tif:TT) (te:TE) (js:List (Option Nat)) (σ:St) (Q:VK) (p:Addr) (H1:Hp):Prop :=
 ∃W:Nat->Nat->List V->Hp->Prop,(∃m,W 0 m [] (upd H1 p (.lst [])))/\∀i m acc H2,W i m acc H2->H2 p=some (.lst acc) /\
   ((J.stop i H2/\Q (.ref p) H2)\/(J.go i H2/\acc.length<sizeLine/\∃N:List V->Hp->Prop,(∀acc' H',N acc' H'->∃m',m'<m/\W (i+1) m' acc' H') /\
     ∀x H',J.yld i H2 x H'->g x (cap js σ) H' λσ2 H3=>tif σ2 H3 λc H4 =>
       if c=true then te σ2 H4 λy H5=>H5 p=some (.lst acc)/\N (acc++[y]) (upd H5 p (.lst (acc++[y]))) else N acc H4))
def kG (wi:TI) (g:TG) (tif:TT) (te:TE) (js:List (Option Nat)):TE:=λσ H Q=>wi σ H λJ H1=>∀p,H1 p=none->ip J g tif te js σ Q p H1
variable {wi:TI} {tif:TT} {te:TE}
theorem nA {use:Option (Value->Sem Unit)} {Q':Value->Shared->Prop} {Q:VK} {pins:List (Addr×Obj)} {s:Shared} {σ:St} {g:TG} {js:List (Option Nat)} (hok:gw scope X.env.scope N' X.N js=true) (hc:X.calm=true)
   (hi:PI X target iter wi) (ho:j5 js g) (hg:∀C s H fp,PG (c9 X N' scope C s H fp) target g) (hif:∀C s H fp,hJ (c9 X N' scope C s H fp) ifs tif) (he:∀C s H fp,PE (c9 X N' scope C s H fp) elt te)
   (hs:∀x,foldedSetIterable iter X.env x=pure x) (I:Inv X pins σ H s) (h:kG wi g tif te js σ H Q)
   (hfin:∀(s2:Shared) (H2:Hp) (fp:List Addr) (C:Addr),Inv X pins σ H2 s2->(∀b∈fp,dM X pins H2 b)->s2.heap.objs.size<=C->∀(σ':St) (H':Hp) (s':Shared),Inv (c9 X N' scope C s2 H2 fp) [] σ' H' s'->Q (.ref s2.heap.objs.size) H' ->
     compPost (model X.prog X.w) X.A X.xe use Q' (.ref s2.heap.objs.size) C (.ok .next) s') :
   wpAny (model X.prog X.w) X.A (comprehension (.ListComp elt [⟨target,iter,ifs,0⟩] scope pos) scope X.env (firstIterPos [⟨target,iter,ifs,0⟩] pos) (newList []) false (eval iter X.env) use) Q' X.xe s:=by
 have O:=xz hok;have hfr:∀y∈scope.names,y.2=.free->∃c,X.env.cells.lookup y.1=some c:=λy hy e=>I.ok.has y.1 (O.free y hy e);refine wpAny_comprehension_free (use:=use) rfl hs (tf hfr) O.kind O.names (aF (hi pins s σ H _ I h) λv s1 h1=>aF h1 λitv s2 h2=>?_);obtain⟨it,fp,tn,J,H2,e,I2,T,st2,f2,hq⟩:=h2;subst e;have hf0:H2 s2.heap.objs.size=none:=I2.hok.fresh (BG _);obtain⟨W,⟨m0,w0⟩,turn⟩:=hq _ hf0;refine CW (wpAny_newFunctionEnv O.nocell (by intro y hy; simp at hy) (λh₁ hns₁ hsb₁=>?_) O.kind);dsimp only at hns₁ hsb₁ ⊢;generalize hH2:s2.heap.push { cls:=.type "list",dict:=none,data:=.seq ([]:List Value).toArray }=B at hns₁ hsb₁ ⊢;have hC:B.objs.size=s2.heap.objs.size+1:=by rw[<- hH2,DN]
 have hCle:s2.heap.objs.size<=B.objs.size:=by rw[hC]; exact Cr _
 have old:∀b o,s2.heap.get? b=some o->h₁.get? b=some o:=λb o e=>hsb₁.extBut b o (by rw[hC]; exact Bu (DS (BZ e))) (BM _ (hH2 ▸ BM _ e));have hDC:s2.heap.objs.size≠B.objs.size:=by rw[hC]; exact Bu (CA _)
 have hacc:h₁.get? s2.heap.objs.size=some { cls:=.type "list",dict:=none,data:=.seq ([]:List Value).toArray }:=hsb₁.extBut _ _ hDC (BM _ (hH2 ▸ Bh _ rfl));have fpO:∀b∈fp,b<s2.heap.objs.size:=λb hb=>by obtain⟨o,e,_⟩:=T.obj 0 _ st2 b hb;exact BZ e
 have sub:∀x c,(cR scope.names X.env.cells []).lookup x=some c->X.env.cells.lookup x=some c:=kA scope.names [] hfr (λx c e=>by cases e);have hasC:∀x,((relabel scope X.env).names.lookup x=some .cell\/(relabel scope X.env).names.lookup x=some .free)->∃c,(cR scope.names X.env.cells []).lookup x=some c:=λx hx =>
   DF.mp (jZ scope.names [] (nG (scope:=scope) (env:=X.env) scope.names x O.nocell hx))
 -- the block's context at its begin
 have IY:∀t,Inv (c9 X N' scope B.objs.size s2 H2 fp) [] (cap js σ) (upd H2 s2.heap.objs.size (.lst [])) { s2 with heap:=h₁,toks:=t }:=by
   intro t;refine⟨⟨I2.ok.mod,O.kind,I2.ok.glob,I2.ok.blt,hCle,λx y c h1 h2=>I2.ok.inj x y c (sub x c h1) (sub y c h2),λx hx=>hasC x hx,λx c h=>(by cases h),I2.ok.hd,I2.ok.frames,.inl rfl,λb hb=>⟨Bu (Bj (fpO b hb) hCle),λx c e=>(f2 b hb).2.2.2.2.1 x c (sub x c e)⟩,
     I2.bs,Bk I2.ok.bsz I2.sz,λb o e hb=>?_,λb hb z=>?_,I2.stack,I2.stkFree⟩,rfl,I2.bare,Un.laid old (BG _) hf0,⟨_,hns₁,λi x v e1 e2 e3=>?_⟩,λx c e=>?_,?_,λx c e=>?_,λp hp=>absurd (show p∈([]:List (Addr×Obj)) from hp) (by simp),?_,?_⟩
   . rcases (f2 b hb).2.2.2.1 with z|z
     . exact I2.ok.noex b o e z
     . exact absurd (Bj (Bj (BZ e) I2.ok.bsz) z) (C6 _)
   . rcases Be.mp (I2.stkSub b z) with q|q
     . exact(f2 b hb).2.1 q
     . exact(f2 b hb).2.2.1 q
   . have e1:N'[i]?=some x:=e1;unfold cap at e2;rw[BI] at e2;cases q:js[i]? with
     | none=>rw[q] at e2; cases e2
     | some o =>
       rw[q] at e2;cases o with
       | none=>cases e2
       | some j =>
         have e2:(σ[j]?).join=some v:=by simpa using e2
         have e2':σ[j]?=some (some v):=by
           cases z:σ[j]? with
           | none=>rw[z] at e2; cases e2
           | some a=>rw[z] at e2; cases a with
             | none=>cases e2
             | some a=>cases e2; rfl
         obtain⟨hN,hk,hsf⟩:=O.slots i j x q e1;obtain⟨m,hn,hl⟩:=I2.loc;obtain⟨u,r,l⟩:=hl j x v hN e2' (.inr hk);refine⟨u,r,?_⟩;have hkX:X.env.kindOf x=some .cell\/X.env.kindOf x=some .free:=hk;rcases l with⟨k,_⟩|⟨k,c,hc',hcell⟩
         . rcases hkX with z|z
           . rw[k] at z; cases z
           . rw[k] at z; cases z
         . have hky:(relabel scope X.env).names.lookup x=some .cell\/(relabel scope X.env).names.lookup x=some .free:=mo (env:=X.env) scope.names x hsf;obtain⟨c2,hc2⟩:=hasC x hky;have:c2=c:=by have:=sub x c2 hc2;rw[hc'] at this;exact(Option.some.inj this).symm
           subst this;obtain⟨ob,ho,hd⟩:=hcell;exact .inr ⟨hky,c2,hc2,ob,old _ _ ho,hd⟩
   . obtain⟨v,ob,ho,hd⟩:=I2.cell x c (sub x c e);exact⟨v,ob,old _ _ ho,hd⟩
   . show upd H2 s2.heap.objs.size (.lst []) B.objs.size=none;rw[aH (Ne.symm hDC)];exact I2.hok.fresh hCle
   . obtain⟨v,ob,ho,hd⟩:=I2.cell x c (sub x c e);rw[aH (Bu (BZ ho))];exact I2.freeC x c (sub x c e)
   . exact I2.hok.laid old (BG _) ⟨BW _,[],0,.nil,hacc⟩
   . unfold cap;rw[BA];exact O.len
 have hcl:(cap js σ).length=js.length:=by unfold cap; rw[BA]
 have fin:∀{σ':St} {H':Hp} {s':Shared},Inv (c9 X N' scope B.objs.size s2 H2 fp) [] σ' H' s'->Q (.ref s2.heap.objs.size) H'->compPost (model X.prog X.w) X.A X.xe use Q' (.ref s2.heap.objs.size) B.objs.size (.ok .next) s' :=
   λ{σ' H' s'} J q=>hfin s2 H2 fp B.objs.size I2 f2 hCle σ' H' s' J q
 have loop:∀t,codeAny (model X.prog X.w) X.A (.compLoop (.ListComp elt [⟨target,iter,ifs,0⟩] scope pos) 0 (.ref it) (.ref s2.heap.objs.size) (compEnvC scope (cR scope.names X.env.cells []) B.objs.size X.env))
     (compPost (model X.prog X.w) X.A X.xe use Q' (.ref s2.heap.objs.size) B.objs.size) { s2 with heap:=h₁,toks:=t }:=by
   intro t;have stat:∀{H':Hp},(∀b∈fp,H' b=none)->∀b∈fp,dM (c9 X N' scope B.objs.size s2 H2 fp) [] H' b:=λhn b hb =>
     ⟨hn b hb,Bu (Bj (fpO b hb) hCle),(IY t).ok.exfs b hb,.inl hb,λx c e=>((IY t).ok.exf b hb).2 x c e,λp hp=>absurd (show p∈([]:List (Addr×Obj)) from hp) (by simp)⟩
   refine wU (λn s'=>∃i acc H',Inv (c9 X N' scope B.objs.size s2 H2 fp) [] (cap js σ) H' s'/\tn i s'.heap/\(∀b∈fp,H' b=none)/\W i n acc H') ?_ m0
     ⟨0,[],_,IY t,T.keep 0 _ _ st2 (λb _ o e=>old b o e),λb hb=>by rw[aH (Bu (fpO b hb))]; exact(f2 b hb).1,w0⟩
   rintro n s3 ⟨i,acc,H3,I3,st3,fr3,w3⟩;obtain⟨hD,turn⟩:=turn i n acc H3 w3;rcases turn with⟨stop,qn⟩|⟨go,hlen,N,hN,step⟩
   . refine aF (T.done (c9 X N' scope B.objs.size s2 H2 fp) rfl rfl rfl hc i [] s3 (cap js σ) H3 (λ_ _=>False) I3 (stat fr3) st3 stop) λr s4 ⟨hr,I4⟩=>?_;subst hr;exact fin I4 qn
   . refine aF (T.item (c9 X N' scope B.objs.size s2 H2 fp) rfl rfl rfl hc i [] s3 (cap js σ) H3 (λ_ _=>False) I3 (stat fr3) st3 go) λr s4 ⟨u,hr,h4⟩=>?_;subst hr;refine aF h4 λ_ s5 ⟨x,H5,I5,r5,y5,st5,fr5⟩=>?_;have I5':=I5.pinned (stat fr5) (T.obj _ _ st5);refine aF (hg _ _ _ _ _ s5 (cap js σ) H5 x u _ I5' r5 (ho x (cap js σ) H5 _ hcl (step x H5 y5))) λ_ s6 ⟨σ6,H6,I6,q6,hl6,hk6⟩=>?_;refine aF (hif _ _ _ _ _ s6 σ6 H6 _ I6 q6) λok s7 ⟨H7,I7,q7⟩=>?_;have again:∀{H8:Hp} {acc8:List V} {s8:Shared},Inv (c9 X N' scope B.objs.size s2 H2 fp) ([]++iG fp s5.heap) σ6 H8 s8->N acc8 H8 ->
         ∃m,m<n/\∃i acc H',Inv (c9 X N' scope B.objs.size s2 H2 fp) [] (cap js σ) H' s8/\tn i s8.heap/\(∀b∈fp,H' b=none)/\W i m acc H':=by
       intro H8 acc8 s8 I8 n8;obtain⟨m',hm,w8⟩:=hN acc8 H8 n8;refine⟨m',hm,i+1,acc8,H8,?_,T.keep _ _ _ st5 λb hb o e=>(I8.pin (b,o) (Br _ (Br _ (ig hb e)))).1,λb hb=>?_,w8⟩
       . refine Inv.weak I8.unpinned (by rw[hl6,hcl]) λk v e=>?_;have e':=e;unfold cap at e;rw[BI] at e;cases q:js[k]? with
         | none=>rw[q] at e; cases e
         | some o =>
           cases o with
           | none=>rw[q] at e; cases e
           | some j=>rw[hk6 k j q]; exact e'
       . obtain⟨o,e,d⟩:=T.obj _ _ st5 b hb;exact(I8.pin (b,o) (Br _ (Br _ (ig hb e)))).2.1
     cases ok with
     | false=>exact again I7 q7
     | true =>
       refine aF (he _ _ _ _ _ s7 σ6 H7 _ I7 q7) λy s8 ⟨yv,H8,I8,r8,hD8,q8⟩=>?_;refine aF (bi _ s8 σ6 H8 (.ref s2.heap.objs.size) [yv] (.ref s2.heap.objs.size) [y] (λ_ H9=>N (acc++[yv]) H9) I8 rfl (.cons r8 .nil) ⟨_,acc,yv,rfl,rfl,hD8,hlen,q8⟩) λ_ s9 ⟨_,H9,I9,_,q9⟩=>?_;exact again I9 q9
 exact codeAny_compStart_list (loop _) (T.self X.A 0 _ _ _ (T.keep 0 _ _ st2 (λb _ o e=>old b o e)) (loop _))
theorem dL {g:TG} {js:List (Option Nat)} (hok:gw scope X.env.scope N' X.N js=true) (hc:X.calm=true)
   (hi:PI X target iter wi) (ho:j5 js g) (hg:∀C s H fp,PG (c9 X N' scope C s H fp) target g) (hif:∀C s H fp,hJ (c9 X N' scope C s H fp) ifs tif) (he:∀C s H fp,PE (c9 X N' scope C s H fp) elt te)
   (hs:∀x,foldedSetIterable iter X.env x=pure x:=by intro _; rfl):PE X (.ListComp elt [⟨target,iter,ifs,0⟩] scope pos) (kG wi g tif te js):=by
 intro pins s σ H Q I h;rw[eval_ListComp];refine nA (use:=none) hok hc hi ho hg hif he hs I h λs2 H2 fp C I2 f2 hCle σ' H' s' J q=>?_;obtain⟨m,hn,_⟩:=J.loc;refine⟨m,hn,λh' hs'=>⟨.ref s2.heap.objs.size,H',?_,rfl,q⟩⟩;refine I2.call' (s':={ s' with heap:=h' }) (ch:=fp) J.os (J.base.sameBut hs' hCle) (λb ob e=>?_) J.bare λb hb=>⟨(f2 b hb).2.2.2.1,(f2 b hb).2.1,(f2 b hb).2.2.2.2.1,(f2 b hb).2.2.2.2.2⟩
 refine(J.hok b ob e).stay (λc w' hc q=>(hs'.2 c ?_).trans q) (λ_ q=>q) λ_ _ q=>q;have hfree:H' C=none:=J.free;intro hcC;rw[hcC] at hc;rcases hc with z|z
 . rw[<- z,hfree] at e; cases e
 . rw[hfree] at z; cases z
theorem pq {i:Nat} {y:Str} {py spos:Pos}{g:TG} {js:List (Option Nat)} (hN:X.N.Nodup) (hi':X.N[i]?=some y) (hx:gZ X.env.scope y)
   (hok:gw scope X.env.scope N' X.N js=true) (hc:X.calm=true)
   (hi:PI X target iter wi) (ho:j5 js g) (hg:∀C s H fp,PG (c9 X N' scope C s H fp) target g) (hif:∀C s H fp,hJ (c9 X N' scope C s H fp) ifs tif) (he:∀C s H fp,PE (c9 X N' scope C s H fp) elt te)
   (hsw:swapsWith (.ListComp elt [⟨target,iter,ifs,0⟩] scope pos) (some (.Name y py)) spos.line X.env=pure true)
   (hs:∀x,foldedSetIterable iter X.env x=pure x:=by intro _; rfl) (hf:X.fn y=true\/X.env.scope.names.lookup y=some .local:=by first|exact .inl rfl|exact .inr rfl|assumption) :
   PS X (.Assign [.Name y py] (.ListComp elt [⟨target,iter,ifs,0⟩] scope pos) spos) (ji (kG wi g tif te js) (gI i)):=by
 intro pins s σ H D I h;rw[exec_Assign_Name_used _ _ _ _ hsw];refine BB (D' (BB ?_));show wpAny _ X.A (do let _ <- comprehension (.ListComp elt [⟨target,iter,ifs,0⟩] scope pos) scope X.env _ (newList []) false (eval iter X.env) (some (assign (.Name y py) X.env))) _ _ s;refine BB (aF (nA (use:=some (assign (.Name y py) X.env)) (Q':=λ_ s'=>SP X pins D .next s') hok hc hi ho hg hif he hs I h λs2 H2 fp C I2 f2 hCle σ' H' s' J q=>?_) λ_ s' q=>?_)
 . obtain⟨m,hn,_⟩:=J.loc;have I3:Inv X pins σ H' s':=I2.call' (ch:=fp) J.os J.base J.hok J.bare λb hb=>⟨(f2 b hb).2.2.2.1,(f2 b hb).2.1,(f2 b hb).2.2.2.2.1,(f2 b hb).2.2.2.2.2⟩
   have hCL:C≠X.env.locals:=λz=>absurd (Bj I2.lt hCle) (by rw[z]; exact C6 _);have hCc:∀x c,X.env.cells.lookup x=some c->c≠C:=λx c e z=>by obtain⟨v,ob,ho,_⟩:=I2.cell x c e;exact absurd (Bj (BZ ho) hCle) (by rw[z]; exact C6 _)
   have hCp:∀p∈X.pn++pins,p.1≠C:=λp hp z=>by have e:=(I2.pin p hp).1;exact absurd (Bj (BZ e) hCle) (by rw[z]; exact C6 _)
   show wpAny _ X.A (assign (.Name y py) X.env (.ref s2.heap.objs.size)) _ _ s';refine wpAny_assign_Name (pH I3 hN hi' hx (v:=.ref s2.heap.objs.size) rfl (λs'' I4 ⟨a,hsb,ha⟩=>?_) hf);have hna:C≠a:=by
     rcases ha with z|z
     . rw[z]; exact hCL
     . exact(hCc _ _ z).symm
   refine⟨m,hn.sameBut hsb hna,λh' hs'=>⟨_,H',?_,q⟩⟩;exact I4.turned (t':=s''.toks) (h':=h') (it:=C) (λb o hb e=>(hs'.2 b hb).trans e) J.free hCL (.inr (Bk I2.sz hCle)) hCc hCp
 . exact BF (BF q)
variable {p:Addr}
section
variable {g:TG} {tif:TT} {te:TE} {js:List (Option Nat)} {σ:St} {H:Hp} {Q:VK}
def kz (g:TG) (tif:TT) (te:TE) (σ:St) (p:Addr) (acc:List V) (N:List V->Hp->Prop) (x:V) (H:Hp):Prop :=
 g x σ H λσ2 H3=>tif σ2 H3 λc H4=>if c=true then te σ2 H4 λy H5=>H5 p=some (.lst acc)/\N (acc++[y]) (upd H5 p (.lst (acc++[y]))) else N acc H4
theorem iH {lo:Int} {n:Nat} (hn:n<=1000000) (Pv:Nat->List V->Hp->Prop) (h0:Pv 0 [] (upd H p (.lst [])))
   (hl:∀i acc H2,i<=n->Pv i acc H2->H2 p=some (.lst acc)/\acc.length<=i)
   (hs:∀i acc H2,i<n->Pv i acc H2->kz g tif te (cap js σ) p acc (Pv (i+1)) (.int (lo+i)) H2) (hd:∀acc H2,Pv n acc H2->Q (.ref p) H2) :
   ip (fB lo n) g tif te js σ Q p H:=by
 refine⟨λi m acc H=>m=n - i/\i<=n/\Pv i acc H,⟨n,by simp,BW _,h0⟩,?_⟩;rintro i m acc H2 ⟨rfl,hi,q⟩;obtain⟨q1,q2⟩:=hl i acc H2 hi q;refine⟨q1,?_⟩;by_cases hlt:i<n
 . refine .inr ⟨hlt,?_,Pv (i+1),λacc' H' p'=>⟨n - (i+1),by omega,rfl,hlt,p'⟩,λx H' y=>?_⟩
   . have:(1000000:Nat)<sizeLine:=by decide
     omega
   . obtain⟨e,y⟩:=y;subst e y;exact hs i acc _ hlt q
 . have e:i=n:=by omega
   subst e;exact .inl ⟨BG _,hd acc H2 q⟩
theorem fe {K:W.Frag} {a:Addr} {xs:List V} (hn:xs.length<=1000000) (Pv:Nat->List V->Hp->Prop) (h0:Pv 0 [] (upd H p (.lst [])))
   (hl:∀i acc H2,i<=xs.length->Pv i acc H2->H2 p=some (.lst acc)/\acc.length<=i/\aA K H2 a xs)
   (hs:∀i x acc H2,xs[i]?=some x->Pv i acc H2->kz g tif te (cap js σ) p acc (Pv (i+1)) x H2) (hd:∀acc H2,Pv xs.length acc H2->Q (.ref p) H2) :
   ip (g9 K a) g tif te js σ Q p H:=by
 refine⟨λi m acc H=>m=xs.length - i/\i<=xs.length/\Pv i acc H,⟨xs.length,by simp,BW _,h0⟩,?_⟩;rintro i m acc H2 ⟨rfl,hi,q⟩;obtain⟨q1,q2,q3⟩:=hl i acc H2 hi q;refine⟨q1,?_⟩;by_cases hlt:i<xs.length
 . refine .inr ⟨⟨xs,xs[i],q3,by simp [hlt]⟩,?_,Pv (i+1),λacc' H' p'=>⟨xs.length - (i+1),by omega,rfl,hlt,p'⟩,λx H' y=>?_⟩
   . have:(1000000:Nat)<sizeLine:=by decide
     omega
   . obtain⟨e,y⟩:=y;subst e;exact hs i x acc _ (y xs q3) q
 . have e:i=xs.length:=by omega
   subst e;exact .inl ⟨⟨xs,q3,BG _⟩,hd acc H2 q⟩
theorem kI {K:W.Frag} {a:Addr} {xs:List V} (hn:xs.length<=1000000) (Pv:Nat->List V->Hp->Prop) (h0:Pv 0 [] (upd H p (.lst [])))
   (hl:∀i acc H2,i<=xs.length->Pv i acc H2->H2 p=some (.lst acc)/\acc.length<=i/\a9 K H2 a xs)
   (hs:∀i x acc H2,xs[i]?=some x->Pv i acc H2->kz g tif te (cap js σ) p acc (Pv (i+1)) x H2) (hd:∀acc H2,Pv xs.length acc H2->Q (.ref p) H2) :
   ip (ft K a) g tif te js σ Q p H:=by
 refine⟨λi m acc H=>m=xs.length - i/\i<=xs.length/\Pv i acc H,⟨xs.length,by simp,BW _,h0⟩,?_⟩;rintro i m acc H2 ⟨rfl,hi,q⟩;obtain⟨q1,q2,q3⟩:=hl i acc H2 hi q;refine⟨q1,?_⟩;by_cases hlt:i<xs.length
 . refine .inr ⟨⟨xs,xs[i],q3,by simp [hlt]⟩,?_,Pv (i+1),λacc' H' p'=>⟨xs.length - (i+1),by omega,rfl,hlt,p'⟩,λx H' y=>?_⟩
   . have:(1000000:Nat)<sizeLine:=by decide
     omega
   . obtain⟨e,y⟩:=y;subst e;exact hs i x acc _ (y xs q3) q
 . have e:i=xs.length:=by omega
   subst e;exact .inl ⟨⟨xs,q3,BG _⟩,hd acc H2 q⟩
end
section
variable {X:Cx}
theorem kQ:bo X (.builtin "isinstance") (λxs H Q=>∃x c t b,xs=[x,.ty c]/\TyOf X.K H x t/\PySem.W.kitOne X.K t (.type c)=some b/\Q (.bl b) H):=by intro pins s σ H xs us Q I r h;obtain⟨x,c,t,b,rfl,ty,hk,q⟩:=h;obtain⟨u,w',rfl,rx,rc⟩:=lO r;cases (show w'=Value.type c from rc);exact pK I rx ty hk λtk=>⟨.bl b,H,I.tok _,rfl,q⟩
theorem uO (bs:List Bool):(List.range bs.length).all (λi=>bs.getD i false)=bs.all id:=by
 rw[C3,By,By];constructor
 . intro h b hb;obtain⟨i,hi,rfl⟩:=List.mem_iff_getElem.mp hb;have:=h i (Ca.mpr hi);simpa [List.getD,hi] using this
 . intro h i hi;have hi':=Ca.mp hi;have:=h bs[i] (Db hi');simpa [List.getD,hi'] using this
theorem ua:X.calm=true->bo X (.builtin "all") (λxs H Q=>∃(p:Addr) (bs:List Bool),xs=[.ref p]/\aA X.K H p (bs.map V.bl)/\Q (.bl (bs.all id)) H):=by
 intro hc pins s σ H xs us Q I r h;obtain⟨p,bs,rfl,hp,q⟩:=h;obtain⟨u,rfl,ru⟩:=dj r;cases (show u=Value.ref p from ru);obtain⟨its,rv,pl,hz⟩:=I.list hp;have hlen:=rv.length;rw[BA] at hlen;have hne:p≠s.heap.objs.size:=Bu pl.lt;refine call_all_walk (Cs pl.isList ?_);have W:=Walks.list (prog:=X.prog) (w:=X.w) (A:=X.A.in1) (I.ok.hd hc) s.heap.objs.size p hne its.toArray;refine⟨s.heap.objs.size,_,_,_,_,_,λi=>bs.getD i false,rfl,W,⟨⟨_,Bh _ rfl,rfl,rfl⟩,pl.isList.push _⟩,?_,λh' tk hk=>?_⟩
 . intro i v s' Q' E' hv hq;have hv':its[i]?=some v:=by simpa using hv
   have hi:i<bs.length:=by rw[hlen]; exact(BC.mp hv').1
   have hb:(bs.map V.bl)[i]?=some (.bl bs[i]):=by simp [hi]
   obtain⟨u',e1,r1⟩:=rv.get hb;rw[hv'] at e1;cases e1;cases (show v=Value.bool bs[i] from r1);have e2:bs.getD i false=bs[i]:=by simp [List.getD,hi]
   have hq:Q' (bs.getD i false) s':=hq;rw[e2] at hq;exact CV hq
 . have e:(List.range its.toArray.size).all (λi=>bs.getD i false)=bs.all id:=by rw[BX,<- hlen];exact uO bs
   rw[e];exact⟨.bl (bs.all id),H,I.kept λb o q=>hk b o (λz=>by
     have z':b=s.heap.objs.size:=by simpa using z
     rw[z'] at q;exact absurd (BZ q) (C6 _)) (BM _ q),rfl,q⟩
end
def gm:Expr->Option V
 | .Constant (.str x) _ _=>some (.str x)
 | .Constant (.int i) _ _=>some (.int i)
 | .Constant (.bool b) _ _=>some (.bl b)
 | .Constant .none _ _=>some .non
 | _=>none
def i7:List Expr->Option (List V)
 | []=>some []
 | e :: r=>match gm e,i7 r with
   | some v,some vs=>some (v :: vs)
   | _,_=>none
theorem yg {e:Expr} {v:V} (h:gm e=some v):PE X e (tC v):=by
 unfold gm at h;split at h
 . cases h; exact af
 . cases h; exact a6
 . cases h; exact bQ
 . cases h; exact gi
 . cases h
theorem yT {e:Expr} {es:List Expr} {v:V} (h:gm e=some v):starEach (e :: es) X.env=(false,eval e X.env) :: starEach es X.env:=by unfold gm at h;split at h <;> first|rfl|cases h
theorem m9 {X:Cx}:∀{es:List Expr} {vs:List V},i7 es=some vs->PA X es (λ_ H Q=>Q vs H)
 | [],vs,h=>by cases h;exact a7
 | e :: r,vs,h=>by
   unfold i7 at h;split at h
   . rename_i v vs' h1 h2
     cases h;exact ae (yg h1) (m9 h2) (yT h1)
   . cases h
theorem a0.tup {K:W.Frag} {H H':Hp} {a:Addr} {xs:List V} (e:a0 H H') (h:a9 K H a xs):a9 K H' a xs:=by
 rcases h with(h|⟨o,h⟩)|h
 . exact .inl (.inl (e _ _ h))
 . exact .inl (.inr ⟨o,e _ _ h⟩)
 . exact .inr h
theorem a0.new {o:HO} (h:H p=none):a0 H (upd H p o):=λb u e=>by rw[aH (bJ e h)];exact e
theorem a0.upd {H':Hp}{o:HO} (e:a0 H H') (h:H p=none):a0 H (upd H' p o):=λb u q=>by rw[aH (bJ q h)];exact e b u q
structure DefOk (K:W.Frag) (mg:Str->Option Value) (name:Str) (st:Stmt) (ps:List Str) (f:Addr) (fd:FuncData):Prop where
 F:Fun K name name st f fd
 g:mg name=some (.ref f)
 b:dI K fd ps []
section
variable {X:Cx} {k:Nat} {f:Addr} {fd:FuncData} {ps:List Str} {sp:Sp} {x:Str} {st:Stmt} {p pos:Pos} {e:Expr} {es:List Expr} {t:TA}
theorem ah (D:DefOk X.K X.mg x st ps f fd) (G:FnOk X.prog X.w X.K X.mg X.base CX0 k f fd ps sp) (hr:Room k X.A) (ha:PA X (e :: es) t) (hg:Gl X x:=by rfl)
   (hdb:(x==("__debug__":Str))=false:=by decide) (he:starEach (e :: es) X.env=(false,eval e X.env) :: starEach es X.env:=by rfl) (hpl:(backTo pos (starEach es X.env)).any (·.1)=false:=by rfl) :
   PE X (.Call (.Name x p) (e :: es) [] pos) (qO sp [] E0 t):=vz G hr hg D.g D.F.kp D.b .nil fw ha hdb he hpl
theorem qM {z:Int} (h:∃t,X.mg x=some (.int z t)) (hg:Gl X x:=by rfl) (hd:(x==("__debug__":Str))=false:=by decide):PE X (.Name x pos) (tC (.int z)):=by obtain⟨t,h⟩:=h;exact nP hg h ⟨t,rfl⟩ hd
theorem p8 {a:Addr} (h:X.mg x=some (.ref a)) (hg:Gl X x:=by rfl) (hd:(x==("__debug__":Str))=false:=by decide):PE X (.Name x pos) (tC (.ref a)):=nP hg h rfl hd
end
theorem u3 {K:W.Frag} {mg:Str->Option Value} {h:Heap} {name:Str} {st:Stmt} {ps:List Str} {f:Addr} {oc:Value} {od an:Option Addr} {osl:Array (Option Value)} {kV doc pm cdv ct:Value} (X:K.In h) (G:h.Ns mainGlobals mg)
   (a:PySem.W.nsIn K mainGlobals name=some (some (.ref f))) (l:K.lookup f=some ⟨oc,od,.func (PySem.W.fnOf name name (c6 st) (bq st) (aW st) .none kV doc pm an cdv ct),osl⟩) (c:PySem.W.codeIn K cdv name=true) (k:PySem.W.keepIn K (.ref f)=true)
   (b:∀(kV doc pm:Value) (an:Option Addr) (cdv ct:Value) (us:List Value),us.length=ps.length->bindArgs (PySem.W.fnOf name name (c6 st) (bq st) (aW st) .none kV doc pm an cdv ct) ⟨us,[]⟩=pure (ps.zip us)) :
   DefOk K mg name st ps f (PySem.W.fnOf name name (c6 st) (bq st) (aW st) .none kV doc pm an cdv ct) :=
 ⟨fi l c k,PySem.W.mg_of X G a,(fi l c k).binds b⟩
theorem eG {α:Type} {xs:List α} {i:Int} (h0:0<=i) (h1:i<xs.length):∃v,aY xs i=some v/\v∈xs:=by
 have hi:i.toNat<xs.length:=by omega
 refine⟨xs[i.toNat],?_,Db hi⟩;have:=bp (xs:=xs) (j:=i.toNat) (v:=xs[i.toNat]) (by simp [hi]);have e:((i.toNat:Nat):Int)=i:=by omega
 rwa [e] at this
theorem xW {ns:List Int} {i:Int} (h0:0<=i) (h1:i<ns.length):∃z,aY (ns.map V.int) i=some (.int z):=by obtain⟨v,e,hv⟩:=eG (xs:=ns.map V.int) h0 (by rw[BA]; exact h1);obtain⟨z,_,rfl⟩:=Ba.mp hv;exact⟨z,e⟩
theorem eQ {p:Prop} [Decidable p] (h:decide p=true):p:=Bo h
theorem aV {c A B:Prop} [Decidable c] (hc:c) (h:A):if c then A else B:=by rw[BJ hc];exact h
theorem aO {c A B:Prop} [Decidable c] (hc:¬ c) (h:B):if c then A else B:=by rw[BE hc];exact h
end L2
namespace L2
open PySem
theorem bC:bootBuiltins "len"=some (.builtin "len"):=by decide +kernel
theorem AN:bootBuiltins "all"=some (.builtin "all"):=by decide +kernel
theorem fJ:bootBuiltins "isinstance"=some (.builtin "isinstance"):=by decide +kernel
theorem tZ:bootBuiltins "max"=some (.builtin "max"):=by decide +kernel
theorem vK:bootBuiltins "str"=some (.type "str"):=by decide +kernel
theorem j4:bootBuiltins "int"=some (.type "int"):=by decide +kernel
theorem uq:bootBuiltins "bool"=some (.type "bool"):=by decide +kernel
theorem gp:bootBuiltins "list"=some (.type "list"):=by decide +kernel
theorem fU:bootBuiltins "tuple"=some (.type "tuple"):=by decide +kernel
theorem yY:bootBuiltins "dict"=some (.type "dict"):=by decide +kernel
theorem vD:bootBuiltins "enumerate"=some (.type "enumerate"):=by decide +kernel
theorem xm {b:Bool} (h:b=false):¬ b=true:=by rw[h]; decide
end L2
namespace L2
open PySem PySem.Spec PyProof.Rows
mutual
def aa (K:W.Frag) (H:Hp):PyData->V->Prop
 | .none,v=>v=.non
 | .bool b,v=>v=.bl b
 | .int i,v=>v=.int i
 | .str x,v=>v=.str x
 | .list ds,v=>∃a xs,v=.ref a/\aA K H a xs/\ao K H ds xs
 | .tuple ds,v=>∃a xs,v=.ref a/\a9 K H a xs/\ao K H ds xs
 | .dict _,_=>False
def ao (K:W.Frag) (H:Hp):List PyData->List V->Prop
 | [],xs=>xs=[]
 | d :: ds,xs=>∃x r,xs=x :: r/\aa K H d x/\ao K H ds r
end
section
variable {X:Cx} {pins:List (Addr×Obj)} {σ:St} {H:Hp} {s:Shared}
mutual
theorem ff (I:Inv X pins σ H s):∀(d:PyData) (v:V) (u:Value),aa X.K H d v->aJ v u->∃as,Reads s.heap u d as
 | .none,v,u,h,r=>by unfold aa at h;subst h;cases (show u=Value.none from r);exact⟨_,.none⟩
 | .bool b,v,u,h,r=>by unfold aa at h;subst h;cases (show u=Value.bool b from r);exact⟨_,.bool b⟩
 | .int i,v,u,h,r=>by
   unfold aa at h;subst h;obtain⟨t,rfl⟩:=(show ∃t,u=Value.int i t from r)
   exact⟨_,.int i t⟩
 | .str x,v,u,h,r=>by
   unfold aa at h;subst h;obtain⟨t,rfl⟩:=(show ∃t,u=Value.str x t from r)
   exact⟨_,.str x t⟩
 | .list ds,v,u,h,r=>by unfold aa at h;obtain⟨a,xs,rfl,hq,hd⟩:=h;cases (show u=Value.ref a from r);obtain⟨its,rv,⟨o,n,ho,hc,_,hdt⟩,_⟩:=I.list hq;obtain⟨as,ra⟩:=jt I ds xs its hd rv;exact⟨_,.list ho hc hdt (by simpa using ra)⟩
 | .tuple ds,v,u,h,r=>by unfold aa at h;obtain⟨a,xs,rfl,hq,hd⟩:=h;cases (show u=Value.ref a from r);obtain⟨its,rv,⟨o,ho,hc,n,hdt⟩,_⟩:=I.tuple hq;obtain⟨as,ra⟩:=jt I ds xs its hd rv;exact⟨_,.tuple ho hc hdt (by simpa using ra)⟩
 | .dict _,v,u,h,r=>by unfold aa at h;exact h.elim
theorem jt (I:Inv X pins σ H s):∀(ds:List PyData) (xs:List V) (us:List Value),ao X.K H ds xs->aI xs us->∃as,ReadsAll s.heap us ds as
 | [],xs,us,h,r=>by unfold ao at h;subst h;cases r;exact⟨_,.nil⟩
 | d :: ds,xs,us,h,r=>by
   unfold ao at h;obtain⟨x,rest,rfl,hd,hds⟩:=h;cases r with
   | cons r1 r2 =>
     obtain⟨as,ra⟩:=ff I d _ _ hd r1;obtain⟨bs,rb⟩:=jt I ds _ _ hds r2;exact⟨_,.cons ra rb⟩
end
end
def qD (K:W.Frag):R2:=λx y H Q=>∃d e,aa K H d x/\aa K H e y/\SeqAt.shaped d=true/\SeqAt.shaped e=true/\Q (.bl (PyData.eqv d e)) H
def n9 (K:W.Frag):R2:=λx y H Q=>∃d e,aa K H d x/\aa K H e y/\SeqAt.shaped d=true/\SeqAt.shaped e=true/\Q (.bl (!PyData.eqv d e)) H
variable {X:Cx}
theorem yi (hu:X.A.units+64<cLine):aj X (compareOp .Eq) (qD X.K):=by intro pins s σ H x y v u Q I rx ry h;obtain⟨d,e,hd,he,sd,se,q⟩:=h;obtain⟨as,ra⟩:=ff I d x v hd rx;obtain⟨bs,rb⟩:=ff I e y u he ry;exact SeqAt.compareEq_shaped ra rb sd se hu ⟨.bl _,H,I,rfl,q⟩
theorem pC (hu:X.A.units+64<cLine):aj X (compareOp .NotEq) (n9 X.K):=by intro pins s σ H x y v u Q I rx ry h;obtain⟨d,e,hd,he,sd,se,q⟩:=h;obtain⟨as,ra⟩:=ff I d x v hd rx;obtain⟨bs,rb⟩:=ff I e y u he ry;exact SeqAt.compareNe_shaped ra rb sd se hu ⟨.bl _,H,I,rfl,q⟩
section
variable {prog:Program} {w:World} {A:Around} {E:Value->Shared->Prop}
theorem mY {it t:Addr} {items:Array Value} (hne:t≠it):∀(n i:Nat) (s:Shared) (Q:List Value->Shared->Prop),s.heap.IsListIter it t i->s.heap.IsList t items->i+n<=items.size ->
   (∀h',h'.IsListIter it t (i+n)->Heap.SameBut it s.heap h'->Q ((items.toList.drop i).take n) { s with heap:=h' })->wpAny (model prog w) A (draw (.ref it) n) Q E s
 | 0,i,s,Q,hit,_,_,hQ=>by show wpAny _ _ (pure []) Q E s;exact BF (by simpa using hQ s.heap hit (Heap.SameBut.refl ..))
 | n+1,i,s,Q,hit,ht,hle,hQ=>by
   have hlt:i<items.size:=by omega
   show wpAny _ _ (pyNext (.ref it) >>= _) Q E s;refine BB (DW hit ht (x:=items[i]) (by simp [hlt]) λh₁ hit₁ hs₁=>?_);refine BB (C2 (mY hne n (i+1) _ _ hit₁ (ht.extBut hs₁.extBut hne) (by omega) λh₂ hit₂ hs₂=>BF ?_));have hd:items.toList.drop i=items[i] :: items.toList.drop (i+1):=by simp [D6,hlt]
   have:=hQ h₂ (by rw[show i+(n+1)=i+1+n by omega]; exact hit₂) (hs₁.trans hs₂);rw[hd,List.take_succ_cons] at this;exact this
theorem tK {s:Shared} {t:Addr} {items:Array Value} {Q:List Value->Shared->Prop} (hh:A.handled=none) (ht:s.heap.IsList t items)
   (hQ:∀h',Heap.ExtBut s.heap.objs.size s.heap h'->Q items.toList { s with heap:=h' }):wpAny (model prog w) A (unpackItems (.ref t) items.size none) Q E s:=by
 have hlt:t≠s.heap.objs.size:=by obtain⟨o,ho,_⟩:=ht; exact Bu (BZ ho)
 unfold unpackItems;refine BB ?_;unfold notIterableAtAll;refine BB (CT ht.typeIs slot_list_iter.lookup ?_);refine BF ?_;simp only[Bt,if_false];refine BB (C2 (Cs ht ?_));refine BB (C2 (mY hlt items.size 0 _ _ ⟨_,Bh _ rfl,rfl,rfl⟩ (ht.push _) (by omega) λh₁ hit₁ hs₁=>?_));have hall:List.take items.size (List.drop 0 items.toList)=items.toList:=by rw[Dt]; exact C9 (by simp)
 rw[hall];rw[BE (by simp)];have ht₁:h₁.IsList t items:=(ht.push _).extBut hs₁.extBut hlt;refine BB (C2 (Dg hh hit₁ ht₁ (by simp) λh₂ he₂=>?_));simp only[Option.isSome_none,Bt,if_false];refine BF (hQ h₂ λb o hb e=>he₂ b o hb (hs₁.extBut b o hb (BM _ e)))
end
def vF (K:W.Frag) (n:Nat) (t:eK):TG:=λv σ H Q=>∃a xs,v=.ref a/\aA K H a xs/\xs.length=n/\t xs σ H Q
variable {pos:Pos}
theorem zM {es:List Expr} {k:Nat} {t:eK} {n:Nat} (hc:X.calm=true) (h:iD X es t)
   (hn:(assignEach es X.env).length=n:=by rfl) (hst:(assignEach es X.env).findIdx? (·.1)=none:=by rfl):PG X (.Tuple es k pos) (vF X.K n t):=by
 intro pins s σ H v u Q I r hw;obtain⟨a,xs,e1,hq,hl,hw⟩:=hw;subst e1;cases r;obtain⟨its,rv,ht,hz⟩:=I.list hq;have hlen:=rv.length;rw[assign_Tuple];refine BB (D' ?_);unfold unpack;rw[hst,hn,<- hl,hlen,show its.length=its.toArray.size by simp];refine BB (C2 (tK (I.ok.hd hc) ht.isList λh' hx=>?_));have I1:Inv X pins σ H { s with heap:=h' }:=I.kept (t':=s.toks) λb o e=>hx b o (Bu (BZ e)) e;exact h pins _ σ H xs _ Q I1 (by simpa using rv) hw
theorem pS :aj X (binaryOp .FloorDiv) (rI (λ_ j=>0<j/\j<2 ^ 64) λi j=>.int (i / j)):=io λi j _ _ _ _ _ hc q=>by
 have h1:(0:Int)<j:=hc.1;have h2:j<2 ^ 64:=hc.2;refine floordiv_int (by omega) (by rw[E1 i (by omega)]; exact q) (.inl (PyProof.noPylong_of_log2 ?_));have h0:j.natAbs≠0:=by omega
 refine Nat.lt_trans (m:=64) ((Nat.log2_lt h0).mpr ?_) (by decide);have:(2:Int) ^ 64=((2 ^ 64:Nat):Int):=by decide
 omega
section
variable {κ:Type} [DecidableEq κ]
def aw (kvs:List (κ×V)) (k:κ):Option V:=(kvs.find? λkv=>decide (kv.1=k)).map (·.2)
def aU (kvs:List (κ×V)) (k:κ) (v:V):List (κ×V) :=
 if(kvs.any λkv=>decide (kv.1=k))=true then kvs.map (λkv=>if kv.1=k then(kv.1,v) else kv) else kvs++[(k,v)]
theorem dR {p:κ×V} {r:List (κ×V)} {k:κ} (e:p.1=k):aw (p :: r) k=some p.2:=by simp [aw,Cq,e]
theorem dQ {p:κ×V} {r:List (κ×V)} {k:κ} (e:¬ p.1=k):aw (p :: r) k=aw r k:=by simp [aw,Cq,e]
theorem gL (k:κ):∀kvs:List (κ×V),(kvs.any λkv=>decide (kv.1=k))=(aw kvs k).isSome
 | []=>rfl
 | p :: r=>by
   rw[DZ];by_cases e:p.1=k
   . simp only[dR e,BN e,Bool.true_or,Option.isSome_some]
   . rw[dQ e,BY e,Bool.false_or]; exact gL k r
theorem qE (k j:κ) (y:V):∀kvs:List (κ×V),aw (kvs.map λkv=>if kv.1=k then(kv.1,y) else kv) j=(aw kvs j).map λx=>if j=k then y else x
 | []=>rfl
 | p :: r=>by
   have ih:=qE k j y r;rw[Bx];by_cases h:p.1=k
   . rw[BJ h];by_cases e:p.1=j
     . rw[dR (p:=(p.1,y)) e,dR e,Dk,BJ (e.symm.trans h)]
     . rw[dQ (p:=(p.1,y)) e,dQ e,ih]
   . rw[BE h];by_cases e:p.1=j
     . rw[dR (p:=p) e,dR e,Dk,BE (λz=>h (e.trans z))]
     . rw[dQ (p:=p) e,dQ e,ih]
theorem pX (k j:κ) (y:V):∀kvs:List (κ×V),aw kvs k=none->aw (kvs++[(k,y)]) j=if j=k then some y else aw kvs j
 | [],_=>by
   by_cases e:k=j
   . rw[BJ e.symm]; exact dR (p:=(k,y)) e
   . rw[BE (λz=>e z.symm)]; exact dQ (p:=(k,y)) e
 | p :: r,hn=>by
   rw[List.cons_append];have hk:¬ p.1=k:=λz=>by rw[dR z] at hn; cases hn
   rw[dQ hk] at hn;have ih:=pX k j y r hn;by_cases e:p.1=j
   . rw[dR e,dR e,BE (λz=>hk (e.trans z))]
   . rw[dQ e,dQ e,ih]
theorem hX (kvs:List (κ×V)) (k j:κ) (y:V):aw (aU kvs k y) j=if j=k then some y else aw kvs j:=by
 unfold aU;by_cases a:(kvs.any λkv=>decide (kv.1=k))=true
 . rw[BJ a,qE];rw[gL] at a;by_cases e:j=k
   . obtain⟨x,hx⟩:=DF.mp a;rw[BJ e,e,hx,Dk,BJ rfl]
   . rw[BE e];cases aw kvs j with
     | none=>rfl
     | some x=>rw[Dk,BE e]
 . rw[BE a];refine pX k j y kvs ?_;rw[gL] at a;cases q:aw kvs k with
   | none=>rfl
   | some x=>rw[q] at a; exact(a rfl).elim
theorem cx (kvs:List (κ×V)) (k:κ) (v:V):(aU kvs k v).length<=kvs.length+1:=by
 unfold aU;split
 . rw[BA]; omega
 . rw[BH,BV,D7]; omega
theorem nu {kvs:List (κ×V)} {k:κ} (v:V) (h:aw kvs k=none):aU kvs k v=kvs++[(k,v)]:=by unfold aU;rw[gL,h];exact BE (by decide)
theorem cL.isSome_eq {o:Option V} {u:Option Value} (r:cL o u):o.isSome=u.isSome:=by
 cases o with
 | none=>cases u with
   | none=>rfl
   | some _=>exact(show False from r).elim
 | some _=>cases u with
   | none=>exact(show False from r).elim
   | some _=>rfl
theorem KV.val {kvs:List (κ×V)} {vs:List (κ×Value)} (r:KV kvs vs) (k:κ):cL (aw kvs k) (valueAt vs k):=by
 unfold KV at r
 induction r with
 | nil=>exact True.intro
 | @cons p q ps qs h t ih =>
   obtain⟨h1,h2⟩:=h;by_cases e:p.1=k
   . have e':q.1=k:=h1.symm.trans e;have b:valueAt (q :: qs) k=some q.2:=by simp [valueAt,Cq,e']
     rw[dR e,b]; exact h2
   . have e':¬ q.1=k:=λz=>e (h1.trans z);have b:valueAt (q :: qs) k=valueAt qs k:=by simp [valueAt,Cq,e']
     rw[dQ e,b]; exact ih
theorem KV.any {kvs:List (κ×V)} {vs:List (κ×Value)} (r:KV kvs vs) (k:κ):(kvs.any λkv=>decide (kv.1=k))=vs.any λkv=>decide (kv.1=k):=by
 unfold KV at r
 induction r with
 | nil=>rfl
 | cons h t ih=>rw[DZ,DZ,ih,h.1]
variable {u:Value} {y:V}
theorem KV.repl {kvs:List (κ×V)} {vs:List (κ×Value)} (r:KV kvs vs) (k:κ) (ry:aJ y u) :
   KV (kvs.map λkv=>if kv.1=k then(kv.1,y) else kv) (vs.map λkv=>if kv.1=k then(kv.1,u) else kv):=by
 unfold KV at r ⊢
 induction r with
 | nil=>exact .nil
 | @cons p q ps qs h t ih =>
   rw[Bx,Bx];refine .cons ?_ ih;obtain⟨h1,h2⟩:=h;by_cases e:p.1=k
   . rw[BJ e,BJ (h1.symm.trans e)]; exact⟨h1,ry⟩
   . rw[BE e,BE (λz=>e (h1.trans z))]; exact⟨h1,h2⟩
theorem KV.put {kvs:List (κ×V)} {vs:List (κ×Value)} (r:KV kvs vs) (k:κ) (ry:aJ y u):KV (aU kvs k y) (stored vs k u):=by
 unfold aU stored;rw[r.any k];by_cases e:(vs.any λkv=>decide (kv.1=k))=true
 . rw[BJ e,BJ e]; exact r.repl k ry
 . rw[BE e,BE e]; exact Paired.snoc r ⟨rfl,ry⟩
theorem KV.length {kvs:List (κ×V)} {vs:List (κ×Value)} (r:KV kvs vs):kvs.length=vs.length:=Paired.length r
end
variable {w:World}
theorem gM {P:Program} {k:aD} (r:aJ (kV k) u):(bY P w).is k u=true:=by
 cases k with
 | inl i=>obtain⟨t,e⟩:=(show ∃t,u=Value.int i t from r); subst e; exact yf P w i t
 | inr x=>obtain⟨t,e⟩:=(show ∃t,u=Value.str x t from r); subst e; exact ut P w x t
theorem qH {P:Program} {w:World}:∀{ks:List aD} {us:List Value},aI (ks.map kV) us->ItemsAre (bY P w) ks us
 | [],_,r=>by rw[List.map_nil] at r; cases r; exact .nil
 | k :: ks,_,r=>by
   rw[Bx] at r;cases r with
   | cons h t=>exact .cons (gM h) (qH t)
abbrev KT (H:Hp):List (List aD×V)->List (List aD×Addr×Value)->Prop:=Paired λp q=>p.1=q.1/\H q.2.1=some (.tup (p.1.map kV))/\aJ p.2 q.2.2
variable {H:Hp}
theorem KT.val {kvs:List (List aD×V)} {xs:List (List aD×Addr×Value)} (r:KT H kvs xs) (k:List aD):cL (aw kvs k) ((atKey xs k).map (·.2)):=by
 induction r with
 | nil=>exact True.intro
 | @cons p q ps qs h t ih =>
   obtain⟨h1,_,h2⟩:=h;by_cases e:p.1=k
   . have e':q.1=k:=h1.symm.trans e;have b:atKey (q :: qs) k=some q.2:=by simp [atKey,Cq,e']
     rw[dR e,b]; exact h2
   . have e':¬ q.1=k:=λz=>e (h1.trans z);have b:atKey (q :: qs) k=atKey qs k:=by simp [atKey,Cq,e']
     rw[dQ e,b]; exact ih
theorem KT.repl {kvs:List (List aD×V)} {xs:List (List aD×Addr×Value)} (r:KT H kvs xs) (k:List aD) (ry:aJ y u) :
   KT H (kvs.map λkv=>if kv.1=k then(kv.1,y) else kv) (xs.map (putAt k u)):=by
 induction r with
 | nil=>exact .nil
 | @cons p q ps qs h t ih =>
   rw[Bx,Bx];refine .cons ?_ ih;obtain⟨h1,h2,h3⟩:=h;unfold putAt;by_cases e:p.1=k
   . rw[BJ e,BJ (h1.symm.trans e)]; exact⟨h1,h2,ry⟩
   . rw[BE e,BE (λz=>e (h1.trans z))]; exact⟨h1,h2,h3⟩
theorem KT.put {kvs:List (List aD×V)} {xs:List (List aD×Addr×Value)} (r:KT H kvs xs) (k:List aD) {b:Addr} (hb:H b=some (.tup (k.map kV))) (ry:aJ y u) :
   KT H (aU kvs k y) (storedH xs k b u):=by
 have e:(kvs.any λkv=>decide (kv.1=k))=(atKey xs k).isSome:=by rw[gL,(r.val k).isSome_eq,E5]
 unfold aU storedH;rw[e];by_cases q:(atKey xs k).isSome=true
 . rw[BJ q,BJ q]; exact r.repl k ry
 . rw[BE q,BE q]; exact Paired.snoc r ⟨rfl,hb,ry⟩
variable {H':Hp}
theorem KT.keeps {kvs:List (List aD×V)} {xs:List (List aD×Addr×Value)} (r:KT H kvs xs) (ht:∀b ys,H b=some (.tup ys)->H' b=some (.tup ys)):KT H' kvs xs :=
 Paired.mapP r λ_ _ z=>⟨z.1,ht _ _ z.2.1,z.2.2⟩
section
variable {P:Program} {w:World} {H:Hp} {h:Heap} {a:Addr}
theorem pe {u:HO} (ok:bK P w H h) (e:Rd H a u):bH P w H h a u:=e.ok ok
theorem gd {kvs:List (aD×V)} (ok:bK P w H h) (e:Rd H a (.dK kvs)):kvs.length<=sizeLine/\(a==sysModules)=false/\∃vs,KV kvs vs/\h.DictOf (bY P w) a vs :=
 show bH P w H h a (.dK kvs) from pe ok e
theorem jI {kvs:List (aD×V)} (ok:bK P w H h) (e:H a=some (.dK kvs)):kvs.length<=sizeLine/\(a==sysModules)=false/\∃vs,KV kvs vs/\h.DictOf (bY P w) a vs:=gd ok (.inl e)
theorem iV {ks:List aD} (ok:bK P w H h) (e:H a=some (.tup (ks.map kV))):(tupleKind (bY P w)).is h ks a:=by
 obtain⟨_,its,r,o,h1,h2,n,h3⟩:=(show bH P w H h a (.tup (ks.map kV)) from ok a _ e)
 exact⟨o,its.toArray,n,h1,h2,h3,by simpa using qH r⟩
theorem ge {kvs:List (List aD×V)} (ok:bK P w H h) (e:Rd H a (.dT kvs)):kvs.length<=sizeLine/\(a==sysModules)=false /\
   ∃xs,KT H kvs xs/\h.DictOfH (tupleKind (bY P w)) a xs:=by
 obtain⟨z,y,xs,r,o,es,ep,h1,h2,h3,h4,h5⟩:=(show bH P w H h a (.dT kvs) from pe ok e)
 refine⟨z,y,xs,r,o,es,ep,h1,h2,h3,h4,λx hx=>?_,h5⟩;have all:∀{l:List (List aD×V)} {m:List (List aD×Addr×Value)},KT H l m->∀x∈m,(tupleKind (bY P w)).is h x.1 x.2.1:=by
   intro l m q
   induction q with
   | nil=>intro x hx; exact nomatch hx
   | @cons p q ps qs hq t ih =>
     intro x hx;rcases Be.mp hx with e|hx
     . subst e;exact iV ok (by rw[<- hq.1]; exact hq.2.1)
     . exact ih x hx
 exact all r x hx
theorem tY {kvs:List (List aD×V)} (ok:bK P w H h) (e:H a=some (.dT kvs)):kvs.length<=sizeLine/\(a==sysModules)=false /\
   ∃xs,KT H kvs xs/\h.DictOfH (tupleKind (bY P w)) a xs:=ge ok (.inl e)
end
def cG (H:Hp) (a:Addr) (y:V) (r:Option V):Prop :=
 (∃kvs k,Rd H a (.dK kvs)/\y=kV k/\r=aw kvs k)\/∃kvs k b,Rd H a (.dT kvs)/\y=.ref b/\H b=some (.tup (k.map kV))/\r=aw kvs k
def ck (H:Hp) (a:Addr) (y v:V) (H':Hp):Prop :=
 (∃kvs k,H a=some (.dK kvs)/\y=kV k/\kvs.length<sizeLine/\H'=upd H a (.dK (aU kvs k v))) \/
 ∃kvs k b,H a=some (.dT kvs)/\y=.ref b/\H b=some (.tup (k.map kV))/\kvs.length<sizeLine/\H'=upd H a (.dT (aU kvs k v))
theorem cG.k {H:Hp} {a:Addr} {kvs:List (aD×V)} {k:aD} (e:H a=some (.dK kvs)):cG H a (kV k) (aw kvs k):=.inl ⟨kvs,k,.inl e,rfl,rfl⟩
theorem ck.k {H:Hp} {a:Addr} {kvs:List (aD×V)} {k:aD} {v:V} (e:H a=some (.dK kvs)) (hl:kvs.length<sizeLine):ck H a (kV k) v (upd H a (.dK (aU kvs k v))):=.inl ⟨kvs,k,e,rfl,hl,rfl⟩
section
variable {X:Cx} {pins:List (Addr×Obj)} {σ:St} {H:Hp} {s:Shared} {a:Addr} {y v:V} {u r:Value} {o:Option V} {A:Around} {E:Value->Shared->Prop}
theorem Inv.big (I:Inv X pins σ H s):sysModules<s.heap.objs.size:=by have h:mainGlobals<s.heap.objs.size:=(I.mod.glob.keeps I.bk).lt;exact Nat.lt_trans (by decide) h
theorem yU {Q:Value->Shared->Prop} (hu:A.units+1<cLine) (I:Inv X pins σ H s) (g:cG H a y (some v)) (ry:aJ y u) (h:∀w' s',Inv X pins σ H s'->aJ v w'->Q w' s') :
   wpAny (model X.prog X.w) A (getItem (.ref a) u) Q E s:=by
 rcases g with⟨kvs,k,e,ey,l⟩|⟨kvs,k,b,e,ey,eb,l⟩
 . subst ey;obtain⟨z,hd,vs,rel,dd⟩:=gd I.hok e;obtain⟨w',hw,rw'⟩:=cL.some_of (v:=v) (o:=valueAt vs k) (by rw[l]; exact rel.val k);exact wpAny_getItem_of (gM ry) dd.mapOf hw (h w' _ (I.tok _) rw')
 . subst ey;cases (show u=Value.ref b from ry);obtain⟨z,hd,xs,rel,dd⟩:=ge I.hok e;obtain⟨w',hw,rw'⟩:=cL.some_of (v:=v) (o:=(atKey xs k).map (·.2)) (by rw[l]; exact rel.val k);obtain⟨p,hp,hp2⟩:=C7.mp hw;refine wpAny_getItem_heap (tupleKind_room_in1 hu) (iV I.hok eb) dd hp ?_;rw[hp2];exact h w' _ (I.tok _) rw'
theorem uf {Q:Value->Shared->Prop} (hu:A.units+1<cLine) (I:Inv X pins σ H s) (g:cG H a y o) (ry:aJ y u) (h:∀s',Inv X pins σ H s'->Q (.bool o.isSome) s') :
   wpAny (model X.prog X.w) A (compareOp .In u (.ref a)) Q E s:=by
 rcases g with⟨kvs,k,e,ey,l⟩|⟨kvs,k,b,e,ey,eb,l⟩
 . subst ey;obtain⟨z,hd,vs,rel,dd⟩:=gd I.hok e;refine wpAny_in_of (gM ry) hd dd.mapOf ?_;rw[<- (rel.val k).isSome_eq,<- l];exact h _ (I.tok _)
 . subst ey;cases (show u=Value.ref b from ry);obtain⟨z,hd,xs,rel,dd⟩:=ge I.hok e;refine wpAny_in_heap (tupleKind_room_in1 hu) (iV I.hok eb) hd dd ?_;have q:=(rel.val k).isSome_eq;rw[E5] at q;rw[<- q,<- l];exact h _ (I.tok _)
theorem gj {h':Heap} {t':Nat} {ob:HO} (I:Inv X pins σ H s) (mu:iJ (H a)) (hs:Heap.SameBut a s.heap h') (he:∃q,h'.get? a=some q) (new:bH X.prog X.w (upd H a ob) h' a ob) :
   Inv X pins σ (upd H a ob) { s with heap:=h',toks:=t' } :=
 I.write (x:=a) (e:=a) mu (.inl rfl) (λb q hb z=>(hs.2 b hb).trans z) he new
theorem lX {P:Program} {h':Heap} {kvs:List (aD×V)} {vs:List (aD×Value)} (z:kvs.length<=sizeLine) (hd:(a==sysModules)=false) (rel:KV kvs vs) (dd:h'.DictOf (bY P w) a vs) :
   bH P w H' h' a (.dK kvs):=⟨z,hd,vs,rel,dd⟩
theorem tI {Q:Unit->Shared->Prop} (hu:A.units+1<cLine) (I:Inv X pins σ H s) (g:ck H a y v H') (ry:aJ y u) (rv:aJ v r) (h:∀s',Inv X pins σ H' s'->Q () s') :
   wpAny (model X.prog X.w) A (setItem (.ref a) u r) Q E s:=by
 rcases g with⟨kvs,k,e,ey,l,eH⟩|⟨kvs,k,b,e,ey,eb,l,eH⟩
 . subst ey eH;obtain⟨z,hd,vs,rel,dd⟩:=jI I.hok e;have hz:vs.length<=sizeLine:=by rw[<- rel.length]; exact z
   have hl:(aU kvs k v).length<=sizeLine:=by have:=cx kvs k v; omega
   refine wpAny_setItem_pairs (hsz:=hz) (gM ry) dd λh' dd' hs=>h _ ?_;have he:∃q,h'.get? a=some q:=let ⟨q,_,_,hq,_⟩:=dd'; ⟨q,hq⟩
   exact gj I (by rw[e]; exact True.intro) hs he (lX hl hd (rel.put k rv) dd')
 . subst ey eH;cases (show u=Value.ref b from ry);obtain⟨z,hd,xs,rel,dd⟩:=tY I.hok e;have hz:xs.length<=sizeLine:=by rw[<- Paired.length rel]; exact z
   have hl:(aU kvs k v).length<=sizeLine:=by have:=cx kvs k v; omega
   refine wpAny_setItem_heap (hsz:=hz) (tupleKind_room_in1 hu) (iV I.hok eb) dd λh' dd' hs=>h _ ?_;obtain⟨q,es,ep,hq,h2,h3,h4,_,h5⟩:=dd';refine gj I (by rw[e]; exact True.intro) hs ⟨q,hq⟩ ⟨hl,hd,_,(rel.put k eb rv).keeps λc ys ec=>?_,q,es,ep,hq,h2,h3,h4,h5⟩;rw[aH (cY ec e (λz=>nomatch z))];exact ec
end
def jw (i:Expr):Prop:=∀ov iv,subscripted i false ov iv=operate [ov,iv] (getItem ov iv)
theorem qg {prog:Program} {A:Around} {E:Value->Shared->Prop} {s:Shared} {env:Env} {value slice:Expr} {T id:String} {Q:Value->Shared->Prop}
   (hl:typeLookup (.type T) "__getitem__"=pure (some (.builtin id))) (hs:jw slice)
   (h:wpAny (model prog w) A (eval value env) (λo s₁=>wpAny (model prog w) A (eval slice env) (λi s₂=>s₂.TypeIs o T/\wpAny (model prog w) A (getItem o i) Q E s₂) E s₁) E s) :
   wpAny (model prog w) A (eval (.Subscript value slice pos) env) Q E s:=by
 refine Subscript_ (DM h (λo s₁ h₁=>DM h₁ (λi s₂ h₂=>?_) λ_ _ x=>x) λ_ _ x=>x);obtain⟨hT,h₂⟩:=h₂;unfold subscriptTail;refine BB ?_;rw[getitemInPython_of_ne hT.not_modules];refine BB (CT hT hl ?_);have fin:wpAny (model prog w) A (subscripted slice false o i) (λr s₃=>wpAny (model prog w) A (letTemporaryGo value o r >>= λ_=>pure r) Q E s₃) E s₂:=by rw[hs o i];exact wpAny_operating (DM h₂ (λr s₃ h₃=>BB (wpAny_letTemporaryGo (BF h₃))) λ_ _ x=>x)
 first
   | exact BF (BB fin)
   | exact BB (BF (BB fin))
   | exact BB fin
theorem xN {pins:List (Addr×Obj)} {σ:St} {s:Shared} {a:Addr} {o:Option V} (I:Inv X pins σ H s) (g:cG H a y o):s.TypeIs (.ref a) "dict":=by
 rcases g with⟨kvs,k,e,_,_⟩|⟨kvs,k,b,e,_,_,_⟩
 . obtain⟨_,_,vs,_,dd⟩:=gd I.hok e;exact dd.typeIs
 . obtain⟨_,_,xs,_,dd⟩:=ge I.hok e;exact dd.typeIs
def zP (td ty:TE):TE:=λσ H Q=>td σ H λx H1=>ty σ H1 λy H2=>∃a v,x=.ref a/\cG H2 a y (some v)/\Q v H2
def zb (ty td:TE):TE:=λσ H Q=>ty σ H λy H1=>td σ H1 λx H2=>∃a o,x=.ref a/\cG H2 a y o/\Q (.bl o.isSome) H2
def vV (td ty tv:TE):TS:=λD σ H=>tv σ H λv H1=>td σ H1 λx H2=>ty σ H2 λy H3=>∃a H4,x=.ref a/\ck H3 a y v H4/\D.nx σ H4
section
variable {X:Cx} {o i e value:Expr} {pos pos' tpos:Pos} {td ty tv:TE}
theorem dS (hu:X.A.units+1<cLine) (ho:PE X o td) (hi:PE X i ty) (hs:jw i):PE X (.Subscript o i pos) (zP td ty):=by intro pins s σ H Q I h;refine qg E9.lookup hs (aF (ho pins s σ H _ I h) λu s1 ⟨x,H1,I1,rx,q1⟩=>aF (hi pins s1 σ H1 _ I1 q1) λiv s2 ⟨y,H2,I2,ry,a,v,ex,g,q2⟩=>?_);subst ex;obtain rfl:u=Value.ref a:=rx;exact⟨xN I2 g,yU hu I2 g ry λw' s3 I3 rw'=>⟨v,H2,I3,rw',q2⟩⟩
theorem zm (hu:X.A.units+1<cLine) (hi:PE X i ty) (ho:PE X o td):PC X .In i o (zb ty td):=by intro pins s σ H Q I h;refine aF (hi pins s σ H _ I h) λiv s1 ⟨y,H1,I1,ry,q1⟩=>aF (ho pins s1 σ H1 _ I1 q1) λu s2 ⟨x,H2,I2,rx,a,ov,ex,g,q2⟩=>?_;subst ex;obtain rfl:u=Value.ref a:=rx;exact uf hu I2 g ry λs3 I3=>⟨.bl ov.isSome,H2,I3,rfl,q2⟩
theorem eD (hu:X.A.units+1<cLine) (ho:PE X o td) (hi:PE X i ty) (hv:PE X value tv) (hs:swapsWith value (some (.Subscript o i pos')) pos.line X.env=pure false) :
   PS X (.Assign [.Subscript o i pos'] value pos) (vV td ty tv):=by
 intro pins s σ H D I h;refine wpAny_Assign_Subscript (aF (hv pins s σ H _ I h) λr s1 ⟨v,H1,I1,rv,q1⟩=>aF (ho pins s1 σ H1 _ I1 q1) λu s2 ⟨x,H2,I2,rx,q2⟩=>aF (hi pins s2 σ H2 _ I2 q2) λiv s3 ⟨y,H3,I3,ry,a,H4,ex,g,q3⟩=>?_) hs;subst ex;obtain rfl:u=Value.ref a:=rx;exact tI hu I3 g ry rv λs4 I4=>⟨σ,H4,I4,q3⟩
end
theorem ot {P:Program} (h:Heap) (hb:sysModules<h.objs.size):bH P w H (h.push { cls:=.type "dict",data:=.dict #[] }) h.objs.size (.dK []) :=
 ⟨BW _,beq_eq_false_iff_ne.mpr (Ne.symm (Bu hb)),[],.nil,Heap.DictOf.new h⟩
def x9:TE:=λ_ H Q=>∀p,H p=none->Q (.ref p) (upd H p (.dK []))
section
variable {X:Cx} {pos:Pos}
theorem eC:PE X (.Dict [] [] pos) x9:=λpins s σ H Q I h =>
 wpAny_Dict_empty ⟨.ref s.heap.objs.size,_,I.laid (a:=s.heap.objs.size) (o:=.dK []) (t':=s.toks) (λ_ _ q=>BM _ q) (BG _) (ot s.heap I.big),rfl,h _ (I.hok.fresh (BG _))⟩
end
def kx:List (TE×TE)->St->Hp->(List (V×V)->Hp->Prop)->Prop
 | [],_,H,Q=>Q [] H
 | (tk,tv) :: r,σ,H,Q=>tk σ H λx H1=>tv σ H1 λy H2=>kx r σ H2 λps H3=>Q ((x,y) :: ps) H3
abbrev VV:List (V×V)->List (Value×Value)->Prop:=Paired λp q=>aJ p.1 q.1/\aJ p.2 q.2
def ir (X:Cx) (pos:Pos) (keys:List (Option Expr)) (values:List Expr) (trs:List (TE×TE)):Prop :=
 ∀(pins:List (Addr×Obj)) (s:Shared) (σ:St) (H:Hp) (Q:List (V×V)->Hp->Prop),Inv X pins σ H s->kx trs σ H Q ->
   wpAny (model X.prog X.w) X.A (evalPairs (pairTrees keys values X.env pos)) (λvs s'=>∃ps H',Inv X pins σ H' s'/\VV ps vs/\Q ps H') X.xe s
theorem uw :ir X pos [] [] []:=λpins s σ H Q I h=>pairTrees_nil_walk ⟨[],H,I,.nil,h⟩
theorem yo {k v:Expr} {ks:List (Option Expr)} {vs:List Expr} {tk tv:TE} {trs:List (TE×TE)} (hk:PE X k tk) (hv:PE X v tv) (hr:ir X pos ks vs trs) :
   ir X pos (some k :: ks) (v :: vs) ((tk,tv) :: trs):=λpins s σ H Q I h =>
 pairTrees_cons_walk (aF (hk pins s σ H _ I h) λu s1 ⟨x,H1,I1,rx,q1⟩=>aF (hv pins s1 σ H1 _ I1 q1) λw2 s2 ⟨y,H2,I2,ry,q2⟩ =>
   aF (hr pins s2 σ H2 _ I2 q2) λws s3 ⟨ps,H3,I3,rel,q3⟩=>⟨(x,y) :: ps,H3,I3,.cons ⟨rx,ry⟩ rel,q3⟩)
structure M2 (X:Cx) (o:Expr) (m:Str) (apos:Pos) (e f:Expr) (cpos:Pos):Prop where
 base:attributeBase o m X.env (eval o X.env)=eval o X.env
 few:((backTo cpos (starEach [e,f] X.env)).all (λx=>!x.1)&&(backToKw cpos (keywordEach [] X.env)).all (λx=>x.1.isSome)
   && decide (([e,f]:List Expr).length+([]:List Keyword).length+(if([]:List Keyword).isEmpty then 0 else 1)<30))=true
 line:(apos.endLine==cpos.line)=true
 trees:backTo cpos (starEach [e,f] X.env)=[(false,eval e X.env),(false,eval f X.env)]
def IsD (H:Hp) (a:Addr):Prop:=(∃kvs,Rd H a (.dK kvs))\/∃kvs,Rd H a (.dT kvs)
theorem yP {pins:List (Addr×Obj)} {σ:St} {s:Shared} {a:Addr} (I:Inv X pins σ H s) (d:IsD H a) :
   s.TypeIs (.ref a) "dict"/\(∀b,Value.ref a=.ref b->∃ob,s.heap.get? b=some ob/\ob.dict=none)/\(a==sysModules)=false:=by
 rcases d with⟨kvs,e⟩|⟨kvs,e⟩
 . obtain⟨_,hd,vs,_,dd⟩:=gd I.hok e;refine⟨dd.typeIs,λb q=>?_,hd⟩;cases q;obtain⟨ob,_,_,h1,h2,_⟩:=dd;exact⟨ob,h1,h2.2.1⟩
 . obtain⟨_,hd,xs,_,dd⟩:=ge I.hok e;refine⟨dd.typeIs,λb q=>?_,hd⟩;cases q;obtain⟨ob,_,_,h1,h2,_⟩:=dd;exact⟨ob,h1,h2.2.1⟩
end L2
namespace PySem
theorem uL:typeLookup (.type "list") "keys"=pure none:=by rw[typeLookup_type,builtinLookup_eq_fast]; kernel_rfl
theorem og:entryFor table "dict.update.loop"=some Builtin.«dict.update.loop»:=entryFor_of_tree (by kernel_rfl)
theorem jC:plainId "dict.update.loop"=true:=by decide +kernel
theorem vO {prog:Program} {w:World} {A:Around} {E:Value->Shared->Prop} {s:Shared} {a:Addr} {o:Obj} {xs:Array Value} {k:Nat} {Q:Option Value->Shared->Prop}
   (hx:s.heap.get? a=some o) (hc:o.cls=.type "list") (hdat:o.data=.seq xs k) (hd:o.dict=none) (hA:A.handled=none)
   (h:∀h' tk,(∀b ob,s.heap.get? b=some ob->h'.get? b=some ob)->Q none { s with heap:=h',toks:=tk }) :
   wpAny (model prog w) A (getAttr? (.ref a) "keys") Q E s:=by
 obtain⟨c,dct,dat,sl⟩:=o;simp only at hc hdat hd;subst hc hdat hd;obtain⟨hp,g,d,tk,os⟩:=s;have hT:∀tk',(⟨hp,g,d,tk',os⟩:Shared).TypeIs (.ref a) "list":=λ_=>⟨_,hx,rfl⟩
 have f1:=sub_AttributeError;have f3:=DJ.lookup;have f4:=DJ.bind (.ref a);have f5:=am_list_getattr_none;unfold getAttr? getAttrBy? getAttrBy
 repeat (any_goals (first|assumption|exact hT _|((with_reducible show wpAny _ _ (call (Value.builtin "list.__getattribute__") _ _) _ _ _); refine call_meets DJ (hT _) am_entry_list_getattribute (F.args_list_getattribute_2 _ _) (meets_getattribute_miss_list a xs k sl "keys" _ uL (by decide +kernel) (by decide +kernel)) ⟨hx,hA,λh' tk' e hx'=>?_⟩)|wp_step))
 obtain⟨t',u',he⟩:=hx'.there
 try (show wpAny _ _ (getattributeRaised _ _ _ _ _ _ _) _ _ _)
 try unfold getattributeRaised
 repeat (any_goals (first|assumption|wp_step))
 all_goals (first|exact h _ _ hx'.keeps|trace_state)
end PySem
namespace L2
open PySem PySem.Spec PyProof.Rows
section
variable {X:Cx} {pins:List (Addr×Obj)} {σ:St} {H:Hp}
theorem iE {α β:Type} {F:α->β->Prop}:∀{l:List α} {m:List β},Paired F l m->∀{i:Nat} (h1:i<l.length) (h2:i<m.length),F l[i] m[i]
 := by
 intro l m h
 induction h with
 | nil=>intro i h1; simp at h1
 | cons h t ih =>
   intro i h1 h2;cases i with
   | zero=>exact h
   | succ i =>
     have:=ih (i:=i) (by simpa using h1) (by simpa using h2);simpa using this
theorem uY {A:Around} {R:Result->Shared->Prop} {p D it:Addr} {ps:List Addr} {kvs:List (aD×V)} (hA:A.handled=none) (hpD:p≠D) (hS:aA X.K H p (ps.map V.ref)) (hps:Paired (λa (kv:aD×V)=>a9 X.K H a [kV kv.1,kv.2]) ps kvs)
   (hD:H D=none) (hz:kvs.length<=100000) (hit0:it≠D)
   (hR:∀s',Inv X pins σ (upd H D (.dK (kvs.foldl (λacc kv=>aU acc kv.1 kv.2) []))) s'->R (.ok (.ret .none)) s') :
   ∀(k i:Nat) (t:Tok) (s:Shared),kvs.length - i=k->i<=kvs.length->Inv X pins σ (upd H D (.dK ((kvs.take i).foldl (λacc kv=>aU acc kv.1 kv.2) []))) s->s.heap.IsListIter it p i ->
     (∀H',H' it=none->dM X pins H' it)->H it=none->codeAny (model X.prog X.w) A (.builtin "dict.update.loop" ⟨[.ref D,.ref it,.int (i:Nat) t,.none],[]⟩) R s:=by
 have sameD:∀o,a0 H (upd H D o):=λo=>a0.new hD;have hlen:ps.length=kvs.length:=hps.length;have flen:∀(l:List (aD×V)) (acc:List (aD×V)),(l.foldl (λacc kv=>aU acc kv.1 kv.2) acc).length<=acc.length+l.length:=by
   intro l
   induction l with
   | nil=>intro acc; simp
   | cons x r ih =>
     intro acc;rw[Ch];have h1:=ih (aU acc x.1 x.2);have h2:=cx acc x.1 x.2;simp only[BV];omega
 have big:(100000:Nat)<sizeLine:=by decide
 intro k
 induction k with
 | zero =>
   intro i t s hk hi I hit hfp hHit;have e:i=kvs.length:=by omega
   subst e;rw[Bw] at I;obtain⟨its,rv,pl,hz'⟩:=I.list ((sameD _).seq hS);obtain⟨f0,f1,f2,f3,f4,f5⟩:=hfp (upd H D (.dK (kvs.foldl (λacc kv=>aU acc kv.1 kv.2) []))) (by rw[aH hit0]; exact hHit);refine D8 og ?_;rw[Around.under_plainId jC _];show wpAny _ A.in1 (pyNext (.ref it) >>= _) _ _ s;have hl:=rv.length;rw[BA] at hl;refine BB (Dg hA hit pl.isList (by simp; omega) λh' eb=>?_);have I1:Inv X pins σ (upd H D (.dK (kvs.foldl (λacc kv=>aU acc kv.1 kv.2) []))) { s with heap:=h' }:=I.turned (t':=s.toks) (λb o hb e=>eb b o hb e) f0 f1 f3 f4 f5;show wpAny _ _ (Builtin.Dict.addKeywords D [] >>= _) _ _ _;exact BB (BF (BF (hR _ I1)))
 | succ k ih =>
   intro i t s hk hi I hit hfp hHit;have hlt:i<kvs.length:=by omega
   obtain⟨its,rv,pl,hz'⟩:=I.list ((sameD _).seq hS);have hpi:(ps.map V.ref)[i]?=some (.ref (ps[i]'(by omega))):=by simp [show i<ps.length by omega]
   obtain⟨u,hu,ru⟩:=rv.get hpi;cases (show u=Value.ref _ from ru);obtain⟨f0,f1,f2,f3,f4,f5⟩:=hfp (upd H D (.dK ((kvs.take i).foldl (λacc kv=>aU acc kv.1 kv.2) []))) (by rw[aH hit0]; exact hHit);refine D8 og ?_;rw[Around.under_plainId jC _];show wpAny _ A.in1 (pyNext (.ref it) >>= _) _ _ s;refine BB (DW hit pl.isList (x:=.ref ps[i]) (by simpa using hu) λh' hit' sb=>?_);have I1:Inv X pins σ (upd H D (.dK ((kvs.take i).foldl (λacc kv=>aU acc kv.1 kv.2) []))) { s with heap:=h' }:=I.turned (t':=s.toks) (λb o hb e=>(sb.2 b hb).trans e) f0 f1 f3 f4 f5;have hpair:a9 X.K H ps[i] [kV (kvs[i]).1,(kvs[i]).2]:=iE hps (by omega) hlt;obtain⟨its2,rv2,⟨o2,ho2,hc2,n2,hd2⟩,_⟩:=I1.tuple ((sameD _).tup hpair);cases rv2 with
   | cons r1 rr =>
     cases rr with
     | cons r2 rr =>
       cases rr
       rename_i ku vu
       refine BB (C2 (BB (wpAny_tryCatch ?_)));show wpAny _ _ (Builtin.Dict.pairItems (.ref ps[i])) _ _ _;unfold Builtin.Dict.pairItems;refine BB (DI (T:="tuple") ⟨o2,ho2,hc2⟩ ?_);rw[BJ (by decide)];refine BB ?_;show wpAny _ _ (load ps[i] >>= _) _ _ _;refine BB (EV ho2 ?_);rw[hd2];refine BF (BF ?_);show wpAny _ _ (holding [ku,vu] (dictSet D ku vu)) _ _ _;refine C2 ?_;obtain⟨z,hd,vs,rel,dd⟩:=jI I1.hok a8;have hl1:=flen (kvs.take i) [];have hl2:(kvs.take i).length<=kvs.length:=by rw[Bd]; omega
       simp only[D7,Cz] at hl1;have hzv:vs.length<=sizeLine:=by rw[<- rel.length]; exact z
       refine wpAny_dictSet_pairs (hsz:=hzv) (gM r1) dd λh2 dd2 hs2=>?_;have he:∃q,h2.get? D=some q:=let ⟨q,_,_,hq,_⟩:=dd2; ⟨q,hq⟩
       have hl3:(aU ((kvs.take i).foldl (λacc kv=>aU acc kv.1 kv.2) []) (kvs[i]).1 (kvs[i]).2).length<=sizeLine:=by have:=cx ((kvs.take i).foldl (λacc kv=>aU acc kv.1 kv.2) []) (kvs[i]).1 (kvs[i]).2;omega
       have I2:=gj (t':=({ s with heap:=h' }:Shared).toks+1) I1 (by rw[a8]; exact True.intro) hs2 he (lX hl3 hd (rel.put (kvs[i]).1 r2) dd2);rw[kX] at I2;have e3:(kvs.take (i+1)).foldl (λacc kv=>aU acc kv.1 kv.2) []=aU ((kvs.take i).foldl (λacc kv=>aU acc kv.1 kv.2) []) (kvs[i]).1 (kvs[i]).2:=by rw[Bm,CG];simp [hlt]
       rw[<- e3] at I2;have hit2:h2.IsListIter it p (i+1):=by obtain⟨oi,hoi,ri⟩:=hit';exact⟨oi,(hs2.2 it hit0).trans hoi,ri⟩
       refine BF ⟨plainId_quiet jC _,?_⟩;have:=ih (i+1) 0 _ (by omega) (by omega) I2 hit2 hfp hHit;exact this
end
section
variable {X:Cx}
def vM (K:W.Frag):List V->Hp->VK->Prop:=λxs H Q=>∃(p:Addr) (ps:List Addr) (kvs:List (aD×V)),xs=[.ref p]/\aA K H p (ps.map V.ref)/\Paired (λa (kv:aD×V)=>a9 K H a [kV kv.1,kv.2]) ps kvs/\kvs.length<=100000 /\
 ∀d,H d=none->Q (.ref d) (upd H d (.dK (kvs.foldl (λacc kv=>aU acc kv.1 kv.2) [])))
theorem uE (hc:X.calm=true):bo X (.type "dict") (vM X.K):=by
 intro pins s σ H xs us Q I r h;obtain⟨p,ps,kvs,rfl,hS,hps,hz,q⟩:=h;obtain⟨u,rfl,ru⟩:=dj r;cases (show u=Value.ref p from ru);have hA:=I.ok.hd hc;have hD:H s.heap.objs.size=none:=I.hok.fresh (BG _);obtain⟨its,rv,pl,_⟩:=I.list hS;have hplt:p<s.heap.objs.size:=pl.lt;have I0:Inv X pins σ (upd H s.heap.objs.size (.dK [])) { s with heap:=s.heap.push { cls:=.type "dict",data:=.dict #[] } } :=
   I.laid (a:=s.heap.objs.size) (o:=.dK []) (t':=s.toks) (λ_ _ q=>BM _ q) (BG _) (ot s.heap I.big)
 refine callType_codes (Q₁:=λobj s₁=>obj=.ref s.heap.objs.size/\s₁={ s with heap:=s.heap.push { cls:=.type "dict",data:=.dict #[] } }) PySem.F.kt_called_dict (PySem.F.kt_typeCall_dict_1 _) PySem.F.entry_dict_init (kt_code_dict_new _ ⟨rfl,rfl⟩) ?_;rintro obj s₁ ⟨rfl,rfl⟩;have hnew:(s.heap.push { cls:=.type "dict",data:=.dict #[] }).DictOf (bY X.prog X.w) s.heap.objs.size []:=Heap.DictOf.new s.heap;refine⟨hnew.typeIs,PySem.F.args_dict_init_2 _ _,?_⟩;unfold Builtin.«dict.__init__»;refine BB ?_;unfold Builtin.Dict.selfAndRest;refine BB (wpAny_notOrdered_dict hnew.typeIs ?_);show wpAny _ _ (pure (s.heap.objs.size,[Value.ref p])) _ _ _;refine BF ?_;show wpAny _ _ (Builtin.Dict.updateFrom "dict.__init__" s.heap.objs.size (.ref p) [] .none) _ _ _;unfold Builtin.Dict.updateFrom;obtain⟨o,n,ho,hcl,hdi,hda⟩:=pl;have ho1:(s.heap.push { cls:=.type "dict",data:=.dict #[] }).get? p=some o:=BM _ ho;refine BB (DI (T:="list") ⟨o,ho1,hcl⟩ ?_);rw[BJ (by decide)];refine BB (vO (s:={ s with heap:=s.heap.push { cls:=.type "dict",data:=.dict #[] } }) ho1 hcl hda hdi hA λh' tk hk=>?_);have I1:Inv X pins σ (upd H s.heap.objs.size (.dK [])) { s with heap:=h',toks:=tk }:=I0.kept hk;rw[BJ (by rfl)];refine BB (EW ?_);have ho2:h'.get? p=some o:=hk _ _ ho1;refine BB (Cs (s:={ s with heap:=h',toks:=tk }) (items:=its.toArray) ⟨o,ho2,hcl,n,hda⟩ ?_);have I2:Inv X pins σ (upd H s.heap.objs.size (.dK [])) { s with heap:=h'.push { cls:=.type "list_iterator",data:=.fields #[.ref p,.int 0 0] },toks:=tk }:=I1.kept (t':=tk) λb o e=>BM _ e;have hsz:s.heap.objs.size<h'.objs.size:=by have e:(s.heap.push { cls:=.type "dict",data:=.dict #[] }).get? s.heap.objs.size=some { cls:=.type "dict",data:=.dict #[] }:=Bh _ rfl;exact BZ (hk _ _ e)
 have hit0:h'.objs.size≠s.heap.objs.size:=DB hsz;have hHit:H h'.objs.size=none:=I.hok.fresh (CL hsz);refine BF ⟨plainId_quiet jC _,?_⟩;refine uY (A:=X.A.in1) (it:=h'.objs.size) hA (Bu hplt) hS hps hD hz hit0 (λs' J=>⟨rfl,.ref s.heap.objs.size,_,J,rfl,q _ hD⟩) kvs.length 0 0 _ (by omega) (BW _) (by simpa using I2) ⟨_,Bh _ rfl,rfl,rfl⟩ (λH' hn=>I1.fpOk (BG _) hn) hHit
theorem pj:∀(xs:List V) (us:List Value),xs.length=us.length->(∀(i:Nat) (x:V) (u:Value),xs[i]?=some x->us[i]?=some u->aJ x u)->aI xs us
 | [],[],_,_=>.nil
 | [],_ :: _,h,_=>by simp at h
 | _ :: _,[],h,_=>by simp at h
 | x :: xs,u :: us,h,k=>.cons (k 0 x u rfl rfl) (pj xs us (by simpa using h) λi y v e1 e2=>k (i+1) y v (by simpa using e1) (by simpa using e2))
theorem pJ {P:Program} {w:World} {k:aD} {v:Value} (h:(bY P w).is k v=true):aJ (kV k) v:=by
 rcases dW (show fL k v=true from h) with⟨i,t,rfl,rfl⟩|⟨x,t,rfl,rfl⟩
 . exact⟨t,rfl⟩
 . exact⟨t,rfl⟩
theorem uj {P:Program} {w:World} {kvs:List (aD×V)} {vs:List (aD×Value)} {acc:Array Value} (rel:KV kvs vs) (h:ItemsOf (λi v=>∃k x,vs[i]?=some (k,x)/\(bY P w).is k v=true) acc vs.length) :
   aI (kvs.map λkv=>kV kv.1) acc.toList:=by
 have hl:=rel.length;have el:acc.toList.length=acc.size:=by simp
 have hlen:(kvs.map λkv=>kV kv.1).length=acc.toList.length:=by rw[BA,el,h.1]; exact hl
 refine pj _ _ hlen λi x u e1 e2=>?_;obtain⟨k,y,e3,e4⟩:=h.2 i u (by simpa using e2);rw[BI] at e1;cases e5:kvs[i]? with
 | none=>rw[e5] at e1; cases e1
 | some kv =>
   rw[e5] at e1;have e1:kV kv.1=x:=by simpa using e1
   have e6:kv.1=k:=by
     have h1:i<kvs.length:=(BC.mp e5).1;have h2:i<vs.length:=by omega
     have e7:=iE rel h1 h2;have e8:kvs[i]=kv:=by have:=BC.mp e5; exact this.2
     have e9:vs[i]=(k,y):=by have:=BC.mp e3; exact this.2
     rw[e8,e9] at e7;exact e7.1
   rw[<- e1,e6];exact pJ e4
theorem zi (hc:X.calm=true):bo X (.type "list") (λxs H Q=>∃d kvs,xs=[.ref d]/\H d=some (.dK kvs)/\∀l,H l=none->Q (.ref l) (upd H l (.lst (kvs.map λkv=>kV kv.1)))):=by intro pins s σ H xs us Q I r h;obtain⟨d,kvs,rfl,hd,q⟩:=h;obtain⟨u,rfl,ru⟩:=dj r;cases (show u=Value.ref d from ru);obtain⟨z,lo,vs,rel,dd⟩:=jI I.hok hd;have hlen:=rel.length;obtain⟨ep,dat⟩:∃ep,s.heap.DictAt (bY X.prog X.w) d vs ep:=dd.dictAt;refine PySem.W.kdl_call (PySem.W.kdl_dict (knd:=bY X.prog X.w) (kvs:=vs) (ep:=ep) lo) (I.ok.hd hc) dat (by rw[<- hlen]; exact z) λh' tk acc' c' hk hS hit=>?_;have hv:aI (kvs.map λkv=>kV kv.1) acc'.toList:=uj rel hit;refine⟨.ref s.heap.objs.size,_,I.laid (a:=s.heap.objs.size) (o:=.lst (kvs.map λkv=>kV kv.1)) hk (BG _) ⟨by rw[BA]; exact z,acc'.toList,c',hv,by simpa using hS⟩,rfl,q _ (I.hok.fresh (BG _))⟩
end
end L2
namespace L2
open PySem PySem.Spec PyProof.Rows PySem.W
section
variable {prog:Program} {w:World} {A:Around} {E:Value->Shared->Prop} {s:Shared} {δ:Type} {R:δ->Value->Prop} {a:Addr} {D:List (Str×δ)} {k:Str} {tk:Tok} {d:δ}
theorem pQ (T:KTD.TabOf R s.heap a D):s.TypeIs (.ref a) "dict":=let ⟨_,o,_,_,ho,hc,_⟩:=T; ⟨o,ho,hc.1⟩
theorem va {Q:Value->Shared->Prop} (T:KTD.TabOf R s.heap a D) (hd:KTD.datumAt k D=some d) (h:∀v,R d v->Q v { s with toks:=s.toks+1 }) :
   wpAny (model prog w) A (getItem (.ref a) (.str k tk)) Q E s:=by
 have ty:=pQ T;obtain⟨_,o,es,ep,ho,hc,hdt,hr⟩:=T;unfold getItem
 try with_reducible refine C2 ?_
 refine BB (E4 ty (by decide) ?_);refine BB (wpAny_callSpecial?_slot (name:=Str.ofString "__getitem__") ty slot_dict_getitem
   (CQ slot_dict_getitem ty entry_dict_getitem ?_ (args_dict_getitem _ _)))
 show wpAny _ _ (dictGet a (.str k tk) >>= _) _ _ s;refine BB ?_;unfold dictGet
 try with_reducible refine C2 ?_
 refine BB (EA (BB (KTD.kt_dictFind_strs (s:={ s with toks:=s.toks+1 }) ho hdt (by obtain⟨l⟩:=es; simpa using hr.exact) ?_)));have hq:∃v,findBy (λk v=>v.isStr k) es k=some v/\R d v:=by
   have hf:findBy (λk v=>v.isStr k) es k=(es.toList.find? λe=>e.key.isStr k).map (·.val):=by obtain⟨l⟩:=es;simp [findBy]
   rw[hf];exact hr.find_some hd
 obtain⟨v,hv,hR⟩:=hq;rw[findBy_of_findIdx?] at hv;cases hi:es.findIdx? λe=>e.key.isStr k with
 | none=>rw[hi] at hv; cases hv
 | some i =>
   rw[hi] at hv;have hv:es[i]?.map (·.val)=some v:=hv;refine BB (wpAny_dictEntries (s:={ s with toks:=s.toks+1 }) ho hdt (BF ?_));show wpAny _ _ _ _ _ _;rw[hv];exact BF ⟨v,rfl,BF (h v hR)⟩
end
def kh (K:W.Frag) (d:Addr) (rows:List (Str×List V)):Prop :=
 ∃(o:Obj) (es:Array DictEntry) (ep:Nat),K.lookup d=some o/\(d==sysModules)=false/\o.ExactDict/\o.data=.dict es ep/\KTD.Rows (λ(xs:List V) v=>∃a,v=.ref a/\∀H:Hp,a9 K H a xs) es.toList rows
def ul (K:W.Frag):R2:=λx y H Q=>∃d rows k xs,x=.ref d/\y=.str k/\kh K d rows/\KTD.datumAt k rows=some xs/\∀a,a9 K H a xs->Q (.ref a) H
theorem AJ {X:Cx}:cM X (ul X.K):=by
 intro value slice pins s σ H x y v u Q I rx ry h hs;obtain⟨d,rows,k,xs,rfl,rfl,⟨o,es,ep,ho,lo,hc,hd,hr⟩,hk,q⟩:=h;cases (show v=Value.ref d from rx);obtain⟨t,rfl⟩:=(show ∃t,u=Value.str k t from ry)
 have T:KTD.TabOf (λ(xs:List V) v=>∃a,v=.ref a/\∀H:Hp,a9 X.K H a xs) s.heap d rows:=⟨lo,o,es,ep,I.kIn d o ho,hc,hd,hr⟩
 refine tail_any (pQ T) slot_dict_getitem.lookup (va T hk λv hv=>?_) hs;obtain⟨a,rfl,hsq⟩:=hv;exact⟨.ref a,H,I.tok _,rfl,q a (hsq H)⟩
end L2
namespace L2
open PySem PySem.Spec PyProof.Rows
def kW:V->Value->Bool
 | .non,.none=>true
 | .bl b,.bool c=>b==c
 | .int i,.int j _=>i==j
 | .str x,.str y _=>x==y
 | _,_=>false
theorem ue:∀{x:V} {v:Value},kW x v=true->aJ x v:=by
 intro x v h;unfold kW at h;split at h
 . rfl
 . obtain rfl:=beq_iff_eq.mp h; rfl
 . obtain rfl:=beq_iff_eq.mp h; exact⟨_,rfl⟩
 . obtain rfl:=beq_iff_eq.mp h; exact⟨_,rfl⟩
 . cases h
def gW:List V->List Value->Bool
 | [],[]=>true
 | x :: xs,v :: vs=>kW x v&&gW xs vs
 | _,_=>false
theorem pL:∀{xs:List V} {vs:List Value},gW xs vs=true->aI xs vs
 | [],[],_=>.nil
 | x :: xs,v :: vs,h=>by simp only[gW,Bn] at h;exact .cons (ue h.1) (pL h.2)
 | [],_ :: _,h=>by simp [gW] at h
 | _ :: _,[],h=>by simp [gW] at h
def j3 (K:W.Frag) (xs:List V) (v:Value):Bool:=match v with
 | .ref a=>match K.lookup a with
   | some o=>o.cls==.type "tuple"&&(match o.data with | .seq its _=>decide (its.size<=sizeLine)&&gW xs its.toList|_=>false)
   | none=>false
 | _=>false
theorem yb {K:W.Frag} (xs:List V) (v:Value) (h:j3 K xs v=true):∃a,v=.ref a/\∀H:Hp,a9 K H a xs:=by
 unfold j3 at h;split at h
 . rename_i a
   split at h
   . rename_i o ho
     rw[Bn] at h;obtain⟨h1,h2⟩:=h;split at h2
     . rename_i its n hd
       rw[Bn] at h2;exact⟨a,rfl,λH=>.inr ⟨o,its,n,ho,beq_iff_eq.mp h1,hd,Bo h2.1,pL h2.2⟩⟩
     . cases h2
   . cases h
 . cases h
theorem zk {K:W.Frag} {d:Addr} {rows:List (Str×List V)} (h:KTD.tabLook (j3 K) (λa=>K.lookup a) d rows=true):kh K d rows:=by
 simp only[KTD.tabLook,Bn] at h;obtain⟨h0,hl⟩:=h;split at hl
 . rename_i o ho
   simp only[Bn] at hl;obtain⟨⟨⟨e1,e2⟩,e3⟩,e4⟩:=hl;split at e4
   . rename_i es ep hd
     exact⟨o,es,ep,ho,by simpa using h0,⟨beq_iff_eq.mp e1,by simpa using e2,by simpa using e3⟩,hd,KTD.rows_of_look yb e4⟩
   . cases e4
 . cases hl
end L2
namespace L2
open PySem
def qN:Expr->Option (List V)
 | .List es _=>i7 es
 | _=>none
def oy:Expr->Option (List V)
 | .Tuple es _ _=>i7 es
 | _=>none
theorem AG {X:Cx} {e:Expr} {vs:List V} (h:qN e=some vs):PE X e (nt λ_ H Q=>Q vs H):=by
 unfold qN at h;split at h
 . exact bd (m9 h)
 . cases h
theorem Ay {X:Cx} {e:Expr} {vs:List V} (h:oy e=some vs):PE X e (pI λ_ H Q=>Q vs H):=by
 unfold oy at h;split at h
 . exact aS (m9 h)
 . cases h
end L2
namespace L2
open PySem PySem.Spec PyProof.Rows
section
variable {prog:Program} {w:World} {A:Around} {E:Value->Shared->Prop} {s:Shared}
theorem zr {it t:Addr} {i:Nat} {items:Array Value} {x:Value} {Q:Value->Shared->Prop} (hit:s.heap.IsTupleIter it t i) (ht:s.heap.IsTuple t items) (hx:items[i]?=some x)
   (hQ:∀h',h'.IsTupleIter it t (i+1)->Heap.SameBut it s.heap h'->Q x { s with heap:=h' }):wpAny (model prog w) A (Builtin.SmallTypes.nextOf (.ref it)) Q E s:=by
 obtain⟨⟨o,ho,hc,hd⟩,⟨ol,hol,_,nl,hdl⟩⟩:=(⟨id hit,ht⟩:_/\_)
 unfold Builtin.SmallTypes.nextOf; refine BB (wpAny_callSpecial?_slot (name:=Str.ofString "__next__") hit.typeIs Ci (CQ Ci hit.typeIs Dy ?_ (Du _)));show wpAny (model prog w) _ (field (.ref it) 0 >>= _) _ _ s; refine BB (D5 ho hd (x:=.ref t) rfl ?_);show wpAny (model prog w) _ (if(Value.ref t==Value.none)=true then _ else _) _ _ s; rw[BE (by exact BO)];show wpAny (model prog w) _ (field (.ref it) 1 >>= _) _ _ s; refine BB (D5 ho hd (x:=.int i 0) rfl ?_);show wpAny (model prog w) _ (seqItems? (.ref t) >>= _) _ _ s; refine BB (EU hol hdl ?_); simp only[B',hx];refine BB (wpAny_setField ho hd (by simp) (BF ⟨x,rfl,BF (hQ _ ⟨_,Cw _ ho (Obj.isFreed_of_fields (Obj.data_mapFields hd _)),(Obj.cls_mapFields ..).trans hc,by rw[Obj.data_mapFields hd]; simp [rawInt]⟩ (Heap.SameBut.update ..))⟩))
theorem AA {it t:Addr} {i:Nat} {items:Array Value} {Q:Value->Shared->Prop} (hh:A.handled=none) (hit:s.heap.IsTupleIter it t i) (ht:s.heap.IsTuple t items) (hx:items[i]?=none)
   (hE:∀h' e,Heap.ExtBut it s.heap h'->(∃o,h'.get? e=some o/\o.cls=.type "StopIteration")->E (.ref e) { s with heap:=h' }):wpAny (model prog w) A (Builtin.SmallTypes.nextOf (.ref it)) Q E s:=by
 obtain⟨⟨o,ho,hc,hd⟩,⟨ol,hol,_,nl,hdl⟩⟩:=(⟨id hit,ht⟩:_/\_)
 unfold Builtin.SmallTypes.nextOf; refine BB (wpAny_callSpecial?_slot (name:=Str.ofString "__next__") hit.typeIs Ci (CQ Ci hit.typeIs Dy ?_ (Du _)));show wpAny (model prog w) _ (field (.ref it) 0 >>= _) _ _ s; refine BB (D5 ho hd (x:=.ref t) rfl ?_);show wpAny (model prog w) _ (if(Value.ref t==Value.none)=true then _ else _) _ _ s; rw[BE (by exact BO)];show wpAny (model prog w) _ (field (.ref it) 1 >>= _) _ _ s; refine BB (D5 ho hd (x:=.int i 0) rfl ?_);show wpAny (model prog w) _ (seqItems? (.ref t) >>= _) _ _ s; refine BB (EU hol hdl ?_); simp only[B',hx];refine BB (EW (BB (wpAny_setField ho hd (by simp) ?_))); show wpAny (model prog w) _ (newExc (.type "StopIteration") [] >>= _) _ _ _;refine BB ?_; simp only[newExc,newTuple]; refine BB (CW ?_ (by size_fits));refine BB (m:=firstArgMember _ _) (wpAny_of_eq (a:=Value.none) (by first|rfl|(simp only[firstArgMember]; rfl)) (CW ?_ (by size_fits)));simp only[raiseNew]; refine BB (wpAny_handled ?_); first|rw[show A.in1.handled=none from hh] | rw[hh]
 refine BB (BF (wpAny_throw (hE _ _ (((Heap.SameBut.update ..).extBut.push _).push _) ⟨_,Bh _ rfl,rfl⟩)))
end
variable {w:World}
theorem qc {prog:Program} {A:Around} (hh:A.handled=none) (it t:Addr) (hne:t≠it) (items:Array Value) :
   Draws prog w A it [it,t] items.size (λi v=>items[i]?=some v) (λi h=>h.IsTupleIter it t i/\h.IsTuple t items) where
 live:=λ_ _ ⟨⟨o,ho,_⟩,_⟩=>⟨o,ho⟩
 frame:=λ_ _ _ ⟨⟨o,ho,r⟩,⟨o2,ho2,r2⟩⟩ hk=>⟨⟨o,hk it (by simp) o ho,r⟩,⟨o2,hk t (by simp) o2 ho2,r2⟩⟩
 item:=λi s Q E hi ⟨s1,s2⟩ hQ=>zr s1 s2 (x:=items[i]) (by simp [hi]) λh' hit' hs'=>hQ _ h' s.toks (by simp [hi]) ⟨hit',s2.extBut hs'.extBut hne⟩ hs'
 done:=λs Q E ⟨s1,s2⟩ hE=>AA hh s1 s2 (by simp) hE
section
variable {X:Cx} {pins:List (Addr×Obj)} {σ:St} {H:Hp} {s:Shared} {h':Heap}
theorem Inv.turnedL {t':Nat} {ch:List Addr} (I:Inv X pins σ H s) (k:∀b o,b ∉ ch->s.heap.get? b=some o->h'.get? b=some o) (hf:∀b∈ch,dM X pins H b):Inv X pins σ H { s with heap:=h',toks:=t' }:=by
 have nit:∀b u,H b=some u->b ∉ ch:=λb u e z=>by rw[(hf b z).1] at e; cases e
 refine I.step (g':=s.gens) (d':=s.drawn) (ch:=ch) (λb hb=>⟨(hf b hb).2.2.2.1,(hf b hb).2.1,(hf b hb).2.2.2.2.1,(hf b hb).2.2.2.2.2⟩) (λb o _ _ hc e _=>k b o hc e) (λb o _ _ hc e _=>⟨o.slots,k b o hc e⟩) (λ_ _ _ _ n=>n) (λb o hc e=>⟨o,k b o hc e⟩) (λ_ _ e=>e) (λ_ _ _ e=>e) (λb ps e=>⟨#[],by rw[e]; simp⟩) (λm hm=>?_) (λb u e=>?_) I.bare
 . obtain⟨o,es,ep,ho,r⟩:=hm;exact⟨o,es,ep,k _ _ (λz=>(hf _ z).2.1 rfl) ho,r⟩
 . have key:∀c,c=b\/H c=some (.own b)->c ∉ ch:=λc hc=>by
     rcases hc with z|z
     . subst z; exact nit _ u e
     . exact nit c _ z
   exact(I.hok b u e).stay (λc v hc q=>k c v (key c hc) q) (λ_ q=>q) λ_ _ q=>q
theorem Inv.turnLaid {t':Nat} {ch:List Addr} {a:Addr} {o:HO} (I:Inv X pins σ H s) (k:∀b o,b ∉ ch->s.heap.get? b=some o->h'.get? b=some o) (hf:∀b∈ch,dM X pins H b) (hp:s.heap.objs.size<=a) (new:bH X.prog X.w (upd H a o) h' a o) :
   Inv X pins σ (upd H a o) { s with heap:=h',toks:=t' }:=by
 have nit:∀b u,H b=some u->b ∉ ch:=λb u e z=>by rw[(hf b z).1] at e; cases e
 have hn:H a=none:=I.hok.fresh hp;refine I.step (g':=s.gens) (d':=s.drawn) (ch:=ch) (λb hb=>⟨(hf b hb).2.2.2.1,(hf b hb).2.1,(hf b hb).2.2.2.2.1,(hf b hb).2.2.2.2.2⟩) (λb o _ _ hc e _=>k b o hc e) (λb o _ _ hc e _=>⟨o.slots,k b o hc e⟩) (λb u _ q n=>by rw[aH (λz=>by subst z; exact absurd (Bj (BZ q) hp) (C6 _))]; exact n) (λb o hc e=>⟨o,k b o hc e⟩) (λb xs q=>by rw[aH (bJ q hn)]; exact q) (λb u xs q=>by rw[aH (bJ q hn)]; exact q) (λb ps q=>⟨#[],by rw[aH (bJ q hn),q]; simp⟩) (λm hm=>?_) (λb u e=>?_) I.bare
 . obtain⟨o,es,ep,ho,r⟩:=hm;exact⟨o,es,ep,k _ _ (λz=>(hf _ z).2.1 rfl) ho,r⟩
 . by_cases hb:b=a
   . subst hb;rw[a8] at e;cases e;exact new
   . rw[aH hb] at e;have key:∀c,c=b\/H c=some (.own b)->c ∉ ch:=λc hc=>by
       rcases hc with z|z
       . subst z; exact nit _ u e
       . exact nit c _ z
     exact(I.hok b u e).stay (λc v hc q=>k c v (key c hc) q) (λc q=>(aH (bJ q hn)).trans q) λc xs q=>(aH (bJ q hn)).trans q
end
theorem yX (l:Addr) (items:Array Value) (n:Nat) (dct:Option Addr) (sl:Array (Option Value)) :
   Meets (Builtin.«enumerate.__new__» ⟨[.type "enumerate",.ref l],[]⟩) (λ_ R s=>s.heap.get? l=some { cls:=.type "tuple",dict:=dct,data:=.seq items n,slots:=sl } /\
     R (.ok (.ret (.ref (s.heap.push { cls:=.type "tuple_iterator",data:=.fields #[.ref l,.int 0 0] }).objs.size)))
       { s with heap:=(s.heap.push { cls:=.type "tuple_iterator",data:=.fields #[.ref l,.int 0 0] }).push { cls:=.type "enumerate",data:=.fields #[.none,.bool false,.ref s.heap.objs.size,rawInt 0,.none,.none] } }) :=
 .of_wp λprog w A R s h=>by
   obtain⟨h0,g0,d0,t0,o0⟩:=s;obtain⟨hl,h⟩:=h;have hsub:=sub_enumerate;have hL:Heap.IsTuple (Shared.heap ⟨h0,g0,d0,t0,o0⟩) l items:=⟨_,hl,rfl,n,rfl⟩
   wp_walk using AutoSeq1.wpAny_loadPart' hl
   refine wpAny_stack_any λst=>BF ?_;split
   . rename_i c _ _ _ _ _
     cases (c==Value.type "enumerate") <;> (wp_walk using AutoSeq1.wpAny_loadPart' hl,Dw hL; exact⟨_,rfl,h⟩)
   . wp_walk using AutoSeq1.wpAny_loadPart' hl,Dw hL; exact⟨_,rfl,h⟩
variable {l:Addr}
theorem vf {prog:Program} {A:Around} {E:Value->Shared->Prop} {s:Shared} {items:Array Value} {Q:Value->Shared->Prop} (hL:s.heap.IsTuple l items)
   (h:∀h',IsEnum h' (s.heap.objs.size+1) s.heap.objs.size 0 .none->h'.IsTupleIter s.heap.objs.size l 0->(∀b o,s.heap.get? b=some o->h'.get? b=some o)->Q (.ref (s.heap.objs.size+1)) { s with heap:=h' }) :
   wpAny (model prog w) A (call (.type "enumerate") [.ref l]) Q E s:=by
 obtain⟨⟨c,dct,dt,sl⟩,hl,hc,n,hd⟩:=hL;cases (show c=.type "tuple" from hc); cases (show dt=.seq items n from hd);refine callType_new F.called_enumerate (by decide) (F.typeCall_enumerate_1 _) (F.newCall_enumerate_1 _) (λobj=>F.args_object_init_2 obj _) F.entry_enumerate_new (yX l items n dct sl) ⟨hl,?_⟩;have hz:(s.heap.push { cls:=.type "tuple_iterator",data:=.fields #[.ref l,.int 0 0] }).objs.size=s.heap.objs.size+1:=DN ..;have he:IsEnum ((s.heap.push { cls:=.type "tuple_iterator",data:=.fields #[.ref l,.int 0 0] }).push { cls:=.type "enumerate",data:=.fields #[.none,.bool false,.ref s.heap.objs.size,rawInt 0,.none,.none] }) (s.heap.objs.size+1) s.heap.objs.size 0 .none:=by have e:=Bh (s.heap.push { cls:=.type "tuple_iterator",data:=.fields #[.ref l,.int 0 0] }) (o:={ cls:=.type "enumerate",data:=.fields #[.none,.bool false,.ref s.heap.objs.size,rawInt 0,.none,.none] }) rfl;rw[hz] at e;exact e
 show _/\_;rw[hz];exact⟨⟨_,he,rfl⟩,h _ he ⟨_,BM _ (Bh _ rfl),rfl,rfl⟩ λb o x=>BM _ (BM _ x)⟩
def hG (K:W.Frag) (a:Addr):It :=
 ⟨λi H=>∃xs x,a9 K H a xs/\xs[i]?=some x,λi H y H'=>∃b,y=.ref b/\H b=none/\∀xs x,a9 K H a xs->xs[i]?=some x->H'=upd H b (.tup [.int i,x]),λi H=>∃xs,a9 K H a xs/\xs.length=i⟩
variable {K:W.Frag} {elts:List Expr} {pos:Pos}
theorem vA {P:Program} {k:Nat} (a e it:Addr) (hne:e≠it):Turn P w K (.Tuple elts k pos) (hG K a) [e,it] e (λi h=>(∃old,IsEnum h e it i old)/\h.IsTupleIter it a i) where
 mem:=by simp
 obj:=λi h st b hb=>by
   obtain⟨⟨old,he⟩,⟨o,ho,hc,hd⟩⟩:=st;rcases Be.mp hb with z|z
   . subst z;exact⟨_,he,λv z=>by cases (show Data.fields _=Data.cell v from z)⟩
   . have z:b=it:=by simpa using z
     subst z;exact⟨o,ho,λv z=>by rw[hd] at z; cases z⟩
 keep:=λi h h' st kk=>by obtain⟨⟨old,he⟩,⟨o,ho,r⟩⟩:=st;exact⟨⟨old,kk e (by simp) _ he⟩,⟨o,kk it (by simp) o ho,r⟩⟩
 item:=by
   intro X hP hw hK hc i pins s σ H E I hf st hg;subst hP hw hK;obtain⟨⟨old,he⟩,hit⟩:=st;obtain⟨xs,x,hq,hx⟩:=hg;obtain⟨its,rv,p,hz⟩:=I.tuple hq;have pt:s.heap.IsTuple a its.toArray:=p;obtain⟨u,hu,ru⟩:=rv.get hx;have hia:a≠it:=λz=>by
     subst z;obtain⟨o1,h1,c1,_⟩:=hit;obtain⟨o2,h2,c2,_⟩:=pt;rw[h1] at h2;cases h2;rw[c1] at c2;injection c2 with c2
     exact absurd c2 (by decide)
   have hea:e ∉ [it,a]:=λz=>by
     rcases Be.mp z with z|z
     . exact hne z
     . have z:e=a:=by simpa using z
       subst z;obtain⟨o2,h2,c2,_⟩:=pt;rw[he] at h2;cases h2;injection (show Value.type "enumerate"=Value.type "tuple" from c2) with c2
       exact absurd c2 (by decide)
   have hlt:i<its.toArray.size:=by have:=(BC.mp hu).1;simpa using this
   refine EH (qc (A:=X.A.in1) (I.ok.hd hc) it a hia its.toArray) he ⟨hit,pt⟩ hlt hne hea λy h' tk hy hout hst hT hsz hk=>?_;refine⟨_,rfl,E2 hout λh2 he2 hs2=>?_⟩;have hs2:Heap.SameBut e h' h2:=hs2;have hyu:y=u:=by
     have hy:its.toArray[i]?=some y:=hy;have:its[i]?=some y:=by simpa using hy
     rw[hu] at this;exact(Option.some.inj this).symm
   subst hyu;have helt:e<s.heap.objs.size:=BZ he;have hfr:H s.heap.objs.size=none:=I.hok.fresh (BG _);have hnS:s.heap.objs.size≠e:=DB helt;have hT2:h2.get? s.heap.objs.size=some { cls:=.type "tuple",data:=.seq #[.int i tk,y] }:=(hs2.2 _ hnS).trans hT;refine⟨.ref s.heap.objs.size,upd H s.heap.objs.size (.tup [.int i,x]),I.turnLaid (t':=tk+1) (ch:=[e,it]) (λb o hb q=>?_) hf (BG _) ?_,rfl,⟨s.heap.objs.size,rfl,hfr,λxs' x' hq' hx'=>?_⟩,⟨⟨y,by exact_mod_cast he2⟩,?_⟩,λb hb=>?_⟩
   . have h1:b≠e:=λz=>hb (by simp [z]);have h3:b≠it:=λz=>hb (by simp [z]);exact(hs2.2 b h1).trans (hk b o h1 h3 q)
   . exact⟨by show 2<=sizeLine; decide,[.int i tk,y],.cons ⟨tk,rfl⟩ (.cons ru .nil),⟨_,hT2,rfl,_,rfl⟩⟩
   . have:=I.tuple_inj hq' hq;subst this;rw[hx] at hx';cases hx';rfl
   . obtain⟨⟨o,ho,r⟩,_⟩:=hst;exact⟨o,(hs2.2 it hne.symm).trans ho,r⟩
   . have hb0:=(hf b hb).1;rw[aH]
     . exact hb0
     . intro z;subst z;obtain⟨o,ho,_⟩:=hit;rcases Be.mp hb with z|z
       . exact hnS z
       . have z:s.heap.objs.size=it:=by simpa using z
         exact absurd (BZ ho) (by rw[<- z]; exact C6 _)
 done:=by
   intro X hP hw hK hc i pins s σ H E I hf st hg;subst hP hw hK;obtain⟨⟨old,he⟩,hit⟩:=st;obtain⟨xs,hq,hx⟩:=hg;obtain⟨its,rv,p,hz⟩:=I.tuple hq;have pt:s.heap.IsTuple a its.toArray:=p;have hl:=rv.length;have hia:a≠it:=λz=>by
     subst z;obtain⟨o1,h1,c1,_⟩:=hit;obtain⟨o2,h2,c2,_⟩:=pt;rw[h1] at h2;cases h2;rw[c1] at c2;injection c2 with c2
     exact absurd c2 (by decide)
   have hi:i=its.toArray.size:=by simp; omega
   refine wpAny_pyNext_enum_endD (qc (A:=X.A.in1) (I.ok.hd hc) it a hia its.toArray) he (by rw[<- hi]; exact⟨hit,pt⟩) λh' eb=>⟨rfl,?_⟩
   exact I.turnedL (t':=s.toks) (ch:=[e,it]) (λb o hb q=>eb b o (λz=>hb (by simp [z])) q) hf
 self:=λ_ _ _ _ _ st h=>by obtain⟨⟨old,he⟩,_⟩:=st;exact DT he h
variable {tb:TS} {σ:St} {H:Hp}
section
variable {X:Cx}
theorem qh:bootBuiltins "enumerate"=some (.type "enumerate"):=vD
def u0 (K:W.Frag) (ta:TA):TI:=λσ H R=>ta σ H λvs H1=>∃a,vs=[.ref a]/\(∃xs,a9 K H1 a xs)/\R (hG K a) H1
theorem mj {a:Expr} {ta:TA} {p tpos:Pos}{k:Nat} (hg:Gl X "enumerate") (hm:X.mg "enumerate"=none) (ha:PA X [a] ta) (hs:starEach [a] X.env=[(false,eval a X.env)]:=by rfl):PI X (.Tuple elts k tpos) (.Call (.Name "enumerate" p) [a] [] pos) (u0 X.K ta):=by
 intro pins s σ H R I h;refine Call_ (eY I hg hm qh (CK (aF (ha pos pins s σ H _ I h) λus s1 ⟨vs,H1,I1,r1,q1⟩=>?_) hs rfl));obtain⟨a,e,⟨xs,hq⟩,q⟩:=q1;subst e;cases r1 with
 | cons r rr =>
   cases rr;cases r;obtain⟨its,rv,p,hz⟩:=I1.tuple hq;refine vf (show s1.heap.IsTuple a its.toArray from p) λh' he hit hk=>?_;refine DT he ?_;refine⟨s1.heap.objs.size+1,[s1.heap.objs.size+1,s1.heap.objs.size],_,_,H1,rfl,I1.kept (t':=s1.toks) hk,vA a (s1.heap.objs.size+1) s1.heap.objs.size (Nat.succ_ne_self _),⟨⟨.none,he⟩,hit⟩,λb hb=>?_,q⟩;rcases Be.mp hb with z|z
   . subst z;exact I1.fpOk (Cr _) (I1.hok.fresh (Cr _))
   . have z:b=s1.heap.objs.size:=by simpa using z
     subst z;exact I1.fpOk (BG _) (I1.hok.fresh (BG _))
theorem ox {a:Addr} {xs:List V} {g:TG} {D:Ends} (Pv:Nat->St->Hp->Prop) (h0:Pv 0 σ H) (hl:∀i σ H,i<=xs.length->Pv i σ H->a9 K H a xs)
   (hs:∀i x σ H b,xs[i]?=some x->Pv i σ H->H b=none->g (.ref b) σ (upd H b (.tup [.int i,x])) λσ2 H2=>tb { D with nx:=Pv (i+1),ct:=Pv (i+1),bk:=D.nx } σ2 H2) (hd:∀σ H,Pv xs.length σ H->D.nx σ H) :
   ∃W:Nat->Nat->St->Hp->Prop,(∃m,W 0 m σ H)/\∀i m σ H,W i m σ H->((hG K a).stop i H/\D.nx σ H)\/((hG K a).go i H/\∃N:St->Hp->Prop,(∀σ' H',N σ' H'->∃m',m'<m/\W (i+1) m' σ' H')/\∀x H',(hG K a).yld i H x H'->g x σ H' λσ2 H2=>tb { D with nx:=N,ct:=N,bk:=D.nx } σ2 H2):=by
 refine⟨λi m σ H=>m=xs.length - i/\i<=xs.length/\Pv i σ H,⟨xs.length,by simp,BW _,h0⟩,?_⟩;rintro i m σ H ⟨rfl,hi,p⟩;have q:=hl i σ H hi p;by_cases hlt:i<xs.length
 . refine .inr ⟨⟨xs,xs[i],q,by simp [hlt]⟩,Pv (i+1),λσ' H' p'=>⟨xs.length - (i+1),by omega,rfl,hlt,p'⟩,λx H' y=>?_⟩;obtain⟨b,rfl,hb,y⟩:=y;rw[y xs xs[i] q (by simp [hlt])];exact hs i xs[i] σ H b (by simp [hlt]) p hb
 . have e:i=xs.length:=by omega
   subst e;exact .inl ⟨⟨xs,q,rfl⟩,hd σ H p⟩
end
section
variable {X:Cx} {pins:List (Addr×Obj)} {σ:St} {H:Hp} {s:Shared}
theorem Inv.freeze {d:Addr} {kvs:List (aD×V)} (I:Inv X pins σ H s) (e:H d=some (.dK kvs)):∃o,s.heap.get? d=some o/\Inv X pins σ (upd H d (.frz o (.dK kvs))) s:=by
 obtain⟨z,hd,vs,rel,⟨o,es,ep,ho,r⟩⟩:=I.hok d _ e;refine⟨o,ho,?_⟩;have nd:∀b u,H b=some u->u≠.dK kvs->b≠d:=λb u q n z=>by subst z;rw[e] at q;cases q;exact n rfl
 refine I.step (g':=s.gens) (t':=s.toks) (d':=s.drawn) (h':=s.heap) (ch:=[]) (λ_ z=>nomatch z) (λb o _ _ _ q _=>q) (λb o _ _ _ q _=>⟨o.slots,q⟩) (λb o _ _ n=>?_) (λb o _ q=>⟨o,q⟩) (λb xs q=>?_) (λb o u q=>?_) (λb ps q=>⟨#[],?_⟩) (λm hm=>hm) (λb u q=>?_) I.bare
 . rw[aH (λz=>by subst z; rw[e] at n; cases n)];exact n
 . rw[aH (nd b _ q (by intro z; cases z))];exact q
 . rw[aH (nd b _ q (by intro z; cases z))];exact q
 . rw[aH (nd b _ q (by intro z; cases z)),q];simp
 . have own:∀c b,H c=some (.own b)->(upd H d (.frz o (.dK kvs))) c=some (.own b):=λc b q=>(aH (nd c _ q (by intro z; cases z))).trans q;have tup:∀c xs,H c=some (.tup xs)->(upd H d (.frz o (.dK kvs))) c=some (.tup xs):=λc xs q=>(aH (nd c _ q (by intro z; cases z))).trans q;by_cases hb:b=d
   . subst hb;rw[a8] at q;cases q;exact⟨ho,(I.hok _ _ e).stay (λ_ _ _ q=>q) (λc q=>own c _ q) tup⟩
   . rw[aH hb] at q;exact(I.hok b u q).stay (λ_ _ _ q=>q) (λc q=>own c _ q) tup
end
theorem AS:entryFor table "dict_itemiterator.__iter__"=some Builtin.«dict_keyiterator.__iter__»:=entryFor_alias (id':="dict_keyiterator.__iter__") (by kernel_rfl) (by first|rfl|decide +kernel|(unfold String.splitOn; simp +decide [String.splitOnAux])) (by decide +kernel) (by kernel_rfl)
def fI (o:Obj) (d:Addr) (kvs:List (aD×V)):It :=
 ⟨λi H=>H d=some (.frz o (.dK kvs))/\i<kvs.length,λi H y H'=>∃b,y=.ref b/\H b=none/\∀kv,kvs[i]?=some kv->H'=upd H b (.tup [kV kv.1,kv.2]),λi H=>H d=some (.frz o (.dK kvs))/\i=kvs.length⟩
theorem la {X:Cx} {pins:List (Addr×Obj)} {s:Shared} {o:Obj} {d:Addr} {kvs:List (aD×V)} (I:Inv X pins σ H s) (e:H d=some (.frz o (.dK kvs))) {es0:Array DictEntry} {ep:Nat} (hep:o.data=.dict es0 ep) :
   ∃vs,KV kvs vs/\s.heap.DictAt (bY X.prog X.w) d vs ep:=by
 obtain⟨h1,z,hd,vs,rel,⟨o',es,ep',ho,hx,hdat,r⟩⟩:=I.hok d _ e;rw[h1] at ho;cases ho;rw[hep] at hdat;cases hdat;exact⟨vs,rel,o,es0,h1,hx,hep,r⟩
theorem vi {P:Program} {k:Nat} (o:Obj) (d it:Addr) (kvs:List (aD×V)) (es0:Array DictEntry) (ep:Nat) (hep:o.data=.dict es0 ep) :
   Turn P w K (.Tuple elts k pos) (fI o d kvs) [it] it (λi h=>∃ok ov,IsItemIter h it d i kvs.length ep ok ov) where
 mem:=by simp
 obj:=λi h st b hb=>by
   obtain⟨ok,ov,he⟩:=st;have z:b=it:=by simpa using hb
   subst z;exact⟨_,he,λv z=>by cases (show Data.fields _=Data.cell v from z)⟩
 keep:=λi h h' st kk=>by obtain⟨ok,ov,he⟩:=st;exact⟨ok,ov,kk it (by simp) _ he⟩
 item:=by
   intro X hP hw hK hc i pins s σ H E I hf st hg;subst hP hw hK;obtain⟨ok,ov,he⟩:=st;obtain⟨hfz,hi⟩:=hg;obtain⟨vs,rel,hD⟩:=la I hfz hep;have hlen:kvs.length=vs.length:=KV.length rel;have hi':i<vs.length:=by omega
   have rk:kvs[i].1=vs[i].1/\aJ kvs[i].2 vs[i].2:=iE rel hi hi';refine wpAny_pyNext_items_item (knd:=bY X.prog X.w) (k:=vs[i].1) (v:=vs[i].2) (kvs:=vs) (by rw[<- hlen]; exact he) hD (by simp [hi']) λkey h' hkey hout hT hsz hk=>?_;refine⟨_,rfl,wpAny_letOwnedTupleGo_items hout λh2 he2 hs2=>?_⟩;have hs2:Heap.SameBut it h' h2:=hs2;have hilt:it<s.heap.objs.size:=BZ he;have hnS:s.heap.objs.size≠it:=DB hilt;have hfr:H s.heap.objs.size=none:=I.hok.fresh (BG _);have hT2:h2.get? s.heap.objs.size=some { cls:=.type "tuple",data:=.seq #[key,vs[i].2] }:=(hs2.2 _ hnS).trans hT;refine⟨.ref s.heap.objs.size,upd H s.heap.objs.size (.tup [kV kvs[i].1,kvs[i].2]),I.turnLaid (t':=s.toks) (ch:=[it]) (λb o hb q=>?_) hf (BG _) ?_,rfl,⟨s.heap.objs.size,rfl,hfr,λkv hkv=>?_⟩,⟨_,_,by rw[hlen]; exact he2⟩,λb hb=>?_⟩
   . have h1:b≠it:=λz=>hb (by simp [z]);exact(hs2.2 b h1).trans (hk b o h1 q)
   . exact⟨by show 2<=sizeLine; decide,[key,vs[i].2],.cons (by rw[rk.1]; exact pJ hkey) (.cons rk.2 .nil),⟨_,hT2,rfl,_,rfl⟩⟩
   . have:kvs[i]=kv:=by simpa [hi] using hkv
     rw[<- this]
   . have z:b=it:=by simpa using hb
     subst z;rw[aH hnS.symm];exact(hf _ hb).1
 done:=by
   intro X hP hw hK hc i pins s σ H E I hf st hg;subst hP hw hK;obtain⟨ok,ov,he⟩:=st;obtain⟨hfz,hi⟩:=hg;obtain⟨vs,rel,hD⟩:=la I hfz hep;have hlen:kvs.length=vs.length:=KV.length rel;refine wpAny_pyNext_items_end (knd:=bY X.prog X.w) (kvs:=vs) (I.ok.hd hc) (by rw[<- hlen]; exact he) hD (by simp; omega) λh' eb=>⟨rfl,?_⟩
   exact I.turnedL (t':=s.toks) (ch:=[it]) (λb o hb q=>eb b o (λz=>hb (by simp [z])) q) hf
 self:=λA i s Q E st h=>by
   obtain⟨ok,ov,he⟩:=st;have hT:s.TypeIs (.ref it) "dict_itemiterator":=⟨_,he,rfl⟩
   exact wpAny_pyIter_slot hT Do (CQ Do hT AS (show wpAny _ _ (ret (.ref it)) _ _ s from BF ⟨_,rfl,"dict_itemiterator",_,hT,F.slot_dict_itemiterator_next.lookup,h⟩) (F.args_dict_itemiterator_iter_1 _))
section
variable {X:Cx}
def vh (td:TE):TI:=λσ H R=>td σ H λx H1=>∃d kvs,x=.ref d/\((H1 d=some (.dK kvs)/\∀o,R (fI o d kvs) (upd H1 d (.frz o (.dK kvs))))\/∃o,H1 d=some (.frz o (.dK kvs))/\R (fI o d kvs) H1)
theorem pA {l:Expr} {td:TE} {apos cpos tpos:Pos} {k:Nat} (hl:PE X l td) (hbase:attributeBase l "items" X.env (eval l X.env)=eval l X.env:=by rfl) (hline:(apos.endLine==cpos.line)=true:=by rfl) :
   PI X (.Tuple elts k tpos) (.Call (.Attribute l "items" apos) [] [] cpos) (vh td):=by
 intro pins s σ H R I h;refine EG hbase hline (aF (hl pins s σ H _ I h) λv s1 ⟨x,H1,I1,r1,q1⟩=>?_);obtain⟨d,kvs,rfl,q1⟩:=q1;cases r1;have key:∃o H2,Inv X pins σ H2 s1/\H2 d=some (.frz o (.dK kvs))/\R (fI o d kvs) H2:=by
   rcases q1 with⟨e,q⟩|⟨o,e,q⟩
   . obtain⟨o,ho,I2⟩:=I1.freeze e;exact⟨o,_,I2,a8,q o⟩
   . exact⟨o,H1,I1,e,q⟩
 obtain⟨o,H2,I2,e2,q⟩:=key;obtain⟨ho,z,hd,vs,rel,dd⟩:=I2.hok d _ e2;obtain⟨o',es,ep,ho',hx,hdat,r⟩:=id dd;rw[ho] at ho';cases ho';refine⟨"dict","dict.items",EI,EJ,PySem.F.type_dict_items,dd.typeIs,λb q=>?_,Calls.callWith_builtin rfl (PySem.evalArgs_none ?_)⟩
 . cases q;exact⟨o,ho,hx.2.1⟩
 refine call_meetsIn EJ dd.typeIs PySem.F.entry_dict_items (PySem.F.args_dict_items_1 _) (meets_dict_items (bY X.prog X.w) d hd) ⟨⟨vs,dd⟩,?_⟩;have I3:Inv X pins σ H2 { s1 with heap:=s1.heap.push { cls:=.type "dict_items",data:=.fields #[.ref d] } }:=I2.kept (t':=s1.toks) λb o e=>BM _ e;obtain⟨vs3,rel3,hD3⟩:=la I3 e2 hdat;refine wpAny_pyIter_items (knd:=bY X.prog X.w) (kvs:=vs3) (ep:=ep) ⟨_,Bh _ rfl,rfl,rfl⟩ hD3 ?_;have hlen:kvs.length=vs3.length:=KV.length rel3;rw[<- hlen];generalize hh3:s1.heap.push { cls:=.type "dict_items",data:=.fields #[.ref d] }=h3 at I3 ⊢;refine⟨h3.objs.size,[h3.objs.size],_,_,H2,rfl,I3.kept (t':=s1.toks) λb o e=>BM _ e,vi o d h3.objs.size kvs es ep hdat,⟨_,_,Bh _ rfl⟩,λb hb=>?_,q⟩;have z:b=h3.objs.size:=by simpa using hb
 subst z;exact I3.fpOk (BG _) (I3.hok.fresh (BG _))
theorem mX {o:Obj} {d:Addr} {kvs:List (aD×V)} {g:TG} {D:Ends} (Pv:Nat->St->Hp->Prop) (h0:Pv 0 σ H) (hl:∀i σ H,i<=kvs.length->Pv i σ H->H d=some (.frz o (.dK kvs)))
   (hs:∀i kv σ H b,kvs[i]?=some kv->Pv i σ H->H b=none->g (.ref b) σ (upd H b (.tup [kV kv.1,kv.2])) λσ2 H2=>tb { D with nx:=Pv (i+1),ct:=Pv (i+1),bk:=D.nx } σ2 H2) (hd:∀σ H,Pv kvs.length σ H->D.nx σ H) :
   ∃W:Nat->Nat->St->Hp->Prop,(∃m,W 0 m σ H)/\∀i m σ H,W i m σ H->((fI o d kvs).stop i H/\D.nx σ H)\/((fI o d kvs).go i H/\∃N:St->Hp->Prop,(∀σ' H',N σ' H'->∃m',m'<m/\W (i+1) m' σ' H')/\∀x H',(fI o d kvs).yld i H x H'->g x σ H' λσ2 H2=>tb { D with nx:=N,ct:=N,bk:=D.nx } σ2 H2):=by
 refine⟨λi m σ H=>m=kvs.length - i/\i<=kvs.length/\Pv i σ H,⟨kvs.length,by simp,BW _,h0⟩,?_⟩;rintro i m σ H ⟨rfl,hi,p⟩;have q:=hl i σ H hi p;by_cases hlt:i<kvs.length
 . refine .inr ⟨⟨q,hlt⟩,Pv (i+1),λσ' H' p'=>⟨kvs.length - (i+1),by omega,rfl,hlt,p'⟩,λx H' y=>?_⟩;obtain⟨b,rfl,hb,y⟩:=y;rw[y kvs[i] (by simp [hlt])];exact hs i kvs[i] σ H b (by simp [hlt]) p hb
 . have e:i=kvs.length:=by omega
   subst e;exact .inl ⟨⟨q,rfl⟩,hd σ H p⟩
end
section
variable {X:Cx} {o e f:Expr} {apos cpos:Pos} {td ty tx:TE}
def wR (td ty tx:TE):TE:=λσ H Q=>td σ H λx H1=>∃a,x=.ref a/\IsD H1 a/\ty σ H1 λy H2=>tx σ H2 λz H3=>∃kvs k,H3 a=some (.dK kvs)/\y=kV k/\kvs.length<sizeLine /\
 (∀v,aw kvs k=some v->Q v H3)/\(aw kvs k=none->Q z (upd H3 a (.dK (aU kvs k z))))
theorem AY (ho:PE X o td) (he:PE X e ty) (hf:PE X f tx) (m:M2 X o "setdefault" apos e f cpos):PE X (.Call (.Attribute o "setdefault" apos) [e,f] [] cpos) (wR td ty tx):=by
 intro pins s σ H Q I h;refine wpAny_Call_method m.base m.few m.line EI Dv PySem.F.type_dict_setdefault (aF (ho pins s σ H _ I h) λu s1 ⟨x,H1,I1,rx,a,ex,d,q1⟩=>?_);subst ex;obtain rfl:u=Value.ref a:=rx;obtain⟨t1,t2,_⟩:=yP I1 d;refine⟨t1,t2,?_⟩;rw[m.trees];refine Calls.callWith_builtin rfl (Calls.evalArgs_plain (Calls.spliced_cons (aF (he pins s1 σ H1 _ I1 q1) λiv s2 ⟨y,H2,I2,ry,q2⟩=>Calls.spliced_cons (aF (hf pins s2 σ H2 _ I2 q2) λfv s3 ⟨z,H3,I3,rz,kvs,k,ea,ey,hl,q3,q4⟩=>Calls.spliced_nil ?_))));subst ey;obtain⟨hz,hd,vs,rel,dd⟩:=jI I3.hok ea;refine call_meetsIn Dv dd.typeIs PySem.F.entry_dict_setdefault (PySem.F.args_dict_setdefault_3 _ _ _) (kt_meets_setdefault (bY X.prog X.w) a (gM ry) hd fv) ⟨vs,dd,by rw[<- rel.length]; exact hz,λv hv=>?_,λhn h' dd' hs=>?_⟩
 . have rv:=rel.val k;rw[hv] at rv;cases l:aw kvs k with
   | none=>rw[l] at rv; exact absurd rv (by intro z; cases z)
   | some v' =>
     rw[l] at rv;exact⟨v',H3,I3.tok _,rv,q3 v' l⟩
 . have rv:=rel.val k;rw[hn] at rv;have l:aw kvs k=none:=by
     cases l:aw kvs k with
     | none=>rfl
     | some v'=>rw[l] at rv; exact absurd rv (by intro z; cases z)
   have hex:∃q,h'.get? a=some q:=let ⟨q,_,_,hq,_⟩:=dd'; ⟨q,hq⟩
   have hlp:(aU kvs k z).length<=sizeLine:=by have:=cx kvs k z; omega
   exact⟨z,_,gj I3 (by rw[ea]; exact True.intro) hs hex (lX hlp hd (rel.put k rz) dd'),rz,q4 l⟩
end
def gz (hi:Int) (n:Nat):It:=⟨λi _=>i<n,λi H x H'=>H'=H/\x=.int (hi - i),λi _=>n<=i⟩
theorem x5 {P:Program} {tg:Expr} (it:Addr) (hi:Int) (n:Nat):Turn P w K tg (gz hi n) [it] it (λi h=>IsRangeIter h it (hi+(i:Nat) * (-1)) ((n:Int) - (i:Nat)) (-1)) where
 mem:=by simp
 obj:=λi h st b hb=>by
   have e:b=it:=by simpa using hb
   subst e;exact⟨_,st,λv z=>by cases (show Data.fields _=Data.cell v from z)⟩
 keep:=λi h h' st k=>k it (by simp) _ st
 item:=by
   intro X hP hw hK hc i pins s σ H E I hf st hg;subst hP hw hK;refine(Walks.range (prog:=X.prog) (w:=X.w) (I.ok.hd hc) it hi (-1) n).item i s _ _ hg st λv h' tk hv st' kk=>?_;obtain⟨t,rfl⟩:=hv;have I1:Inv X pins σ H { s with heap:=h',toks:=tk }:=I.turnedL (ch:=[it]) (λb o hb e=>kk b o hb e) hf;have e:hi+(i:Int) * (-1)=hi - (i:Int):=by omega
   exact⟨_,rfl,jE (s:={ s with heap:=h',toks:=tk }) (n:="range_iterator") st' rfl rfl (by decide) ⟨.int (hi - i),H,I1,⟨t,by rw[e]⟩,⟨rfl,rfl⟩,st',λb hb=>(hf b hb).1⟩⟩
 done:=by intro X hP hw hK hc i pins s σ H E I hf st hg;subst hP hw hK;exact wpAny_pyNext_range_end (I.ok.hd hc) st (by have:n<=i:=hg; omega) λh' eb=>⟨rfl,I.turnedL (t':=s.toks) (ch:=[it]) (λb o hb e=>eb b o (λz=>hb (by simp [z])) e) hf⟩
 self:=λ_ _ _ _ _ st h=>wpAny_pyIter_rangeiter st h
theorem nZ (a b:Int):Builtin.Range.rangeSize a b (-1)=if b<a then a - b else 0:=by
 unfold Builtin.Range.rangeSize;rw[BE (by decide)];have:(-(-1):Int)=1:=by decide
 rw[this];rw[Int.ediv_one];by_cases h:b<a
 . rw[BJ h,BJ h]; omega
 . rw[BE h,BE h]
theorem w5 {a b:Int} (ha:-(2 ^ 60)<=a) (ha':a<2 ^ 60) (hb:-(2 ^ 60)<=b) (hb':b<2 ^ 60):Builtin.Range.small a b (-1)=true:=by
 unfold Builtin.Range.small;rw[nZ];simp only[Builtin.Range.rangeFitsLong,Bn,Cp,BL,E8,show ¬ ((-1:Int) > 0) by decide,if_false];by_cases h:b<a
 . simp only[BJ h]; omega
 . simp only[BE h]; omega
variable {n:Nat}
section
variable {X:Cx} {tg:Expr}
def A2 (ta:TA):TI:=λσ H R=>ta σ H λvs H1=>∃i j:Int,vs=[.int i,.int j,.int (-1)]/\(-(2 ^ 60)<=i/\i<2 ^ 60/\-(2 ^ 60)<=j/\j<2 ^ 60)/\R (gz i (i - j).toNat) H1
theorem vW {a b c:Expr} {ta:TA} {p:Pos}(hg:Gl X "range") (hm:X.mg "range"=none) (ha:PA X [a,b,c] ta) (hs:starEach [a,b,c] X.env=(false,eval a X.env) :: starEach [b,c] X.env:=by rfl) (hs2:(backTo pos (starEach [b,c] X.env)).any (·.1)=false:=by rfl) :
   PI X tg (.Call (.Name "range" p) [a,b,c] [] pos) (A2 ta):=by
 intro pins s σ H R I h;refine Call_ (eY I hg hm boot_range (CK (aF (ha pos pins s σ H _ I h) λus s1 ⟨vs,H1,I1,r1,q1⟩=>?_) hs hs2));obtain⟨i,j,e,⟨q1,q2,q3,q4⟩,q⟩:=q1;subst e;cases r1 with
 | cons r rr =>
   cases rr with
   | cons r' rr =>
     cases rr with
     | cons r'' rr =>
       cases rr;obtain⟨t,rfl⟩:=r;obtain⟨t',rfl⟩:=r';obtain⟨t'',rfl⟩:=r'';refine call_range_3 (by decide) ?_ (.inl (PyProof.noPylong_small (by omega)));refine wpAny_pyIter_range (IsRange.new ..) (w5 q1 q2 q3 q4) ?_;have I2:Inv X pins σ H1 { s1 with heap:=s1.heap.push { cls:=.type "range",data:=.fields #[.int i t,.int j t',.int (-1) t''] },toks:=s1.toks }:=I1.kept λb o e=>BM _ e;refine⟨_,[(s1.heap.push { cls:=.type "range",data:=.fields #[.int i t,.int j t',.int (-1) t''] }).objs.size],_,_,H1,rfl,I2.kept (t':=s1.toks) λb o e=>BM _ e,x5 _ i (i - j).toNat,?_,λb hb=>?_,q⟩
       . have e1:i+((0:Nat):Int) * (-1)=i:=by omega
         have e2:(((i - j).toNat:Nat):Int) - ((0:Nat):Int)=Builtin.Range.rangeSize i j (-1):=by rw[nZ]; split <;> omega
         show IsRangeIter _ _ (i+((0:Nat):Int) * (-1)) ((((i - j).toNat:Nat):Int) - ((0:Nat):Int)) (-1);rw[e1,e2];exact Bh _ rfl
       . have e:b=(s1.heap.push { cls:=.type "range",data:=.fields #[.int i t,.int j t',.int (-1) t''] }).objs.size:=by simpa using hb
         subst e;exact I2.fpOk (BG _) (I2.hok.fresh (BG _))
theorem vR {hi:Int} {g:TG} {D:Ends} (Pv:Nat->St->Hp->Prop) (h0:Pv 0 σ H) (hs:∀i σ H,i<n->Pv i σ H->g (.int (hi - i)) σ H λσ2 H2=>tb { D with nx:=Pv (i+1),ct:=Pv (i+1),bk:=D.nx } σ2 H2) (hd:∀σ H,Pv n σ H->D.nx σ H) :
   ∃W:Nat->Nat->St->Hp->Prop,(∃m,W 0 m σ H)/\∀i m σ H,W i m σ H->((gz hi n).stop i H/\D.nx σ H)\/((gz hi n).go i H/\∃N:St->Hp->Prop,(∀σ' H',N σ' H'->∃m',m'<m/\W (i+1) m' σ' H')/\∀x H',(gz hi n).yld i H x H'->g x σ H' λσ2 H2=>tb { D with nx:=N,ct:=N,bk:=D.nx } σ2 H2):=by
 refine⟨λi m σ H=>m=n - i/\i<=n/\Pv i σ H,⟨n,by simp,BW _,h0⟩,?_⟩;rintro i m σ H ⟨rfl,hi',p⟩;by_cases hlt:i<n
 . refine .inr ⟨hlt,Pv (i+1),λσ' H' p'=>⟨n - (i+1),by omega,rfl,hlt,p'⟩,λx H' y=>?_⟩;obtain⟨e,y⟩:=y;subst e y;exact hs i σ _ hlt p
 . have e:i=n:=by omega
   subst e;exact .inl ⟨BG _,hd σ H p⟩
end
def ki (K:W.Frag):R2:=λx y H Q=>∃a b ys,x=.ref a/\y=.ref b/\a9 K H a []/\a9 K H b ys/\Q (.ref b) H
theorem nU {X:Cx}:aj X (binaryOp .Add) (ki X.K):=by
 intro pins s σ H x y v u Q I rx ry h;obtain⟨a,b,ys,rfl,rfl,ha,hb,q⟩:=h;cases rx;cases ry;obtain⟨its,r1,p1,_⟩:=I.tuple ha;obtain⟨its2,r2,p2,_⟩:=I.tuple hb;obtain⟨⟨cls,dd,data,sl⟩,ho,hc,n,hd⟩:=id p1;obtain⟨⟨cls2,dd2,data2,sl2⟩,ho2,hc2,n2,hd2⟩:=id p2;simp only at hc hd hc2 hd2;subst hc hd hc2 hd2;exact concat_meets ⟨_,ho,rfl⟩ ⟨_,ho2,rfl⟩ noFill_tuple_add seq_tuple_add DX DO (DH _ _)
   (tuple_addW0 a b its.toArray its2.toArray n n2 dd dd2 sl sl2 (by simp [r1.nil_iff.mpr rfl])) ⟨ho,ho2,⟨.ref b,H,I,rfl,q⟩⟩
theorem vn {X:Cx}:aj X (binaryOp .Add) (λx y H Q=>ij X.K x y H Q\/ki X.K x y H Q):=hU.or nU
theorem dH {X:Cx} {st:Stmt} {rest:List Stmt} {t u:TS} (h1:PS X st t) (h2:cB X rest u):cB X (st :: rest) (λD σ H=>∃M:St->Hp->Prop,t { D with nx:=M } σ H/\∀σ' H',M σ' H'->u D σ' H'):=by
 intro pins s σ H D I h;obtain⟨M,h,hm⟩:=h;refine EB (aF (h1 pins s σ H { D with nx:=M } I h) λf s1 q=>?_);cases f with
 | next =>
   obtain⟨σ',H',I',q⟩:=q;exact h2 pins s1 σ' H' D I' (hm _ _ q)
 | ret v=>exact q
 | brk=>exact q
 | cont=>exact q
def av (n:Nat) (d:PyData):Prop:=PyData.canLay0 d=true/\PyData.depth d<=n
theorem av.int (i:Int):av n (.int i):=⟨by unfold PyData.canLay0; rfl,by unfold PyData.depth; exact BW _⟩
theorem av.bool (b:Bool):av n (.bool b):=⟨by unfold PyData.canLay0; rfl,by unfold PyData.depth; exact BW _⟩
theorem av.str {x:Str} (h:PyData.strOk x=true):av n (.str x):=⟨by unfold PyData.canLay0; exact h,by unfold PyData.depth; exact BW _⟩
theorem jv {n:Nat}:∀{ds:List PyData},(∀d∈ds,av n d)->PyData.canLayAll0 ds=true/\PyData.depthAll ds<=n
 | [],_=>⟨by unfold PyData.canLayAll0; rfl,by unfold PyData.depthAll; exact BW _⟩
 | d :: ds,h=>by
   have h1:=h d BU;have h2:=jv (λx hx=>h x (BS _ hx));constructor
   . unfold PyData.canLayAll0; rw[h1.1,h2.1]; rfl
   . unfold PyData.depthAll; exact Nat.max_le.mpr ⟨h1.2,h2.2⟩
theorem av.list {ds:List PyData} (h:∀d∈ds,av n d):av (n+1) (.list ds):=by have h2:=jv h;exact⟨by unfold PyData.canLay0; exact h2.1,by unfold PyData.depth; have:=h2.2; omega⟩
theorem av.tuple {n:Nat} {ds:List PyData} (h:∀d∈ds,av n d):av (n+1) (.tuple ds):=by have h2:=jv h;exact⟨by unfold PyData.canLay0; exact h2.1,by unfold PyData.depth; have:=h2.2; omega⟩
theorem av.shaped {n:Nat} {d:PyData} (h:av n d) (hn:n<=64):SeqAt.shaped d=true:=by unfold SeqAt.shaped;rw[h.1,BN (Bk h.2 hn)];rfl
variable {d:PyData}
theorem av.refl (h:av n d):PyData.eqv d d=true:=SeqAt.eqv_refl d h.1
theorem av.mono {m:Nat}(h:av n d) (hn:n<=m):av m d:=⟨h.1,Bk h.2 hn⟩
theorem yK {x y:V} {Q:VK} (hn:n<=64) (l:av n d) (hx:aa K H d x) (hy:aa K H d y) (q:Q (.bl true) H):qD K x y H Q :=
 ⟨d,d,hx,hy,l.shaped hn,l.shaped hn,by rw[l.refl]; exact q⟩
theorem oa {x y:V} {Q:VK} (hn:n<=64) (l:av n d) (hx:aa K H d x) (hy:aa K H d y) (q:Q (.bl false) H):n9 K x y H Q :=
 ⟨d,d,hx,hy,l.shaped hn,l.shaped hn,by rw[l.refl]; exact q⟩
theorem iU {a:Addr} {xs:List V} {ds:List PyData} (h:aA K H a xs) (hd:ao K H ds xs):aa K H (.list ds) (.ref a):=by unfold aa; exact⟨a,xs,rfl,h,hd⟩
theorem ud {ds:List PyData} {x:V} {xs:List V} (h:aa K H d x) (hs:ao K H ds xs):ao K H (d :: ds) (x :: xs):=by unfold ao; exact⟨x,xs,rfl,h,hs⟩
mutual
theorem aa.mono {K:W.Frag} {H H':Hp} (e:a0 H H'):∀(d:PyData) (v:V),aa K H d v->aa K H' d v
 | .none,v,h=>by unfold aa at h ⊢; exact h
 | .bool b,v,h=>by unfold aa at h ⊢; exact h
 | .int i,v,h=>by unfold aa at h ⊢; exact h
 | .str x,v,h=>by unfold aa at h ⊢; exact h
 | .list ds,v,h=>by unfold aa at h ⊢;obtain⟨a,xs,rfl,hq,hd⟩:=h;exact⟨a,xs,rfl,e.seq hq,ao.mono e ds xs hd⟩
 | .tuple ds,v,h=>by unfold aa at h ⊢;obtain⟨a,xs,rfl,hq,hd⟩:=h;exact⟨a,xs,rfl,e.tup hq,ao.mono e ds xs hd⟩
 | .dict _,v,h=>by unfold aa at h; exact h.elim
theorem ao.mono {K:W.Frag} {H H':Hp} (e:a0 H H'):∀(ds:List PyData) (xs:List V),ao K H ds xs->ao K H' ds xs
 | [],xs,h=>by unfold ao at h ⊢; exact h
 | d :: ds,xs,h=>by unfold ao at h ⊢;obtain⟨x,r,rfl,hd,hds⟩:=h;exact⟨x,r,rfl,aa.mono e d x hd,ao.mono e ds r hds⟩
end
def cK (l:Addr) (H:Hp):Hp:=λb=>if b=l then none else H b
theorem eJ {b:Addr}(h:b≠l):cK l H b=H b:=by unfold cK; rw[BE h]
theorem n5 :a0 (cK l H) H:=λb o h=>by
 unfold cK at h;split at h
 . cases h
 . exact h
theorem AZ {o:HO}:cK l (upd H l o)=cK l H:=by funext b;unfold cK upd;split <;> rfl
end L2
namespace Gx
open PySem L2
theorem vq {Q:VK} {H:Hp} {x y:V} (h:x=y) (q:Q y H):Q x H:=by subst h; exact q
theorem bR (z n:Int) (h:0<n):0<=z%n/\z%n<n:=⟨Int.emod_nonneg _ (by omega),Int.emod_lt_of_pos _ h⟩
theorem cb {α:Type} {es:List α} {f:α->V} {i:Nat} {x:V} (h:(es.map f)[i]?=some x):∃e,es[i]?=some e/\e∈es/\x=f e:=by
 rw[BI] at h;cases he:es[i]? with
 | none=>rw[he] at h; cases h
 | some e=>rw[he] at h; cases h; exact⟨e,rfl,BQ he,rfl⟩
def tx (l:List Nat):Str:=⟨l.toArray⟩
theorem kH (l:List Nat):(tx l).cps.toList=l:=by unfold tx; simp
theorem zV (l:List Nat):(tx l).length=l.length:=by unfold tx Str.length; simp
theorem zC {a b:List Nat} (h:tx a=tx b):a=b:=by rw[<- kH a,h,kH]
end Gx
namespace L2
open PySem PySem.Spec PyProof.Rows
def gu (K:W.Frag) (a:Addr):It :=
 ⟨λi H=>∃xs x,aA K H a xs/\xs[i]?=some x,λi H y H'=>∃b,y=.ref b/\H b=none/\∀xs x,aA K H a xs->xs[i]?=some x->H'=upd H b (.tup [.int i,x]),λi H=>∃xs,aA K H a xs/\xs.length=i⟩
variable {K:W.Frag}
theorem Ai {P:Program} {w:World} {elts:List Expr} {k:Nat} {pos:Pos} (a e it:Addr) (hne:e≠it):Turn P w K (.Tuple elts k pos) (gu K a) [e,it] e (λi h=>(∃old,IsEnum h e it i old)/\h.IsListIter it a i) where
 mem:=by simp
 obj:=λi h st b hb=>by
   obtain⟨⟨old,he⟩,⟨o,ho,hc,hd⟩⟩:=st;rcases Be.mp hb with z|z
   . subst z;exact⟨_,he,λv z=>by cases (show Data.fields _=Data.cell v from z)⟩
   . have z:b=it:=by simpa using z
     subst z;exact⟨o,ho,λv z=>by rw[hd] at z; cases z⟩
 keep:=λi h h' st kk=>by obtain⟨⟨old,he⟩,⟨o,ho,r⟩⟩:=st;exact⟨⟨old,kk e (by simp) _ he⟩,⟨o,kk it (by simp) o ho,r⟩⟩
 item:=by
   intro X hP hw hK hc i pins s σ H E I hf st hg;subst hP hw hK;obtain⟨⟨old,he⟩,hit⟩:=st;obtain⟨xs,x,hq,hx⟩:=hg;obtain⟨its,rv,p,hz⟩:=I.list hq;have pt:s.heap.IsList a its.toArray:=p.isList;obtain⟨u,hu,ru⟩:=rv.get hx;have hia:a≠it:=λz=>by
     subst z;obtain⟨o1,h1,c1,_⟩:=hit;obtain⟨o2,h2,c2,_⟩:=pt;rw[h1] at h2;cases h2;rw[c1] at c2;injection c2 with c2
     exact absurd c2 (by decide)
   have hea:e ∉ [it,a]:=λz=>by
     rcases Be.mp z with z|z
     . exact hne z
     . have z:e=a:=by simpa using z
       subst z;obtain⟨o2,h2,c2,_⟩:=pt;rw[he] at h2;cases h2;injection (show Value.type "enumerate"=Value.type "list" from c2) with c2
       exact absurd c2 (by decide)
   have hlt:i<its.toArray.size:=by have:=(BC.mp hu).1;simpa using this
   refine EH (Draws.list (A:=X.A.in1) (I.ok.hd hc) it a hia its.toArray) he ⟨hit,pt⟩ hlt hne hea λy h' tk hy hout hst hT hsz hk=>?_;refine⟨_,rfl,E2 hout λh2 he2 hs2=>?_⟩;have hs2:Heap.SameBut e h' h2:=hs2;have hyu:y=u:=by
     have hy:its.toArray[i]?=some y:=hy;have:its[i]?=some y:=by simpa using hy
     rw[hu] at this;exact(Option.some.inj this).symm
   subst hyu;have helt:e<s.heap.objs.size:=BZ he;have hfr:H s.heap.objs.size=none:=I.hok.fresh (BG _);have hnS:s.heap.objs.size≠e:=DB helt;have hT2:h2.get? s.heap.objs.size=some { cls:=.type "tuple",data:=.seq #[.int i tk,y] }:=(hs2.2 _ hnS).trans hT;refine⟨.ref s.heap.objs.size,upd H s.heap.objs.size (.tup [.int i,x]),I.turnLaid (t':=tk+1) (ch:=[e,it]) (λb o hb q=>?_) hf (BG _) ?_,rfl,⟨s.heap.objs.size,rfl,hfr,λxs' x' hq' hx'=>?_⟩,⟨⟨y,by exact_mod_cast he2⟩,?_⟩,λb hb=>?_⟩
   . have h1:b≠e:=λz=>hb (by simp [z]);have h3:b≠it:=λz=>hb (by simp [z]);exact(hs2.2 b h1).trans (hk b o h1 h3 q)
   . exact⟨by show 2<=sizeLine; decide,[.int i tk,y],.cons ⟨tk,rfl⟩ (.cons ru .nil),⟨_,hT2,rfl,_,rfl⟩⟩
   . have:=I.list_inj hq' hq;subst this;rw[hx] at hx';cases hx';rfl
   . obtain⟨⟨o,ho,r⟩,_⟩:=hst;exact⟨o,(hs2.2 it hne.symm).trans ho,r⟩
   . have hb0:=(hf b hb).1;rw[aH]
     . exact hb0
     . intro z;subst z;obtain⟨o,ho,_⟩:=hit;rcases Be.mp hb with z|z
       . exact hnS z
       . have z:s.heap.objs.size=it:=by simpa using z
         exact absurd (BZ ho) (by rw[<- z]; exact C6 _)
 done:=by
   intro X hP hw hK hc i pins s σ H E I hf st hg;subst hP hw hK;obtain⟨⟨old,he⟩,hit⟩:=st;obtain⟨xs,hq,hx⟩:=hg;obtain⟨its,rv,p,hz⟩:=I.list hq;have pt:s.heap.IsList a its.toArray:=p.isList;have hl:=rv.length;have hia:a≠it:=λz=>by
     subst z;obtain⟨o1,h1,c1,_⟩:=hit;obtain⟨o2,h2,c2,_⟩:=pt;rw[h1] at h2;cases h2;rw[c1] at c2;injection c2 with c2
     exact absurd c2 (by decide)
   have hi:i=its.toArray.size:=by simp; omega
   refine wpAny_pyNext_enum_endD (Draws.list (A:=X.A.in1) (I.ok.hd hc) it a hia its.toArray) he (by rw[<- hi]; exact⟨hit,pt⟩) λh' eb=>⟨rfl,?_⟩
   exact I.turnedL (t':=s.toks) (ch:=[e,it]) (λb o hb q=>eb b o (λz=>hb (by simp [z])) q) hf
 self:=λ_ _ _ _ _ st h=>by obtain⟨⟨old,he⟩,_⟩:=st;exact DT he h
section
variable {X:Cx}
def xK (K:W.Frag) (ta:TA):TI:=λσ H R=>ta σ H λvs H1=>∃a,vs=[.ref a]/\(∃xs,aA K H1 a xs)/\R (gu K a) H1
theorem A6 {a:Expr} {ta:TA} {p pos tpos:Pos} {elts:List Expr} {k:Nat} (hg:Gl X "enumerate") (hm:X.mg "enumerate"=none) (ha:PA X [a] ta) (hs:starEach [a] X.env=[(false,eval a X.env)]:=by rfl):PI X (.Tuple elts k tpos) (.Call (.Name "enumerate" p) [a] [] pos) (xK X.K ta):=by
 intro pins s σ H R I h;refine Call_ (eY I hg hm qh (CK (aF (ha pos pins s σ H _ I h) λus s1 ⟨vs,H1,I1,r1,q1⟩=>?_) hs rfl));obtain⟨a,e,⟨xs,hq⟩,q⟩:=q1;subst e;cases r1 with
 | cons r rr =>
   cases rr;cases r;obtain⟨its,rv,p,hz⟩:=I1.list hq;refine call_enumerate_list p.isList λh' he hit _ hk=>?_;refine DT he ?_;refine⟨s1.heap.objs.size+1,[s1.heap.objs.size+1,s1.heap.objs.size],_,_,H1,rfl,I1.kept (t':=s1.toks) hk,Ai a (s1.heap.objs.size+1) s1.heap.objs.size (Nat.succ_ne_self _),⟨⟨.none,he⟩,hit⟩,λb hb=>?_,q⟩;rcases Be.mp hb with z|z
   . subst z;exact I1.fpOk (Cr _) (I1.hok.fresh (Cr _))
   . have z:b=s1.heap.objs.size:=by simpa using z
     subst z;exact I1.fpOk (BG _) (I1.hok.fresh (BG _))
theorem zj {a:Addr} {xs:List V} {g:TG} {tb:TS} {D:Ends} {σ:St} {H:Hp} (Pv:Nat->St->Hp->Prop) (h0:Pv 0 σ H) (hl:∀i σ H,i<=xs.length->Pv i σ H->aA K H a xs)
   (hs:∀i x σ H b,xs[i]?=some x->Pv i σ H->H b=none->g (.ref b) σ (upd H b (.tup [.int i,x])) λσ2 H2=>tb { D with nx:=Pv (i+1),ct:=Pv (i+1),bk:=D.nx } σ2 H2) (hd:∀σ H,Pv xs.length σ H->D.nx σ H) :
   ∃W:Nat->Nat->St->Hp->Prop,(∃m,W 0 m σ H)/\∀i m σ H,W i m σ H->((gu K a).stop i H/\D.nx σ H)\/((gu K a).go i H/\∃N:St->Hp->Prop,(∀σ' H',N σ' H'->∃m',m'<m/\W (i+1) m' σ' H')/\∀x H',(gu K a).yld i H x H'->g x σ H' λσ2 H2=>tb { D with nx:=N,ct:=N,bk:=D.nx } σ2 H2):=by
 refine⟨λi m σ H=>m=xs.length - i/\i<=xs.length/\Pv i σ H,⟨xs.length,by simp,BW _,h0⟩,?_⟩;rintro i m σ H ⟨rfl,hi,p⟩;have q:=hl i σ H hi p;by_cases hlt:i<xs.length
 . refine .inr ⟨⟨xs,xs[i],q,by simp [hlt]⟩,Pv (i+1),λσ' H' p'=>⟨xs.length - (i+1),by omega,rfl,hlt,p'⟩,λx H' y=>?_⟩;obtain⟨b,rfl,hb,y⟩:=y;rw[y xs xs[i] q (by simp [hlt])];exact hs i xs[i] σ H b (by simp [hlt]) p hb
 . have e:i=xs.length:=by omega
   subst e;exact .inl ⟨⟨xs,q,rfl⟩,hd σ H p⟩
end
structure ClsOk (K:W.Frag) (mg:Str->Option Value) (name:Str) (C:Addr):Prop where
 cl:Cls K C
 g:mg name=some (.ref C)
structure MetOk (K:W.Frag) (C:Addr) (m qual:Str) (st:Stmt) (ps:List Str) (f:Addr) (fd:FuncData):Prop where
 F:Fun K m qual st f fd
 b:dI K fd ps []
 m:Meth K C m f
structure IniOk (K:W.Frag) (C:Addr) (qual:Str) (st:Stmt) (ps:List Str) (f:Addr) (fd:FuncData):Prop where
 F:Fun K "__init__" qual st f fd
 b:dI K fd ps []
 M:Mk K C f
section
variable {X:Cx} {k:Nat} {C f:Addr} {fd:FuncData} {ps:List Str} {sp:Sp} {x m qual:Str} {st:Stmt} {p pos apos:Pos} {o e:Expr} {es:List Expr} {ta:TE} {t:TA}
theorem vL (Cc:ClsOk X.K X.mg x C) (D:IniOk X.K C qual st ps f fd) (G:FnOk X.prog X.w X.K X.mg X.base CX0 k f fd ps sp) (hr:Room (k+1) X.A) (ha:PA X (e :: es) t) (hg:Gl X x:=by rfl)
   (hdb:(x==("__debug__":Str))=false:=by decide) (he:starEach (e :: es) X.env=(false,eval e X.env) :: starEach es X.env:=by rfl) (hpl:(backTo pos (starEach es X.env)).any (·.1)=false:=by rfl) :
   PE X (.Call (.Name x p) (e :: es) [] pos) (oO C sp [] E0 t):=uU D.M G hr hg Cc.g D.b .nil fw ha hdb he hpl
theorem AE {C:Addr} {m qual:Str} {st:Stmt} {ps:List Str} {f:Addr} {oc:Value} {od an:Option Addr} {osl:Array (Option Value)} {kV doc pm cdv ct:Value}
   (a:PySem.W.findIn K (.ref C) m=some (some (.ref f))) (i:PySem.W.isFn K (.ref f)=true) (l:K.lookup f=some ⟨oc,od,.func (PySem.W.fnOf m qual (c6 st) (bq st) (aW st) .none kV doc pm an cdv ct),osl⟩) (c:PySem.W.codeIn K cdv qual=true) (k:PySem.W.keepIn K (.ref f)=true)
   (b:∀(kV doc pm:Value) (an:Option Addr) (cdv ct:Value) (us:List Value),us.length=ps.length->bindArgs (PySem.W.fnOf m qual (c6 st) (bq st) (aW st) .none kV doc pm an cdv ct) ⟨us,[]⟩=pure (ps.zip us)) :
   MetOk K C m qual st ps f (PySem.W.fnOf m qual (c6 st) (bq st) (aW st) .none kV doc pm an cdv ct) :=
 ⟨fi l c k,(fi l c k).binds b,⟨a,i,k⟩⟩
theorem xQ {C:Addr} {qual:Str} {st:Stmt} {ps:List Str} {f:Addr} {oc:Value} {od an:Option Addr} {osl:Array (Option Value)} {kV doc pm cdv ct:Value}
   (mk:PySem.W.makesIn K C=true) (kc:PySem.W.keepIn K (.ref C)=true) (a:PySem.W.findIn K (.ref C) "__init__"=some (some (.ref f))) (i:PySem.W.isFn K (.ref f)=true) (l:K.lookup f=some ⟨oc,od,.func (PySem.W.fnOf "__init__" qual (c6 st) (bq st) (aW st) .none kV doc pm an cdv ct),osl⟩) (c:PySem.W.codeIn K cdv qual=true) (k:PySem.W.keepIn K (.ref f)=true)
   (b:∀(kV doc pm:Value) (an:Option Addr) (cdv ct:Value) (us:List Value),us.length=ps.length->bindArgs (PySem.W.fnOf "__init__" qual (c6 st) (bq st) (aW st) .none kV doc pm an cdv ct) ⟨us,[]⟩=pure (ps.zip us)) :
   IniOk K C qual st ps f (PySem.W.fnOf "__init__" qual (c6 st) (bq st) (aW st) .none kV doc pm an cdv ct) :=
 ⟨fi l c k,(fi l c k).binds b,⟨mk,a,i,kc⟩⟩
end
theorem bu {A:Around} (h:A.units+64<cLine):A.units+1<cLine:=by omega
section
variable {prog:Program} {w:World} {A:Around} {E:Value->Shared->Prop} {s:Shared}
open HT in
theorem yx {t sl:Addr} {items:Array Value} {vl vu:Value} {lo hi:Option Int} {Q:Value->Shared->Prop} (ht:IsTup s.heap t items) (hs:s.heap.IsSliceOf sl vl vu .none) (pl:IsPart vl lo) (pu:IsPart vu hi)
   (hw:sIx items.size 0 lo=0/\sIx items.size items.size hi=items.size) (h:Q (.ref t) s):wpAny (model prog w) A (getItem (.ref t) (.ref sl)) Q E s:=by
 obtain⟨os,hos,hcs,hds⟩:=id hs;have tS:s.TypeIs (.ref sl) "slice":=⟨os,hos,hcs⟩
 unfold getItem; try with_reducible refine C2 ?_
 first|refine BB (BF ?_)|skip
 refine BB (E4 ht.typeIs (by decide) ?_); refine BB (wpAny_callSpecial?_slot (name:=Str.ofString "__getitem__") ht.typeIs CB (CQ CB ht.typeIs entry_tuple_getitem ?_ (args_tuple_getitem _ _)));show wpAny _ _ (Builtin.Tuple.tupleItemsOf (.ref t) >>= _) _ _ s; refine BB (tupleItemsOf_ ht ?_); refine BB (DI tS ?_); rw[BJ (by decide)]; refine BB (ng hs pl pu ?_);have yes:(((sIx items.size 0 lo:Nat):Int)==0&&(1:Int)==1&&(sIx items.size items.size hi - sIx items.size 0 lo)==items.size)=true:=by rw[hw.1,hw.2];simp
 show wpAny _ _ (if(((sIx items.size 0 lo:Nat):Int)==0&&(1:Int)==1&&(sIx items.size items.size hi - sIx items.size 0 lo)==items.size)=true then _ else _) _ _ s; rw[BJ yes];show wpAny _ _ (Builtin.Tuple.tupleIsExact (.ref t) >>= _) _ _ s;unfold Builtin.Tuple.tupleIsExact;refine BB (BB (DI ht.typeIs (BF ?_)));rw[BJ (by decide)];exact BB (EW (BB (BF (BF ⟨_,rfl,BF h⟩))))
end
def mV (K:W.Frag):V->Option Int->Option Int->Hp->VK->Prop:=λx lo hi H Q=>∃a xs,x=.ref a/\a9 K H a xs /\
 (HT.sIx xs.length 0 lo=0/\HT.sIx xs.length xs.length hi=xs.length)/\Q (.ref a) H
theorem yd {X:Cx}:cX X (mV X.K):=by
 intro pins s σ H x v vl vu lo hi sl Q I rx hs pl pu h;obtain⟨a,xs,rfl,hx,hw,q⟩:=h;cases rx;obtain⟨its,r,ht,hz⟩:=I.tuple hx;have hlen:its.toArray.size=xs.length:=by rw[BX]; exact r.length.symm
 refine⟨"tuple",_,CB.lookup,ht.typeIs,yx ht hs pl pu (by rw[hlen]; exact hw) ⟨.ref a,H,I,rfl,q⟩⟩
def fV (K:W.Frag):V->Option Int->Option Int->Hp->VK->Prop:=λx lo hi H Q=>mq K x lo hi H Q\/mV K x lo hi H Q
theorem eE {X:Cx}:cX X (fV X.K):=zT.or yd
theorem dv {H:Hp} {Q:VK} {a:Addr} {xs:List V} {lo hi:Option Int} (h:a9 K H a xs) (q:∀p H',a0 H H'->a9 K H' p (ak xs lo hi)->Q (.ref p) H'):fV K (.ref a) lo hi H Q:=by
 by_cases hw:HT.sIx xs.length 0 lo=0/\HT.sIx xs.length xs.length hi=xs.length
 . refine .inr ⟨a,xs,rfl,h,hw,q a H (a0.refl _) ?_⟩;have:ak xs lo hi=xs:=by unfold ak;rw[hw.1,hw.2,Dt,Nat.sub_zero,Bw]
   rw[this];exact h
 . exact .inl ⟨a,xs,rfl,h,hw,λp hp=>q p _ (a0.new hp) (a9.of a8)⟩
end L2
namespace K12
open PySem L2
def step (acc:List Str) (s:Str):List Str:=if s∈acc then acc else acc++[s]
def onceL (ss:List Str):List Str:=ss.foldl step []
def cQ (as:List V):List Str:=as.filterMap λv=>match v with | .str s=>some s|_=>none
theorem yp (a b:List V):cQ (a++b)=cQ a++cQ b:=List.filterMap_append ..
theorem ym (i:Int):cQ [.int i]=[]:=rfl
theorem uv (acc:List Str) (s:Str):∀x∈acc,x∈step acc s:=λx hx=>by
 unfold step;split
 . exact hx
 . exact C8 _ hx
theorem yL (acc:List Str) (s:Str):s∈step acc s:=by
 unfold step;split
 . assumption
 . exact Br _ (by simp)
theorem mP:∀(ss acc:List Str),∀x∈acc,x∈ss.foldl step acc
 | [],acc,x,hx=>hx
 | s :: ss,acc,x,hx=>mP ss _ x (uv acc s x hx)
theorem pG:∀(ss acc:List Str),∀x∈ss,x∈ss.foldl step acc
 | s :: ss,acc,x,hx=>by
   rcases Be.mp hx with e|e
   . subst e;exact mP ss _ _ (yL acc _)
   . exact pG ss _ x e
theorem qW:∀(B:List Str) (acc C:List Str),(B.foldl step C).foldl step acc=B.foldl step (C.foldl step acc)
 | [],acc,C=>rfl
 | s :: B,acc,C=>by
   rw[Ch,qW B acc (step C s),Ch];congr 1;unfold step;by_cases h:s∈C
   . rw[BJ h];have h2:s∈C.foldl step acc:=pG C acc s h;have h2':s∈List.foldl (λacc s=>if s∈acc then acc else acc++[s]) acc C:=h2;rw[BJ h2']
   . rw[BE h,CG];rfl
theorem vm (A B C:List Str):onceL (A++onceL B++C)=onceL (A++B++C):=by unfold onceL;rw[CG,CG,CG,CG];have e:=qW B (A.foldl step []) [];rw[e];rfl
theorem wF (acc:List Str) (s:Str):(step acc s).length<=acc.length+1:=by
 unfold step;split
 . omega
 . simp
theorem AW (ss:List Str):(onceL ss).length<=ss.length:=by
 have key:∀(ss acc:List Str),(ss.foldl step acc).length<=acc.length+ss.length:=by
   intro ss
   induction ss with
   | nil=>intro acc; simp
   | cons s ss ih =>
     intro acc;have h1:=ih (step acc s);have h2:=wF acc s;rw[Ch];simp only[BV];omega
 have:=key ss [];unfold onceL;simpa using this
def bZ (ss:List Str):List (aD×V):=ss.map λs=>(Sum.inr s,V.bl true)
theorem xT (acc:List Str) (s:Str):aU (bZ acc) (Sum.inr s) (.bl true)=bZ (step acc s):=by
 unfold aU step;have e:((bZ acc).any λkv=>decide (kv.1=(Sum.inr s:aD)))=decide (s∈acc):=by
   unfold bZ;rw[List.any_map];rw[C3,Dc];simp only[Function.comp,BL];constructor
   . rintro ⟨x,hx,h⟩;have:x=s:=Sum.inr.inj h;rw[<- this];exact hx
   . intro h;exact⟨s,h,rfl⟩
 rw[e];by_cases h:s∈acc
 . rw[BN h,BJ rfl,BJ h];unfold bZ;rw[CN];apply CZ;intro x _;show(if(Sum.inr x:aD)=Sum.inr s then((Sum.inr x:aD),V.bl true) else(Sum.inr x,V.bl true))=_;split <;> rfl
 . rw[BY h,BE (by decide),BE h];unfold bZ;rw[BK];rfl
theorem nB:∀(ss acc:List Str),(bZ ss).foldl (λacc kv=>aU acc kv.1 kv.2) (bZ acc)=bZ (ss.foldl step acc)
 | [],acc=>rfl
 | s :: ss,acc=>by show(bZ ss).foldl _ (aU (bZ acc) (Sum.inr s) (.bl true))=_;rw[xT];exact nB ss (step acc s)
theorem z6 (ss:List Str):(bZ ss).foldl (λacc kv=>aU acc kv.1 kv.2) []=bZ (onceL ss):=nB ss []
theorem u9 (ss:List Str):((bZ ss).map λkv=>kV kv.1)=ss.map V.str:=by unfold bZ;rw[CN];rfl
theorem sqT_lst {K:W.Frag} {H:Hp} {a q:Addr} {xs l l':List V} (h:a9 K H a xs) (hq:H q=some (.lst l)):a9 K (upd H q (.lst l')) a xs:=by
 rcases h with(h|⟨o,h⟩)|h
 . exact .inl (.inl (by rw[aH (cY h hq (by intro z; cases z))]; exact h))
 . exact .inl (.inr ⟨o,by rw[aH (cY h hq (by intro z; cases z))]; exact h⟩)
 . exact .inr h
def Nm (s:Str):Prop:=s.length<=1000/\PyData.strOk s=true
end K12
namespace K12
open PySem L2 PySem.W PyProof.Rows
inductive RowS (K:W.Frag) (H:Hp):List V->Option Str->List V->Prop
 | copy (x:Str) (a:V):RowS K H [.str "copy",.str x,a] (some x) [a]
 | op (x s:Str) (a b:V):RowS K H [.str "op",.str x,.str s,a,b] (some x) [a,b]
 | new (x:Str):RowS K H [.str "new",.str x] (some x) []
 | get (x:Str) (a:V) (f:Str):RowS K H [.str "get",.str x,a,.str f] (some x) [a]
 | put (a:V) (f:Str) (b:V):RowS K H [.str "put",a,.str f,b] none [a,b]
 | call (x f:Str) (p:Addr) (as:List V):a9 K H p as->RowS K H [.str "call",.str x,.str f,.ref p] (some x) as
 | out (a:V):RowS K H [.str "out",a] none [a]
 | back (a:V):RowS K H [.str "back",a] none [a]
 | ifs (a:V):RowS K H [.str "if",a] none [a]
 | whl (a:V):RowS K H [.str "while",a] none [a]
 | els:RowS K H [.str "else"] none []
 | fin:RowS K H [.str "end"] none []
theorem RowS.mono {K:W.Frag} {H H':Hp} {xs:List V} {g:Option Str} {as:List V} (h:RowS K H xs g as) (e:a0 H H'):RowS K H' xs g as:=by
 cases h with
 | call x f p as hp=>exact .call x f p as (e.tup hp)
 | copy x a=>exact .copy x a
 | op x s a b=>exact .op x s a b
 | new x=>exact .new x
 | get x a f=>exact .get x a f
 | put a f b=>exact .put a f b
 | out a=>exact .out a
 | back a=>exact .back a
 | ifs a=>exact .ifs a
 | whl a=>exact .whl a
 | els=>exact .els
 | fin=>exact .fin
def tabl:List (Str×List V):=[("copy",[.int 2]),("op",[.int 3,.int 4]),("new",[]),("get",[.int 2]),("put",[.int 1,.int 3]),("out",[.int 1]),("back",[.int 1]),("if",[.int 1]),("while",[.int 1]),("else",[]),("end",[])]
def giving:List Str:=["copy","op","new","get","call"]
theorem yq {K:W.Frag} {H:Hp} {xs:List V} {g:Option Str} {as:List V} (h:RowS K H xs g as):∃kd:Str,aY xs 0=some (.str kd) /\
   ((kd="call"/\∃p,aY xs 3=some (.ref p)/\a9 K H p as)\/(kd≠"call"/\∃pl:List Int,KTD.datumAt kd tabl=some (pl.map V.int)/\pl.length=as.length/\∀(i:Nat) (a:V),as[i]?=some a->∃p,pl[i]?=some p/\aY xs p=some a)):=by
 cases h with
 | call x f p as hp=>exact⟨"call",rfl,.inl ⟨rfl,p,rfl,hp⟩⟩
 | copy x a=>exact⟨"copy",rfl,.inr ⟨by decide +kernel,[2],by decide +kernel,rfl,λi a' e=>by match i,e with|0,e=>exact⟨2,rfl,e⟩⟩⟩
 | op x s a b=>exact⟨"op",rfl,.inr ⟨by decide +kernel,[3,4],by decide +kernel,rfl,λi a' e=>by match i,e with|0,e=>exact⟨3,rfl,e⟩|1,e=>exact⟨4,rfl,e⟩⟩⟩
 | new x=>exact⟨"new",rfl,.inr ⟨by decide +kernel,[],by decide +kernel,rfl,λi a' e=>by simp at e⟩⟩
 | get x a f=>exact⟨"get",rfl,.inr ⟨by decide +kernel,[2],by decide +kernel,rfl,λi a' e=>by match i,e with|0,e=>exact⟨2,rfl,e⟩⟩⟩
 | put a f b=>exact⟨"put",rfl,.inr ⟨by decide +kernel,[1,3],by decide +kernel,rfl,λi a' e=>by match i,e with|0,e=>exact⟨1,rfl,e⟩|1,e=>exact⟨3,rfl,e⟩⟩⟩
 | out a=>exact⟨"out",rfl,.inr ⟨by decide +kernel,[1],by decide +kernel,rfl,λi a' e=>by match i,e with|0,e=>exact⟨1,rfl,e⟩⟩⟩
 | back a=>exact⟨"back",rfl,.inr ⟨by decide +kernel,[1],by decide +kernel,rfl,λi a' e=>by match i,e with|0,e=>exact⟨1,rfl,e⟩⟩⟩
 | ifs a=>exact⟨"if",rfl,.inr ⟨by decide +kernel,[1],by decide +kernel,rfl,λi a' e=>by match i,e with|0,e=>exact⟨1,rfl,e⟩⟩⟩
 | whl a=>exact⟨"while",rfl,.inr ⟨by decide +kernel,[1],by decide +kernel,rfl,λi a' e=>by match i,e with|0,e=>exact⟨1,rfl,e⟩⟩⟩
 | els=>exact⟨"else",rfl,.inr ⟨by decide +kernel,[],by decide +kernel,rfl,λi a' e=>by simp at e⟩⟩
 | fin=>exact⟨"end",rfl,.inr ⟨by decide +kernel,[],by decide +kernel,rfl,λi a' e=>by simp at e⟩⟩
def xv:Option Str->V
 | some x=>.str x
 | none=>.non
theorem zU {K:W.Frag} {H:Hp} {xs:List V} {g:Option Str} {as:List V} (h:RowS K H xs g as):∃kd:Str,aY xs 0=some (.str kd) /\
   ((∃x,g=some x/\cP (.str kd) (giving.map V.str)=true/\aY xs 1=some (.str x))\/(g=none/\cP (.str kd) (giving.map V.str)=false)):=by
 cases h with
 | call x f p as hp=>exact⟨"call",rfl,.inl ⟨x,rfl,by decide +kernel,rfl⟩⟩
 | copy x a=>exact⟨"copy",rfl,.inl ⟨x,rfl,by decide +kernel,rfl⟩⟩
 | op x s a b=>exact⟨"op",rfl,.inl ⟨x,rfl,by decide +kernel,rfl⟩⟩
 | new x=>exact⟨"new",rfl,.inl ⟨x,rfl,by decide +kernel,rfl⟩⟩
 | get x a f=>exact⟨"get",rfl,.inl ⟨x,rfl,by decide +kernel,rfl⟩⟩
 | put a f b=>exact⟨"put",rfl,.inr ⟨rfl,by decide +kernel⟩⟩
 | out a=>exact⟨"out",rfl,.inr ⟨rfl,by decide +kernel⟩⟩
 | back a=>exact⟨"back",rfl,.inr ⟨rfl,by decide +kernel⟩⟩
 | ifs a=>exact⟨"if",rfl,.inr ⟨rfl,by decide +kernel⟩⟩
 | whl a=>exact⟨"while",rfl,.inr ⟨rfl,by decide +kernel⟩⟩
 | els=>exact⟨"else",rfl,.inr ⟨rfl,by decide +kernel⟩⟩
 | fin=>exact⟨"end",rfl,.inr ⟨rfl,by decide +kernel⟩⟩
theorem zp:(giving.map V.str).all cv=true:=by decide +kernel
def Atom (v:V):Prop:=(∃s,v=.str s/\Nm s)\/∃i,v=.int i
structure RowD where
 r:Addr
 e:Addr
 a:Addr
 gx:Option Str
 as:List V
structure RowAt (K:W.Frag) (H:Hp) (d:RowD):Prop where
 row:∃xs,a9 K H d.r xs/\RowS K H xs d.gx d.as
 ats:∀v∈d.as,Atom v
 len:d.as.length<=10
 nm:∀x,d.gx=some x->Nm x
theorem RowAt.mono {K:W.Frag} {H H':Hp} {d:RowD} (h:RowAt K H d) (e:a0 H H'):RowAt K H' d :=
 ⟨let ⟨xs,h1,h2⟩:=h.row; ⟨xs,e.tup h1,h2.mono e⟩,h.ats,h.len,h.nm⟩
structure FunAt (K:W.Frag) (H:Hp) (f:Addr) (ps:List Str) (ds:List RowD):Prop where
 fn:∃n b p r,a9 K H f [n,b,.ref p,.ref r]/\a9 K H p (ps.map V.str)/\a9 K H r (ds.map λd=>V.ref d.r)
 rows:∀d∈ds,RowAt K H d
 pn:∀s∈ps,Nm s
 pl:ps.length<=100
 dl:ds.length<=100
theorem FunAt.mono {K:W.Frag} {H H':Hp} {f:Addr} {ps:List Str} {ds:List RowD} (h:FunAt K H f ps ds) (e:a0 H H'):FunAt K H' f ps ds :=
 ⟨let ⟨n,b,p,r,h1,h2,h3⟩:=h.fn; ⟨n,b,p,r,e.tup h1,e.tup h2,e.tup h3⟩,λd hd=>(h.rows d hd).mono e,h.pn,h.pl,h.dl⟩
def fQ (d:RowD):List Str:=d.gx.toList++cQ d.as
def allOf (ps:List Str) (ds:List RowD):List Str:=ps++ds.flatMap fQ
theorem lN (as:List V):(cQ as).length<=as.length:=List.length_filterMap_le _ _
end K12
namespace K12
open PySem L2
section
variable {P:Program} {w:World} {K:W.Frag} {mg:Str->Option Value} {base:Heap}
def iz (H:Hp) (Q:VK) (vs:List V):Prop:=∀l H',a0 H H'->H l=none->H' l=some (.lst vs)->Q (.ref l) H'
def sp_gives (K:W.Frag):Sp:=λvs H Q _=>∃(r:Addr) (xs:List V) (g:Option Str) (as:List V),vs=[.ref r]/\a9 K H r xs/\RowS K H xs g as/\Q (xv g) H
def sp_atoms_of (K:W.Frag):Sp:=λvs H Q _=>∃(r:Addr) (xs:List V) (g:Option Str) (as:List V),vs=[.ref r]/\a9 K H r xs/\RowS K H xs g as/\as.length<=10/\iz H Q as
def sp_each_once (K:W.Frag):Sp:=λvs H Q _=>∃(p:Addr) (ss:List Str),vs=[.ref p]/\aA K H p (ss.map V.str)/\ss.length<=5000/\iz H Q ((onceL ss).map V.str)
def sp_reads (K:W.Frag):Sp:=λvs H Q _=>∃(r:Addr) (xs:List V) (g:Option Str) (as:List V),vs=[.ref r]/\a9 K H r xs/\RowS K H xs g as/\as.length<=10/\(∀v∈as,Atom v)/\iz H Q ((onceL (cQ as)).map V.str)
def sp_names_of (K:W.Frag):Sp:=λvs H Q _=>∃(f:Addr) (ps:List Str) (ds:List RowD),vs=[.ref f]/\FunAt K H f ps ds/\iz H Q ((onceL (allOf ps ds)).map V.str)
def Ae (K:W.Frag):List V->Hp->VK->Prop:=λxs H Q=>∃x c t b,xs=[x,.ty c]/\TyOf K H x t/\W.kitOne K t (.type c)=some b/\Q (.bl b) H
theorem iO {n:Nat} (h:n<1000000):n<=sizeLine:=by
 have:(1000000:Nat)<sizeLine:=by decide
 omega
theorem dG {n:Nat} (h:n<1000000):n<sizeLine:=by
 have:(1000000:Nat)<sizeLine:=by decide
 omega
theorem inV_map (s:Str) (ss:List Str):cP (.str s) (ss.map V.str)=decide (s∈ss):=by
 unfold cP;rw[List.any_map,C3,Dc,BL];constructor
 . rintro ⟨x,hx,h⟩;have h:(x==s)=true:=h;have:x=s:=by simpa using h
   rw[<- this];exact hx
 . intro h;exact⟨s,h,by show(s==s)=true; simp⟩
theorem nK {fs P G B:List Str} (h:onceL fs=onceL P):onceL (fs++G++onceL B)=onceL (P++(G++B)):=by have e:=vm (fs++G) B [];rw[CJ,CJ] at e;rw[e,CF];unfold onceL at h ⊢;rw[CG,h,<- CG]
def lets:Str:="abcdefghijklmnopqrstuvwxyz"
theorem lets_ok:PyData.strOk lets=true:=by decide +kernel
end
end K12
namespace K13
open PySem L2
def isO (s:Str):Bool:=decide (s="if") || decide (s="while")
def isE (s:Str):Bool:=decide (s="else") || decide (s="end")
def push (st:List Nat) (i:Nat) (s:Str):List Nat:=if isO s=true then i :: st else if s="end" then st.tail else st
def kd (ks:List Str) (i:Nat):Str:=ks.getD i ""
def stk (ks:List Str):Nat->List Nat
 | 0=>[]
 | i+1=>push (stk ks i) i (kd ks i)
theorem cI (ks:List Str) (i:Nat):stk ks (i+1)=push (stk ks i) i (kd ks i):=rfl
theorem stk_lt (ks:List Str):∀i,∀x∈stk ks i,x<i/\isO (kd ks x)=true
 | 0,x,h=>by cases h
 | i+1,x,h=>by
   rw[cI] at h;unfold push at h;split at h
   . rcases Be.mp h with e|e
     . subst e;exact⟨CA _,by assumption⟩
     . have:=stk_lt ks i x e;exact⟨by omega,this.2⟩
   . split at h
     . have:=stk_lt ks i x (List.mem_of_mem_tail h);exact⟨by omega,this.2⟩
     . have:=stk_lt ks i x h;exact⟨by omega,this.2⟩
theorem stk_nodup (ks:List Str):∀i,(stk ks i).Nodup
 | 0=>List.nodup_nil
 | i+1=>by
   have ih:=stk_nodup ks i;rw[cI];unfold push;split
   . exact Cg.mpr ⟨λz=>absurd (stk_lt ks i i z).1 (C6 _),ih⟩
   . split
     . exact ih.tail
     . exact ih
variable {s:Str}
theorem isO_not_end (h:isO s=true):¬ s="end":=by intro e;subst e;revert h;decide +kernel
theorem kZ (h:isO s=true):¬ s="else":=by intro e;subst e;revert h;decide +kernel
theorem kr:isO ("end":Str)=false:=by decide +kernel
theorem else_not_O:isO ("else":Str)=false:=by decide +kernel
structure Wf (ks:List Str):Prop where
 open_:∀i,i<ks.length->isE (kd ks i)=true->stk ks i≠[]
 els:∀i b r,i<ks.length->kd ks i="else"->stk ks i=b :: r->kd ks b="if"
 shut:stk ks ks.length=[]
 last:∀i,i+1=ks.length->kd ks i="back"
 pos:0<ks.length
def At (ks:List Str) (b j d:Nat):Prop:=∃pre,stk ks j=pre++b :: stk ks b/\pre.length+1=d
variable {b:Nat}
theorem at_start {ks:List Str} (h:isO (kd ks b)=true):At ks b (b+1) 1:=⟨[],by rw[cI]; unfold push; rw[BJ h]; rfl,rfl⟩
variable {j d:Nat}
theorem at_open {ks:List Str} (h:At ks b j d) (ho:isO (kd ks j)=true):At ks b (j+1) (d+1):=by obtain⟨pre,e,l⟩:=h;exact⟨j :: pre,by rw[cI]; unfold push; rw[BJ ho,e]; rfl,by simp [l]⟩
theorem at_end {ks:List Str} (h:At ks b j (d+1)) (hd:0<d) (he:kd ks j="end"):At ks b (j+1) d:=by
 obtain⟨pre,e,l⟩:=h;cases pre with
 | nil=>simp at l; omega
 | cons p pre =>
   refine⟨pre,?_,by simpa using l⟩;rw[cI];unfold push;rw[he,BE (by rw[kr]; decide),BJ rfl,e];rfl
theorem at_other {ks:List Str} (h:At ks b j d) (ho:¬ isO (kd ks j)=true) (he:¬ kd ks j="end"):At ks b (j+1) d:=by obtain⟨pre,e,l⟩:=h;exact⟨pre,by rw[cI]; unfold push; rw[BE ho,BE he,e],l⟩
theorem at_one {ks:List Str} (h:At ks b j 1):stk ks j=b :: stk ks b:=by
 obtain⟨pre,e,l⟩:=h;cases pre with
 | nil=>exact e
 | cons p pre=>simp at l
theorem oH {ks:List Str} (w:Wf ks) (h:At ks b j d) (hj:j<=ks.length):j<ks.length:=by
 rcases Bl j ks.length with q|q
 . exact q
 . have e:j=ks.length:=by omega
   subst e;obtain⟨pre,e,_⟩:=h;rw[w.shut] at e;simp at e
theorem at_pos {ks:List Str} (h:At ks b j d):0<d:=by obtain⟨pre,_,l⟩:=h;omega
def Ends (ks:List Str) (b e:Nat):Prop:=b<e/\e<ks.length/\kd ks e="end"/\stk ks e=b :: stk ks b/\∀j,b<j->j<=e->∃d,At ks b j d
variable {e:Nat}
theorem ends_uniq {ks:List Str} {e':Nat}(h:Ends ks b e) (h':Ends ks b e'):e=e':=by
 have key:∀{e e':Nat},Ends ks b e->Ends ks b e'->¬ e<e':=by
   intro e e' h h' hlt;obtain⟨h1,h2,h3,h4,h5⟩:=h;obtain⟨d,pre,q,_⟩:=h'.2.2.2.2 (e+1) (by omega) hlt;rw[cI] at q;unfold push at q;rw[h3,BE (by rw[kr]; decide),BJ rfl,h4] at q;have:(stk ks b).length=(pre++b :: stk ks b).length:=by rw[<- q]; rfl
   simp at this;omega
 have a:=key h h';have b:=key h' h;omega
theorem qP {ks:List Str} (w:Wf ks) {b:Nat}:∀(m j d:Nat),m=ks.length - j->j<=ks.length->b<j->(∀i,b<i->i<=j->∃d,At ks b i d)->At ks b j d->∃e,j<=e/\Ends ks b e
 | 0,j,d,hm,hj,hb,hall,h=>absurd (oH w h hj) (by omega)
 | m+1,j,d,hm,hj,hb,hall,h=>by
   have hlt:=oH w h hj;have go:∀d',At ks b (j+1) d'->∃e,j<=e/\Ends ks b e:=λd' h'=>by
     obtain⟨e,he,q⟩:=qP w m (j+1) d' (by omega) (by omega) (by omega) (λi h1 h2=>by
       rcases Bl j i with z|z
       . have:i=j+1:=by omega
         subst this;exact⟨d',h'⟩
       . exact hall i h1 z) h'
     exact⟨e,by omega,q⟩
   by_cases ho:isO (kd ks j)=true
   . exact go _ (at_open h ho)
   by_cases he:kd ks j="end"
   . have hp:=at_pos h;by_cases hd:d=1
     . subst hd;exact⟨j,BG _,hb,hlt,he,at_one h,hall⟩
     . obtain⟨d',rfl⟩:∃d',d=d'+1:=⟨d - 1,by omega⟩
       exact go _ (at_end h (by omega) he)
   . exact go _ (at_other h ho he)
theorem ends_ex {ks:List Str} (w:Wf ks) (hb:b<ks.length) (ho:isO (kd ks b)=true):∃e,Ends ks b e:=by
 obtain⟨e,_,h⟩:=qP w (ks.length - (b+1)) (b+1) 1 rfl (by omega) (by omega) (λi h1 h2=>by
   have:i=b+1:=by omega
   subst this;exact⟨1,at_start ho⟩) (at_start ho)
 exact⟨e,h⟩
def br (ks:List Str) (b k:Nat):Prop:=isE (kd ks k)=true/\(stk ks k).head?=some b
theorem kP {ks:List Str} {k:Nat}(h:br ks b k):b<k/\isO (kd ks b)=true:=stk_lt ks k b (CI h.2)
theorem iA {ks:List Str} (h:Ends ks b e):br ks b e:=by
 refine⟨?_,?_⟩
 . rw[h.2.2.1]; decide +kernel
 . rw[h.2.2.2.1]; rfl
theorem qY {ks:List Str} {b e:Nat} (h:Ends ks b e):∀j,e<j->b ∉ stk ks j
 | 0,hj,_=>by omega
 | j+1,hj,hm=>by
   rcases Bl e j with q|q
   . have ih:=qY h j q;rw[cI] at hm;unfold push at hm;split at hm
     . rcases Be.mp hm with z|z
       . have:=h.1;omega
       . exact ih z
     . split at hm
       . exact ih (List.mem_of_mem_tail hm)
       . exact ih hm
   . have e1:j=e:=by omega
     subst e1;rw[cI] at hm;unfold push at hm;rw[h.2.2.1,BE (by rw[kr]; decide),BJ rfl,h.2.2.2.1] at hm;have:=(stk_lt ks b b hm).1;omega
theorem hit_le {ks:List Str} {k:Nat}(h:Ends ks b e) (hk:br ks b k):k<=e:=by
 rcases Bl e k with q|q
 . exact absurd (CI hk.2) (qY h k q)
 . exact q
def one (ks:List Str) (i:Nat):List (Nat×Nat):=if isE (kd ks i)=true then(match stk ks i with | []=>[] | b :: _=>[(i,b)]) else []
def ax (ks:List Str):Nat->List (Nat×Nat)
 | 0=>[]
 | i+1=>ax ks i++one ks i
def dE (L:List (Nat×Nat)) (b:Nat):Option Nat:=L.foldl (λacc p=>if p.2=b then some p.1 else acc) none
def bb (L:List (Nat×Nat)) (b:Nat):Option Nat:=L.foldl (λacc p=>if acc.isSome=true then acc else if p.2=b then some p.1 else none) none
theorem fT (ks:List Str) (i:Nat):(∃b,one ks i=[(i,b)]/\br ks b i)\/(one ks i=[]/\∀b,¬ br ks b i):=by
 unfold one br;by_cases h:isE (kd ks i)=true
 . rw[BJ h];cases q:stk ks i with
   | nil=>exact .inr ⟨rfl,λb z=>by simp at z⟩
   | cons b r=>exact .inl ⟨b,rfl,h,rfl⟩
 . rw[BE h];exact .inr ⟨rfl,λb z=>h z.1⟩
theorem pD (L:List (Nat×Nat)) (p:Nat×Nat) (b:Nat):dE (L++[p]) b=if p.2=b then some p.1 else dE L b:=by unfold dE; rw[CG]; rfl
theorem qJ (L:List (Nat×Nat)) (p:Nat×Nat) (b:Nat):bb (L++[p]) b=if(bb L b).isSome=true then bb L b else if p.2=b then some p.1 else none:=by unfold bb; rw[CG]; rfl
theorem iY {ks:List Str} {b' k:Nat}(h:br ks b k) (h':br ks b' k):b=b':=by have:=h.2.symm.trans h'.2;simpa using this
theorem qQ (ks:List Str) (b:Nat):∀i,(∀m,dE (ax ks i) b=some m->m<i/\br ks b m/\∀k,m<k->k<i->¬ br ks b k)/\(dE (ax ks i) b=none->∀k,k<i->¬ br ks b k)
 | 0=>⟨λm h=>(by cases h),λ_ k hk=>(by omega)⟩
 | i+1=>by
   obtain⟨ih1,ih2⟩:=qQ ks b i;show(∀m,dE (ax ks i++one ks i) b=some m->_)/\(dE (ax ks i++one ks i) b=none->_)
   rcases fT ks i with⟨b',e,hh⟩|⟨e,hn⟩
   . rw[e,pD];by_cases hb:b'=b
     . rw[BJ hb];subst hb;exact⟨λm h=>by cases h; exact⟨CA _,hh,λk h1 h2=>by omega⟩,λh=>by cases h⟩
     . rw[BE hb];refine⟨λm h=>?_,λh k hk=>?_⟩
       . obtain⟨h1,h2,h3⟩:=ih1 m h;refine⟨by omega,h2,λk q1 q2 hk=>?_⟩;rcases Bl k i with z|z
         . exact h3 k q1 z hk
         . have:k=i:=by omega
           subst this;exact hb (iY hh hk)
       . intro hk';rcases Bl k i with z|z
         . exact ih2 h k z hk'
         . have:k=i:=by omega
           subst this;exact hb (iY hh hk')
   . rw[e,CJ];refine⟨λm h=>?_,λh k hk hk'=>?_⟩
     . obtain⟨h1,h2,h3⟩:=ih1 m h;refine⟨by omega,h2,λk q1 q2 hk=>?_⟩;rcases Bl k i with z|z
       . exact h3 k q1 z hk
       . have:k=i:=by omega
         subst this;exact hn b hk
     . rcases Bl k i with z|z
       . exact ih2 h k z hk'
       . have:k=i:=by omega
         subst this;exact hn b hk'
theorem j6 (ks:List Str) (b:Nat):∀i,(∀m,bb (ax ks i) b=some m->m<i/\br ks b m/\∀k,k<m->¬ br ks b k)/\(bb (ax ks i) b=none->∀k,k<i->¬ br ks b k)
 | 0=>⟨λm h=>(by cases h),λ_ k hk=>(by omega)⟩
 | i+1=>by
   obtain⟨ih1,ih2⟩:=j6 ks b i;show(∀m,bb (ax ks i++one ks i) b=some m->_)/\(bb (ax ks i++one ks i) b=none->_)
   rcases fT ks i with⟨b',e,hh⟩|⟨e,hn⟩
   . rw[e,qJ];cases hf:bb (ax ks i) b with
     | some m0 =>
       rw[BJ (show(some m0).isSome=true from rfl)];obtain⟨h1,h2,h3⟩:=ih1 m0 hf;exact⟨λm h=>by cases h; exact⟨by omega,h2,h3⟩,λh=>by cases h⟩
     | none =>
       rw[BE (show ¬ (none:Option Nat).isSome=true by decide)];have hno:=ih2 hf;by_cases hb:b'=b
       . rw[BJ hb];subst hb;exact⟨λm h=>by cases h; exact⟨CA _,hh,λk hk=>hno k hk⟩,λh=>by cases h⟩
       . rw[BE hb];refine⟨λm h=>(by cases h),λ_ k hk hk'=>?_⟩;rcases Bl k i with z|z
         . exact hno k z hk'
         . have:k=i:=by omega
           subst this;exact hb (iY hh hk')
   . rw[e,CJ];refine⟨λm h=>?_,λh k hk hk'=>?_⟩
     . obtain⟨h1,h2,h3⟩:=ih1 m h;exact⟨by omega,h2,h3⟩
     . rcases Bl k i with z|z
       . exact ih2 h k z hk'
       . have:k=i:=by omega
         subst this;exact hn b hk'
theorem uJ {ks:List Str} (h:Ends ks b e):dE (ax ks ks.length) b=some e:=by
 obtain⟨h1,h2⟩:=qQ ks b ks.length;cases q:dE (ax ks ks.length) b with
 | none=>exact absurd (iA h) (h2 q e h.2.1)
 | some m =>
   obtain⟨q1,q2,q3⟩:=h1 m q;have:=hit_le h q2;rcases Bl m e with z|z
   . exact absurd (iA h) (q3 e z h.2.1)
   . have:m=e:=by omega
     rw[this]
def First (ks:List Str) (b f:Nat):Prop:=f<ks.length/\br ks b f/\∀k,k<f->¬ br ks b k
theorem first_uniq {ks:List Str} {f f':Nat}(h:First ks b f) (h':First ks b f'):f=f':=by
 rcases DU f f' with z|z|z
 . exact absurd h.2.1 (h'.2.2 f z)
 . exact z
 . exact absurd h'.2.1 (h.2.2 f' z)
theorem zZ {ks:List Str} {f:Nat}(h:First ks b f):bb (ax ks ks.length) b=some f:=by
 obtain⟨h1,h2⟩:=j6 ks b ks.length;cases q:bb (ax ks ks.length) b with
 | none=>exact absurd h.2.1 (h2 q f h.1)
 | some m =>
   obtain⟨q1,q2,q3⟩:=h1 m q;rw[first_uniq (⟨q1,q2,q3⟩:First ks b m) h]
theorem ye {ks:List Str} (h:¬ isO (kd ks b)=true):bb (ax ks ks.length) b=none:=by
 obtain⟨h1,h2⟩:=j6 ks b ks.length;cases q:bb (ax ks ks.length) b with
 | none=>rfl
 | some m=>exact absurd (kP (h1 m q).2.1).2 h
inductive Beh (ks:List Str):Nat->Nat->Prop
 | els {k b e r:Nat}:kd ks (k+1)="else"->(stk ks (k+1)).head?=some b->Ends ks b e->Beh ks e r->Beh ks k r
 | whl {k b:Nat}:kd ks (k+1)="end"->(stk ks (k+1)).head?=some b->kd ks b="while"->Beh ks k b
 | fin {k b r:Nat}:kd ks (k+1)="end"->(stk ks (k+1)).head?=some b->¬ kd ks b="while"->Beh ks (k+1) r->Beh ks k r
 | oth {k:Nat}:¬ kd ks (k+1)="else"->¬ kd ks (k+1)="end"->Beh ks k (k+1)
theorem els_fin:¬ (("else":Str)="end"):=by decide +kernel
theorem Beh.uniq {ks:List Str} {k r:Nat} (h:Beh ks k r):∀{r':Nat},Beh ks k r'->r=r':=by
 induction h with
 | els h1 h2 h3 h4 ih =>
   intro r' h';cases h' with
   | els g1 g2 g3 g4 =>
     have hb:=Option.some.inj (h2.symm.trans g2);subst hb;have he:=ends_uniq h3 g3;subst he;exact ih g4
   | whl g1 _ _=>exact absurd (h1.symm.trans g1) els_fin
   | fin g1 _ _ _=>exact absurd (h1.symm.trans g1) els_fin
   | oth g1 _=>exact absurd h1 g1
 | whl h1 h2 h3 =>
   intro r' h';cases h' with
   | els g1 _ _ _=>exact absurd (g1.symm.trans h1) els_fin
   | whl g1 g2 g3=>exact Option.some.inj (h2.symm.trans g2)
   | fin g1 g2 g3 _ =>
     have hb:=Option.some.inj (h2.symm.trans g2);subst hb;exact absurd h3 g3
   | oth _ g2=>exact absurd h1 g2
 | fin h1 h2 h3 h4 ih =>
   intro r' h';cases h' with
   | els g1 _ _ _=>exact absurd (g1.symm.trans h1) els_fin
   | whl g1 g2 g3 =>
     have hb:=Option.some.inj (h2.symm.trans g2);subst hb;exact absurd g3 h3
   | fin g1 g2 g3 g4=>exact ih g4
   | oth _ g2=>exact absurd h1 g2
 | oth h1 h2 =>
   intro r' h';cases h' with
   | els g1 _ _ _=>exact absurd g1 h1
   | whl g1 _ _=>exact absurd g1 h2
   | fin g1 _ _ _=>exact absurd g1 h2
   | oth _ _=>rfl
theorem back_ne:¬ (("back":Str)="else")/\¬ (("back":Str)="end"):=by decide +kernel
theorem beh_ex {ks:List Str} (w:Wf ks):∀(m k:Nat),m=ks.length - k->k+1<ks.length->∃r,Beh ks k r/\r<ks.length
 | 0,k,hm,hk=>by omega
 | m+1,k,hm,hk=>by
   have ih:∀k',k<k'->k'+1<ks.length->∃r,Beh ks k' r/\r<ks.length:=λk' h1 h2=>by
     have:∀(m':Nat),m'<=m->m'=ks.length - k'->∃r,Beh ks k' r/\r<ks.length:=λm' h3 h4=>by exact beh_ex w m' k' h4 h2
     exact this (ks.length - k') (by omega) rfl
   have top:isE (kd ks (k+1))=true->∃b,(stk ks (k+1)).head?=some b:=λh=>by
     cases q:stk ks (k+1) with
     | nil=>exact absurd q (w.open_ (k+1) hk h)
     | cons b r=>exact⟨b,rfl⟩
   by_cases he:kd ks (k+1)="else"
   . obtain⟨b,hb⟩:=top (by rw[he]; decide +kernel);have hbo:=stk_lt ks (k+1) b (CI hb);obtain⟨e,hE⟩:=ends_ex w (by omega) hbo.2;have h1:k+1<=e:=hit_le hE ⟨by rw[he]; decide +kernel,hb⟩;have h2:e+1<ks.length:=by
       rcases Bl (e+1) ks.length with z|z
       . exact z
       . have:=w.last e (by have:=hE.2.1; omega);rw[hE.2.2.1] at this;exact absurd this.symm back_ne.2
     obtain⟨r,hr,hl⟩:=ih e (by omega) h2;exact⟨r,.els he hb hE hr,hl⟩
   by_cases hf:kd ks (k+1)="end"
   . obtain⟨b,hb⟩:=top (by rw[hf]; decide +kernel);have hbo:=stk_lt ks (k+1) b (CI hb);by_cases hw:kd ks b="while"
     . exact⟨b,.whl hf hb hw,by omega⟩
     . have h2:k+1+1<ks.length:=by
         rcases Bl (k+1+1) ks.length with z|z
         . exact z
         . have:=w.last (k+1) (by omega);rw[hf] at this;exact absurd this.symm back_ne.2
       obtain⟨r,hr,hl⟩:=ih (k+1) (by omega) h2;exact⟨r,.fin hf hb hw hr,hl⟩
   . exact⟨k+1,.oth he hf,hk⟩
termination_by m=>m
theorem at_depth {ks:List Str} {d':Nat}(h:At ks b j d) (h':At ks b j d'):d=d':=by obtain⟨pre,e,l⟩:=h;obtain⟨pre',e',l'⟩:=h';have:=Bv List.length (e.symm.trans e');simp at this;omega
theorem at_isO {ks:List Str} (h:Ends ks b e):isO (kd ks b)=true:=(stk_lt ks e b (by rw[h.2.2.2.1]; exact BU)).2
theorem Al {ks:List Str} (h:At ks b j d) (ht:(stk ks j).head?=some b):d=1:=by
 obtain⟨pre,e,l⟩:=h;cases pre with
 | nil=>simpa using l.symm
 | cons p pre =>
   exfalso;have hp:p=b:=by rw[e] at ht;simpa using ht
   have hnd:=stk_nodup ks j;rw[e,hp] at hnd;simp at hnd
theorem iT (h:isO s=true):¬ isE s=true:=by unfold isE;rw[BY (kZ h),BY (isO_not_end h)];decide
theorem uT (h1:¬ s="else") (h2:¬ s="end"):¬ isE s=true:=by unfold isE;rw[BY h1,BY h2];decide
theorem end_at {ks:List Str} (w:Wf ks) (he:e<ks.length) (h:kd ks e="end") (ht:(stk ks e).head?=some b):Ends ks b e:=by have hb:=stk_lt ks e b (CI ht);obtain⟨e',hE⟩:=ends_ex w (by omega) hb.2;have hle:e<=e':=hit_le hE ⟨by rw[h]; decide +kernel,ht⟩;obtain⟨d,hA⟩:=hE.2.2.2.2 e (by omega) hle;have hd:=Al hA ht;subst hd;exact⟨hb.1,he,h,at_one hA,λj h1 h2=>hE.2.2.2.2 j h1 (by omega)⟩
inductive Due (ks:List Str):Nat->Option (List Nat)->Prop
 | no {k:Nat}:isE (kd ks k)=true->Due ks k none
 | back {k:Nat}:kd ks k="back"->Due ks k (some [])
 | two {k f r1 r2:Nat}:isO (kd ks k)=true->First ks k f->Beh ks k r1->Beh ks f r2->Due ks k (some [r1,r2])
 | one {k r:Nat}:¬ isE (kd ks k)=true->¬ kd ks k="back"->¬ isO (kd ks k)=true->Beh ks k r->Due ks k (some [r])
theorem back_E:¬ isE ("back":Str)=true:=by decide +kernel
theorem back_O:¬ isO ("back":Str)=true:=by decide +kernel
theorem Due.uniq {ks:List Str} {k:Nat} {o o':Option (List Nat)} (h:Due ks k o) (h':Due ks k o'):o=o':=by
 cases h with
 | no h =>
   cases h' with
   | no _=>rfl
   | back g=>rw[g] at h; exact absurd h back_E
   | two g _ _ _=>exact absurd h (iT g)
   | one g _ _ _=>exact absurd h g
 | back h =>
   cases h' with
   | no g=>rw[h] at g; exact absurd g back_E
   | back _=>rfl
   | two g _ _ _=>rw[h] at g; exact absurd g back_O
   | one _ g _ _=>exact absurd h g
 | two h1 h2 h3 h4 =>
   cases h' with
   | no g=>exact absurd g (iT h1)
   | back g=>rw[g] at h1; exact absurd h1 back_O
   | two g1 g2 g3 g4 =>
     have:=first_uniq h2 g2;subst this;rw[h3.uniq g3,h4.uniq g4]
   | one _ _ g _=>exact absurd h1 g
 | one h1 h2 h3 h4 =>
   cases h' with
   | no g=>exact absurd g h1
   | back g=>exact absurd g h2
   | two g _ _ _=>exact absurd g h3
   | one _ _ _ g=>rw[h4.uniq g]
theorem first_ex {ks:List Str} (h:Ends ks b e):∃f,First ks b f:=by
 obtain⟨h1,h2⟩:=j6 ks b ks.length;cases q:bb (ax ks ks.length) b with
 | none=>exact absurd (iA h) (h2 q e h.2.1)
 | some m =>
   obtain⟨q1,q2,q3⟩:=h1 m q;exact⟨m,q1,q2,q3⟩
theorem not_last {ks:List Str} (w:Wf ks) {k:Nat} (hk:k<ks.length) (h:¬ kd ks k="back"):k+1<ks.length:=by
 rcases Bl (k+1) ks.length with z|z
 . exact z
 . exact absurd (w.last k (by omega)) h
theorem first_last {ks:List Str} (w:Wf ks) {f:Nat}(h:First ks b f):f+1<ks.length:=by refine not_last w h.1 λz=>?_;have:=h.2.1.1;rw[z] at this;exact back_E this
variable {i:Nat}
theorem dA {ks ys:List Str} (h:i<ks.length):kd (ks++ys) i=kd ks i:=by unfold kd;rw[C4,C4,C0 h]
theorem tJ (ks ys:List Str) (i:Nat):kd (ks++ys) (ks.length+i)=kd ys i:=by unfold kd;rw[C4,C4,Bz (Dd _ _),EK]
theorem gJ (ks:List Str) (x:Str):kd (ks++[x]) ks.length=x:=by have:=tJ ks [x] 0;rw[Nat.add_zero] at this;rw[this];rfl
theorem de (ks ys:List Str):∀i,i<=ks.length->stk (ks++ys) i=stk ks i
 | 0,_=>rfl
 | i+1,h=>by rw[cI,cI,de ks ys i (by omega),dA (by omega)]
structure Good (ks os:List Str):Prop where
 open_:∀i,i<ks.length->isE (kd ks i)=true->stk ks i≠[]
 els:∀i b r,i<ks.length->kd ks i="else"->stk ks i=b :: r->kd ks b="if"
 len:(stk ks ks.length).length=os.length
 mt:∀(i b:Nat),(stk ks ks.length)[i]?=some b->os[i]?=some "if"->kd ks b="if"
theorem zQ:Good [] []:=⟨λi h=>absurd h (D9 i),λi _ _ h=>absurd h (D9 i),rfl,λi b h=>by cases h⟩
theorem gO (ks:List Str) (x:Str):stk (ks++[x]) (ks++[x]).length=push (stk ks ks.length) ks.length x:=by rw[BH];show stk (ks++[x]) (ks.length+1)=_;rw[cI,de _ _ _ (BG _),gJ]
variable {os:List Str}
theorem Good.snoc {ks os':List Str}{x:Str} (g:Good ks os) (ho:isE x=true->os≠[]) (he:x="else"->∃r,os=("if":Str) :: r)
   (hl:(push (stk ks ks.length) ks.length x).length=os'.length) (hm:∀(i b:Nat),(push (stk ks ks.length) ks.length x)[i]?=some b->os'[i]?=some "if"->kd (ks++[x]) b="if"):Good (ks++[x]) os':=by
 have hn:(ks++[x]).length=ks.length+1:=by rw[BH]; rfl
 refine⟨λi h hE=>?_,λi b r h hE hs=>?_,by rw[gO]; exact hl,by rw[gO]; exact hm⟩
 . rw[de _ _ _ (by omega)];rcases Bl i ks.length with z|z
   . rw[dA z] at hE;exact g.open_ i z hE
   . have:i=ks.length:=by omega
     subst this;rw[gJ] at hE;intro e;have:=g.len;rw[e] at this;exact ho hE (DP.mp this.symm)
 . rw[de _ _ _ (by omega)] at hs;rcases Bl i ks.length with z|z
   . rw[dA z] at hE;have hb:=(stk_lt ks i b (by rw[hs]; exact BU)).1;rw[dA (by omega)];exact g.els i b r z hE hs
   . have:i=ks.length:=by omega
     subst this;rw[gJ] at hE;obtain⟨r',e⟩:=he hE;have hb:=(stk_lt ks ks.length b (by rw[hs]; exact BU)).1;rw[dA hb];exact g.mt 0 b (by rw[hs]; rfl) (by rw[e]; rfl)
theorem Good.keep {ks:List Str}(g:Good ks os) (x:Str) (h:(stk ks ks.length)[i]?=some b) (h':os[i]?=some "if"):kd (ks++[x]) b="if":=by have hb:=(stk_lt ks ks.length b (BQ h)).1;rw[dA hb];exact g.mt i b h h'
theorem Good.opn {ks:List Str}{x:Str} (g:Good ks os) (ho:isO x=true):Good (ks++[x]) (x :: os):=by
 have e:push (stk ks ks.length) ks.length x=ks.length :: stk ks ks.length:=by unfold push; rw[BJ ho]
 refine g.snoc (λz=>absurd z (iT ho)) (λz=>absurd z (kZ ho)) (by rw[e,BV,BV,g.len]) ?_;rw[e];intro i b h h';cases i with
 | zero =>
   have h1:ks.length=b:=by simpa using h
   have h2:x="if":=by simpa using h'
   rw[<- h1,gJ];exact h2
 | succ i=>exact g.keep x (by simpa using h) (by simpa using h')
theorem Good.plain {ks:List Str}{x:Str} (g:Good ks os) (h1:¬ isO x=true) (h2:¬ isE x=true) (h3:¬ x="end"):Good (ks++[x]) os:=by
 have e:push (stk ks ks.length) ks.length x=stk ks ks.length:=by unfold push; rw[BE h1,BE h3]
 refine g.snoc (λz=>absurd z h2) (λz=>absurd (by rw[z]; decide +kernel) h2) (by rw[e,g.len]) ?_;rw[e];intro i b h h';exact g.keep x h h'
theorem Good.els' {ks r:List Str} (g:Good ks (("if":Str) :: r)):Good (ks++[("else":Str)]) (("else":Str) :: r):=by
 have e:push (stk ks ks.length) ks.length "else"=stk ks ks.length:=by unfold push; rw[BE (by decide +kernel),BE els_fin]
 refine g.snoc (λ_=>List.cons_ne_nil _ _) (λ_=>⟨r,rfl⟩) (by rw[e,g.len]; rfl) ?_;rw[e];intro i b h h';cases i with
 | zero =>
   have:("else":Str)="if":=by simpa using h'
   exact absurd this (by decide +kernel)
 | succ i=>exact g.keep _ h (by simpa using h')
theorem Good.fin {ks r:List Str} {o:Str} (g:Good ks (o :: r)):Good (ks++[("end":Str)]) r:=by
 have e:push (stk ks ks.length) ks.length "end"=(stk ks ks.length).tail:=by unfold push; rw[BE (by decide +kernel),BJ rfl]
 have l:=g.len;rw[BV] at l;refine g.snoc (λ_=>List.cons_ne_nil _ _) (λz=>absurd z.symm els_fin) (by rw[e,List.length_tail]; omega) ?_;rw[e];intro i b h h';rw[List.getElem?_tail] at h;exact g.keep _ h (by simpa using h')
theorem Good.back {ks:List Str} (g:Good ks []):Wf (ks++[("back":Str)]):=by
 have hs:stk ks ks.length=[]:=DP.mp g.len;have g':=g.plain back_O back_E (by decide +kernel);refine⟨g'.open_,g'.els,DP.mp g'.len,λi h=>?_,by rw[BH]; exact CO _⟩;have:i=ks.length:=by rw[BH] at h; simpa using h
 rw[this,gJ]
structure RowsAt (K:W.Frag) (H:Hp) (a:Addr) (ks:List Str):Prop where
 ex:∃rs:List Addr,a9 K H a (rs.map V.ref)/\rs.length=ks.length/\∀i r,rs[i]?=some r->∃rest,a9 K H r (V.str (kd ks i) :: rest)
variable {H H':Hp} {a:Addr}
theorem RowsAt.mono {K:W.Frag} {ks:List Str} (h:RowsAt K H a ks) (e:a0 H H'):RowsAt K H' a ks :=
 ⟨let ⟨rs,h1,h2,h3⟩:=h.ex; ⟨rs,e.tup h1,h2,λi r q=>let ⟨rest,z⟩:=h3 i r q; ⟨rest,e.tup z⟩⟩⟩
theorem at0 {x:V} {r:List V}:aY (x :: r) 0=some x:=by unfold aY bz;rw[BJ (by decide),BJ (by simp)];rfl
theorem ixk {K:W.Frag} {Q:VK} {ks:List Str} {i:Int} (h:RowsAt K H a ks) (h0:0<=i) (h1:i<ks.length) (q:Q (.str (kd ks i.toNat)) H):dw K (.ref a) (.int i) H λx H1=>dw K x (.int 0) H1 Q:=by
 obtain⟨rs,e1,e2,e3⟩:=h.ex;have hi:i.toNat<rs.length:=by omega
 obtain⟨rest,hr⟩:=e3 i.toNat rs[i.toNat] (by simp [hi]);refine⟨a,_,i,.ref rs[i.toNat],rfl,rfl,e1,?_,rs[i.toNat],_,0,_,rfl,rfl,hr,at0,q⟩;have e:aY (rs.map V.ref) i=some (V.ref rs[i.toNat]):=by unfold aY bz;rw[BJ h0,BJ (by rw[BA]; omega),D0,BI];simp [hi]
 exact e
def dg (L:List (Nat×Nat)):List (aD×V):=L.map λp=>(Sum.inl (p.1:Int),V.int (p.2:Int))
def bg (ks:List Str) (i:Nat):List (aD×V):=dg (ax ks i)
theorem nr (ks:List Str):∀i,∀p∈ax ks i,p.1<i
 | 0,p,h=>by cases h
 | i+1,p,h=>by
   rcases C5.mp h with h|h
   . have:=nr ks i p h;omega
   . rcases fT ks i with⟨b,e,_⟩|⟨e,_⟩
     . rw[e] at h;have:p=(i,b):=by simpa using h
       rw[this];exact CA _
     . rw[e] at h;cases h
theorem ub (ks:List Str) (i:Nat):aw (bg ks i) (Sum.inl (i:Int):aD)=none:=by
 have h:=gL (Sum.inl (i:Int):aD) (bg ks i);cases q:aw (bg ks i) (Sum.inl (i:Int):aD) with
 | none=>rfl
 | some v =>
   rw[q] at h;obtain⟨kv,hm,e⟩:=Dc.mp h;obtain⟨p,hp,rfl⟩:=Ba.mp hm;have e:=Bo e;have:(p.1:Int)=(i:Int):=Sum.inl.inj e;have:=nr ks i p hp;omega
theorem jH {ks:List Str} (h:br ks b i):aU (bg ks i) (Sum.inl (i:Int):aD) (V.int (b:Int))=bg ks (i+1):=by
 rw[nu _ (ub ks i)];rcases fT ks i with⟨b',e,h'⟩|⟨e,h'⟩
 . show dg (ax ks i)++_=dg (ax ks i++one ks i);rw[e,iY h h'];unfold dg;rw[BK];rfl
 . exact absurd h (h' b)
theorem oT {ks:List Str} (h:¬ isE (kd ks i)=true):bg ks (i+1)=bg ks i:=by
 rcases fT ks i with⟨b',e,h'⟩|⟨e,h'⟩
 . exact absurd h'.1 h
 . show dg (ax ks i++one ks i)=_;rw[e,CJ];rfl
theorem kJ (ks:List Str):∀i,(ax ks i).length<=i
 | 0=>BG _
 | i+1=>by have:=kJ ks i;show(ax ks i++one ks i).length<=i+1;rw[BH];rcases fT ks i with⟨b',e,h'⟩|⟨e,h'⟩ <;> rw[e] <;> simp <;> omega
theorem m7 (ks:List Str) (i:Nat):(bg ks i).length<=i:=by unfold bg dg; rw[BA]; exact kJ ks i
def cw (ks:List Str) (i:Nat):List V:=(stk ks i).reverse.map λ(n:Nat)=>V.int (n:Int)
theorem Ao (ks:List Str):∀i,(cw ks i).length<=i:=by
 intro i;unfold cw;rw[BA,CD]
 induction i with
 | zero=>exact BG _
 | succ i ih =>
   rw[cI];unfold push;split
   . simp; omega
   . split
     . simp; omega
     . omega
theorem inO (s:Str):cP (.str s) [V.str "if",V.str "while"]=isO s:=by show((("if":Str)==s) || ((("while":Str)==s) || false))=isO s;unfold isO;rw[DY];congr 1 <;> (rw[C3,E8,BL]; exact eq_comm)
theorem inE (s:Str):cP (.str s) [V.str "else",V.str "end"]=isE s:=by show((("else":Str)==s) || ((("end":Str)==s) || false))=isE s;unfold isE;rw[DY];congr 1 <;> (rw[C3,E8,BL]; exact eq_comm)
theorem dG {n:Nat} (h:n<1000000):n<sizeLine:=by
 have:(1000000:Nat)<sizeLine:=by decide
 omega
theorem oX {ks:List Str} {r:List Nat} (h:stk ks i=b :: r):aY (cw ks i) (-1)=some (.int (b:Int))/\(cw ks i)[(cw ks i).length - 1]?=some (.int (b:Int))/\(cw ks i).dropLast=r.reverse.map λ(n:Nat)=>V.int (n:Int):=by
 have e:cw ks i=(r.reverse.map λ(n:Nat)=>V.int (n:Int))++[V.int (b:Int)]:=by unfold cw;rw[h,CH,BK];rfl
 rw[e];refine⟨?_,by simp,by simp⟩;unfold aY bz;rw[BE (by decide),BJ (by simp; omega),D0];have:((-1:Int)+(((r.reverse.map λ(n:Nat)=>V.int (n:Int))++[V.int (b:Int)]).length:Int)).toNat=(r.reverse.map λ(n:Nat)=>V.int (n:Int)).length:=by rw[BH];simp;omega
 rw[this];simp
theorem pz {K:W.Frag} {q:Addr}{xs:List V} {kvs:List (aD×V)} {o:HO} (h:a9 K H a xs) (hq:H q=some (.dK kvs)):a9 K (upd H q o) a xs:=by
 rcases h with(h|⟨o,h⟩)|h
 . exact .inl (.inl (by rw[aH (cY h hq (by intro z; cases z))]; exact h))
 . exact .inl (.inr ⟨o,by rw[aH (cY h hq (by intro z; cases z))]; exact h⟩)
 . exact .inr h
theorem RowsAt.frz {K:W.Frag} {H:Hp} {a q:Addr} {ks:List Str} {kvs:List (aD×V)} {o:HO} (h:RowsAt K H a ks) (hq:H q=some (.dK kvs)):RowsAt K (upd H q o) a ks :=
 ⟨let ⟨rs,h1,h2,h3⟩:=h.ex; ⟨rs,pz h1 hq,h2,λi r z=>let ⟨rest,y⟩:=h3 i r z; ⟨rest,pz y hq⟩⟩⟩
def ph (H:Hp) (l:Addr) (ks:List Str):Prop:=∃bs,H l=some (.lst bs)/\bs.length=ks.length/\∀k,k+1<ks.length->∃r:Nat,Beh ks k r/\bs[k]?=some (.int (r:Int))
def n6 (n:Nat):List V:=(List.replicate n [V.non]).flatten
theorem uc (n:Nat):(n6 n).length=n:=by unfold n6; rw[ny]; simp
theorem qK {ks:List Str} {k:Nat}(n:Nat) (hk:k<n) (h:br ks b k):aw (bg ks n) (Sum.inl (k:Int):aD)=some (.int (b:Int)):=by
 induction n with
 | zero=>omega
 | succ n ih =>
   rcases Bl k n with z|z
   . rcases fT ks n with⟨b',e,h'⟩|⟨e,h'⟩
     . rw[<- jH h',hX,BE (λz'=>by have:(k:Int)=(n:Int):=Sum.inl.inj z'; omega)];exact ih z
     . have:bg ks (n+1)=bg ks n:=by show dg (ax ks n++one ks n)=_;rw[e,CJ];rfl
       rw[this];exact ih z
   . have:k=n:=by omega
     subst this;rw[<- jH h,hX,BJ rfl]
theorem oq {ks:List Str} {n:Nat}{kv:aD×V} (h:(bg ks n)[i]?=some kv):∃p:Nat×Nat,(ax ks n)[i]?=some p/\kv=(Sum.inl (p.1:Int),V.int (p.2:Int)):=by
 unfold bg dg at h;rw[BI] at h;cases q:(ax ks n)[i]? with
 | none=>rw[q] at h; cases h
 | some p=>rw[q] at h; exact⟨p,rfl,by simpa using h.symm⟩
def natsV (l:List Nat):List V:=l.map λ(n:Nat)=>V.int (n:Int)
def df (H:Hp) (v:V):Option (List Nat)->Prop
 | none=>v=.non
 | some l=>∃p,v=.ref p/\H p=some (.tup (natsV l))
theorem df.mono {v:V} {o:Option (List Nat)} (h:df H v o) (e:a0 H H'):df H' v o:=by
 cases o with
 | none=>exact h
 | some l=>obtain⟨p,h1,h2⟩:=h; exact⟨p,h1,e _ _ h2⟩
theorem df.lst {H:Hp} {q:Addr} {l l':List V} {v:V} {o:Option (List Nat)} (h:df H v o) (hq:H q=some (.lst l)):df (upd H q (.lst l')) v o:=by
 cases o with
 | none=>exact h
 | some l=>obtain⟨p,h1,h2⟩:=h; exact⟨p,h1,by rw[aH (cY h2 hq (by intro z; cases z))]; exact h2⟩
def FoundN (H:Hp) (l:Addr) (ks:List Str) (i:Nat):Prop:=∃vs:List V,H l=some (.lst vs)/\vs.length=i/\∀k v,vs[k]?=some v->∃o,Due ks k o/\df H v o
theorem FoundN.mono {H H':Hp} {l:Addr} {ks:List Str} {i:Nat} (h:FoundN H l ks i) (e:a0 H H'):FoundN H' l ks i :=
 let ⟨vs,h1,h2,h3⟩:=h; ⟨vs,e _ _ h1,h2,λk v q=>let ⟨o,d,z⟩:=h3 k v q; ⟨o,d,z.mono e⟩⟩
theorem FoundN.push {l:Addr} {ks:List Str} {vs:List V} {v:V} {o:Option (List Nat)} (h1:H l=some (.lst vs)) (h2:vs.length=i) (h3:∀k v,vs[k]?=some v->∃o,Due ks k o/\df H v o) (hd:Due ks i o) (hv:df H v o):FoundN (upd H l (.lst (vs++[v]))) l ks (i+1):=by
 refine⟨_,a8,by rw[BH,h2]; rfl,λk v' q=>?_⟩;rcases Bl k vs.length with z|z
 . rw[C0 z] at q;obtain⟨o',d,y⟩:=h3 k v' q;exact⟨o',d,y.lst h1⟩
 . rw[Bz z] at q;have hk:k - vs.length=0:=by
     rcases Nat.eq_zero_or_pos (k - vs.length) with y|y
     . exact y
     . rw[Dh (by simp; omega)] at q;cases q
   rw[hk] at q;have hv':v=v':=by simpa using q
   subst hv';have:k=i:=by omega
   subst this;exact⟨o,hd,hv.lst h1⟩
section
variable {P:Program} {w:World} {K:W.Frag} {mg:Str->Option Value} {base:Heap}
def sp_begins_of (K:W.Frag):Sp:=λvs H Q _=>∃(a:Addr) (ks:List Str),vs=[.ref a]/\RowsAt K H a ks/\Wf ks/\ks.length<=1000/\∀d H',a0 H H'->H d=none->H' d=some (.dK (bg ks ks.length))->Q (.ref d) H'
def sp_firsts_behind (K:W.Frag):Sp:=λvs H Q _=>∃(a d:Addr) (ks:List Str),vs=[.ref a,.ref d]/\RowsAt K H a ks/\Wf ks/\ks.length<=1000/\H d=some (.dK (bg ks ks.length))/\∀l o H',a0 (upd H d (.frz o (.dK (bg ks ks.length)))) H'->H l=none->ph H' l ks->Q (.ref l) H'
def sp_ways (K:W.Frag):Sp:=λvs H Q _=>∃(a:Addr) (ks:List Str),vs=[.ref a]/\RowsAt K H a ks/\Wf ks/\ks.length<=1000/\∀l H',a0 H H'->H l=none->FoundN H' l ks ks.length->Q (.ref l) H'
theorem iO {n:Nat} (h:n<1000000):n<=sizeLine:=by
 have:(1000000:Nat)<sizeLine:=by decide
 omega
theorem sqT_lst {K:W.Frag} {q:Addr}{xs l:List V} {o:HO} (h:a9 K H a xs) (hq:H q=some (.lst l)):a9 K (upd H q o) a xs:=by
 rcases h with(h|⟨o,h⟩)|h
 . exact .inl (.inl (by rw[aH (cY h hq (by intro z; cases z))]; exact h))
 . exact .inl (.inr ⟨o,by rw[aH (cY h hq (by intro z; cases z))]; exact h⟩)
 . exact .inr h
def opsV (os:List Str):List V:=os.reverse.map V.str
theorem opsV_cons (o:Str) (os:List Str):opsV (o :: os)=opsV os++[V.str o]:=by unfold opsV;rw[CH,BK];rfl
theorem opsV_len (os:List Str):(opsV os).length=os.length:=by unfold opsV; rw[BA,CD]
theorem at_last (xs:List V) (v:V):aY (xs++[v]) (-1)=some v:=by
 unfold aY bz;rw[BE (by decide),BJ (by simp; omega),D0];have:((-1:Int)+((xs++[v]).length:Int)).toNat=xs.length:=by rw[BH];simp;omega
 rw[this];simp
theorem ix_last (xs:List V) (v:V):bz (xs++[v]).length (-1)=some xs.length:=by unfold bz;rw[BE (by decide),BJ (by simp; omega)];congr 1;rw[BH];simp;omega
def Nm (s:Str):Prop:=PyData.strOk s=true
theorem nfree {p q:Addr} {o:HO} (e:a0 H H') (hp:H p=some o) (hq:H' q=none):p≠q:=λz=>by have:=e _ _ hp;rw[z,hq] at this;cases this
end
end K13
namespace Fl
open PySem L2 Gx
structure Rw where
 r:Addr
 k:Str
 c:Str
structure Fd where
 name:Str
 fa:Addr
 ra:Addr
 rs:List Rw
def fY (K:W.Frag) (H:Hp) (w:Rw):Prop:=∃rest,a9 K H w.r (V.str w.k :: rest)/\(w.k="call"->∃x y,rest=[x,.str w.c,y])
variable {H:Hp}
theorem fY.mono {K:W.Frag} {H':Hp}{w:Rw} (e:a0 H H') (h:fY K H w):fY K H' w:=let ⟨rest,h1,h2⟩:=h; ⟨rest,e.tup h1,h2⟩
structure FnAt (K:W.Frag) (H:Hp) (f:Fd):Prop where
 fn:∃fo pa,a9 K H f.fa [.str f.name,fo,.ref pa,.ref f.ra]
 rw_:a9 K H f.ra (f.rs.map λw=>V.ref w.r)
 rk:∀w∈f.rs,fY K H w
 fu:∃ps ds,K12.FunAt K H f.fa ps ds
 wf:K13.Wf (f.rs.map (·.k))
 len:f.rs.length<=100
theorem FnAt.mono {K:W.Frag} {H H':Hp} {f:Fd} (e:a0 H H') (h:FnAt K H f):FnAt K H' f :=
 ⟨let ⟨a,b,z⟩:=h.fn; ⟨a,b,e.tup z⟩,e.tup h.rw_,λw hw=>(h.rk w hw).mono e,let ⟨a,b,z⟩:=h.fu; ⟨a,b,z.mono e⟩,h.wf,h.len⟩
theorem FnAt.rows {K:W.Frag} {f:Fd} (h:FnAt K H f):K13.RowsAt K H f.ra (f.rs.map (·.k)):=by
 refine⟨f.rs.map (·.r),by rw[CN]; exact h.rw_,by rw[BA,BA],λi r hr=>?_⟩;rw[BI] at hr;cases e:f.rs[i]? with
 | none=>rw[e] at hr; cases hr
 | some w =>
   rw[e] at hr;cases hr;obtain⟨rest,h1,_⟩:=h.rk w (BQ e);refine⟨rest,?_⟩;have:K13.kd (f.rs.map (·.k)) i=w.k:=by unfold K13.kd;rw[C4,BI,e];rfl
   rw[this];exact h1
structure FS (C:Addr) (H:Hp) (x dx:Addr) (fs:List (Str×V)) (d:Nat->Addr) (kv:Nat->List (aD×V)):Prop where
 ob:H x=some (.ins C dx fs)
 dc:∀j,j<6->H (d j)=some (.dK (kv j))
theorem FS.mono {C:Addr} {H':Hp}{x dx:Addr} {fs:List (Str×V)} {d:Nat->Addr} {kv:Nat->List (aD×V)} (e:a0 H H') (h:FS C H x dx fs d kv):FS C H' x dx fs d kv:=⟨e _ _ h.ob,λj hj=>e _ _ (h.dc j hj)⟩
theorem FS.put {C:Addr} {x dx:Addr} {fs:List (Str×V)} {d:Nat->Addr} {kv:Nat->List (aD×V)} (h:FS C H x dx fs d kv) (inj:∀i j,i<6->j<6->d i=d j->i=j) (j:Nat) (hj:j<6) (k':List (aD×V)):FS C (upd H (d j) (.dK k')) x dx fs d (λi=>if i=j then k' else kv i):=by
 refine⟨?_,λi hi=>?_⟩
 . rw[aH (cY h.ob (h.dc j hj) (by intro z; cases z))]; exact h.ob
 . by_cases e:i=j
   . subst e;rw[a8,BJ rfl]
   . rw[aH (λz=>e (inj i j hi hj z)),BE e];exact h.dc i hi
def cF (v:V) (d:Nat->Addr):List (Str×V):=bX "ways_in" (.ref (d 5)) (bX "names_in" (.ref (d 4)) (bX "rows_of" (.ref (d 3)) (bX "params_of" (.ref (d 2)) (bX "folded_of" (.ref (d 1)) (bX "number_of" (.ref (d 0)) (bX "last" v []))))))
theorem jk (v:V) (d:Nat->Addr):(cF v d).lookup ("number_of":Str)=some (.ref (d 0)):=by unfold cF;rw[bL,BE (by decide +kernel),bL,BE (by decide +kernel),bL,BE (by decide +kernel),bL,BE (by decide +kernel),bL,BE (by decide +kernel),bL,BJ rfl]
theorem nh (v:V) (d:Nat->Addr):(cF v d).lookup ("folded_of":Str)=some (.ref (d 1)):=by unfold cF;rw[bL,BE (by decide +kernel),bL,BE (by decide +kernel),bL,BE (by decide +kernel),bL,BE (by decide +kernel),bL,BJ rfl]
theorem uV (v:V) (d:Nat->Addr):(cF v d).lookup ("params_of":Str)=some (.ref (d 2)):=by unfold cF;rw[bL,BE (by decide +kernel),bL,BE (by decide +kernel),bL,BE (by decide +kernel),bL,BJ rfl]
theorem pF (v:V) (d:Nat->Addr):(cF v d).lookup ("rows_of":Str)=some (.ref (d 3)):=by unfold cF;rw[bL,BE (by decide +kernel),bL,BE (by decide +kernel),bL,BJ rfl]
theorem yn (v:V) (d:Nat->Addr):(cF v d).lookup ("names_in":Str)=some (.ref (d 4)):=by unfold cF;rw[bL,BE (by decide +kernel),bL,BJ rfl]
theorem nJ (v:V) (d:Nat->Addr):(cF v d).lookup ("ways_in":Str)=some (.ref (d 5)):=by unfold cF;rw[bL,BJ rfl]
theorem qR (v:V) (d:Nat->Addr):(cF v d).lookup ("row_at":Str)=none/\(cF v d).lookup ("ways_at":Str)=none:=by unfold cF;constructor <;> (rw[bL,BE (by decide +kernel),bL,BE (by decide +kernel),bL,BE (by decide +kernel),bL,BE (by decide +kernel),bL,BE (by decide +kernel),bL,BE (by decide +kernel),bL,BE (by decide +kernel)]; rfl)
def dd (d0 d1 d2 d3 d4 d5:Addr):Nat->Addr
 | 0=>d0
 | 1=>d1
 | 2=>d2
 | 3=>d3
 | 4=>d4
 | _=>d5
theorem xJ {d0 d1 d2 d3 d4 d5:Addr} (h:[d0,d1,d2,d3,d4,d5].Nodup) (i j:Nat) (hi:i<6) (hj:j<6) (e:dd d0 d1 d2 d3 d4 d5 i=dd d0 d1 d2 d3 d4 d5 j):i=j:=by
 have g:∀k,k<6->[d0,d1,d2,d3,d4,d5][k]?=some (dd d0 d1 d2 d3 d4 d5 k):=λk hk=>by rcases k with _|_|_|_|_|_|k <;> first|rfl|omega
 exact(CY hi h).mp ((g i hi).trans ((Bv some e).trans (g j hj).symm))
theorem ap {a b:Addr} {o:HO} (h:upd H a o b=none):b≠a/\H b=none:=by
 have hn:b≠a:=λz=>by rw[z,a8] at h; cases h
 rw[aH hn] at h;exact⟨hn,h⟩
theorem aZ {a b:Addr} {o o':HO} (h:H b=some o) (hn:b≠a):upd H a o' b=some o:=by rw[aH hn]; exact h
theorem gN (f:Str) (v:V) (l:List (Str×V)) (k:Nat) (h:l.length<=k):(bX f v l).length<=k+1:=Bk (lS f v l) (by omega)
theorem yl {α:Type} {l:List α} {f:α->V} {r:Int} {a:α} (h0:0<=r) (h:l[r.toNat]?=some a):aY (l.map f) r=some (f a):=by obtain⟨j,rfl⟩:=EL h0;refine bp ?_;rw[B'] at h;rw[BI,h];rfl
end Fl
namespace L2
open PySem
def hl (H:Hp):Hp:=λb=>match H b with
 | some (.lst xs)=>some (.lst xs)
 | some (.tup xs)=>some (.tup xs)
 | _=>none
variable {H:Hp}
theorem jy :a0 (hl H) H:=λb o h=>by
 unfold hl at h;split at h
 . rename_i e; rw[e]; exact h
 . rename_i e; rw[e]; exact h
 . cases h
theorem nM {b:Addr} {xs:List V} (h:H b=some (.lst xs)):hl H b=some (.lst xs):=by unfold hl; rw[h]
theorem yF {b:Addr} {xs:List V} (h:H b=some (.tup xs)):hl H b=some (.tup xs):=by unfold hl; rw[h]
theorem a0.hl {H H':Hp} (e:a0 H H'):a0 (hl H) (hl H'):=λb o h=>by have h1:=jy _ _ h;have h2:=e _ _ h1;unfold L2.hl at h ⊢;rw[h1] at h;rw[h2];exact h
theorem x3 {a:Addr} {o:HO} (h:∀xs,H a≠some (.lst xs)/\H a≠some (.tup xs)) (ho:∀xs,o≠.lst xs/\o≠.tup xs):hl (upd H a o)=hl H:=by
 funext b;unfold hl upd;by_cases hb:b=a
 . subst hb;rw[BJ rfl];cases o with
   | lst xs=>exact absurd rfl (ho xs).1
   | tup xs=>exact absurd rfl (ho xs).2
   | _ =>
     cases e:H b with
     | none=>rfl
     | some u=>cases u with
       | lst xs=>exact absurd e (h xs).1
       | tup xs=>exact absurd e (h xs).2
       | _=>rfl
 . rw[BE hb]
theorem gQ {a:Addr} {kvs kvs':List (aD×V)} (h:H a=some (.dK kvs)):hl (upd H a (.dK kvs'))=hl H :=
 x3 (λxs=>⟨(by rw[h]; intro z; cases z),(by rw[h]; intro z; cases z)⟩) λxs=>⟨(by intro z; cases z),(by intro z; cases z)⟩
end L2
namespace K13
open PySem L2
theorem FoundN.hl {H:Hp} {l:Addr} {ks:List Str} {i:Nat} (h:FoundN H l ks i):FoundN (L2.hl H) l ks i:=by
 obtain⟨vs,h1,h2,h3⟩:=h;refine⟨vs,nM h1,h2,λk v q=>?_⟩;obtain⟨o,d,z⟩:=h3 k v q;refine⟨o,d,?_⟩;cases o with
 | none=>exact z
 | some l=>obtain⟨p,z1,z2⟩:=z; exact⟨p,z1,yF z2⟩
end K13
namespace F2
open PySem L2 Gx Fl
structure Fd where
 name:Str
 fo:V
 fa:Addr
 pa:Addr
 ra:Addr
 ps:List Str
 rs:List Rw
 ds:List K12.RowD
structure FnAt (K:W.Frag) (H:Hp) (f:Fd):Prop where
 fn:a9 K H f.fa [.str f.name,f.fo,.ref f.pa,.ref f.ra]
 pr:a9 K H f.pa (f.ps.map V.str)
 rw_:a9 K H f.ra (f.rs.map λw=>V.ref w.r)
 rk:∀w∈f.rs,fY K H w
 fu:K12.FunAt K H f.fa f.ps f.ds
 wf:K13.Wf (f.rs.map (·.k))
 len:f.rs.length<=100
theorem FnAt.mono {K:W.Frag} {H H':Hp} {f:Fd} (e:a0 H H') (h:FnAt K H f):FnAt K H' f :=
 ⟨e.tup h.fn,e.tup h.pr,e.tup h.rw_,λw hw=>(h.rk w hw).mono e,h.fu.mono e,h.wf,h.len⟩
def toF (f:Fd):Fl.Fd:=⟨f.name,f.fa,f.ra,f.rs⟩
theorem FnAt.old {K:W.Frag} {H:Hp} {f:Fd} (h:FnAt K H f):Fl.FnAt K H (toF f):=⟨⟨_,_,h.fn⟩,h.rw_,h.rk,⟨_,_,h.fu⟩,h.wf,h.len⟩
def nms (f:Fd):List Str:=K12.onceL (K12.allOf f.ps f.ds)
def kds (f:Fd):List Str:=f.rs.map (·.k)
def kD (g:Nat->Fd->V) (fns:List Fd):List (aD×V):=fns.mapIdx λi f=>(Sum.inr f.name,g i f)
theorem xY (g:Nat->Fd->V) (fns:List Fd) (f:Fd):kD g (fns++[f])=kD g fns++[(Sum.inr f.name,g fns.length f)]:=by unfold kD;rw[List.mapIdx_append];simp
variable {fns:List Fd}
theorem uN {g g':Nat->Fd->V} (h:∀i f,i<fns.length->g i f=g' i f):kD g fns=kD g' fns:=by unfold kD;refine List.ext_getElem (by simp) λi h1 h2=>?_;simp only[List.getElem_mapIdx];rw[h i _ (by simpa using h1)]
theorem vT (g:Nat->Fd->V) {s:Str} (h:s ∉ fns.map (·.name)):aw (kD g fns) (Sum.inr s:aD)=none:=by
 unfold aw;rw[Option.map_eq_none_iff,List.find?_eq_none];intro kv hkv z;unfold kD at hkv;obtain⟨i,hi,e⟩:=ET.mp hkv;subst e;have z:(Sum.inr fns[i].name:aD)=Sum.inr s:=by simpa using z
 exact h (Ba.mpr ⟨fns[i],Db hi,Sum.inr.inj z⟩)
theorem nN {f:Fd} {i:Nat} (h:fns[i]?=some f) (nd:(fns.map (·.name)).Nodup):f.name ∉ (fns.take i).map (·.name):=by
 intro z;obtain⟨g,hg,e⟩:=Ba.mp z;obtain⟨j,hj⟩:=Bp hg;have hji:j<i:=by have:=(BC.mp hj).1;rw[Bd] at this;omega
 rw[DG hji] at hj;have h1:(fns.map (·.name))[i]?=some f.name:=by rw[BI,h]; rfl
 have h2:(fns.map (·.name))[j]?=some f.name:=by rw[BI,hj]; exact Bv some e
 have:=(CY (BC.mp h2).1 nd).mp (h2.trans h1.symm);omega
theorem fK {g g':Nat->Fd->V} {f:Fd} {i:Nat} {v:V} (h:fns[i]?=some f) (nd:(fns.map (·.name)).Nodup) (hg:∀j f,j<i->g j f=g' j f) (hv:v=g' i f):aU (kD g (fns.take i)) (Sum.inr f.name:aD) v=kD g' (fns.take (i+1)):=by
 have hi:i<fns.length:=(BC.mp h).1;have hl:(fns.take i).length=i:=by rw[Bd]; omega
 rw[nu _ (vT g (nN h nd)),Bm,h];show _=kD g' (fns.take i++[f]);rw[xY,hl,<- hv,uN (g:=g) (g':=g') λj f hj=>hg j f (by omega)]
theorem kD_at (g:Nat->Fd->V):∀{fns:List Fd} {i:Nat} {f:Fd},(fns.map (·.name)).Nodup->fns[i]?=some f->aw (kD g fns) (Sum.inr f.name:aD)=some (g i f):=by
 intro fns i f nd h;have hi:i<fns.length:=(BC.mp h).1;have key:∀k,i<k->k<=fns.length->aw (kD g (fns.take k)) (Sum.inr f.name:aD)=some (g i f):=by
   intro k
   induction k with
   | zero=>intro h0; exact absurd h0 (D9 _)
   | succ k ih =>
     intro hk hk';obtain⟨f',hf'⟩:∃f',fns[k]?=some f':=⟨fns[k],BP (by omega)⟩
     rw[<- fK (g:=g) (g':=g) hf' nd (λ_ _ _=>rfl) rfl,hX];by_cases e:i=k
     . subst e;rw[h] at hf';cases hf';rw[BJ rfl]
     . have hn:¬ (Sum.inr f.name:aD)=Sum.inr f'.name:=λz=>nN hf' nd (Ba.mpr ⟨f,BQ (by rw[DG (show i<k by omega)]; exact h),Sum.inr.inj z⟩);rw[BE hn];exact ih (by omega) (by omega)
 have:=key fns.length hi (BG _);rw[Bw] at this;exact this
structure FlowsAt (K:W.Frag) (C:Addr) (H:Hp) (x:Addr) (fns:List Fd):Prop where
 all:∀f∈fns,FnAt K H f
 nd:(fns.map (·.name)).Nodup
 ob:∃dx fz d kv,∃nl wl:Nat->Addr,fns[fns.length - 1]?=some fz/\FS C H x dx (cF (V.str fz.name) d) d kv/\kv 0=kD (λi _=>.int i) fns/\kv 1=kD (λ_ f=>f.fo) fns/\kv 2=kD (λ_ f=>.ref f.pa) fns/\kv 3=kD (λ_ f=>.ref f.ra) fns /\
   kv 4=kD (λi _=>.ref (nl i)) fns/\kv 5=kD (λi _=>.ref (wl i)) fns/\∀i f,fns[i]?=some f->H (nl i)=some (.lst ((nms f).map V.str))/\K13.FoundN H (wl i) (kds f) (kds f).length
theorem FlowsAt.mono {K:W.Frag} {C:Addr} {H H':Hp} {x:Addr} {fns:List Fd} (e:a0 H H') (h:FlowsAt K C H x fns):FlowsAt K C H' x fns:=by obtain⟨dx,fz,d,kv,nl,wl,h0,h1,h2,h3,h4,h5,h6,h7,h8⟩:=h.ob;exact⟨λf hf=>(h.all f hf).mono e,h.nd,⟨dx,fz,d,kv,nl,wl,h0,h1.mono e,h2,h3,h4,h5,h6,h7,λi f hi=>⟨e _ _ (h8 i f hi).1,(h8 i f hi).2.mono e⟩⟩⟩
end F2
namespace K41
open PySem L2 Gx Fl
structure RR where
 w:Rw
 d:K12.RowD
def jc (K:W.Frag) (H:Hp) (x:RR):Prop:=x.w.r=x.d.r/\fY K H x.w/\K12.RowAt K H x.d
theorem ok_lets {l:List Nat} (h:∀c∈l,c∈K12.lets.cps.toList):PyData.strOk (tx l)=true:=by
 have hz:=K12.lets_ok;unfold PyData.strOk at hz ⊢;rw[Array.all_eq_true'] at hz ⊢;intro x hx;have hx:x∈l:=by simpa [tx] using hx
 exact hz x (by simpa using h x hx)
end K41
namespace L2
open PySem PySem.Spec PyProof.Rows
def Ad (t u:TS):TS:=λD σ H=>∃M:St->Hp->Prop,t { D with nx:=M } σ H/\∀σ' H',M σ' H'->u D σ' H'
theorem iw {X:Cx} {st:Stmt} {rest:List Stmt} {t u:TS} (h1:PS X st t) (h2:cB X rest u):cB X (st :: rest) (Ad t u):=dH h1 h2
end L2
namespace Bg
open PySem L2 Gx K41
def HasD (K:W.Frag) (H:Hp) (n:Nat) (v:V):Prop:=∃d,av n d/\aa K H d v
def HasA (K:W.Frag) (H:Hp) (n:Nat) (xs:List V):Prop:=∃ds,(∀d∈ds,av n d)/\ao K H ds xs
theorem HasD.mono {K:W.Frag} {H H':Hp} {n:Nat} {v:V} (h:HasD K H n v) (e:a0 H H'):HasD K H' n v:=let ⟨d,l,z⟩:=h; ⟨d,l,aa.mono e d v z⟩
variable {H:Hp}
theorem HasD.up {K:W.Frag} {n m:Nat} {v:V} (h:HasD K H n v) (e:n<=m):HasD K H m v:=let ⟨d,l,z⟩:=h; ⟨d,l.mono e,z⟩
theorem HasD.str {K:W.Frag} {H:Hp} {n:Nat} {s:Str} (h:PyData.strOk s=true):HasD K H n (.str s):=⟨.str s,av.str h,by unfold aa; rfl⟩
theorem HasD.int {K:W.Frag} {H:Hp} {n:Nat} {i:Int}:HasD K H n (.int i):=⟨.int i,av.int i,by unfold aa; rfl⟩
theorem HasD.bl {K:W.Frag} {n:Nat} {b:Bool}:HasD K H n (.bl b):=⟨.bool b,av.bool b,by unfold aa; rfl⟩
theorem HasA.nil {K:W.Frag} {n:Nat}:HasA K H n []:=⟨[],λd h=>(by cases h),by unfold ao; rfl⟩
theorem HasA.cons {K:W.Frag} {H:Hp} {n:Nat} {x:V} {xs:List V} (h:HasD K H n x) (t:HasA K H n xs):HasA K H n (x :: xs):=by obtain⟨d,l,z⟩:=h;obtain⟨ds,ls,zs⟩:=t;refine⟨d :: ds,λe he=>(Be.mp he).elim (λz=>z ▸ l) (ls e),?_⟩;unfold ao;exact⟨_,_,rfl,z,zs⟩
theorem HasA.of {K:W.Frag} {H:Hp} {n:Nat}:∀{xs:List V},(∀x∈xs,HasD K H n x)->HasA K H n xs
 | [],_=>.nil
 | x :: xs,h=>.cons (h x BU) (HasA.of λy hy=>h y (BS _ hy))
theorem HasD.tup {K:W.Frag} {H:Hp} {n:Nat} {a:Addr} {xs:List V} (h:a9 K H a xs) (t:HasA K H n xs):HasD K H (n+1) (.ref a):=by obtain⟨ds,ls,zs⟩:=t;refine⟨.tuple ds,av.tuple ls,?_⟩;unfold aa;exact⟨a,xs,rfl,h,zs⟩
theorem vI {K:W.Frag} {nk:Str} {fa tr qC:Addr} {fo:V} {ps:List Str} (rr:List RR) (h1:a9 K H fa [.str nk,fo,.ref qC,.ref tr]) (h2:a9 K H tr (rr.map λx=>V.ref x.w.r)) (h3:∀x∈rr,jc K H x) (h4:a9 K H qC (ps.map V.str)) (h5:∀s∈ps,K12.Nm s) (h6:ps.length<=100) (h7:rr.length<=100) (wf:K13.Wf (rr.map λx=>x.w.k)) :
   F2.FnAt K H ⟨nk,fo,fa,qC,tr,ps,rr.map (·.w),rr.map (·.d)⟩:=by
 refine⟨h1,h4,by show a9 K H tr ((rr.map (·.w)).map λw=>V.ref w.r); rw[CN]; exact h2,λw hw=>?_,⟨⟨_,_,_,_,h1,h4,?_⟩,λd hd=>?_,h5,h6,by show(rr.map (·.d)).length<=100; rw[BA]; exact h7⟩,by show K13.Wf ((rr.map (·.w)).map (·.k)); rw[CN]; exact wf,by show(rr.map (·.w)).length<=100; rw[BA]; exact h7⟩
 . obtain⟨x,hx,rfl⟩:=Ba.mp hw;exact(h3 x hx).2.1
 . show a9 K H tr ((rr.map (·.d)).map λd=>V.ref d.r);rw[CN];have:(rr.map λx=>V.ref x.w.r)=rr.map ((λd=>V.ref d.r) ∘ (·.d)):=CZ λx hx=>by show V.ref x.w.r=V.ref x.d.r;rw[(h3 x hx).1]
   rw[<- this];exact h2
 . obtain⟨x,hx,rfl⟩:=Ba.mp hd;exact(h3 x hx).2.2
end Bg
namespace Ex
open PySem PySem.W PyProof.Rows PySem.Spec
section
variable {prog:Program} {w:World} {A:Around} {E:Value->Shared->Prop} {R:Result->Shared->Prop} {h:Heap} {g:Array GenState} {d:Drawn} {t:Nat} {os:OsState}
 {nm q:Str} {C N:Addr} {bs bm:List Value} {hdct:Bool} {sn:List Str} {sub:List Value} {ab:Bool} {col:Option Bool} {dd:Option Addr} {k0 k1 k2 k3 k5:Option Value}
end
end Ex
namespace L2
open PySem PySem.Spec PyProof.Rows
section
variable {P:Program} {w:World} {K:W.Frag} {mg:Str->Option Value} {base:Heap} {N:List Str} {qual:Str} {sc:Scope} {f:Addr} {cd:Value} {A:Around} {outer:List Env} {s0 s:Shared} {H0 H:Hp} {E:XK}
 {pins:List (Addr×Obj)} {σ:St} {cls:Value} {d:Option Addr} {e:Addr}
end
end L2
namespace Ex
open PySem PySem.W PyProof.Rows PySem.Spec
section
variable {prog:Program} {w:World} {A:Around} {E:Value->Shared->Prop} {R:Result->Shared->Prop} {h:Heap} {g:Array GenState} {d:Drawn} {t:Nat} {os:OsState}
 {nm q:Str} {C N:Addr} {bs bm:List Value} {hdct:Bool} {sn:List Str} {sub:List Value} {ab:Bool} {col:Option Bool} {dd:Option Addr} {k0 k1 k2 k3 k5:Option Value}
end
end Ex
namespace L2
open PySem PySem.Spec PyProof.Rows
theorem pV {X:Cx}:aj X (compareOp .IsNot) (λx y H Q=>∃a b,x=.bl a/\y=.bl b/\Q (.bl (!decide (a=b))) H):=by intro pins s σ H x y v u Q I rx ry h;obtain⟨a,b,rfl,rfl,q⟩:=h;cases rx;cases ry;exact wpAny_isNot_plain rfl (bG I q (by cases a <;> cases b <;> rfl))
end L2
namespace Sk
open PySem PySem.Spec PyProof.Rows
mutual
def dX (w:World):PyData->Int
 | .int i=>hashInt i
 | .str x=>hashStr w x
 | .bool b=>hashInt (if b then 1 else 0)
 | .tuple ds=>reduceHash (Builtin.Tuple.tupleHashOf (cU w ds))
 | _=>0
def cU (w:World):List PyData->List Int
 | []=>[]
 | d :: ds=>dX w d :: cU w ds
end
mutual
def dy:PyData->Nat
 | .tuple ds=>cz ds+1
 | _=>1
def cz:List PyData->Nat
 | []=>0
 | d :: ds=>dy d+cz ds
end
theorem kM (w:World):∀a b,cU w (a++b)=cU w a++cU w b
 | [],b=>by simp [cU]
 | d :: a,b=>by simp [cU,kM w a b]
theorem oZ:∀a b,cz (a++b)=cz a+cz b
 | [],b=>by simp [cz]
 | d :: a,b=>by simp [cz,oZ a b,Da]
def hok:Nat->PyData->Bool
 | _,.int _=>true
 | _,.str x=>PyData.strOk x
 | _,.bool _=>true
 | n+1,.tuple ds=>ds.all (hok n)
 | _,_=>false
section
variable {prog:Program} {w:World}
theorem xV {A:Around} {E:Value->Shared->Prop} {s:Shared} {b:Bool} {Q:Int->Shared->Prop} (h:Q (hashInt (if b then 1 else 0)) { s with toks:=s.toks+1 }) :
   wpAny (model prog w) A (pyHash (.bool b)) Q E s:=by
 have hr:=rawHash_range (if b then 1 else 0);have hT:s.TypeIs (.bool b) "bool":=rfl;unfold pyHash;have hv:[Value.bool b].any Value.onHeap=false:=rfl;refine BB ?_;rw[cRoomFor,BE (by rw[hv]; exact BO)]; refine BF ?_;refine BB (CT hT De.lookup ?_);show wpAny _ _ (if(some (Value.builtin "int.__hash__")==some Value.none)=true then _ else _) Q E s;rw[BE (by rw[beq_builtin_none]; exact BO)];refine BB (CT hT De.lookup ?_);show wpAny _ _ (callSpecialIfBoundUnlessNone? (.bool b) "__hash__" _ >>= _) Q E s;refine BB (wpAny_callSpecialIfBoundUnlessNone?_slot hT De
   (CQ De hT entry_int_hash
     (show wpAny _ _ (do ret (<- mkInt (rawHash (if b then 1 else 0)))) _ _ s from wpAny_ret_mkInt ?_) (args_int_hash _)))
 show wpAny _ _ (if(decide (-(2:Int) ^ 63<=rawHash (if b then 1 else 0))&&decide (rawHash (if b then 1 else 0)<2 ^ 63))=true then _ else _) Q E _;rw[BJ (by rw[BN hr.1,BN hr.2]; rfl)];exact BF h
theorem jS:∀(n:Nat) (d:PyData) {A:Around} {E:Value->Shared->Prop} {s:Shared} {v:Value} {as:List Addr} {Q:Int->Shared->Prop},hok n d=true->A.units+n<cLine->Reads s.heap v d as->Q (dX w d) { s with toks:=s.toks+dy d } ->
   wpAny (model prog w) A (pyHash v) Q E s
 | n,.int i,A,E,s,v,as,Q,_,_,r,h=>by cases r; unfold dX dy at h; exact wpAny_pyHash_int h
 | n,.str x,A,E,s,v,as,Q,_,_,r,h=>by cases r; unfold dX dy at h; exact EA h
 | n,.bool x,A,E,s,v,as,Q,_,_,r,h=>by cases r; unfold dX dy at h; exact xV h
 | n+1,.tuple ds,A,E,s,v,as,Q,hk,hu,r,h=>by
   unfold dX dy at h;cases r with
   | @tuple a o items m _ _ ho hc hd hi =>
   have hT:s.TypeIs (.ref a) "tuple":=⟨o,ho,hc⟩
   have hk:∀d∈ds,hok n d=true:=by unfold hok at hk;exact By.mp hk
   unfold pyHash
   first|unfold pyHashByItsType|skip
   refine BB (wpAny_cRoomFor_or (.inr (by omega)) ?_);refine BB (CT hT Ct.lookup ?_);show wpAny _ _ (if(some (Value.builtin "tuple.__hash__")==some Value.none)=true then _ else _) Q E s;rw[BE (by rw[beq_builtin_none]; exact BO)];refine BB (CT hT Ct.lookup ?_);show wpAny _ _ (callSpecialIfBoundUnlessNone? (.ref a) "__hash__" _ >>= _) Q E s;refine BB (wpAny_callSpecialIfBoundUnlessNone?_slot hT Ct (CQ Ct hT F.entry_tuple_hash ?_ (F.args_tuple_hash_1 _)));show wpAny _ _ (Builtin.Tuple.tupleItemsOf (.ref a) >>= _) _ _ s;refine BB (wpAny_tupleItemsOf ho hd ?_);refine BB ?_;rw[<- DL];refine D1 _
     (λrest (b:Array Int) s'=>∃done left bs,ds=done++left/\ReadsAll s.heap rest left bs/\b.toList=cU w done/\s'={ s with toks:=s.toks+cz done })
     _ ?_ ?_ _ _ ⟨[],ds,_,rfl,hi,by simp [cU],by simp [cz]⟩
   . rintro x rest b s' ⟨done,left,bs,e,hl,hb,rfl⟩;cases hl with
     | @cons _ _ k ks' _ _ h1 hl' =>
       refine BB (jS n k (hk k (by rw[e]; simp)) (show A.in1.units+n<cLine by show A.units+1+n<cLine; omega) h1 ?_);have q:({ s with toks:=s.toks+cz done+dy k }:Shared)={ s with toks:=s.toks+cz (done++[k]) }:=by rw[oZ]; simp [cz,Da]
       first
         | exact BF ⟨done++[k],ks',_,by rw[e]; simp,hl',by rw[kM]; simp [hb,cU],q⟩
         | exact BB (BF (BF ⟨done++[k],ks',_,by rw[e]; simp,hl',by rw[kM]; simp [hb,cU],q⟩))
   . rintro b s' ⟨done,left,bs,rfl,hl,hb,rfl⟩;cases hl;rw[CJ] at h;show wpAny _ _ (retInt (Builtin.Tuple.tupleHashOf b.toList)) _ _ _;rw[hb];refine wpAny_ret_mkInt ?_;show wpAny _ _ (if(decide (-(2:Int) ^ 63<=Builtin.Tuple.tupleHashOf (cU w done))&&decide (Builtin.Tuple.tupleHashOf (cU w done)<2 ^ 63))=true then _ else _) Q E _;unfold reduceHash at h;by_cases hr:(decide (-(2:Int) ^ 63<=Builtin.Tuple.tupleHashOf (cU w done))&&decide (Builtin.Tuple.tupleHashOf (cU w done)<2 ^ 63))=true
     . rw[BJ hr];rw[BJ hr] at h;exact BF (by simpa [Da] using h)
     . rw[BE hr];rw[BE hr] at h;exact BB (EW (BF (by simpa [Da] using h)))
 | 0,.tuple _,_,_,_,_,_,_,hk,_,_,_=>by unfold hok at hk; cases hk
 | 0,.none,_,_,_,_,_,_,hk,_,_,_=>by unfold hok at hk; cases hk
 | 0,.list _,_,_,_,_,_,_,hk,_,_,_=>by unfold hok at hk; cases hk
 | 0,.dict _,_,_,_,_,_,_,hk,_,_,_=>by unfold hok at hk; cases hk
 | n+1,.none,_,_,_,_,_,_,hk,_,_,_=>by unfold hok at hk; cases hk
 | n+1,.list _,_,_,_,_,_,_,hk,_,_,_=>by unfold hok at hk; cases hk
 | n+1,.dict _,_,_,_,_,_,_,hk,_,_,_=>by unfold hok at hk; cases hk
theorem jG:∀(n:Nat) (d:PyData) (m:Nat) {A:Around} {E:Value->Shared->Prop} {s:Shared} {v:Value} {as:List Addr} {Q:Bool->Shared->Prop},hok n d=true->n<=m->Reads s.heap v d as->Q true s ->
   wpAny (model prog w) A (eqIsQuiet m v) Q E s
 | n,.int i,m,A,E,s,v,as,Q,_,_,r,h=>by cases r; rw[eqIsQuiet_byValue _ rfl]; exact BF h
 | n,.str x,m,A,E,s,v,as,Q,_,_,r,h=>by cases r; rw[eqIsQuiet_byValue _ rfl]; exact BF h
 | n,.bool x,m,A,E,s,v,as,Q,_,_,r,h=>by cases r; rw[eqIsQuiet_byValue _ rfl]; exact BF h
 | n+1,.tuple ds,m+1,A,E,s,v,as,Q,hk,hm,r,h=>by
   cases r with
   | @tuple a o items _ _ _ ho hc hd hi =>
   have hT:s.TypeIs (.ref a) "tuple":=⟨o,ho,hc⟩
   have hk:∀d∈ds,hok n d=true:=by unfold hok at hk;exact By.mp hk
   unfold eqIsQuiet;refine BB (CT hT F.slot_tuple_eq.lookup ?_);show wpAny _ _ (isInstance (.ref a) (.type "tuple") >>= _) _ _ s;refine BB (wpAny_isInstance hT isSubtype_tuple_tuple ?_);simp only[Co,Bt,if_false];refine BB (EU ho hd ?_);refine BB ?_;show wpAny _ _ (forIn items _ _) _ _ s;rw[<- DL];refine D1 _ (λrest r s'=>r.1=none/\s'=s/\∃left bs,ReadsAll s.heap rest left bs/\∀d∈left,hok n d=true) _ ?_ ?_ _ _ ⟨rfl,rfl,ds,_,hi,hk⟩
   . rintro v rest r s' ⟨hr,rfl,left,bs,hl,hall⟩;cases hl with
     | @cons _ _ k ks' _ _ h1 hl' =>
       refine BB (jG n k m (hall k BU) (by omega) h1 ?_);simp only[Co,Bt,if_false];exact BF ⟨rfl,rfl,ks',_,hl',λd hd=>hall d (BS _ hd)⟩
   . rintro ⟨r1,r2⟩ s' ⟨hr,rfl,_⟩;simp only at hr;subst hr;exact BF h
 | n+1,.tuple ds,0,_,_,_,_,_,_,_,hm,_,_=>by omega
 | 0,.tuple _,_,_,_,_,_,_,_,hk,_,_,_=>by unfold hok at hk; cases hk
 | 0,.none,_,_,_,_,_,_,_,hk,_,_,_=>by unfold hok at hk; cases hk
 | 0,.list _,_,_,_,_,_,_,_,hk,_,_,_=>by unfold hok at hk; cases hk
 | 0,.dict _,_,_,_,_,_,_,_,hk,_,_,_=>by unfold hok at hk; cases hk
 | n+1,.none,_,_,_,_,_,_,_,hk,_,_,_=>by unfold hok at hk; cases hk
 | n+1,.list _,_,_,_,_,_,_,_,hk,_,_,_=>by unfold hok at hk; cases hk
 | n+1,.dict _,_,_,_,_,_,_,_,hk,_,_,_=>by unfold hok at hk; cases hk
end
theorem j7:∀(n:Nat) (d:PyData),hok n d=true->d.canLay0=true/\d.depth<=n
 | n,.int i,_=>⟨rfl,by simp [PyData.depth]⟩
 | n,.str x,hk=>⟨by unfold hok at hk; exact hk,by simp [PyData.depth]⟩
 | n,.bool x,_=>⟨rfl,by simp [PyData.depth]⟩
 | n+1,.tuple ds,hk=>by
   have hk:∀d∈ds,hok n d=true:=by unfold hok at hk;exact By.mp hk
   have key:∀l:List PyData,(∀d∈l,hok n d=true)->PyData.canLayAll0 l=true/\PyData.depthAll l<=n:=by
     intro l
     induction l with
     | nil=>intro _; exact⟨rfl,BW _⟩
     | cons d l ih =>
       intro hl;obtain⟨a1,a2⟩:=j7 n d (hl d BU);obtain⟨b1,b2⟩:=ih λe he=>hl e (BS _ he);refine⟨by simp [PyData.canLayAll0,a1,b1],?_⟩;simp only[PyData.depthAll];omega
   obtain⟨h1,h2⟩:=key ds hk;refine⟨h1,?_⟩;simp only[PyData.depth];omega
 | 0,.tuple _,hk=>by unfold hok at hk; cases hk
 | 0,.none,hk=>by unfold hok at hk; cases hk
 | 0,.list _,hk=>by unfold hok at hk; cases hk
 | 0,.dict _,hk=>by unfold hok at hk; cases hk
 | n+1,.none,hk=>by unfold hok at hk; cases hk
 | n+1,.list _,hk=>by unfold hok at hk; cases hk
 | n+1,.dict _,hk=>by unfold hok at hk; cases hk
theorem mU {h h':Heap} {c:Addr} {ob:Obj} {es ep} (hob:h.get? c=some ob) (hod:ob.data=.dict es ep) (hs:Heap.SameBut c h h'):∀(n:Nat) (d:PyData) {v:Value} {as:List Addr},hok n d=true->Reads h v d as->Reads h' v d as
 | n,.int i,v,as,_,r=>by cases r; exact .int _ _
 | n,.str x,v,as,_,r=>by cases r; exact .str _ _
 | n,.bool x,v,as,_,r=>by cases r; exact .bool _
 | n+1,.tuple ds,v,as,hk,r=>by
   cases r with
   | @tuple a o items _ _ _ ho hc hd hi =>
   have hk:∀d∈ds,hok n d=true:=by unfold hok at hk;exact By.mp hk
   have key:∀(l:List PyData) {vs:List Value} {bs:List Addr},(∀d∈l,hok n d=true)->ReadsAll h vs l bs->ReadsAll h' vs l bs:=by
     intro l
     induction l with
     | nil=>intro vs bs _ r; cases r; exact .nil
     | cons d l ih =>
       intro vs bs hl r;cases r with
       | cons r1 r2=>exact .cons (mU hob hod hs n d (hl d BU) r1) (ih (λe he=>hl e (BS _ he)) r2)
   have hne:a≠c:=by rintro rfl;obtain rfl:o=ob:=Option.some.inj (ho.symm.trans hob);rw[hd] at hod; exact nomatch hod
   exact .tuple ((hs.2 a hne).trans ho) hc hd (key ds hk hi)
 | 0,.tuple _,_,_,hk,_=>by unfold hok at hk; cases hk
 | 0,.none,_,_,hk,_=>by unfold hok at hk; cases hk
 | 0,.list _,_,_,hk,_=>by unfold hok at hk; cases hk
 | 0,.dict _,_,_,hk,_=>by unfold hok at hk; cases hk
 | n+1,.none,_,_,hk,_=>by unfold hok at hk; cases hk
 | n+1,.list _,_,_,hk,_=>by unfold hok at hk; cases hk
 | n+1,.dict _,_,_,hk,_=>by unfold hok at hk; cases hk
structure DK (K:Type) [DecidableEq K] where
 D:K->PyData
 n:Nat
 n8:n<=8
 ok:∀k,hok n (D k)=true
 eqv:∀a b,PyData.eqv (D a) (D b)=decide (a=b)
 inj:∀a b,D a=D b->a=b
def kindOf {K:Type} [DecidableEq K] (T:DK K) (prog:Program) (w:World):HeapKind prog w K where
 is:=λh k a=>∃as,Reads h (.ref a) (T.D k) as
 hash:=λk=>dX w (T.D k)
 draws:=λk=>dy (T.D k)
 room:=λA=>A.units+8<cLine
 inj:=λ{h a x y} ⟨as,r⟩ ⟨bs,r'⟩=>T.inj _ _ (SeqAt.Reads.unique _ _ _ _ _ (j7 _ _ (T.ok x)).1 r r')
 keeps:=λ{h h' k a d o es ep} ⟨as,r⟩ ho hd hs=>⟨as,mU ho hd hs _ _ (T.ok k) r⟩
 pyHash:=λ{A E s k a Q} hu ⟨as,r⟩ h=>jS _ _ (T.ok k) (Dx (Nat.add_le_add_left T.n8 _) hu) r h
 eqBool:=λ{A E s x y a b Q} hu ⟨as,r⟩ ⟨bs,r'⟩ h=>by have l1:=j7 _ _ (T.ok x);have l2:=j7 _ _ (T.ok y);refine SeqAt.eqAt_reads _ _ A s _ _ _ _ r r' l1.1 l2.1 ?_ _ _ _ _ (by rw[T.eqv]; exact h);have:=T.n8;have h3:min (T.D x).depth (T.D y).depth<=(T.D x).depth:=Nat.min_le_left _ _;omega
 quiet:=λ{A E s k a Q} ⟨as,r⟩ h=>jG _ _ 8 (T.ok k) T.n8 r h
end Sk
namespace L2
open PySem PySem.Spec PyProof.Rows Sk
def SDp {κ:Type} [DecidableEq κ] (T:DK κ) (P:Program) (w:World) (a:Addr) (kvs:List (κ×Addr×V)) (h:Heap):Prop :=
 kvs.length<=sizeLine/\(a==sysModules)=false/\∃xs:List (κ×Addr×Value),Paired (λ(p:κ×Addr×V) (q:κ×Addr×Value)=>p.1=q.1/\p.2.1=q.2.1/\aJ p.2.2 q.2.2) kvs xs /\
   ∃o es ep,h.get? a=some o/\o.ExactDict/\o.data=.dict es ep/\es.toList=xs.map (entryOfKey (kindOf T P w))/\(xs.map (·.1)).Nodup
def SD {κ:Type} [DecidableEq κ] (T:DK κ) (P:Program) (w:World) (a:Addr) (kvs:List (κ×Addr×V)):HO:=.ext (SDp T P w a kvs)
def gF {κ:Type} [DecidableEq κ] (T:DK κ) (K:W.Frag) (H:Hp) (kvs:List (κ×Addr×V)):Prop:=∀p∈kvs,aa K H (T.D p.1) (.ref p.2.1)
section
variable {κ:Type} [DecidableEq κ] {T:DK κ} {P:Program} {w:World}
theorem oI {H:Hp} {h:Heap} {a:Addr} {kvs:List (κ×Addr×V)} (x:SDp T P w a kvs h):bH P w H h a (SD T P w a kvs):=by
 refine⟨x,?_,λh1 h2 y k=>?_⟩
 . obtain⟨_,_,_,_,o,_,_,e,_⟩:=x; exact⟨o,e⟩
 . obtain⟨z,hd,xs,rel,o,es,ep,e,c⟩:=y;exact⟨z,hd,xs,rel,o,es,ep,k _ e,c⟩
theorem lB {α β:Type} {F:α->β->Prop}:∀{l₁:List α} {l₂:List β},Paired F l₁ l₂->∀{i:Nat} {a:α},l₁[i]?=some a->∃b,l₂[i]?=some b/\F a b
 | _,_,.nil,i,a,e=>by simp at e
 | _,_,.cons r t,0,a,e=>by simp at e; subst e; exact⟨_,rfl,r⟩
 | _,_,.cons r t,i+1,a,e=>by obtain⟨b,h1,h2⟩:=lB t (i:=i) (a:=a) (by simpa using e);exact⟨b,by simpa using h1,h2⟩
theorem lT {α β:Type} {F:α->β->Prop}:∀{l₁:List α} {l₂:List β},Paired F l₁ l₂->∀{i:Nat} {b:β},l₂[i]?=some b->∃a,l₁[i]?=some a/\F a b
 | _,_,.nil,i,a,e=>by simp at e
 | _,_,.cons r t,0,a,e=>by simp at e; subst e; exact⟨_,rfl,r⟩
 | _,_,.cons r t,i+1,a,e=>by obtain⟨b,h1,h2⟩:=lT t (i:=i) (b:=a) (by simpa using e);exact⟨b,by simpa using h1,h2⟩
theorem qf {kvs:List (κ×Addr×V)} {xs:List (κ×Addr×Value)} (r:Paired (λ(p:κ×Addr×V) (q:κ×Addr×Value)=>p.1=q.1/\p.2.1=q.2.1/\aJ p.2.2 q.2.2) kvs xs):kvs.map (·.1)=xs.map (·.1):=by
 induction r with
 | nil=>rfl
 | cons h t ih=>rw[Bx,Bx,ih,h.1]
theorem mi {xs:List (κ×Addr×Value)} {k:κ}:(atKey xs k).isSome=decide (k∈xs.map (·.1)):=by
 unfold atKey;rw[E5,C3,List.find?_isSome,BL,Ba];constructor
 . rintro ⟨x,h1,h2⟩; exact⟨x,h1,by simpa using h2⟩
 . rintro ⟨x,h1,h2⟩; exact⟨x,h1,by simpa using h2⟩
section
variable {X:Cx} {pins:List (Addr×Obj)} {σ:St} {H:Hp} {s:Shared} {a b:Addr} {kvs:List (κ×Addr×V)} {k:κ}
theorem fh (I:Inv X pins σ H s) (h:aa X.K H (T.D k) (.ref b)):(kindOf T X.prog X.w).is s.heap k b:=ff I _ _ _ h (show aJ (.ref b) (.ref b) from rfl)
theorem jK (I:Inv X pins σ H s) (e:H a=some (SD T X.prog X.w a kvs)) (ks:gF T X.K H kvs):kvs.length<=sizeLine/\(a==sysModules)=false /\
   ∃xs:List (κ×Addr×Value),Paired (λ(p:κ×Addr×V) (q:κ×Addr×Value)=>p.1=q.1/\p.2.1=q.2.1/\aJ p.2.2 q.2.2) kvs xs/\s.heap.DictOfH (kindOf T X.prog X.w) a xs:=by
 obtain⟨⟨z,hd,xs,rel,o,es,ep,h1,h2,h3,h4,h5⟩,_⟩:=(show bH X.prog X.w H s.heap a (SD T X.prog X.w a kvs) from I.hok a _ e)
 refine⟨z,hd,xs,rel,o,es,ep,h1,h2,h3,h4,λx hx=>?_,h5⟩;obtain⟨i,hi⟩:=Bp hx;obtain⟨p,hp,e1,e2,_⟩:=lT rel hi;rw[<- e1,<- e2];exact fh I (ks p (BQ hp))
end
def zg (T:DK κ) (P:Program) (w:World) (K:W.Frag):R2:=λx y H Q=>∃a b kvs k,y=.ref a/\x=.ref b/\H a=some (SD T P w a kvs)/\gF T K H kvs/\aa K H (T.D k) (.ref b)/\Q (.bl (!decide (k∈kvs.map (·.1)))) H
theorem yZ {X:Cx} (T:DK κ) (hu:X.A.units+64<cLine):aj X (compareOp .NotIn) (zg T X.prog X.w X.K):=by intro pins s σ H x y v u Q I rx ry h;obtain⟨a,b,kvs,k,rfl,rfl,e,ks,hk,q⟩:=h;cases (show v=Value.ref b from rx);cases (show u=Value.ref a from ry);obtain⟨z,hd,xs,rel,dd⟩:=jK I e ks;refine wpAny_notIn_heap (show X.A.in1.units+8<cLine by show X.A.units+1+8<cLine; omega) (fh I hk) hd dd ?_;rw[mi,<- qf rel];exact⟨.bl _,H,I.tok _,rfl,q⟩
def AR (T:DK κ) (P:Program) (w:World) (K:W.Frag) (td ty:TE):TE:=λσ H Q=>td σ H λx H1=>ty σ H1 λy H2=>∃a b kvs k c v,x=.ref a/\y=.ref b/\H2 a=some (SD T P w a kvs)/\gF T K H2 kvs/\aa K H2 (T.D k) (.ref b)/\(k,c,v)∈kvs/\Q v H2
def zh (T:DK κ) (P:Program) (w:World) (K:W.Frag) (td ty tv:TE):TS:=λD σ H=>tv σ H λv H1=>td σ H1 λx H2=>ty σ H2 λy H3=>∃a b kvs k,x=.ref a/\y=.ref b/\H3 a=some (SD T P w a kvs)/\gF T K H3 kvs /\
 aa K H3 (T.D k) (.ref b)/\k ∉ kvs.map (·.1)/\kvs.length<sizeLine/\D.nx σ (upd H3 a (SD T P w a (kvs++[(k,b,v)])))
def uH (T:DK κ) (P:Program) (w:World) (K:W.Frag) (tk tv:TE):TE:=λσ H Q=>∀p,H p=none->kx [(tk,tv)] σ (upd H p (SD T P w p [])) λps H2=>∃b k v,ps=[(.ref b,v)]/\H2 p=some (SD T P w p [])/\aa K H2 (T.D k) (.ref b)/\Q (.ref p) (upd H2 p (SD T P w p [(k,b,v)]))
section
variable {X:Cx} {o i e value:Expr} {pos pos' tpos:Pos} {td ty tv tk:TE}
theorem AB (T:DK κ) (hu:X.A.units+64<cLine) (ho:PE X o td) (hi:PE X i ty) (hs:jw i):PE X (.Subscript o i pos) (AR T X.prog X.w X.K td ty):=by intro pins s σ H Q I h;refine qg E9.lookup hs (aF (ho pins s σ H _ I h) λu s1 ⟨x,H1,I1,rx,q1⟩=>aF (hi pins s1 σ H1 _ I1 q1) λiv s2 ⟨y,H2,I2,ry,a,b,kvs,k,c,v,ex,ey,hd,ks,hk,hm,q2⟩=>?_);subst ex ey;obtain rfl:u=Value.ref a:=rx;obtain rfl:iv=Value.ref b:=ry;obtain⟨z,hd,xs,rel,dd⟩:=jK I2 hd ks;obtain⟨i,hi⟩:=Bp hm;obtain⟨⟨k2,c2,v2⟩,hx,e1,e2,rv⟩:=lB rel hi;obtain rfl:k=k2:=e1;have hp:=atKey_of_get (let ⟨_,_,_,_,_,_,_,_,n⟩:=dd; n) hx;exact⟨dd.typeIs,wpAny_getItem_heap (show X.A.in1.units+8<cLine by show X.A.units+1+8<cLine; omega) (fh I2 hk) dd hp ⟨v,H2,I2.tok _,rv,q2⟩⟩
theorem pE {pins:List (Addr×Obj)} {σ:St} {H:Hp} {s:Shared} {a b:Addr} {kvs:List (κ×Addr×V)} {k:κ} {v:V} {r:Value} {h':Heap} {t':Nat} {xs:List (κ×Addr×Value)} (I:Inv X pins σ H s) (e:H a=some (SD T X.prog X.w a kvs))
   (rel:Paired (λ(p:κ×Addr×V) (q:κ×Addr×Value)=>p.1=q.1/\p.2.1=q.2.1/\aJ p.2.2 q.2.2) kvs xs) (hd:(a==sysModules)=false) (l:kvs.length<sizeLine) (rv:aJ v r) (n:k ∉ kvs.map (·.1))
   (dd':h'.DictOfH (kindOf T X.prog X.w) a (storedH xs k b r)) (hs:Heap.SameBut a s.heap h'):Inv X pins σ (upd H a (SD T X.prog X.w a (kvs++[(k,b,v)]))) { s with heap:=h',toks:=t' }:=by
 have hn:atKey xs k=none:=by
   cases q:atKey xs k with
   | none=>rfl
   | some z =>
     have:=mi (xs:=xs) (k:=k);rw[q,<- qf rel] at this;exact absurd (Bo this.symm) n
 rw[storedH_new hn] at dd';obtain⟨q,es,ep,hq,h2,h3,h4,_,h5⟩:=dd';refine gj I (by rw[e]; exact True.intro) hs ⟨q,hq⟩ (oI ⟨by rw[BH]; exact l,hd,_,Paired.snoc rel ⟨rfl,rfl,rv⟩,q,es,ep,hq,h2,h3,h4,h5⟩)
theorem xL (T:DK κ) (hu:X.A.units+64<cLine) (ho:PE X o td) (hi:PE X i ty) (hv:PE X value tv) (hs:swapsWith value (some (.Subscript o i pos')) pos.line X.env=pure false) :
   PS X (.Assign [.Subscript o i pos'] value pos) (zh T X.prog X.w X.K td ty tv):=by
 intro pins s σ H D I h;refine wpAny_Assign_Subscript (aF (hv pins s σ H _ I h) λr s1 ⟨v,H1,I1,rv,q1⟩=>aF (ho pins s1 σ H1 _ I1 q1) λu s2 ⟨x,H2,I2,rx,q2⟩=>aF (hi pins s2 σ H2 _ I2 q2) λiv s3 ⟨y,H3,I3,ry,a,b,kvs,k,ex,ey,hd,ks,hk,n,l,q3⟩=>?_) hs;subst ex ey;obtain rfl:u=Value.ref a:=rx;obtain rfl:iv=Value.ref b:=ry;obtain⟨z,hm,xs,rel,dd⟩:=jK I3 hd ks;have hz:xs.length<=sizeLine:=by rw[<- Paired.length rel]; exact z
 exact wpAny_setItem_heap (hsz:=hz) (show X.A.in1.units+8<cLine by show X.A.units+1+8<cLine; omega) (fh I3 hk) dd λh' dd' hs'=>⟨σ,_,pE I3 hd rel hm l rv n dd' hs',q3⟩
theorem Av (T:DK κ) (hu:X.A.units+64<cLine) (hk:PE X i tk) (hv:PE X value tv):PE X (.Dict [some i] [value] pos) (uH T X.prog X.w X.K tk tv):=by
 intro pins s σ H Q I q;have hn:=I.hok.fresh (BG s.heap.objs.size);have I1:Inv X pins σ (upd H s.heap.objs.size (SD T X.prog X.w s.heap.objs.size [])) { s with heap:=s.heap.push { cls:=.type "dict",data:=.dict #[] } }:=I.laid (a:=s.heap.objs.size) (h':=s.heap.push { cls:=.type "dict",data:=.dict #[] }) (t':=s.toks) (λ_ _ q=>BM _ q) (BG _)
   (oI ⟨BW _,beq_eq_false_iff_ne.mpr (Ne.symm (Bu I.big)),[],.nil,_,#[],0,Bh _ rfl,⟨rfl,rfl,rfl⟩,rfl,rfl,List.nodup_nil⟩)
 have hp:ir X pos [some i] [value] [(tk,tv)]:=yo hk hv uw;refine wpAny_Dict_any rfl rfl (by simp) (by show 1<=15; decide) (aF (hp pins _ σ _ _ I1 (q _ hn)) λws s2 ⟨ps,H2,I2,rel,b,k,v,ep,e,dk,q2⟩=>?_);subst ep;cases rel with
 | @cons _ y _ ys hy hys =>
 cases hys;obtain⟨y1,y2⟩:=y;obtain⟨r1,r2⟩:=hy;obtain rfl:y1=Value.ref b:=r1;obtain⟨z,hm,xs,rl,dd⟩:=jK I2 e (λp hp=>nomatch hp);have hz:xs.length<=sizeLine:=by rw[<- Paired.length rl]; exact z
 unfold storeAll;simp only[List.forIn_cons,List.forIn_nil];refine BB (BB (wpAny_dictSet_heap (hsz:=hz) (show X.A.units+8<cLine by omega) (fh I2 dk) dd λh' dd' hs'=>BF (BF ⟨.ref s.heap.objs.size,_,pE I2 e rl hm (Bj (Nat.zero_lt_one) (by decide)) r2 (λz=>nomatch z) dd' hs',rfl,q2⟩)))
end
end
end L2
namespace K55
open PySem L2 Gx Fl Sk
abbrev SN:={x:Str // PyData.strOk x=true}
abbrev aR:=List (SN×Nat)×Bool
def cJ (p:SN×Nat):PyData:=.tuple [.str p.1.1,.int p.2]
def eX (s:aR):PyData:=.tuple [.tuple (s.1.reverse.map cJ),.bool s.2]
theorem xO (p q:SN×Nat):PyData.eqv (cJ p) (cJ q)=decide (p=q):=by obtain⟨⟨x,hx⟩,n⟩:=p;obtain⟨⟨y,hy⟩,m⟩:=q;unfold cJ PyData.eqv PyData.eqvAll PyData.eqvAll PyData.eqvAll PyData.eqv;rw[C3];simp;intro _;omega
theorem nY:∀l m:List (SN×Nat),PyData.eqvAll (l.map cJ) (m.map cJ)=decide (l=m)
 | [],[]=>by simp [PyData.eqvAll]
 | [],_ :: _=>by simp [PyData.eqvAll]
 | _ :: _,[]=>by simp [PyData.eqvAll]
 | p :: l,q :: m=>by rw[Bx,Bx];unfold PyData.eqvAll;rw[xO,nY l m,C3];simp
theorem lw (s u:aR):PyData.eqv (eX s) (eX u)=decide (s=u):=by
 obtain⟨c,b⟩:=s;obtain⟨d,e⟩:=u;unfold eX;have h:PyData.eqv (.tuple (c.reverse.map cJ)) (.tuple (d.reverse.map cJ))=decide (c=d):=by unfold PyData.eqv;rw[nY,C3];simp
 have h2:PyData.eqv (.bool b) (.bool e)=decide (b=e):=by unfold PyData.eqv;rw[C3]; simp
 show PyData.eqvAll [_,_] [_,_]=_;unfold PyData.eqvAll PyData.eqvAll PyData.eqvAll;rw[h,h2,C3];simp
theorem z9 (p:SN×Nat):hok 1 (cJ p)=true:=by unfold cJ hok;simp [hok,p.1.2]
theorem uG (s:aR):hok 3 (eX s)=true:=by
 have:(s.1.reverse.map cJ).all (hok 1)=true:=by rw[By];intro d hd;obtain⟨p,_,rfl⟩:=Ba.mp hd;exact z9 p
 show(hok 2 (.tuple (s.1.reverse.map cJ))&&(hok 2 (.bool s.2)&&true))=true;have h2:hok 2 (.tuple (s.1.reverse.map cJ))=true:=this;rw[h2];rfl
def bP:DK aR where
 D:=eX
 n:=3
 n8:=by decide
 ok:=uG
 eqv:=lw
 inj:=λa b h=>by have e1:=lw a b;rw[<- h,lw a a,BN rfl] at e1;exact Bo e1.symm
def dF (K:W.Frag) (H:Hp) (p:SN×Nat) (v:V):Prop:=∃a,v=.ref a/\a9 K H a [.str p.1.1,.int p.2]
def bU (K:W.Frag) (H:Hp) (ca:Addr) (rc:List (SN×Nat)):Prop:=∃ys,a9 K H ca ys.reverse/\Paired (dF K H) rc ys
def bV (K:W.Frag) (H:Hp) (b:Addr) (s:aR):Prop:=∃ca,a9 K H b [.ref ca,.bl s.2]/\bU K H ca s.1
def TS (H H':Hp):Prop:=∀b xs,Rd H b (.tup xs)->Rd H' b (.tup xs)
theorem TS.tup {K:W.Frag} {H H':Hp} {a:Addr} {xs:List V} (e:TS H H') (h:a9 K H a xs):a9 K H' a xs:=h.imp (e a xs) id
variable {H H':Hp}
theorem TS.of (e:a0 H H'):TS H H':=λb xs h=>h.imp (e _ _) λ⟨o,z⟩=>⟨o,e _ _ z⟩
theorem TS.trans {H'':Hp}(e:TS H H') (e':TS H' H''):TS H H'':=λb xs h=>e' b xs (e b xs h)
theorem TS.lst {H:Hp} {a:Addr} {xs:List V} {o:HO} (h:H a=some (.lst xs)):TS H (upd H a o):=λb ys q=>by
 have:b≠a:=by rintro rfl;rcases q with q|⟨_,q⟩ <;> (rw[h] at q; cases q)
 rcases q with q|⟨o',q⟩
 . exact .inl (by rw[aH this]; exact q)
 . exact .inr ⟨o',by rw[aH this]; exact q⟩
theorem TS.ext {a:Addr} {φ:Heap->Prop} {o:HO} (h:H a=some (.ext φ)):TS H (upd H a o):=λb ys q=>by
 have:b≠a:=by rintro rfl;rcases q with q|⟨_,q⟩ <;> (rw[h] at q; cases q)
 rcases q with q|⟨o',q⟩
 . exact .inl (by rw[aH this]; exact q)
 . exact .inr ⟨o',by rw[aH this]; exact q⟩
theorem dF.ts {K:W.Frag} {p:SN×Nat} {v:V} (h:dF K H p v) (e:TS H H'):dF K H' p v:=let ⟨a,h1,h2⟩:=h; ⟨a,h1,e.tup h2⟩
theorem bU.ts {K:W.Frag} {H H':Hp} {ca:Addr} {rc:List (SN×Nat)} (h:bU K H ca rc) (e:TS H H'):bU K H' ca rc:=let ⟨ys,h1,h2⟩:=h; ⟨ys,e.tup h1,Paired.mapP h2 λp v q=>q.ts e⟩
theorem bV.ts {K:W.Frag} {H H':Hp} {b:Addr} {s:aR} (h:bV K H b s) (e:TS H H'):bV K H' b s:=let ⟨ca,h1,h2⟩:=h; ⟨ca,e.tup h1,h2.ts e⟩
theorem dF.dat {K:W.Frag} {p:SN×Nat} {v:V} (h:dF K H p v):aa K H (cJ p) v:=by obtain⟨a,rfl,h2⟩:=h;unfold cJ aa;refine⟨a,_,rfl,h2,?_⟩;unfold ao;refine⟨_,_,rfl,by unfold aa; rfl,?_⟩;unfold ao;refine⟨_,_,rfl,by unfold aa; rfl,?_⟩;unfold ao;rfl
theorem mO {K:W.Frag} {H:Hp} {d:PyData} {x:V} (h:aa K H d x):∀{ds:List PyData} {xs:List V},ao K H ds xs->ao K H (ds++[d]) (xs++[x])
 | [],xs,z=>by unfold ao at z;subst z;show ao K H [d] [x];unfold ao;refine⟨x,[],rfl,h,?_⟩;unfold ao;rfl
 | e :: ds,xs,z=>by unfold ao at z;obtain⟨y,r,rfl,h1,h2⟩:=z;show ao K H (e :: (ds++[d])) _;unfold ao;exact⟨y,r++[x],rfl,h1,mO h h2⟩
theorem pY {K:W.Frag} {H:Hp}:∀{rc:List (SN×Nat)} {ys:List V},Paired (dF K H) rc ys->ao K H (rc.reverse.map cJ) ys.reverse
 | _,_,.nil=>by simp; unfold ao; rfl
 | _,_,.cons h t=>by rw[CH,BK,CH];exact mO h.dat (pY t)
theorem bV.dat {K:W.Frag} {b:Addr} {s:aR} (h:bV K H b s):aa K H (bP.D s) (.ref b):=by
 obtain⟨ca,h1,ys,h2,h3⟩:=h;show aa K H (eX s) _;unfold eX aa;refine⟨b,_,rfl,h1,?_⟩;unfold ao;refine⟨_,_,rfl,?_,?_⟩
 . unfold aa;exact⟨ca,_,rfl,h2,pY h3⟩
 unfold ao;refine⟨_,_,rfl,by unfold aa; rfl,?_⟩;unfold ao;rfl
def lk (fns:List F2.Fd) (g:Str):Option F2.Fd:=fns.find? λf=>decide (f.name=g)
def no (fns:List F2.Fd) (g:Str):Nat:=fns.findIdx λf=>decide (f.name=g)
theorem eZ {fns:List F2.Fd} {i:Nat} {f:F2.Fd} (nd:(fns.map (·.name)).Nodup) (h:fns[i]?=some f):lk fns f.name=some f/\no fns f.name=i:=by
 have hi:i<fns.length:=(BC.mp h).1;have hf:fns[i]=f:=(BC.mp h).2;have ne:∀j (hj:j<fns.length),fns[j].name=f.name->j=i:=λj hj e=>by
   have h1:(fns.map (·.name))[j]?=some f.name:=by rw[BI,BP hj]; exact Bv some e
   have h2:(fns.map (·.name))[i]?=some f.name:=by rw[BI,h]; rfl
   exact(CY (BC.mp h1).1 nd).mp (h1.trans h2.symm)
 have hn:no fns f.name=i:=by unfold no;rw[List.findIdx_eq hi];refine⟨by rw[hf]; exact BN rfl,λj hj=>BY λe=>?_⟩;have:=ne j (by omega) e;omega
 refine⟨?_,hn⟩;unfold lk;rw[List.find?_eq_getElem?_findIdx];show fns[no fns f.name]?=_;rw[hn]; exact h
def bh (fns:List F2.Fd) (g c:Str) (n:Nat):Bool:=(match lk fns c with|some f=>decide (f.fo=.bl true)|none=>false)&&decide (n+1<3)&&decide (no fns c<no fns g)
def az (x:Str):SN:=if h:PyData.strOk x=true then⟨x,h⟩ else⟨"",by decide +kernel⟩
structure AtW (fns:List F2.Fd) (p:SN×Nat) (f:F2.Fd) (w:Rw):Prop where
 mem:f∈fns
 nm:f.name=p.1.1
 rw_:f.rs[p.2]?=some w
theorem jX:¬ (("call":Str)="back")/\¬ (("out":Str)="back")/\¬ (("out":Str)="call"):=by decide +kernel
end K55
namespace K51
open PySem L2 Gx Fl Sk K55
theorem lL {ks:List Str} {k r:Nat} (h:K13.Beh ks k r):K13.isE (K13.kd ks r)=false:=by
 induction h with
 | els _ _ _ _ ih=>exact ih
 | @whl k b h1 h2 h3=>rw[h3]; decide +kernel
 | fin _ _ _ _ ih=>exact ih
 | @oth k h1 h2 =>
   unfold K13.isE;rw[BY h1,BY h2];rfl
theorem xp {ks:List Str} (w:K13.Wf ks) {k:Nat} (hk:k<ks.length) (he:K13.isE (K13.kd ks k)=false):∃l,K13.Due ks k (some l)/\(∀r∈l,r<ks.length/\K13.isE (K13.kd ks r)=false)/\(¬ K13.kd ks k="back"->l≠[]):=by
 have he':¬ K13.isE (K13.kd ks k)=true:=by rw[he]; decide
 by_cases hb:K13.kd ks k="back"
 . exact⟨[],.back hb,λr hr=>(by cases hr),λh=>absurd hb h⟩
 . have hl:=K13.not_last w hk hb;obtain⟨r,hr,hrl⟩:=K13.beh_ex w _ k rfl hl;by_cases ho:K13.isO (K13.kd ks k)=true
   . obtain⟨e,hE⟩:=K13.ends_ex w hk ho;obtain⟨f,hf⟩:=K13.first_ex hE;obtain⟨r2,hr2,hr2l⟩:=K13.beh_ex w _ f rfl (K13.first_last w hf);refine⟨[r,r2],.two ho hf hr hr2,λq hq=>?_,λ_=>by simp⟩;simp only[Be,CC,or_false] at hq;rcases hq with rfl|rfl
     . exact⟨hrl,lL hr⟩
     . exact⟨hr2l,lL hr2⟩
   . refine⟨[r],.one he' hb ho hr,λq hq=>?_,λ_=>by simp⟩;rw[Bq] at hq;subst hq;exact⟨hrl,lL hr⟩
open Classical in
noncomputable def bA (f:F2.Fd) (k:Nat):List Nat:=if h:∃l,K13.Due (F2.kds f) k (some l) then h.choose else []
variable {f:F2.Fd}
theorem pk {k:Nat} {l:List Nat} (h:K13.Due (F2.kds f) k (some l)):bA f k=l:=by
 have ex:∃l,K13.Due (F2.kds f) k (some l):=⟨l,h⟩
 unfold bA;rw[dif_pos ex];exact Option.some.inj (ex.choose_spec.uniq h)
theorem gU {k:Nat} {w:Rw} (h:f.rs[k]?=some w):K13.kd (F2.kds f) k=w.k:=by unfold K13.kd F2.kds;rw[C4,BI,h];rfl
theorem gh (f:F2.Fd):(F2.kds f).length=f.rs.length:=by unfold F2.kds; rw[BA]
theorem iB (w:K13.Wf (F2.kds f)) {k:Nat} {r:Rw} (h:f.rs[k]?=some r) (he:K13.isE r.k=false) :
   K13.Due (F2.kds f) k (some (bA f k))/\(∀j∈bA f k,∃r',f.rs[j]?=some r'/\K13.isE r'.k=false)/\(¬ r.k="back"->bA f k≠[]):=by
 have hk:k<(F2.kds f).length:=by rw[gh]; exact(BC.mp h).1
 obtain⟨l,h1,h2,h3⟩:=xp w hk (by rw[gU h]; exact he);rw[pk h1];refine⟨h1,λj hj=>?_,λz=>h3 (by rw[gU h]; exact z)⟩;obtain⟨a,b⟩:=h2 j hj;rw[gh] at a;exact⟨f.rs[j],BP a,by rw[<- b,gU (BP a)]⟩
theorem lr (f:F2.Fd) (k:Nat):(bA f k).length<=2:=by
 by_cases h:∃l,K13.Due (F2.kds f) k (some l)
 . obtain⟨l,h⟩:=h;rw[pk h];cases h with
   | back _=>exact BW _
   | two _ _ _ _=>exact BG 2
   | one _ _ _ _=>exact Cr 1
 . unfold bA;rw[dif_neg h];exact BW _
structure Pg (fns:List F2.Fd):Prop where
 nd:(fns.map (·.name)).Nodup
 wf:∀f∈fns,K13.Wf (F2.kds f)
 fo:∀f∈fns,∃b,f.fo=.bl b
 ok:∀f∈fns,PyData.strOk f.name=true
 call:∀f∈fns,∀w∈f.rs,w.k="call"->∃g∈fns,g.name=w.c
noncomputable def bF (fns:List F2.Fd):aR->List aR
 | ([],_)=>[]
 | (p :: rest,wt)=>match lk fns p.1.1 with
   | none=>[]
   | some f=>match f.rs[p.2]? with
     | none=>[]
     | some w =>
       if w.k="back" then(match rest with
         | []=>[]
         | q :: r=>match lk fns q.1.1 with
           | none=>[]
           | some g=>((bA g q.2).take 1).map λto=>((q.1,to) :: r,false))
       else if w.k="call"/\wt=false then(if bh fns p.1.1 w.c rest.length=true then [((az w.c,0) :: p :: rest,false)] else [(p :: rest,true)])
       else(bA f p.2).map λto=>((p.1,to) :: rest,false)
section
variable {fns:List F2.Fd} {p:SN×Nat} {rest:List (SN×Nat)} {f:F2.Fd} {w:Rw} {wt:Bool}
theorem iC (P:Pg fns) (h:AtW fns p f w):lk fns p.1.1=some f:=by obtain⟨i,hi⟩:=Bp h.mem;rw[<- h.nm];exact(eZ P.nd hi).1
theorem gr (P:Pg fns) (h:AtW fns p f w):bF fns (p :: rest,wt)=(if w.k="back" then(match rest with
         | []=>[]
         | q :: r=>match lk fns q.1.1 with
           | none=>[]
           | some g=>((bA g q.2).take 1).map λto=>((q.1,to) :: r,false))
       else if w.k="call"/\wt=false then(if bh fns p.1.1 w.c rest.length=true then [((az w.c,0) :: p :: rest,false)] else [(p :: rest,true)])
       else(bA f p.2).map λto=>((p.1,to) :: rest,false)):=by
 show(match lk fns p.1.1 with|none=>[] | some f=>_)=_;rw[iC P h];show(match f.rs[p.2]? with|none=>[] | some w=>_)=_;rw[h.rw_]
theorem jf (P:Pg fns) (h:AtW fns p f w) (hk:w.k="back"):bF fns ([p],wt)=[]:=by rw[gr P h,BJ hk]
theorem lx (P:Pg fns) (h:AtW fns p f w) (hk:w.k="back") {q:SN×Nat} {r:List (SN×Nat)} {g:F2.Fd} {v:Rw} (hq:AtW fns q g v):bF fns (p :: q :: r,wt)=((bA g q.2).take 1).map λto=>((q.1,to) :: r,false):=by rw[gr P h,BJ hk];show(match lk fns q.1.1 with|none=>[] | some g=>_)=_;rw[iC P hq]
theorem kE (P:Pg fns) (h:AtW fns p f w) (hk:w.k="call") (hi:bh fns p.1.1 w.c rest.length=true):bF fns (p :: rest,false)=[((az w.c,0) :: p :: rest,false)]:=by rw[gr P h,BE (by rw[hk]; exact jX.1),BJ ⟨hk,rfl⟩,BJ hi]
theorem l9 (P:Pg fns) (h:AtW fns p f w) (hk:w.k="call") (hi:¬ bh fns p.1.1 w.c rest.length=true):bF fns (p :: rest,false)=[(p :: rest,true)]:=by rw[gr P h,BE (by rw[hk]; exact jX.1),BJ ⟨hk,rfl⟩,BE hi]
theorem ix (P:Pg fns) (h:AtW fns p f w) (hk:¬ w.k="back") (hi:¬ (w.k="call"/\wt=false)):bF fns (p :: rest,wt)=(bA f p.2).map λto=>((p.1,to) :: rest,false):=by rw[gr P h,BE hk,BE hi]
end
theorem ke (fns:List F2.Fd) (s:aR):(bF fns s).length<=2:=by
 have m1:∀(l:List Nat) (f:Nat->aR),l.length<=2->(l.map f).length<=2:=λl f h=>by rw[BA]; exact h
 obtain⟨c,wt⟩:=s;cases c with
 | nil=>exact BW _
 | cons p rest =>
   show(match lk fns p.1.1 with|none=>[] | some f=>_:List aR).length<=2;cases lk fns p.1.1 with
   | none=>exact BW _
   | some f =>
     show(match f.rs[p.2]? with|none=>[] | some w=>_:List aR).length<=2;cases f.rs[p.2]? with
     | none=>exact BW _
     | some w =>
       dsimp only;by_cases hb:w.k="back"
       . rw[BJ hb];cases rest with
         | nil=>exact BW _
         | cons q r =>
           dsimp only;cases lk fns q.1.1 with
           | none=>exact BW _
           | some g=>exact m1 _ _ (by rw[Bd]; omega)
       . rw[BE hb];by_cases hk:w.k="call"/\wt=false
         . rw[BJ hk];split <;> exact Cr 1
         . rw[BE hk];exact m1 _ _ (lr _ _)
def fX (fns:List F2.Fd) (p:SN×Nat):Prop:=∃f w,AtW fns p f w/\K13.isE w.k=false
def Vc (fns:List F2.Fd) (g:SN):List (SN×Nat)->Prop
 | []=>False
 | p :: []=>p.1=g/\fX fns p
 | p :: q :: r=>Vc fns g (q :: r)/\(∃f w,AtW fns q f w/\w.k="call"/\bh fns q.1.1 w.c r.length=true/\p.1=az w.c)/\fX fns p
variable {g:SN} {fns:List F2.Fd} {p:SN×Nat}
theorem Vc.hd :∀{rest:List (SN×Nat)},Vc fns g (p :: rest)->fX fns p
 | [],h=>h.2
 | _ :: _,h=>h.2.2
theorem Vc.re {p':SN×Nat}(e:p'.1=p.1) (s:fX fns p'):∀{rest:List (SN×Nat)},Vc fns g (p :: rest)->Vc fns g (p' :: rest)
 | [],h=>⟨e.trans h.1,s⟩
 | _ :: _,h=>let ⟨f,w,a,b,c,d⟩:=h.2.1; ⟨h.1,⟨f,w,a,b,c,e.trans d⟩,s⟩
theorem oj {x c:Str} {n:Nat} (h:bh fns x c n=true):n+1<3:=by unfold bh at h;rw[Bn,Bn,BL,BL] at h;exact h.1.2
theorem Vc.len :∀{rest:List (SN×Nat)},Vc fns g (p :: rest)->rest.length<=2
 | [],_=>BW _
 | q :: r,h=>by obtain⟨f,w,_,_,c,_⟩:=h.2.1;have:=oj c;rw[BV];omega
theorem Vc.tl {fns:List F2.Fd} {g:SN}:∀{p:SN×Nat} {rest:List (SN×Nat)},Vc fns g (p :: rest)->∀q∈rest,∃f w,AtW fns q f w/\w.k="call"
 | p,[],_,q,hq=>by cases hq
 | p,q' :: r,h,q,hq=>by
   rcases Be.mp hq with rfl|hq
   . obtain⟨f,w,a,b,_⟩:=h.2.1;exact⟨f,w,a,b⟩
   . exact Vc.tl h.1 q hq
structure VS (fns:List F2.Fd) (g:SN) (s:aR):Prop where
 ch:Vc fns g s.1
 wt:s.2=true->∃p rest f w,s.1=p :: rest/\AtW fns p f w/\w.k="call"/\¬ bh fns p.1.1 w.c rest.length=true
theorem gy:K13.isE ("call":Str)=false:=by decide +kernel
theorem gS {x:Str} (h:PyData.strOk x=true):az x=⟨x,h⟩:=by unfold az; rw[dif_pos h]
theorem oE (P:Pg fns) {h:F2.Fd} (hh:h∈fns):fX fns (az h.name,0):=by
 have wf:=P.wf h hh;have hp:0<h.rs.length:=by rw[<- gh]; exact wf.pos
 refine⟨h,h.rs[0],⟨hh,by rw[gS (P.ok h hh)],BP hp⟩,?_⟩;cases e:K13.isE h.rs[0].k with
 | false=>rfl
 | true=>exact absurd rfl (wf.open_ 0 wf.pos (by rw[gU (BP hp)]; exact e))
theorem oY (P:Pg fns) {w:Rw} (a:AtW fns p f w) (e:K13.isE w.k=false) {j:Nat} (hj:j∈bA f p.2):fX fns (p.1,j):=by obtain⟨r,h1,h2⟩:=(iB (P.wf f a.mem) a.rw_ e).2.1 j hj;exact⟨f,r,⟨a.mem,a.nm,h1⟩,h2⟩
theorem tO (P:Pg fns) {s:aR} (h:VS fns g s):∀t∈bF fns s,VS fns g t:=by
 intro t ht;obtain⟨c,wt⟩:=s;cases c with
 | nil=>exact absurd h.ch (by intro z; exact z)
 | cons p rest =>
   have hc:=h.ch;obtain⟨f,w,a,e⟩:=Vc.hd hc;have no:∀c:List (SN×Nat),Vc fns g c->VS fns g (c,false):=λc h=>⟨h,λz=>by cases z⟩
   by_cases hb:w.k="back"
   . cases rest with
     | nil=>rw[jf P a hb] at ht; cases ht
     | cons q r =>
       obtain⟨fq,wq,aq,kq⟩:=Vc.tl hc q BU;rw[lx P a hb aq] at ht;obtain⟨to,hto,rfl⟩:=Ba.mp ht;exact no _ (Vc.re (p:=q) (p':=(q.1,to)) rfl (oY P aq (by rw[kq]; exact gy) (CU hto)) hc.1)
   . by_cases hk:w.k="call"/\wt=false
     . obtain⟨hk,rfl⟩:=hk;by_cases hi:bh fns p.1.1 w.c rest.length=true
       . rw[kE P a hk hi,Bq] at ht;subst ht;obtain⟨h',hm,hn⟩:=P.call f a.mem w (BQ a.rw_) hk;exact no _ ⟨hc,⟨f,w,a,hk,hi,rfl⟩,by rw[<- hn]; exact oE P hm⟩
       . rw[l9 P a hk hi,Bq] at ht;subst ht;exact⟨hc,λ_=>⟨p,rest,f,w,rfl,a,hk,hi⟩⟩
     . rw[ix P a hb hk] at ht;obtain⟨to,hto,rfl⟩:=Ba.mp ht;exact no _ (Vc.re (p:=p) (p':=(p.1,to)) rfl (oY P a e hto) hc)
theorem zq (P:Pg fns) {h:F2.Fd} (hh:h∈fns):VS fns (az h.name) ([(az h.name,0)],false):=⟨⟨rfl,oE P hh⟩,λz=>by cases z⟩
section
variable (fns:List F2.Fd) (E:SN->List (SN×Nat)->List aR)
def dC (g:SN) (rest:List (SN×Nat)):List Rw->Nat->List aR
 | [],_=>[]
 | w :: r,k=>(if K13.isE w.k=true then [] else((g,k) :: rest,false) :: (if w.k="call" then(if bh fns g.1 w.c rest.length=true then E (az w.c) ((g,k) :: rest) else [((g,k) :: rest,true)]) else []))++dC g rest r (k+1)
end
def en (fns:List F2.Fd):Nat->SN->List (SN×Nat)->List aR
 | 0,_,_=>[]
 | d+1,g,rest=>match lk fns g.1 with
   | none=>[]
   | some f=>dC fns (en fns d) g rest f.rs 0
section
variable {fns:List F2.Fd}
theorem km (E:SN->List (SN×Nat)->List aR) {g:SN} {rest:List (SN×Nat)}:∀{rs:List Rw} {k i:Nat} {w:Rw},rs[i]?=some w->K13.isE w.k=false ->
   ((g,k+i) :: rest,false)∈dC fns E g rest rs k/\(w.k="call"->(bh fns g.1 w.c rest.length=true->∀s∈E (az w.c) ((g,k+i) :: rest),s∈dC fns E g rest rs k)/\(¬ bh fns g.1 w.c rest.length=true->((g,k+i) :: rest,true)∈dC fns E g rest rs k))
 | [],k,i,w,h,_=>by simp at h
 | v :: rs,k,0,w,h,he=>by
   obtain rfl:v=w:=by simpa using h
   unfold dC;rw[BE (by rw[he]; decide)];refine⟨C8 _ BU,λhc=>⟨λhi s hs=>?_,λhi=>?_⟩⟩
   . rw[BJ hc,BJ hi];exact C8 _ (BS _ hs)
   . rw[BJ hc,BE hi];exact C8 _ (BS _ (Bq.mpr rfl))
 | v :: rs,k,i+1,w,h,he=>by obtain⟨a,b⟩:=km E (rs:=rs) (k:=k+1) (i:=i) (g:=g) (rest:=rest) (by simpa using h) he;rw[show k+1+i=k+(i+1) by omega] at a b;unfold dC;exact⟨Br _ a,λhc=>⟨λhi s hs=>Br _ ((b hc).1 hi s hs),λhi=>Br _ ((b hc).2 hi)⟩⟩
theorem pZ (P:Pg fns) {w:Rw} (a:AtW fns p f w) (d:Nat) (rest:List (SN×Nat)):en fns (d+1) p.1 rest=dC fns (en fns d) p.1 rest f.rs 0:=by show(match lk fns p.1.1 with|none=>[] | some f=>_)=_;rw[iC P a]
theorem qr (P:Pg fns) {g:SN}:∀{rest:List (SN×Nat)} {p:SN×Nat},Vc fns g (p :: rest)->∀s∈en fns (3 - rest.length) p.1 rest,s∈en fns 3 g []
 | [],p,h,s,hs=>by rw[h.1] at hs; exact hs
 | q :: r,p,h,s,hs=>by
   obtain⟨f,w,a,hk,hi,e⟩:=h.2.1;have hl:=oj hi;refine qr P h.1 s ?_;have d:3 - r.length=3 - (q :: r).length+1:=by rw[BV]; omega
   rw[d,pZ P a];have:=((km (fns:=fns) (en fns (3 - (q :: r).length)) (k:=0) (g:=q.1) (rest:=r) a.rw_ (by rw[hk]; exact gy)).2 hk).1 hi s;rw[Cz] at this;exact this (by rw[<- e]; exact hs)
theorem iS (P:Pg fns) {s:aR} (h:VS fns g s):s∈en fns 3 g []:=by
 obtain⟨c,wt⟩:=s;cases c with
 | nil=>exact absurd h.ch (by intro z; exact z)
 | cons p rest =>
   have hc:=h.ch;have hl:=Vc.len hc;obtain⟨f,w,a,e⟩:=Vc.hd hc;refine qr P hc _ ?_;rw[show 3 - rest.length=2 - rest.length+1 by omega,pZ P a];obtain⟨m1,m2⟩:=km (fns:=fns) (en fns (2 - rest.length)) (k:=0) (g:=p.1) (rest:=rest) a.rw_ e;rw[Cz] at m1 m2;cases wt with
   | false=>exact m1
   | true =>
     obtain⟨p',rest',f',w',ec,a',hk,hi⟩:=h.wt rfl;cases ec;obtain rfl:f'=f:=Option.some.inj ((iC P a').symm.trans (iC P a));obtain rfl:w'=w:=Option.some.inj (a'.rw_.symm.trans a.rw_);exact(m2 hk).2 hi
theorem jL {α:Type} [DecidableEq α]:∀{l m:List α},l.Nodup->(∀x∈l,x∈m)->l.length<=m.length
 | [],_,_,_=>BW _
 | x :: l,m,nd,h=>by rw[Cg] at nd;have:=jL (l:=l) (m:=m.erase x) nd.2 λy hy=>(List.mem_erase_of_ne (λz=>nd.1 (by rw[<- z]; exact hy))).mpr (h y (BS _ hy));rw[EE (h x BU)] at this;have:=List.length_pos_of_mem (h x BU);rw[BV];omega
def wt (M:Nat) (k:Str):Nat:=if K13.isE k=true then 0 else if k="call" then M else 1
def bv (M:Nat) (ks:List Str):Nat:=(ks.map (wt M)).sum
theorem lU (E:SN->List (SN×Nat)->List aR) (B:Nat) {g:SN} {rest:List (SN×Nat)}:∀{rs:List Rw} {k:Nat},(∀w∈rs,w.k="call"->bh fns g.1 w.c rest.length=true->∀k,(E (az w.c) ((g,k) :: rest)).length<=B)->(dC fns E g rest rs k).length<=bv (1+max 1 B) (rs.map (·.k))
 | [],k,_=>BW _
 | w :: rs,k,h=>by
   have ih:=lU E B (rs:=rs) (k:=k+1) (g:=g) (rest:=rest) λv hv=>h v (BS _ hv);unfold bv at ih ⊢;unfold dC;rw[BH,Bx,Bx,List.sum_cons];refine Nat.add_le_add ?_ ih;unfold wt;by_cases e:K13.isE w.k=true
   . rw[BJ e]; exact BW _
   rw[BE e,BE e,BV];by_cases c:w.k="call"
   . rw[BJ c,BJ c];by_cases i:bh fns g.1 w.c rest.length=true
     . rw[BJ i];have:=h w BU c i k;omega
     . rw[BE i];show 1+1<=_;omega
   . rw[BE c,BE c];exact BG 1
def Cel (f:F2.Fd) (c:Nat):Prop:=∀M,2<=M->bv M (F2.kds f)<=c * M+1
theorem yD (P:Pg fns) {i j:Nat} {h:F2.Fd}(hi:fns[i]?=some f) (hj:fns[j]?=some h) {n:Nat} (e:bh fns f.name h.name n=true):j<i:=by unfold bh at e;rw[(eZ P.nd hi).2,(eZ P.nd hj).2,Bn,BL] at e;exact e.2
def nz (fns:List F2.Fd) (cs:List Nat):Prop:=∀(i:Nat) (f:F2.Fd),fns[i]?=some f->Cel f (cs.getD i 0)
def gG (t:Nat->Nat):Nat->Nat
 | 0=>1
 | i+1=>max (gG t i) (t i)
theorem nQ {t:Nat->Nat}:∀{i j:Nat},j<i->t j<=gG t i
 | i+1,j,h=>by
   rcases Bl j i with z|z
   . exact Bk (nQ z) (Nat.le_max_left _ _)
   . have:j=i:=by omega
     subst this;exact Nat.le_max_right _ _
theorem qo {t:Nat->Nat}:∀i,1<=gG t i
 | 0=>BG _
 | i+1=>Bk (qo i) (Nat.le_max_left _ _)
def cap (cs:List Nat):Nat->Nat->Nat
 | 0,i=>cs.getD i 0 * 2+1
 | d+1,i=>cs.getD i 0 * (1+gG (cap cs d) i)+1
theorem Ab (P:Pg fns) {cs:List Nat} (C:nz fns cs):∀(d i:Nat) (f:F2.Fd) (rest:List (SN×Nat)),fns[i]?=some f->rest.length=2 - d->d<=2->(en fns (d+1) (az f.name) rest).length<=cap cs d i:=by
 intro d
 induction d with
 | zero =>
   intro i f rest hi hr _;have hm:=BQ hi;have e:(az f.name).1=f.name:=by rw[gS (P.ok f hm)]
   have l:lk fns (az f.name).1=some f:=by rw[e]; exact(eZ P.nd hi).1
   have:en fns (0+1) (az f.name) rest=dC fns (en fns 0) (az f.name) rest f.rs 0:=by show(match lk fns (az f.name).1 with|none=>[] | some f=>_)=_;rw[l]
   rw[this];refine Bk (lU (en fns 0) 0 λw hw hk hp c=>BW _) ?_;exact C i f hi 2 (BG _)
 | succ d ih =>
   intro i f rest hi hr hd;have hm:=BQ hi;have e:(az f.name).1=f.name:=by rw[gS (P.ok f hm)]
   have l:lk fns (az f.name).1=some f:=by rw[e]; exact(eZ P.nd hi).1
   have:en fns (d+1+1) (az f.name) rest=dC fns (en fns (d+1)) (az f.name) rest f.rs 0:=by show(match lk fns (az f.name).1 with|none=>[] | some f=>_)=_;rw[l]
   rw[this];refine Bk (lU (en fns (d+1)) (gG (cap cs d) i) λw hw hk hp k=>?_) ?_
   . obtain⟨h,hh,hn⟩:=P.call f hm w hw hk;obtain⟨j,hj⟩:=Bp hh;rw[e,<- hn] at hp;have lt:=yD P hi hj hp;rw[<- hn];exact Bk (ih j h _ hj (by rw[BV,hr]; omega) (by omega)) (nQ lt)
   . have:=C i f hi (1+max 1 (gG (cap cs d) i)) (by omega);have hp:=qo (t:=cap cs d) i;rw[Nat.max_eq_right hp] at this ⊢;exact this
end
end K51
namespace Sk
open PySem PySem.Spec PyProof.Rows
def cj (m:Nat):Prop:=m=7\/m=31\/m=127\/m=511
def db (m:Nat) (p:SetTable.Probe):SetTable.Probe :=
 if p.more > 0 then { p with j:=p.j+1,more:=p.more - 1 } else
 { p with j:=(SetTable.leap m p.i p.perturb).1,more:=SetTable.runEnd m (SetTable.leap m p.i p.perturb).1 - (SetTable.leap m p.i p.perturb).1,i:=(SetTable.leap m p.i p.perturb).1,perturb:=(SetTable.leap m p.i p.perturb).2 }
theorem pU (t:SetTable) (p:SetTable.Probe):t.advance p=db t.mask p:=rfl
def cO (m:Nat):Nat->SetTable.Probe->SetTable.Probe
 | 0,p=>p
 | n+1,p=>cO m n (db m p)
theorem j' (m:Nat):∀(a b:Nat) (p:SetTable.Probe),cO m (a+b) p=cO m b (cO m a p)
 | 0,b,p=>by rw[Cz]; rfl
 | a+1,b,p=>by rw[Nat.succ_add]; exact j' m a b (db m p)
def at_ (m i q:Nat):SetTable.Probe:={ j:=i,more:=SetTable.runEnd m i - i,i:=i,perturb:=q,dummy:=none }
theorem md (m i q:Nat):∀(r j:Nat),cO m r { j:=j,more:=r,i:=i,perturb:=q,dummy:=none }={ j:=j+r,more:=0,i:=i,perturb:=q,dummy:=none }
 | 0,j=>rfl
 | r+1,j=>by show cO m r (db m _)=_;unfold db;rw[BJ (CO r)];show cO m r { j:=j+1,more:=r,i:=i,perturb:=q,dummy:=none }=_;rw[md m i q r (j+1),Da,Nat.add_comm 1 r]
theorem wu (m i:Nat):SetTable.runEnd m i - i<=9:=by unfold SetTable.runEnd; split <;> omega
theorem uo (m i q:Nat):cO m (SetTable.runEnd m i - i+1) (at_ m i q)=at_ m (SetTable.leap m i q).1 (SetTable.leap m i q).2:=by rw[j'];unfold at_;rw[md];have one:∀p,cO m 1 p=db m p:=λ_=>rfl;rw[one];unfold db;rw[BE (by simp)]
def lp (m:Nat):Nat->Nat×Nat->Nat×Nat
 | 0,x=>x
 | n+1,x=>lp m n (SetTable.leap m x.1 x.2)
theorem p4 (m:Nat):∀(a b:Nat) (x:Nat×Nat),lp m (a+b) x=lp m b (lp m a x)
 | 0,b,x=>by rw[Cz]; rfl
 | a+1,b,x=>by rw[Nat.succ_add]; exact p4 m a b _
theorem p7 (m:Nat):∀(n i q:Nat),∃r,r<=10 * n/\cO m r (at_ m i q)=at_ m (lp m n (i,q)).1 (lp m n (i,q)).2
 | 0,i,q=>⟨0,BW _,rfl⟩
 | n+1,i,q=>by obtain⟨r,h1,h2⟩:=p7 m n (SetTable.leap m i q).1 (SetTable.leap m i q).2;refine⟨SetTable.runEnd m i - i+1+r,by have:=wu m i; omega,?_⟩;rw[j',uo,h2];rfl
theorem ma (m:Nat):∀(n i q:Nat),(lp m n (i,q)).2=q / 32 ^ n
 | 0,i,q=>by rw[Nat.pow_zero,Nat.div_one]; rfl
 | n+1,i,q=>by show(lp m n (SetTable.leap m i q)).2=_;rw[show SetTable.leap m i q=((i * 5+1+q / 32)%(m+1),q / 32) from rfl,ma m n,Nat.div_div_eq_div_mul,Nat.pow_succ,Nat.mul_comm]
theorem mf (m:Nat):∀(n i q:Nat),i<m+1->(lp m n (i,q)).1<m+1
 | 0,i,q,h=>h
 | n+1,i,q,h=>mf m n _ _ (EX _ (CO m))
def eV (m:Nat):Nat->Nat->Nat
 | 0,i=>i
 | n+1,i=>eV m n ((i * 5+1)%(m+1))
theorem j1 (m:Nat):∀(a b i:Nat),eV m (a+b) i=eV m b (eV m a i)
 | 0,b,i=>by rw[Cz]; rfl
 | a+1,b,i=>by rw[Nat.succ_add]; exact j1 m a b _
theorem mw (m:Nat):∀(n i:Nat),lp m n (i,0)=(eV m n i,0)
 | 0,i=>rfl
 | n+1,i=>by show lp m n (SetTable.leap m i 0)=_;rw[show SetTable.leap m i 0=((i * 5+1)%(m+1),0) by unfold SetTable.leap; simp];exact mw m n _
def jh (m:Nat):Nat->Nat->List Nat
 | 0,_=>[]
 | n+1,i=>i :: jh m n ((i * 5+1)%(m+1))
theorem nR (m:Nat):∀(n i j:Nat),j∈jh m n i->∃a,a<n/\eV m a i=j
 | 0,i,j,h=>by cases h
 | n+1,i,j,h=>by
   rcases Be.mp h with rfl|h
   . exact⟨0,CO n,rfl⟩
   . obtain⟨a,h1,h2⟩:=nR m n _ j h;exact⟨a+1,Nat.succ_lt_succ h1,h2⟩
def mx (m:Nat):Bool:=(List.range (m+1)).all (λj=>(jh m (m+1) 0).contains j)&&eV m (m+1) 0==0
variable {m:Nat}
theorem A' (h:cj m):mx m=true:=by rcases h with rfl|rfl|rfl|rfl <;> decide +kernel
variable {j:Nat}
theorem zD (h:cj m) {i:Nat}(hi:i<m+1) (hj:j<m+1):∃n,n<m+1/\eV m n i=j:=by
 have c:=A' h;unfold mx at c;rw[Bn,By,E8] at c;have at0:∀k,k<m+1->∃a,a<m+1/\eV m a 0=k:=λk hk=>nR m _ _ _ (by simpa using c.1 k (Ca.mpr hk));obtain⟨a,ha,ea⟩:=at0 i hi;obtain⟨b,hb,eb⟩:=at0 j hj;rcases Bl b a with z|z
 . refine⟨m+1+b - a,by omega,?_⟩;rw[<- ea,<- j1,show a+(m+1+b - a)=m+1+b by omega,j1,c.2,eb]
 . exact⟨b - a,by omega,by rw[<- ea,<- j1,show a+(b - a)=b by omega,eb]⟩
theorem yt (h:Int):SetTable.bits h / 32 ^ 13=0:=by
 unfold SetTable.bits;apply Nat.div_eq_of_lt;have h1:0<=h%(2 ^ 64:Int):=Int.emod_nonneg _ (by decide);have h2:h%(2 ^ 64:Int)<2 ^ 64:=Int.emod_lt_of_pos _ (by decide);have:(2:Int) ^ 64<=32 ^ 13:=by decide
 omega
theorem p6 (h:cj m) (x:Int) (hj:j<m+1):∃n q,n<=m+13/\lp m n (SetTable.bits x%(m+1),SetTable.bits x)=(j,q):=by have e:=ma m 13 (SetTable.bits x%(m+1)) (SetTable.bits x);rw[yt] at e;have l:=mf m 13 (SetTable.bits x%(m+1)) (SetTable.bits x) (EX _ (CO m));obtain⟨n,hn,en⟩:=zD h l hj;refine⟨13+n,0,by omega,?_⟩;rw[p4,show lp m 13 (SetTable.bits x%(m+1),SetTable.bits x)=((lp m 13 (SetTable.bits x%(m+1),SetTable.bits x)).1,0) from Prod.ext rfl e,mw,en]
theorem yH (h:cj m) (t:SetTable) (e:t.mask=m) (x:Int) (hj:j<m+1):∃r,r<10 * SetTable.turns m/\(cO m r (t.probeStart x)).j=j:=by
 obtain⟨n,q,hn,en⟩:=p6 h x hj;obtain⟨r,h1,h2⟩:=p7 m n (SetTable.bits x%(m+1)) (SetTable.bits x);refine⟨r,by unfold SetTable.turns; omega,?_⟩;have:t.probeStart x=at_ m (SetTable.bits x%(m+1)) (SetTable.bits x):=by subst e; rfl
 rw[this,h2,en];rfl
structure TabOk (t:SetTable) (n:Nat):Prop where
 msk:cj t.mask
 size:t.place.size=n
 dum:t.dummies=#[]
 room:n * 5<t.mask * 3
theorem TabOk.fits {t:SetTable} {n:Nat} (h:TabOk t n):t.fits n=true:=by unfold SetTable.fits SetTable.fill;rw[h.dum,h.size];have:=h.room;simp;omega
variable {t:SetTable}
theorem yj (h:t.dummies=#[]) (j:Nat):t.slot j≠.dummy:=by
 unfold SetTable.slot SetTable.has;rw[h];dsimp only;split
 . intro z; cases z
 . simp
theorem tM (h:t.dummies=#[]) (hj:j ∉ t.place.toList):t.slot j=.empty:=by
 unfold SetTable.slot SetTable.has;rw[h];dsimp only;split
 . rename_i e
   refine absurd ?_ hj;have e:=beq_iff_eq.mp e;exact Ck.mpr (Array.mem_of_getElem? e)
 . simp
theorem wB {i:Nat}(h:t.slot j=.live i):t.place[i]?=some j:=by
 unfold SetTable.slot at h;dsimp only at h;split at h
 . rename_i e
   have e:=beq_iff_eq.mp e;cases h;exact e
 . split at h <;> cases h
theorem hole {l:List Nat}:∀(n:Nat),l.length<n->∃j,j<n/\j ∉ l:=by
 intro n hn;rcases Classical.em (∃j,j<n/\j ∉ l) with h|h
 . exact h
 . have sub:∀j,j<n->j∈l:=λj hj=>Classical.byContradiction λz=>h ⟨j,hj,z⟩;have:∀(n:Nat) (l:List Nat),(∀j,j<n->j∈l)->n<=l.length:=by
     intro n
     induction n with
     | zero=>intro l _; exact BW _
     | succ n ih =>
       intro l hl;have h1:=ih (l.erase n) λj hj=>(List.mem_erase_of_ne (by omega)).mpr (hl j (by omega));rw[EE (hl n (by omega))] at h1;have:=List.length_pos_of_mem (hl n (by omega));omega
   have:=this n l sub;omega
theorem TabOk.hole {t:SetTable} {n:Nat} (h:TabOk t n):∃j,j<t.mask+1/\t.slot j=.empty:=by obtain⟨j,h1,h2⟩:=Sk.hole (l:=t.place.toList) (t.mask+1) (by rw[C1,h.size]; have:=h.room; omega);exact⟨j,h1,tM h.dum h2⟩
theorem oN (m:Nat) (p:SetTable.Probe):(db m p).dummy=p.dummy:=by unfold db; split <;> rfl
theorem nW {t:SetTable} (hd:t.dummies=#[]) (hashAt:Nat->Int) (x:Int):∀(r f:Nat) (p:SetTable.Probe),r<f->p.dummy=none->t.slot (cO t.mask r p).j=.empty ->
   (∃j,SetTable.probe.go t hashAt x f p=some (.empty j none)/\t.slot j=.empty) \/
   ∃j i next r',SetTable.probe.go t hashAt x f p=some (.candidate j i next)/\t.slot j=.live i/\r'<r/\next.dummy=none/\t.slot (cO t.mask r' next).j=.empty
 | r,0,p,hr,_,_=>by omega
 | r,f+1,p,hr,hp,he=>by
   unfold SetTable.probe.go;cases hs:t.slot p.j with
   | empty=>exact .inl ⟨p.j,by rw[hp],hs⟩
   | dummy=>exact absurd hs (yj hd _)
   | live i =>
     cases r with
     | zero=>rw[show cO t.mask 0 p=p from rfl,hs] at he; cases he
     | succ r =>
       have he:t.slot (cO t.mask r (db t.mask p)).j=.empty:=he;dsimp only;by_cases hc:(hashAt i==x)=true
       . rw[BJ hc];exact .inr ⟨p.j,i,t.advance p,r,rfl,hs,CA r,by rw[pU,oN,hp],he⟩
       . rw[BE hc];rcases nW hd hashAt x r f (t.advance p) (by omega) (by rw[pU,oN,hp]) he with z|⟨j,i',next,r',z1,z2,z3,z4⟩
         . exact .inl z
         . exact .inr ⟨j,i',next,r',z1,z2,by omega,z4⟩
def cn (l:List (Option Nat)):Nat:=(l.filter (·.isSome)).length
theorem ou:∀{l:List (Option Nat)} {j:Nat} (k:Nat),l[j]?=some none->cn (l.set j (some k))=cn l+1
 | [],j,k,h=>by simp at h
 | a :: l,0,k,h=>by
   have:a=none:=by simpa using h
   subst this;simp [cn]
 | a :: l,j+1,k,h=>by have ih:=ou (l:=l) (j:=j) k (by simpa using h);unfold cn at ih ⊢;rw[List.set_cons_succ,List.filter_cons,List.filter_cons];split <;> simp [ih]
theorem mS:∀{l:List (Option Nat)},cn l<l.length->∃j:Nat,l[j]?=some none
 | [],h=>by simp [cn] at h
 | a :: l,h=>by
   cases a with
   | none=>exact⟨0,rfl⟩
   | some k =>
     obtain⟨j,hj⟩:=mS (l:=l) (by unfold cn at h ⊢; simpa using h);exact⟨j+1,by simpa using hj⟩
theorem qX {m:Nat} (owner:Array (Option Nat)) (hs:owner.size=m+1) {j:Nat} (hj:owner[j]?=some none):∀(n f:Nat) (i q:Nat),n<f->i<m+1->(lp m n (i,q)).1=j->∃k,SetTable.layClean.free m owner f i q=some k/\owner[k]?=some none
 | n,0,i,q,hn,_,_=>by omega
 | n,f+1,i,q,hn,hi,e=>by
   unfold SetTable.layClean.free;have got:∀k,(owner.getD k (some 0)).isNone=true->owner[k]?=some none:=λk h=>by
     rw[Cd] at h;cases z:owner[k]? with
     | none=>rw[z] at h; cases h
     | some o =>
       rw[z] at h;cases o with
       | none=>rfl
       | some u=>cases h
   cases hf:(List.range (SetTable.runEnd m i+1 - i)).find? λk=>(owner.getD (i+k) (some 0)).isNone with
   | some k=>exact⟨i+k,rfl,got _ (by simpa using List.find?_some hf)⟩
   | none =>
     cases n with
     | zero =>
       have e:i=j:=e;subst e;have h1:=List.find?_eq_none.mp hf 0 (Ca.mpr (by unfold SetTable.runEnd; split <;> omega));refine absurd ?_ h1;rw[Nat.add_zero,Cd,hj];rfl
     | succ n =>
       exact qX owner hs hj n f _ _ (by omega) (EX _ (CO m)) e
theorem ug (h:cj m) (owner:Array (Option Nat)) (hs:owner.size=m+1) (hc:cn owner.toList<=m) (x:Int):∃k,SetTable.layClean.free m owner (SetTable.turns m) (SetTable.bits x%(m+1)) (SetTable.bits x)=some k/\owner[k]?=some none:=by
 obtain⟨j,hj⟩:=mS (l:=owner.toList) (by rw[C1,hs]; omega);rw[Cy] at hj;have hjl:j<m+1:=by rw[<- hs]; exact(D3.mp hj).1
 obtain⟨n,q,hn,en⟩:=p6 h x hjl;exact qX owner hs hj n _ _ _ (by unfold SetTable.turns; omega) (EX _ (CO m)) (by rw[en])
structure OwnOk (m:Nat) (owner:Array (Option Nat)) (k:Nat):Prop where
 size:owner.size=m+1
 cnt:cn owner.toList=k
 lt:∀(j u:Nat),owner[j]?=some (some u)->u<k
theorem mh {m:Nat} (h:cj m):∀(hs:List Int) (owner:Array (Option Nat)) (k:Nat),OwnOk m owner k->k+hs.length<=m ->
   ∃ow,List.foldl (λ(acc:Option (Array (Option Nat)×Nat)) (x:Int)=>do
     let (owner,k) <- acc
     let j <- SetTable.layClean.free m owner (SetTable.turns m) (SetTable.bits x%(m+1)) (SetTable.bits x)
     pure (owner.setIfInBounds j (some k),k+1)) (some (owner,k)) hs=some (ow,k+hs.length)/\OwnOk m ow (k+hs.length)
 | [],owner,k,hO,_=>⟨owner,rfl,hO⟩
 | x :: hs,owner,k,hO,hk=>by
   rw[BV] at hk;obtain⟨j,hj,hn⟩:=ug h owner hO.size (by rw[hO.cnt]; omega) x;have hjl:=(D3.mp hn).1;have O2:OwnOk m (owner.setIfInBounds j (some k)) (k+1):=by
     refine⟨by rw[Array.size_setIfInBounds]; exact hO.size,?_,λi u hi=>?_⟩
     . rw[Array.toList_setIfInBounds,ou k (by rw[Cy]; exact hn),hO.cnt]
     . rw[Array.getElem?_setIfInBounds] at hi;split at hi
       . have:k=u:=by simpa using hi
         omega
       . have:=hO.lt i u hi;omega
   obtain⟨ow,e1,e2⟩:=mh h hs _ (k+1) O2 (by omega);refine⟨ow,?_,by rw[BV,show k+(hs.length+1)=k+1+hs.length by omega]; exact e2⟩;rw[Ch];have:(do
     let (owner,k) <- some (owner,k)
     let j <- SetTable.layClean.free m owner (SetTable.turns m) (SetTable.bits x%(m+1)) (SetTable.bits x)
     pure (owner.setIfInBounds j (some k),k+1):Option (Array (Option Nat)×Nat))=some (owner.setIfInBounds j (some k),k+1):=by
     show(SetTable.layClean.free m owner (SetTable.turns m) (SetTable.bits x%(m+1)) (SetTable.bits x)).bind _=_;rw[hj];rfl
   rw[this,e1,BV,show k+1+hs.length=k+(hs.length+1) by omega]
theorem AC (h:cj m) (hs:Array Int) (hl:hs.size<=m):∃ow,SetTable.layClean m hs=some ow/\OwnOk m ow hs.size:=by
 have O0:OwnOk m (Array.replicate (m+1) none) 0:=by
   refine⟨Array.size_replicate,?_,λj u z=>?_⟩
   . rw[Array.toList_replicate];unfold cn;rw[List.filter_replicate];rfl
   . rw[Array.getElem?_replicate] at z;split at z <;> cases z
 obtain⟨ow,e1,e2⟩:=mh h hs.toList _ 0 O0 (by rw[C1]; omega);rw[C1,Cz] at e1 e2;refine⟨ow,?_,e2⟩;unfold SetTable.layClean;rw[<- Array.foldl_toList];show Option.map _ (List.foldl _ (some (Array.replicate (m+1) none,0)) hs.toList)=_;rw[show(List.foldl _ (some (Array.replicate (m+1) none,0)) hs.toList)=some (ow,hs.size) from e1];rfl
def fO (ow:Array (Option Nat)) (n:Nat):List (Nat×Nat):=(List.range n).filterMap λj=>(ow.getD j none).map (j,·)
theorem qS (ow:Array (Option Nat)):∀n,n<=ow.size->(fO ow n).length=cn (ow.toList.take n)
 | 0,_=>rfl
 | n+1,h=>by
   have ih:=qS ow n (by omega);unfold fO at ih ⊢;rw[List.range_succ,List.filterMap_append,BH,ih,Bm];have e:ow.toList[n]?=some ow[n]:=by rw[Cy,Cm (by omega)]
   have e2:ow.getD n none=ow[n]:=by rw[Cd,Cm (by omega)]; rfl
   rw[e];unfold cn;rw[List.filter_append,BH];congr 1;show(List.filterMap (λj=>(ow.getD j none).map (j,·)) [n]).length=(List.filter (·.isSome) [ow[n]]).length;simp only[Cn,List.filterMap_nil,e2];cases ow[n] <;> rfl
theorem xj (h:cj m) (fg mv:Nat) (led pl:Bool) (hs:Array Int) (hl:hs.size<=m) :
   ∃t ord,SetTable.laid m fg mv led pl hs=some (t,ord)/\t.mask=m/\t.place.size=hs.size/\t.dummies=#[]/\ord.size=hs.size/\∀u∈ord.toList,u<hs.size:=by
 obtain⟨ow,e1,O⟩:=AC h hs hl;have ll:(fO ow (m+1)).length=hs.size:=by rw[qS ow _ (by rw[O.size]; exact BG _),<- O.size,<- C1,Bw,O.cnt]
 refine⟨_,_,by unfold SetTable.laid; rw[e1]; rfl,rfl,?_,rfl,?_,?_⟩
 . show((fO ow (m+1)).map (·.1)).toArray.size=_;simp [ll]
 . show((fO ow (m+1)).map (·.2)).toArray.size=_;simp [ll]
 . intro u hu;have hu:u∈(fO ow (m+1)).map (·.2):=List.mem_toArray.mp (Ck.mp hu);obtain⟨p,hp,rfl⟩:=Ba.mp hu;unfold fO at hp;obtain⟨j,hj,e⟩:=DC.mp hp;obtain⟨v,hv,rfl⟩:=C7.mp e;refine O.lt j v ?_;rw[Cd] at hv;cases z:ow[j]? with
   | none=>rw[z] at hv; cases hv
   | some o=>rw[z] at hv; exact Bv some hv
theorem xh {es:Array (Int×Value)} {ord:Array Nat} (h:∀u∈ord.toList,u<es.size):(ord.filterMap (es[·]?)).size=ord.size/\∀e∈(ord.filterMap (es[·]?)).toList,e∈es.toList:=by
 have key:∀l:List Nat,(∀u∈l,u<es.size)->(l.filterMap (es[·]?)).length=l.length:=by
   intro l
   induction l with
   | nil=>intro _; rfl
   | cons a l ih =>
     intro hl;rw[Cn,Cm (hl a BU)];show((es[a]'_) :: _).length=_;rw[BV,ih λu hu=>hl u (BS _ hu),BV]
 rw[<- C1,Array.toList_filterMap];refine⟨key _ h,λe he=>?_⟩;obtain⟨u,_,hu⟩:=DC.mp he;exact Ck.mpr (Array.mem_of_getElem? hu)
variable {n:Nat}
theorem zt (h:cj t.mask) (h1:n * 5<t.mask * 3) (h2:(n+1) * 5>=t.mask * 3) (h3:n<200):cj (SetTable.sizeAbove (SetTable.grown (n+1)) - 1)/\(n+1) * 5<(SetTable.sizeAbove (SetTable.grown (n+1)) - 1) * 3/\SetTable.sizeAbove (SetTable.grown (n+1))<=512:=by
 unfold cj at *;rcases h with e|e|e|e <;> rw[e] at h1 h2
 . obtain rfl:n=4:=by omega
   have:SetTable.sizeAbove (SetTable.grown (4+1))=32:=by decide +kernel
   rw[this]; omega
 . obtain rfl:n=18:=by omega
   have:SetTable.sizeAbove (SetTable.grown (18+1))=128:=by decide +kernel
   rw[this]; omega
 . obtain rfl:n=76:=by omega
   have:SetTable.sizeAbove (SetTable.grown (76+1))=512:=by decide +kernel
   rw[this]; omega
 . omega
section
variable {prog:Program} {w:World}
theorem kS:∀(n:Nat) (d:PyData) (m:Nat) {A:Around} {E:Value->Shared->Prop} {s:Shared} {v:Value} {as:List Addr} {Q:Bool->Shared->Prop},hok n d=true->n<=m->Reads s.heap v d as->Q false s ->
   wpAny (model prog w) A (ofAClassStatement m v) Q E s
 | n,.int i,m,A,E,s,v,as,Q,_,_,r,h=>by cases r; unfold ofAClassStatement; exact BF h
 | n,.str x,m,A,E,s,v,as,Q,_,_,r,h=>by cases r; unfold ofAClassStatement; exact BF h
 | n,.bool x,m,A,E,s,v,as,Q,_,_,r,h=>by cases r; unfold ofAClassStatement; exact BF h
 | n+1,.tuple ds,m+1,A,E,s,v,as,Q,hk,hm,r,h=>by
   cases r with
   | @tuple a o items _ _ _ ho hc hd hi =>
   have hk:∀d∈ds,hok n d=true:=by unfold hok at hk;exact By.mp hk
   unfold ofAClassStatement;refine BB (DI (T:="tuple") ⟨o,ho,hc⟩ ?_);dsimp only;rw[BJ (by decide)];refine BB (BF ?_);simp only[Co,Bt,if_false];unfold seqItems?;refine BB (BB (EV ho ?_));rw[hd];refine BF ?_;dsimp only;refine BB ?_;rw[<- DL];refine D1 _ (λrest r s'=>r.1=none/\s'=s/\∃left bs,ReadsAll s.heap rest left bs/\∀d∈left,hok n d=true) _ ?_ ?_ _ _ ⟨rfl,rfl,ds,_,hi,hk⟩
   . rintro v rest r s' ⟨hr,rfl,left,bs,hl,hall⟩;cases hl with
     | @cons _ _ k ks' _ _ h1 hl' =>
       refine BB (kS n k m (hall k BU) (by omega) h1 ?_);simp only[Bt,if_false];exact BF ⟨rfl,rfl,ks',_,hl',λd hd=>hall d (BS _ hd)⟩
   . rintro ⟨r1,r2⟩ s' ⟨hr,rfl,_⟩;simp only at hr;subst hr;exact BF h
 | n+1,.tuple ds,0,_,_,_,_,_,_,_,hm,_,_=>by omega
 | 0,.tuple _,_,_,_,_,_,_,_,hk,_,_,_=>by unfold hok at hk; cases hk
 | 0,.none,_,_,_,_,_,_,_,hk,_,_,_=>by unfold hok at hk; cases hk
 | 0,.list _,_,_,_,_,_,_,_,hk,_,_,_=>by unfold hok at hk; cases hk
 | 0,.dict _,_,_,_,_,_,_,_,hk,_,_,_=>by unfold hok at hk; cases hk
 | n+1,.none,_,_,_,_,_,_,_,hk,_,_,_=>by unfold hok at hk; cases hk
 | n+1,.list _,_,_,_,_,_,_,_,hk,_,_,_=>by unfold hok at hk; cases hk
 | n+1,.dict _,_,_,_,_,_,_,_,hk,_,_,_=>by unfold hok at hk; cases hk
theorem nD:∀(n:Nat) (d:PyData) (m:Nat) {A:Around} {E:Value->Shared->Prop} {s:Shared} {v:Value} {as:List Addr} {Q:Bool->Shared->Prop},hok n d=true->n<=m->Reads s.heap v d as->(∀b,Q b s) ->
   wpAny (model prog w) A (hashByValue m v) Q E s
 | n,.int i,m,A,E,s,v,as,Q,_,_,r,h=>by cases r; cases m <;> exact BF (h _)
 | n,.str x,m,A,E,s,v,as,Q,_,_,r,h=>by cases r; cases m <;> exact BF (h _)
 | n,.bool x,m,A,E,s,v,as,Q,_,_,r,h=>by cases r; cases m <;> exact BF (h _)
 | n+1,.tuple ds,m+1,A,E,s,v,as,Q,hk,hm,r,h=>by
   cases r with
   | @tuple a o items _ _ _ ho hc hd hi =>
   have hT:s.TypeIs (.ref a) "tuple":=⟨o,ho,hc⟩
   have hk:∀d∈ds,hok n d=true:=by unfold hok at hk;exact By.mp hk
   unfold hashByValue;refine BB (CT hT Ct.lookup ?_);dsimp only;unfold seqItems?;refine BB (BB (EV ho ?_));rw[hd];refine BF ?_;show wpAny _ _ (forIn items _ _ >>= _) _ _ _;refine BB ?_;rw[<- DL];refine D1 _ (λrest r s'=>r.1=none/\s'=s/\∃left bs,ReadsAll s.heap rest left bs/\∀d∈left,hok n d=true) _ ?_ ?_ _ _ ⟨rfl,rfl,ds,_,hi,hk⟩
   . rintro v rest r s' ⟨hr,rfl,left,bs,hl,hall⟩;cases hl with
     | @cons _ _ k ks' _ _ h1 hl' =>
       refine BB (nD n k m (hall k BU) (by omega) h1 λb=>?_);cases b with
       | true =>
         simp only[Co,Bt,if_false];exact BF ⟨rfl,rfl,ks',_,hl',λd hd=>hall d (BS _ hd)⟩
       | false =>
         simp only[Bool.not_false,if_true];exact BF (BF (h false))
   . rintro ⟨r1,r2⟩ s' ⟨hr,rfl,_⟩;simp only at hr;subst hr;exact BF (h true)
 | n+1,.tuple ds,0,_,_,_,_,_,_,_,hm,_,_=>by omega
 | 0,.tuple _,_,_,_,_,_,_,_,hk,_,_,_=>by unfold hok at hk; cases hk
 | 0,.none,_,_,_,_,_,_,_,hk,_,_,_=>by unfold hok at hk; cases hk
 | 0,.list _,_,_,_,_,_,_,_,hk,_,_,_=>by unfold hok at hk; cases hk
 | 0,.dict _,_,_,_,_,_,_,_,hk,_,_,_=>by unfold hok at hk; cases hk
 | n+1,.none,_,_,_,_,_,_,_,hk,_,_,_=>by unfold hok at hk; cases hk
 | n+1,.list _,_,_,_,_,_,_,_,hk,_,_,_=>by unfold hok at hk; cases hk
 | n+1,.dict _,_,_,_,_,_,_,_,hk,_,_,_=>by unfold hok at hk; cases hk
end
theorem qp {h h':Heap} (hs:∀b o,h.get? b=some o->h'.get? b=some o):∀(n:Nat) (d:PyData) {v:Value} {as:List Addr},hok n d=true->Reads h v d as->Reads h' v d as
 | n,.int i,v,as,_,r=>by cases r; exact .int _ _
 | n,.str x,v,as,_,r=>by cases r; exact .str _ _
 | n,.bool x,v,as,_,r=>by cases r; exact .bool _
 | n+1,.tuple ds,v,as,hk,r=>by
   cases r with
   | @tuple a o items _ _ _ ho hc hd hi =>
   have hk:∀d∈ds,hok n d=true:=by unfold hok at hk;exact By.mp hk
   have key:∀(l:List PyData) {vs:List Value} {bs:List Addr},(∀d∈l,hok n d=true)->ReadsAll h vs l bs->ReadsAll h' vs l bs:=by
     intro l
     induction l with
     | nil=>intro vs bs _ r; cases r; exact .nil
     | cons d l ih =>
       intro vs bs hl r;cases r with
       | cons r1 r2=>exact .cons (qp hs n d (hl d BU) r1) (ih (λe he=>hl e (BS _ he)) r2)
   exact .tuple (hs _ _ ho) hc hd (key ds hk hi)
 | 0,.tuple _,_,_,hk,_=>by unfold hok at hk; cases hk
 | 0,.none,_,_,hk,_=>by unfold hok at hk; cases hk
 | 0,.list _,_,_,hk,_=>by unfold hok at hk; cases hk
 | 0,.dict _,_,_,hk,_=>by unfold hok at hk; cases hk
 | n+1,.none,_,_,hk,_=>by unfold hok at hk; cases hk
 | n+1,.list _,_,_,hk,_=>by unfold hok at hk; cases hk
 | n+1,.dict _,_,_,hk,_=>by unfold hok at hk; cases hk
def qZ (es:Array (Int×Value)) (laid:Option (SetTable×Array Nat)):Sem (Array (Int×Value)×SetTable):=do
 let some (t,order):=laid|unsupported "internal:set-table-without-room"
 let es':=order.filterMap (es[·]?)
 if es'.size != es.size then unsupported "internal:set-table-lost-an-element"
 pure (es',t)
theorem uW (a:Addr) (wanted:Nat):setRelay a wanted=(do
 let (es,_,t) <- setState a
 if SetTable.sizeAbove wanted > sizeLine then unsupported "set:memory"
 let (es,t) <- qZ es (t.relaid (es.map (·.1)) wanted)
 storeSet a es t):=rfl
variable {a:Addr}
section
variable {prog:Program} {w:World} {κ:Type} [DecidableEq κ] {T:DK κ} {A:Around} {E:Value->Shared->Prop} {s:Shared}
def cS (T:DK κ) (h:Heap) (k:κ) (v:Value):Prop:=∃b,v=.ref b/\∃as,Reads h (.ref b) (T.D k) as
theorem vp {x:Value} {k:κ} {Q:Bool->Shared->Prop} (hx:cS T s.heap k x) (stored:List Value) (hs:∀y∈stored,∃k',cS T s.heap k' y) (h:Q false s):wpAny (model prog w) A (searchCouldBeSeen x stored) Q E s:=by
 obtain⟨b,rfl,as,rx⟩:=hx;unfold searchCouldBeSeen;refine BB ?_;refine D1 _ (λrest r s'=>r.1=none/\s'=s/\∀y∈rest,∃k',cS T s.heap k' y) _ ?_ ?_ _ _ ⟨rfl,rfl,hs⟩
 . rintro v rest r s' ⟨hr,rfl,hall⟩;have tl:∀y∈rest,∃k',cS T s'.heap k' y:=λy hy=>hall y (BS _ hy);obtain⟨k',c,rfl,bs,ry⟩:=hall v BU;dsimp only;split
   . exact BF ⟨rfl,rfl,tl⟩
   . refine BB (jG _ _ 8 (T.ok k) T.n8 rx ?_);simp only[Co,Bt,if_false];refine BB (jG _ _ 8 (T.ok k') T.n8 ry ?_);simp only[Co,Bt,if_false];refine BB (kS _ _ 8 (T.ok k) T.n8 rx ?_);simp only[Bt,if_false];refine BB (kS _ _ 8 (T.ok k') T.n8 ry ?_);simp only[Bt,if_false];exact BF ⟨rfl,rfl,tl⟩
 . rintro ⟨r1,r2⟩ s' ⟨hr,rfl,_⟩;simp only at hr;subst hr;exact BF h
theorem zX (h:cj t.mask):t.gaveWay=false:=by unfold SetTable.gaveWay;rcases h with e|e|e|e <;> rw[e] <;> rfl
theorem tN {o:Obj} {es:Array (Int×Value)} {ep:Nat} {x:Value} {k:κ} {z:Int} {Q:SetFound->Shared->Prop} (hu:A.units+8<cLine) (ho:s.heap.get? a=some o) (hd:o.data=.set es ep t) (tk:TabOk t es.size)
   (hel:∀e∈es.toList,∃k',k'≠k/\cS T s.heap k' e.2) (hx:cS T s.heap k x) (h:∀j,t.slot j=.empty->Q (.free j false) s) :
   ∀(r f:Nat) (p:Option SetTable.Probe),r<f->r<10 * SetTable.turns t.mask->(p.getD (t.probeStart z)).dummy=none->t.slot (cO t.mask r (p.getD (t.probeStart z))).j=.empty->wpAny (model prog w) A (setSearchFrom a x z true f p) Q E s:=by
 intro r
 induction r using Nat.strongRecOn with
 | _ r ih =>
 intro f p hr hr2 hp he;cases f with
 | zero=>omega
 | succ f =>
 have hx':=hx;obtain⟨bx,rfl,as,rx⟩:=hx;unfold setSearchFrom;refine BB (Cj ho hd tk.fits ?_);dsimp only;rw[zX tk.msk];simp only[Bt,if_false];unfold SetTable.probe;rcases nW tk.dum _ z r (10 * SetTable.turns t.mask) (p.getD (t.probeStart z)) hr2 hp he with⟨j,e1,e2⟩|⟨j,i,next,r',e1,e2,e3,e4,e5⟩
 . rw[e1];dsimp only;exact BF (h j e2)
 . rw[e1];dsimp only;have hpl:=wB e2;have hi:i<es.size:=by have:=(D3.mp hpl).1;rw[tk.size] at this;exact this
   have he':es[i]?=some es[i]:=Cm hi;obtain⟨k',hne,hy⟩:=hel es[i] (Ck.mpr (Array.getElem_mem hi));generalize hq:es[i]=q at he' hy;obtain⟨y0,y1⟩:=q;obtain⟨b2,ey,asy,ry⟩:=hy;have ey:y1=.ref b2:=ey;subst ey;have hst:∀y∈((es.filter (·.1==z)).toList.map (·.2)),∃k',cS T s.heap k' y:=λy hy=>by obtain⟨e,he,rfl⟩:=Ba.mp hy;rw[Array.toList_filter] at he;obtain⟨k',_,q⟩:=hel e (EQ.mp he).1;exact⟨k',q⟩
   cases hl:t.led
   . simp only[Bool.not_false,if_true];refine BB (vp hx' _ hst ?_);simp only[Bt,if_false];rw[he'];dsimp only;refine BB (C2 ((kindOf T prog w).eqBool (x:=k') (y:=k) hu ⟨_,ry⟩ ⟨_,rx⟩ ?_));rw[BY hne];refine BB (Cj ho hd tk.fits ?_);dsimp only;simp only[Ds,Bt,if_false];have sm:t.sameMemory t.moves t.mask=some true:=by unfold SetTable.sameMemory; rw[BJ (beq_self_eq_true _)]
     rw[sm];dsimp only;rw[BJ rfl,e2];dsimp only;rw[he'];dsimp only;refine BB (wpAny_isSame_ref_self ?_);refine BB (BF ?_);exact ih r' e3 f (some next) (by omega) (by omega) e4 e5
   . simp only[Co,Bt,if_false];rw[he'];dsimp only;refine BB (C2 ((kindOf T prog w).eqBool (x:=k') (y:=k) hu ⟨_,ry⟩ ⟨_,rx⟩ ?_));rw[BY hne];refine BB (Cj ho hd tk.fits ?_);dsimp only;simp only[Ds,Bt,if_false];have sm:t.sameMemory t.moves t.mask=some true:=by unfold SetTable.sameMemory; rw[BJ (beq_self_eq_true _)]
     rw[sm];dsimp only;rw[BJ rfl,e2];dsimp only;rw[he'];dsimp only;refine BB (wpAny_isSame_ref_self ?_);refine BB (BF ?_);exact ih r' e3 f (some next) (by omega) (by omega) e4 e5
end
def ce (h:Heap) (a:Addr) (n:Nat) (F:Value->Prop):Prop:=∃o es ep t,h.get? a=some o/\o.ExactSet/\o.data=.set es ep t/\TabOk t es.size/\es.size=n/\∀e∈es.toList,F e.2
section
variable {prog:Program} {w:World} {κ:Type} [DecidableEq κ] {T:DK κ} {A:Around} {E:Value->Shared->Prop} {s:Shared}
theorem cS.more {h h':Heap} {k:κ} {v:Value} (q:cS T h k v) (hs:∀b o,h.get? b=some o->h'.get? b=some o):cS T h' k v:=by
 obtain⟨b,e,as,r⟩:=q;have key:∀(n:Nat) (d:PyData) {v:Value} {as:List Addr},hok n d=true->Reads h v d as->Reads h' v d as:=by intro n d;exact qp hs n d
 exact⟨b,e,as,key _ _ (T.ok k) r⟩
theorem xX {F:Value->Prop} {k:κ} {x:Value} {Q:Bool->Shared->Prop} (hu:A.units+8<cLine) (hS:ce s.heap a n F) (hx:cS T s.heap k x) (hF:∀v,F v->∃k',k'≠k/\cS T s.heap k' v) (hl:n<200)
   (h:∀h' tk,s.toks<=tk->Heap.SameBut a s.heap h'->ce h' a (n+1) (λv=>F v\/v=x)->Q true { s with heap:=h',toks:=tk }):wpAny (model prog w) A (setAdd a x) Q E s:=by
 obtain⟨o,es,ep,t,ho,hex,hd,tk,hsz,hel⟩:=hS;obtain⟨bx,rfl,as,rx⟩:=id hx;unfold setAdd;refine C2 (BB (jS _ _ (T.ok k) (Dx (Nat.add_le_add_left T.n8 _) hu) rx ?_));generalize dX w (T.D k)=z;generalize hs1:({ s with toks:=s.toks+dy (T.D k) }:Shared)=s1;have hh:s1.heap=s.heap:=by rw[<- hs1]
 unfold setAddHashed setAddHashedIn;refine C2 (BB (Cj (o:=o) (by rw[hh]; exact ho) hd tk.fits ?_));dsimp only;rw[show byScan (Value.ref bx) es=false from rfl];simp only[Bt,if_false];unfold setSearch;obtain⟨j,hj,ej⟩:=tk.hole;obtain⟨r,hr,er⟩:=yH tk.msk t rfl z hj;have mb:t.mask<=511:=by rcases tk.msk with e|e|e|e <;> rw[e] <;> decide
 refine BB (tN (T:=T) (k:=k) hu (by rw[hh]; exact ho) hd tk (λe he=>?_) (by rw[hh]; exact hx) (λj hj=>?_) r 100000 none (by unfold SetTable.turns at hr; omega) hr rfl (by rw[show(none:Option SetTable.Probe).getD (t.probeStart z)=t.probeStart z from rfl,er]; exact ej))
 . obtain⟨k',hk',q⟩:=hF _ (hel e he);exact⟨k',hk',by rw[hh]; exact q⟩
 dsimp only;refine BB (Cj (o:=o) (by rw[hh]; exact ho) hd tk.fits ?_);dsimp only
 -- the new table
 have hp1:(t.put j).1.mask=t.mask:=rfl;have hp2:(t.put j).1.dummies=#[]:=by unfold SetTable.put;dsimp only;rw[tk.dum];simp [SetTable.has]
 have hp3:(t.put j).1.place.size=es.size+1:=by unfold SetTable.put;dsimp only;rw[<- C1,(SetTable.insertAt_perm _ _ _).length_eq,Array.toList_push,BH,C1,tk.size];rfl
 generalize hpt:t.put j=pt at hp1 hp2 hp3;obtain⟨t1,p⟩:=pt;dsimp only at hp1 hp2 hp3 ⊢;generalize he1:SetTable.insertAt es p (z,Value.ref bx)=es1;have perm:es1.toList.Perm (es.toList++[(z,Value.ref bx)]):=by have:=SetTable.insertAt_perm es p (z,Value.ref bx);rw[he1,Array.toList_push] at this;exact this
 have hz1:es1.size=es.size+1:=by rw[<- C1,perm.length_eq,BH,C1]; rfl
 have hel1:∀e∈es1.toList,F e.2\/e.2=.ref bx:=λe he=>by
   rcases C5.mp (perm.mem_iff.mp he) with q|q
   . exact .inl (hel e q)
   . rw[Bq] at q;subst q;exact .inr rfl
 have tle:s.toks<=s1.toks:=by rw[<- hs1]; exact Dd _ _
 have big:(1000:Nat)<sizeLine:=by decide
 have fin:∀t2:SetTable,t2.mask=t.mask->t2.dummies=#[]->t2.place.size=es.size+1->wpAny (model prog w) A (do
     storeSet a es1 t2
     if(!false&&t2.tooFull)=true then do
       setRelay a (SetTable.grown (es.size+1))
       pure true
     else pure true) Q E s1:=by
   intro t2 m2 d2 z2;have fl:t2.fill=es.size+1:=by unfold SetTable.fill; rw[d2,z2]; rfl
   have fits2:t2.fits es1.size=true:=by unfold SetTable.fits;rw[fl,hz1,z2,m2];have:=tk.room;simp;omega
   refine BB (wpAny_storeSet_of (by rw[hh]; exact ho) hd ?_ (by rw[hz1,hsz]; omega));rw[hh];have hg:(s.heap.update a (Obj.putSet es1 t2)).get? a=some { o with data:=.set es1 (ep+1) t2 }:=by have:=Cw (Obj.putSet es1 t2) ho (by rw[putSet_of es1 t2 hd]; rfl);rw[putSet_of es1 t2 hd] at this; exact this
   have sb:=Heap.SameBut.update s.heap a (Obj.putSet es1 t2);have room:=tk.room;by_cases full:t2.tooFull=true
   . rw[BJ (by rw[full]; rfl)];have full':(es.size+1) * 5>=t.mask * 3:=by unfold SetTable.tooFull at full;rw[fl,m2] at full;simpa using full
     obtain⟨g1,g2,g3⟩:=zt tk.msk room full' (by omega);rw[uW];refine BB ?_;refine BB (Cj (s:={ s1 with heap:=s.heap.update a (Obj.putSet es1 t2) }) (o:={ o with data:=.set es1 (ep+1) t2 }) hg rfl fits2 ?_);dsimp only;have le:¬ SetTable.sizeAbove (SetTable.grown (es.size+1)) > sizeLine:=by omega
     rw[BE le];have rl:t2.relaid (es1.map (·.1)) (SetTable.grown (es.size+1))=SetTable.laid (SetTable.sizeAbove (SetTable.grown (es.size+1)) - 1) t2.finger (t2.movedTo (SetTable.sizeAbove (SetTable.grown (es.size+1)) - 1)) t2.led t2.plain (es1.map (·.1)):=rfl;obtain⟨t3,ord,e3,m3,z3,d3,o3,o4⟩:=xj g1 t2.finger (t2.movedTo (SetTable.sizeAbove (SetTable.grown (es.size+1)) - 1)) t2.led t2.plain (es1.map (·.1)) (by rw[Array.size_map,hz1]; omega);rw[Array.size_map] at z3 o3 o4;rw[rl,e3];obtain⟨k1,k2⟩:=xh (es:=es1) (ord:=ord) o4;unfold qZ;dsimp only;have ne:((ord.filterMap (es1[·]?)).size != es1.size)=false:=by rw[k1,o3]; simp
     rw[ne];simp only[Bt,if_false];refine BB (BF ?_);dsimp only;generalize hes2:ord.filterMap (es1[·]?)=es2 at k1 k2;have hz2:es2.size=es1.size:=k1.trans o3;refine wpAny_storeSet_of (s:={ s1 with heap:=s.heap.update a (Obj.putSet es1 t2) }) (o:={ o with data:=.set es1 (ep+1) t2 }) hg rfl ?_ (by rw[hz2,hz1,hsz]; omega);refine BF ?_;have hg2:((s.heap.update a (Obj.putSet es1 t2)).update a (Obj.putSet es2 t3)).get? a=some { o with data:=.set es2 (ep+1+1) t3 }:=by have:=Cw (Obj.putSet es2 t3) hg (by rw[putSet_of es2 t3 rfl]; rfl);rw[putSet_of es2 t3 rfl] at this; exact this
     have sb2:=Heap.SameBut.update (s.heap.update a (Obj.putSet es1 t2)) a (Obj.putSet es2 t3);have:=h _ s1.toks tle (sb.trans sb2) ⟨_,es2,_,t3,hg2,hex,rfl,⟨by rw[m3]; exact g1,by rw[z3,hz2],d3,by rw[m3,hz2,hz1]; exact g2⟩,by rw[hz2,hz1,hsz],λe he=>hel1 e (k2 e he)⟩;rw[<- hs1] at this ⊢;exact this
   . rw[BE (by simpa using full)];refine BF ?_;have room2:(es.size+1) * 5<t.mask * 3:=by unfold SetTable.tooFull at full;rw[fl,m2] at full;simpa using full
     have:=h _ s1.toks tle sb ⟨_,es1,_,t2,hg,hex,rfl,⟨by rw[m2]; exact tk.msk,by rw[z2,hz1],d2,by rw[m2,hz1]; exact room2⟩,by rw[hz1,hsz],hel1⟩;rw[<- hs1] at this ⊢;exact this
 have pl:∀b:Bool,wpAny (model prog w) A (do
     storeSet a es1 (if b=true then t1 else { t1 with plain:=false })
     if(!false&&(if b=true then t1 else { t1 with plain:=false }).tooFull)=true then do
       setRelay a (SetTable.grown (es.size+1))
       pure true
     else pure true) Q E s1:=λb=>by
   cases b with
   | true=>exact fin t1 hp1 hp2 hp3
   | false=>exact fin { t1 with plain:=false } hp1 hp2 hp3
 split
 . refine BB (nD _ _ 8 (T.ok k) T.n8 (s:=s1) (by rw[hh]; exact rx) λb=>pl b)
 . exact BB (BF (pl true))
end
section
variable {prog:Program} {w:World} {A:Around} {R:Result->Shared->Prop} {I:Addr} {fp wr:List Addr} {G:Array GenState->Array GenState->Prop} {n:Nat} {P:Nat->Value->Prop} {St:Nat->Shared->Prop}
variable {κ:Type} [DecidableEq κ] {T:DK κ}
theorem ce.imp {h:Heap} {F F':Value->Prop} (q:ce h a n F) (f:∀v,F v->F' v):ce h a n F':=let ⟨o,es,ep,t,h1,h2,h3,h4,h5,h6⟩:=q; ⟨o,es,ep,t,h1,h2,h3,h4,h5,λe he=>f _ (h6 e he)⟩
theorem ce.at' {h h':Heap} {F:Value->Prop} (q:ce h a n F) (f:∀o,h.get? a=some o->h'.get? a=some o):ce h' a n F:=let ⟨o,es,ep,t,h1,r⟩:=q; ⟨o,es,ep,t,f _ h1,r⟩
def kg (T:DK κ) (h0:Heap) (ks:List κ) (i:Nat) (v:Value):Prop:=∃j k,j<i/\ks[j]?=some k/\cS T h0 k v
theorem wg (W:WalksS prog w A.in1 I fp wr G n P St) (S:Addr) (hSf:S ∉ fp) (h0:Heap) (hold:∀b o,h0.get? b=some o->b ∉ S :: wr) (ks:List κ) (nd:ks.Nodup) (ln:ks.length=n) (h200:n<=200) (hu:A.in1.units+8<cLine)
   (hP:∀i v k,P i v->ks[i]?=some k->cS T h0 k v) :
   ∀(k i:Nat) (s:Shared),n - i=k->i<=n->St i s->(∀b o,h0.get? b=some o->s.heap.get? b=some o)->ce s.heap S i (kg T h0 ks i) ->
     (∀s',Moved (S :: wr) G s s'->ce s'.heap S n (kg T h0 ks n)->R (.ok (.ret .none)) s') ->
     codeAny (model prog w) A (.builtin "set.update.loop" ⟨[.ref S,.ref I],[]⟩) R s:=by
 have hSw:S ∉ wr:=λh=>hSf (W.sub _ h);have hsub:∀b∈wr,b∈S :: wr:=λb hb=>BS _ hb;intro k
 induction k with
 | zero =>
   intro i s hk hi hst h0s hS hR;have hin:i=n:=by omega
   subst hin;refine D8 EM ?_;rw[Around.under_plainId DQ _];show wpAny _ A.in1 (pyNext (.ref I) >>= _) _ _ s;refine BB (W.done s _ _ hst λs' hm=>?_);show wpAny _ A.in1 (ret Value.none) _ _ s';exact BF (hR s' (hm.mono hsub) (hS.at' λo ho=>hm.heap S _ hSw ho))
 | succ k ih =>
   intro i s hk hi hst h0s hS hR;have hlt:i<n:=by omega
   refine D8 EM ?_;rw[Around.under_plainId DQ _];show wpAny _ A.in1 (pyNext (.ref I) >>= _) _ _ s;refine BB (W.item i s _ _ hlt hst λv s' hP' hst' hm=>?_);have hki:ks[i]?=some (ks[i]'(by omega)):=BP (by omega);generalize ks[i]'(by omega)=kk at hki;have hv:=hP i v kk hP' hki;have h0s':∀b o,h0.get? b=some o->s'.heap.get? b=some o:=λb o e=>hm.heap b o (λz=>hold b o e (hsub b z)) (h0s b o e);have hS':ce s'.heap S i (kg T h0 ks i):=hS.at' λo ho=>hm.heap S _ hSw ho;show wpAny _ A.in1 (holding [v] (setAdd S v) >>= _) _ _ s';refine BB (C2 ?_);refine xX (T:=T) (k:=kk) hu hS' (hv.more h0s') (λu hu=>?_) (by omega) λh' tk tle hsb hS2=>?_
   . obtain⟨j,k',hj,ek,q⟩:=hu;refine⟨k',λz=>?_,q.more h0s'⟩;subst z;have:=(CY (by omega) nd).mp (ek.trans hki.symm);omega
   have h02:∀b o,h0.get? b=some o->h'.get? b=some o:=λb o e=>(hsb.2 b (λz=>hold b o e (by rw[z]; exact BU))).trans (h0s' b o e);refine BF ⟨plainId_quiet DQ _,ih (i+1) _ (by omega) hlt (W.frame _ s' _ _ hst' tle λb hb o e=>?_) h02 (hS2.imp λu hu=>?_) λs'' hm'' hS''=>?_⟩
   . rw[hsb.2 b (λh:b=S=>hSf (by rw[<- h]; exact hb))]; exact e
   . rcases hu with⟨j,k',hj,ek,q⟩|rfl
     . exact⟨j,k',by omega,ek,q⟩
     . exact⟨i,kk,by omega,hki,hv⟩
   . refine hR s'' (Moved.trans W.gtrans ((hm.mono hsub).then_heap tle λb o hb e=>?_) hm'') hS'';rw[hsb.2 b (λh:b=S=>hb (by rw[h]; exact BU))]; exact e
end
section
variable {prog:Program} {w:World} {A:Around} {E:Value->Shared->Prop} {s:Shared} {κ:Type} [DecidableEq κ] {T:DK κ}
theorem vS {C nw ini:String} {Bi:Builtin} {xs:List Value} {Q Q₁:Value->Shared->Prop} (c:TypeCalled C nw ini) (ct:checkTypeCall C ⟨xs,[]⟩=pure ()) (en:entryFor table ini=some Bi)
   (n:codeAny (model prog w) A.in1 (.call (.builtin nw) ⟨.type C :: xs,[]⟩) (wants Q₁ E) s)
   (k:∀y u,Q₁ y u->u.TypeIs y C/\codeAny (model prog w) A.in1 (.call (.builtin ini) ⟨y :: xs,[]⟩) (wants (λr v=>r=.none/\Q y v) E) u):wpAny (model prog w) A (call (.type C) xs) Q E s:=by
 obtain⟨_,_,mr⟩:=c.mro;have m1:=c.made; have m2:=c.sub; have m3:=c.notType; have m4:=c.canCreate
 refine wpAny_call (codeAny_of_tree (show wpAny _ _ (callAny (.type C) _) _ _ _ from BF ⟨Code.quiet_builtin _ (by decide +kernel),D8 F.entry_type_call ?_⟩));rw[Around.under_plain (weight_type_call_type C xs []) rfl]
 repeat (any_goals (first|assumption|wp_step))
 refine DD n λr u hr=>?_
 match r,hr with
 | .error e,hr=>exact hr
 | .ok (.ret y),hr =>
   obtain⟨ty,go⟩:=k y u hr;have i1:=c.init.lookup; have i2:=c.init.bind y
   repeat (any_goals (first|assumption|wp_step))
   refine DD go λr2 v hv=>?_
   match r2,hv with
   | .error e,hv=>exact hv
   | .ok (.ret x),hv =>
     obtain⟨rfl,hq⟩:=hv
     repeat (any_goals (first|assumption|wp_step))
theorem xy {l:Addr} {items:Array Value} {ks:List κ} {Q:Value->Shared->Prop}
   (hh:A.handled=none) (hl:s.heap.IsList l items) (nd:ks.Nodup) (ln:ks.length=items.size) (h200:items.size<=200) (hu:A.units+64<cLine) (hP:∀(i:Nat) v k,items[i]?=some v->ks[i]?=some k->cS T s.heap k v)
   (h:∀(h':Heap) (tk:Nat),ce h' s.heap.objs.size items.size (λ_=>True)->(∀b o,b<s.heap.objs.size->s.heap.get? b=some o->h'.get? b=some o)->Q (.ref s.heap.objs.size) { s with heap:=h',toks:=tk }) :
   wpAny (model prog w) A (call (.type "set") [.ref l]) Q E s:=by
 have ll:l<s.heap.objs.size:=let ⟨_,e,_⟩:=hl; BZ e
 refine vS F.called_set (F.typeCall_set_1 (.ref l)) F.entry_set_init (code_set_new_1 (.ref l) (Q₁:=λy u=>∃b:Bool,y=.ref s.heap.objs.size/\u={ s with heap:=s.heap.push { cls:=.type "set",dict:=none,data:=.set #[] 0 (.fresh 0 0 b) } }) λb=>⟨b,rfl,rfl⟩) ?_;rintro y u ⟨b,rfl,rfl⟩;generalize hob:({ cls:=.type "set",dict:=none,data:=.set #[] 0 (.fresh 0 0 b) }:Obj)=ob;have e0:(s.heap.push ob).get? s.heap.objs.size=some ob:=by subst hob; exact Bh _ rfl
 have ex:ob.ExactSet:=by subst hob; exact⟨rfl,rfl,rfl⟩
 have ty:Shared.TypeIs { s with heap:=s.heap.push ob } (.ref s.heap.objs.size) "set":=⟨_,e0,ex.1⟩
 refine⟨ty,codeAny_call_builtin F.called_set.init.plain F.entry_set_init (check_set_init_1 ty ?_)⟩;obtain⟨⟨lc,ld,ldt,ls⟩,el,cl,nl,dl⟩:=id hl;dsimp only at cl dl;subst cl dl;have el':=BM ob el;have s1:=F.sub_list_set;have s2:=F.sub_list_frozenset;have s3:(Value.type "list"==Value.type "dict")=false:=by decide
 have pl:(s.heap.push ob).IsList l items:=⟨_,el',rfl,nl,rfl⟩
 have z:(s.heap.push ob).objs.size=s.heap.objs.size+1:=DN ..;have nI:l≠(s.heap.push ob).objs.size:=by rw[z]; exact Bu (DS ll)
 have far:∀c o,s.heap.get? c=some o->c ∉ [s.heap.objs.size,(s.heap.push ob).objs.size]:=λc o e q=>by
   have:=BZ e;simp only[Be,CC,or_false] at q;rcases q with q|q
   . exact Bu this q
   . exact Bu (DS this) (q.trans z)
 have there:∀(o2:Obj) c o,s.heap.get? c=some o->((s.heap.push ob).push o2).get? c=some o:=λo2 c o e=>BM _ (BM _ e);subst hob;unfold Builtin.«set.__init__» noKeywords Builtin.Frozenset.updateFrom;generalize hpi:pyIter=pit
 wp_walk
 subst hpi;refine Cs pl ?_;refine BB (wpAny_runValue ?_);refine wg (T:=T) ((Walks.list (show A.in1.in1.in1.handled=none by simp [hh]) _ l nI items).toS) s.heap.objs.size (λq=>?f) s.heap (λc o e=>far c o e) ks nd ln h200 (show A.units+1+1+1+8<cLine by omega) (λi v k e1 e2=>hP i v k e1 e2) items.size 0 _ (by omega) (BW _)
   ⟨⟨_,Bh _ rfl,rfl,rfl⟩,pl.push _⟩ (λc o e=>there _ c o e) ?i ?e
 case f =>
   simp only[Be,CC,or_false] at q;rcases q with q|q
   . exact Bu (CA _) (q.trans z)
   . exact DB ll q
 case i =>
   exact⟨_,_,_,_,BM _ e0,ex,rfl,⟨.inl rfl,rfl,rfl,(by show 0 * 5<7 * 3; decide)⟩,rfl,λe he=>by simp at he⟩
 case e =>
   rintro ⟨h',g',d',tk',os'⟩ mv hD;obtain rfl:g'=s.gens:=mv.gens;obtain rfl:d'=s.drawn:=mv.drawn;obtain rfl:os'=s.os:=mv.os;refine BF (show wpAny _ _ (ret Value.none) _ _ _ from BF ⟨rfl,?_⟩);exact h h' tk' (hD.imp λ_ _=>trivial) λc o hc e=>mv.heap c o (far c o e) (there _ c o e)
end
end Sk
namespace L2
open PySem PySem.Spec PyProof.Rows Sk
def gC (a:Addr) (n:Nat) (h:Heap):Prop:=ce h a n λ_=>True
def wy {κ:Type} [DecidableEq κ] (T:DK κ) (K:W.Frag):List V->Hp->VK->Prop:=λxs H Q=>∃(p:Addr) (bs:List Addr) (ks:List κ),xs=[.ref p]/\aA K H p (bs.map V.ref)/\Paired (λb k=>aa K H (T.D k) (.ref b)) bs ks/\ks.Nodup/\ks.length<=200 /\
 ∀d,H d=none->Q (.ref d) (upd H d (.ext (gC d ks.length)))
section
variable {X:Cx} {κ:Type} [DecidableEq κ] {T:DK κ}
theorem xc (T:DK κ) (hc:X.calm=true) (hu:X.A.units+64<cLine):bo X (.type "set") (wy T X.K):=by
 intro pins s σ H xs us Q I r h;obtain⟨p,bs,ks,rfl,hS,hps,nd,hl,q⟩:=h;obtain⟨u,rfl,ru⟩:=dj r;cases (show u=Value.ref p from ru);obtain⟨its,rv,pl,_⟩:=I.list hS;have hlen:its.length=bs.length:=by rw[<- rv.length,BA]
 have hlk:=hps.length;have hsz:its.toArray.size=ks.length:=by rw[BX,hlen,hlk]
 refine xy (T:=T) (ks:=ks) (I.ok.hd hc) pl.isList nd hsz.symm (by rw[hsz]; exact hl) hu (λi v k e1 e2=>?_) λh' tk hD hk=>?_
 . have hi:i<bs.length:=by rw[hlk]; exact(BC.mp e2).1
   have hb:(bs.map V.ref)[i]?=some (.ref bs[i]):=by rw[BI,BP hi]; rfl
   obtain⟨u,hu',ru'⟩:=rv.get hb;have e1:its[i]?=some v:=by simpa using e1
   obtain rfl:u=v:=Option.some.inj (hu'.symm.trans e1);cases (show u=Value.ref _ from ru');obtain⟨k',hk',dk⟩:=lB hps (BP hi);obtain rfl:k'=k:=Option.some.inj (hk'.symm.trans e2);exact⟨_,rfl,fh I dk⟩
 . rw[hsz] at hD;exact⟨.ref s.heap.objs.size,_,I.laid (a:=s.heap.objs.size) (o:=.ext (gC s.heap.objs.size ks.length)) (λb o e=>hk b o (BZ e) e) (BG _) ⟨hD,(let ⟨o,_,_,_,e,_⟩:=hD; ⟨o,e⟩),λh1 h2 d st=>d.at' st⟩,rfl,q _ (I.hok.fresh (BG _))⟩
theorem xk:bo X (.builtin "len") (λxs H Q=>∃a n,xs=[.ref a]/\H a=some (.ext (gC a n))/\n<=200/\Q (.int n) H):=by
 intro pins s σ H xs us Q I r h;obtain⟨a,n,rfl,hH,hn,q⟩:=h;obtain⟨u,rfl,ru⟩:=dj r;cases (show u=Value.ref a from ru);obtain⟨⟨o,es,ep,t,h1,h2,h3,h4,h5,_⟩,_⟩:=(show bH X.prog X.w H s.heap a (.ext (gC a n)) from I.hok a _ hH)
 refine call_len_set h1 h2 h3 h4.fits (by rw[h5]; omega) ?_;rw[h5];exact⟨.int n,H,I.tok _,⟨_,rfl⟩,q⟩
end
end L2
namespace L2
open PySem PySem.Spec PyProof.Rows
def u8 (K:W.Frag):V->List V->Hp->VK->Prop:=λx xs H Q=>∃p ys y j,x=.ref p/\xs=[y]/\aA K H p ys/\cv y=true/\ys.all cv=true/\j<1000/\(∃z,ys[j]?=some z/\dD z y=true)/\(∀m z,m<j->ys[m]?=some z->dD z y=false)/\Q (.int (j:Nat)) H
variable {X:Cx}
theorem mN :kT X "list.index" (u8 X.K):=by
 intro pins s σ H x vs v us Q I rx rv h;obtain⟨p,ys,y,j,rfl,rfl,hT,fy,fs,hj0,⟨z,hz,ez⟩,hno,q⟩:=h;cases rx;obtain⟨u,rfl,ru⟩:=rv.one;obtain⟨its,r,⟨⟨cls,dd,data,sl⟩,n,ho,hc,_,hd⟩,hl⟩:=I.list hT;simp only at hc hd;subst hc hd;obtain⟨uz,huz,rz⟩:=r.get hz;have hj:j<its.toArray.size:=by rw[BX];exact(BC.mp huz).1
 have eU:∀(m:Nat) (hm:m<its.toArray.size) (zz:V),ys[m]?=some zz->cH y its.toArray[m]=dD zz y:=λm hm zz hzz=>by
   obtain⟨uu,huu,ruu⟩:=r.get hzz;have:its.toArray[m]=uu:=by have h2:=(BC.mp huu).2;simpa using h2
   rw[this];exact jW ruu (By.mp fs zz (BQ hzz))
 refine call_meets F.slot_list_index ⟨_,ho,rfl⟩ F.entry_list_index (F.args_list_index_2 _ _) (SeqAt.list_indexAt p its.toArray n dd sl u (cH y) j hj (by omega) (by rw[eU j hj z hz]; exact ez) λm hm hmj=>?_) ⟨ho,λw hw=>gH ru fy r fs w (by simpa using hw),?_⟩
 . have hm':m<ys.length:=by rw[r.length]; simpa using hm
   rw[eU m hm ys[m] (BP hm')];exact hno m _ hmj (BP hm')
 . exact⟨.int j,H,I.tok _,⟨_,rfl⟩,q⟩
def ux:R2:=λx y H Q=>∃(c:Nat) (k:Int),x=.str ⟨#[c]⟩/\y=.int k/\1<=k/\k<=1000/\Q (.str ⟨(List.replicate k.toNat c).toArray⟩) H
theorem oR (c:Nat):∀(n:Nat) (a:Array Nat),(List.replicate n #[c]).foldl (·++·) a=a++(List.replicate n c).toArray
 | 0,a=>by simp
 | n+1,a=>by rw[CM,Ch,oR c n,CM];apply Array.toList_inj.mp;simp
theorem ui :aj X (binaryOp .Mult) ux:=by
 intro pins s σ H x y v u Q I rx ry h;obtain⟨c,k,rfl,rfl,k0,k1,q⟩:=h;obtain⟨t,rfl⟩:=rx;obtain⟨tu,rfl⟩:=ry;have hl:(⟨#[c]⟩:Str).length=1:=rfl;refine PySem.P.mul_str ?_ (λ_ _=>?_) (λ_ _=>?_) ?_
 . rw[BY (by omega),BY (by omega)]; rfl
 . rw[hl];have:(1:Int)<=(2 ^ 63 - 1) / k:=by rw[Int.le_ediv_iff_mul_le (by omega)];omega
   omega
 . rw[hl];show decide (1 * k.toNat > sizeLine)=false;refine BY ?_;have:(1000:Nat)<sizeLine:=by decide
   omega
 . rw[BE (by omega)];by_cases e:k=1
   . subst e;rw[BJ (by simp)];exact⟨.str ⟨#[c]⟩,H,I,⟨_,rfl⟩,q⟩
   . rw[BE (by rw[hl]; simp [e]),oR];refine⟨?_,?_⟩
     . show _<=_;simp [Str.length];have:(1000:Nat)<sizeLine:=by decide
       omega
     . have ee:(#[]:Array Nat)++(List.replicate k.toNat c).toArray=(List.replicate k.toNat c).toArray:=by simp
       rw[ee];exact⟨.str _,H,I.tok _,⟨_,rfl⟩,q⟩
theorem aj.or2 {f:Value->Value->Sem Value} {r1 r2:R2} (h1:aj X f r1) (h2:aj X f r2):aj X f (λx y H Q=>r1 x y H Q\/r2 x y H Q):=by
 intro pins s σ H x y v u Q I rx ry h;rcases h with h|h
 . exact h1 pins s σ H x y v u Q I rx ry h
 . exact h2 pins s σ H x y v u Q I rx ry h
def ib (K:W.Frag):R2:=λx y H Q=>ki K x y H Q\/ij K x y H Q
theorem pR :aj X (binaryOp .Add) (ib X.K):=aj.or2 nU hU
theorem mW {K:W.Frag} {H:Hp} {a b:Addr} {xs ys:List V} {Q:VK} (ha:a9 K H a xs) (hb:H b=some (.tup ys)) (hy:ys≠[]) (hl:xs.length+ys.length<=sizeLine) (q:∀p H',a0 H H'->H' p=some (.tup (xs++ys))->Q (.ref p) H'):ib K (.ref a) (.ref b) H Q:=by
 by_cases hx:xs=[]
 . subst hx;exact .inl ⟨a,b,ys,rfl,rfl,ha,a9.of hb,q b H (a0.refl _) hb⟩
 . exact .inr ⟨a,b,xs,ys,rfl,rfl,ha,a9.of hb,hx,hl,λz=>absurd z hy,λ_ p hp=>q p _ (a0.new hp) a8⟩
theorem nw {H X:Hp} {a:Addr} {o:HO} (e:upd H a o=X) (h:H a=none):a0 H X/\X a=some o:=by subst e; exact⟨a0.new h,a8⟩
theorem iN {c A B:Prop} [Decidable c] (h:B) (hc:¬ c:=by decide +kernel):if c then A else B:=aO hc h
theorem jN {c A B:Prop} [Decidable c] (h:B) (hc:¬ c:=by decide):if c then A else B:=aO hc h
inductive TyD (K:W.Frag) (H:Hp):V->Value->Prop where
 | of {x:V} {t:Value} (h:TyOf K H x t):TyD K H x t
 | tup {a:Addr} {xs:List V} (h:a9 K H a xs):TyD K H (.ref a) (.type "tuple")
 | lst {a:Addr} {xs:List V} (h:aA K H a xs):TyD K H (.ref a) (.type "list")
theorem iu :bo X (.builtin "isinstance") (λxs H Q=>∃x c t b,xs=[x,.ty c]/\TyD X.K H x t/\PySem.W.kitOne X.K t (.type c)=some b/\Q (.bl b) H):=by
 intro pins s σ H xs us Q I r h;obtain⟨x,c,t,b,rfl,ty,hk,q⟩:=h;obtain⟨u,w',rfl,rx,rc⟩:=lO r;cases (show w'=Value.type c from rc);cases ty with
 | of ty=>exact pK I rx ty hk λtk=>⟨.bl b,H,I.tok _,rfl,q⟩
 | @tup a xs h =>
   cases (show u=Value.ref a from rx);obtain⟨_,_,⟨o,h1,h2,_⟩,_⟩:=I.tuple h;exact PySem.W.kia_one PySem.W.kitx_tuple I.kIn ⟨o,h1,h2⟩ hk (λz=>nomatch z) λtk=>⟨.bl b,H,I.tok _,rfl,q⟩
 | @lst a xs h =>
   cases (show u=Value.ref a from rx);obtain⟨_,_,pl,_⟩:=I.list h;obtain⟨o,h1,h2,_⟩:=pl.isList;exact PySem.W.kia_one PySem.W.kitx_list I.kIn ⟨o,h1,h2⟩ hk (λz=>nomatch z) λtk=>⟨.bl b,H,I.tok _,rfl,q⟩
end L2
namespace L2
open PySem PySem.Spec PyProof.Rows Gx
def wQ:R2:=λx y H Q=>∃(c:Nat) (k:Int),x=.str ⟨#[c]⟩/\y=.int k/\0<=k/\k<=1000/\Q (.str ⟨(List.replicate k.toNat c).toArray⟩) H
theorem nX {X:Cx}:aj X (binaryOp .Mult) wQ:=by
 intro pins s σ H x y v u Q I rx ry h;obtain⟨c,k,rfl,rfl,k0,k1,q⟩:=h;by_cases k2:1<=k
 . exact ui _ _ _ _ _ _ _ _ _ I rx ry ⟨c,k,rfl,rfl,k2,k1,q⟩
 . obtain⟨t,rfl⟩:=rx;obtain⟨tu,rfl⟩:=ry;refine PySem.P.mul_str ?_ (λz _=>absurd (by omega) z) (λz _=>absurd (by omega) z) ?_
   . rw[BY (by omega),BY (by omega)]; rfl
   . rw[BJ (by omega)];have e:k.toNat=0:=by omega
     rw[e] at q;refine⟨?_,?_⟩
     . show _<=_;exact BW _
     . exact⟨.str _,H,I.tok _,⟨_,rfl⟩,q⟩
end L2
namespace K55
open PySem L2 Gx Fl Sk
section
variable {K:W.Frag}
theorem bU.cons {H:Hp} {ca:Addr} {p:SN×Nat} {rest:List (SN×Nat)} (h:bU K H ca (p :: rest)):∃fa yr,a9 K H ca (yr.reverse++[.ref fa])/\a9 K H fa [.str p.1.1,.int p.2]/\Paired (dF K H) rest yr:=by
 obtain⟨ys,h1,h2⟩:=h;cases h2 with
 | cons h3 h4 =>
   obtain⟨fa,rfl,h5⟩:=h3;exact⟨fa,_,by rw[<- CH]; exact h1,h5,h4⟩
theorem bU.mk {H:Hp} {ca fa:Addr} {p:SN×Nat} {rest:List (SN×Nat)} {yr:List V} (h1:a9 K H ca (yr.reverse++[.ref fa])) (h2:a9 K H fa [.str p.1.1,.int p.2]) (h3:Paired (dF K H) rest yr):bU K H ca (p :: rest) :=
 ⟨.ref fa :: yr,by rw[CH]; exact h1,.cons ⟨fa,rfl,h2⟩ h3⟩
end
end K55
namespace K51
open PySem L2 Gx Fl Sk K55
def Kn:Nat->List Nat->Nat->Prop
 | k,[],e=>e=k
 | k,t :: r,e=>t<=k/\Kn (max k (t+1)) r e
theorem Kn.app:∀{a b:List Nat} {k m e:Nat},Kn k a m->Kn m b e->Kn k (a++b) e
 | [],b,k,m,e,h,h'=>by cases h; exact h'
 | t :: r,b,k,m,e,h,h'=>⟨h.1,Kn.app h.2 h'⟩
noncomputable def bE (fns:List F2.Fd) (ss:List aR) (s:aR):List Nat:=(bF fns s).map (ss.idxOf ·)
def cf (K:W.Frag) (H:Hp) (fns:List F2.Fd) (ss:List aR) (s:aR) (b:Addr):Prop:=∃ca wa,a9 K H b [.ref ca,.bl s.2,.ref wa]/\bU K H ca s.1/\a9 K H wa (K13.natsV (bE fns ss s))/\∀t∈bF fns s,t∈ss
theorem cf.ts {K:W.Frag} {H H':Hp} {fns:List F2.Fd} {ss:List aR} {b:Addr} {s:aR} (h:cf K H fns ss s b) (e:TS H H'):cf K H' fns ss s b:=let ⟨ca,wa,h1,h2,h3,h4⟩:=h; ⟨ca,wa,e.tup h1,h2.ts e,e.tup h3,h4⟩
variable {fns:List F2.Fd}
theorem pM {ss:List aR} {s:aR} (h:∀t∈bF fns s,t∈ss) (u:List aR):bE fns (ss++u) s=bE fns ss s:=by unfold bE;refine CZ λt ht=>?_;rw[Cu,BJ (h t ht)]
theorem cf.grow {K:W.Frag} {H:Hp} {ss:List aR} {b:Addr} {s:aR} (h:cf K H fns ss s b) (u:List aR):cf K H fns (ss++u) s b:=by obtain⟨ca,wa,h1,h2,h3,h4⟩:=h;exact⟨ca,wa,h1,h2,by rw[pM h4]; exact h3,λt ht=>C8 _ (h4 t ht)⟩
structure Pln (fns:List F2.Fd) (g:SN) (ss:List aR):Prop where
 hd:ss[0]?=some ([(g,0)],false)
 nd:ss.Nodup
 vs:∀s∈ss,VS fns g s
 cl:∀s∈ss,∀t∈bF fns s,t∈ss
 kn:Kn 1 (ss.flatMap (bE fns ss)) ss.length
 len:ss.length<=200
def c7 (ss:List aR) (bs:List Addr):List (aR×Addr×V):=(ss.zip bs).mapIdx λj q=>(q.1,q.2,V.int (j:Nat))
theorem oe {ss:List aR} {bs:List Addr} (h:ss.length=bs.length) (s:aR) (b:Addr):c7 (ss++[s]) (bs++[b])=c7 ss bs++[(s,b,V.int (ss.length:Nat))]:=by unfold c7;rw[List.zip_append h,List.mapIdx_append];simp [h]
theorem px {ss:List aR} {bs:List Addr} (h:ss.length=bs.length):(c7 ss bs).map (·.1)=ss:=by unfold c7;refine List.ext_getElem (by simp [h]) λi h1 h2=>?_;simp
theorem xn {ss:List aR} {bs:List Addr} (h:ss.length=bs.length):(c7 ss bs).length=ss.length:=by unfold c7;simp [h]
theorem wC {ss:List aR} {bs:List Addr} (h:ss.length=bs.length) {s:aR} (hs:s∈ss):∃b,(s,b,V.int ((ss.idxOf s:Nat):Int))∈c7 ss bs:=by
 have hi:ss.idxOf s<ss.length:=Ce hs;have hb:ss.idxOf s<bs.length:=by omega
 refine⟨bs[ss.idxOf s],ET.mpr ⟨ss.idxOf s,by rw[Dl]; omega,?_⟩⟩;rw[List.getElem_zip];simp
theorem uQ {K:W.Frag} {H:Hp} {ss:List aR} {bs:List Addr} (h:Paired (λs b=>bV K H b s) ss bs):gF bP K H (c7 ss bs):=λp hp=>by
 obtain⟨j,hj,rfl⟩:=ET.mp hp;have h1:j<ss.length:=by rw[Dl] at hj; omega
 have h2:j<bs.length:=by rw[Dl] at hj; omega
 have:bV K H bs[j] ss[j]:=iE h h1 h2;rw[List.getElem_zip];exact this.dat
structure LQ (K:W.Frag) (P:Program) (w:World) (H Hc:Hp) (l1 nd l2:Addr) (fns:List F2.Fd) (ss:List aR) (i:Nat) (ys bs:List Addr):Prop where
 same:a0 H Hc
 e1:Hc l1=some (.lst (bs.map V.ref))
 eN:Hc nd=some (SD bP P w nd (c7 ss bs))
 e2:Hc l2=some (.lst (ys.map V.ref))
 st:Paired (λs b=>bV K Hc b s) ss bs
 sn:Paired (cf K Hc fns ss) (ss.take i) ys
section
variable {K:W.Frag} {P:Program} {w:World} {H Hc Hd:Hp} {l1 nd l2:Addr} {fns:List F2.Fd} {ss:List aR} {i:Nat} {ys bs:List Addr}
theorem LQ.lb (h:LQ K P w H Hc l1 nd l2 fns ss i ys bs):ss.length=bs.length:=h.st.length
theorem LQ.ly (h:LQ K P w H Hc l1 nd l2 fns ss i ys bs):min i ss.length=ys.length:=by rw[<- h.sn.length,Bd]
theorem LQ.mono (h:LQ K P w H Hc l1 nd l2 fns ss i ys bs) (e:a0 Hc Hd):LQ K P w H Hd l1 nd l2 fns ss i ys bs:=⟨h.same.trans e,e _ _ h.e1,e _ _ h.eN,e _ _ h.e2,Paired.mapP h.st λs b q=>q.ts (.of e),Paired.mapP h.sn λs b q=>q.ts (.of e)⟩
theorem LQ.ks (h:LQ K P w H Hc l1 nd l2 fns ss i ys bs):gF bP K Hc (c7 ss bs):=uQ h.st
theorem LQ.ne1 (h:LQ K P w H Hc l1 nd l2 fns ss i ys bs):l1≠nd:=cY h.e1 h.eN (by unfold SD; intro z; cases z)
theorem LQ.ne2 (h:LQ K P w H Hc l1 nd l2 fns ss i ys bs):l2≠nd:=cY h.e2 h.eN (by unfold SD; intro z; cases z)
theorem LQ.push (h:LQ K P w H Hc l1 nd l2 fns ss i ys bs) (n1:H l1=none) (n2:H nd=none) (n12:l1≠l2) (hi:i<=ss.length) {s:aR} {b:Addr} (hb:bV K Hc b s) :
   LQ K P w H (upd (upd Hc nd (SD bP P w nd (c7 ss bs++[(s,b,V.int (ss.length:Nat))]))) l1 (.lst (bs.map V.ref++[.ref b]))) l1 nd l2 fns (ss++[s]) i ys (bs++[b]):=by
 have t1:TS Hc (upd Hc nd (SD bP P w nd (c7 ss bs++[(s,b,V.int (ss.length:Nat))]))):=TS.ext h.eN;have t2:TS (upd Hc nd (SD bP P w nd (c7 ss bs++[(s,b,V.int (ss.length:Nat))]))) (upd (upd Hc nd (SD bP P w nd (c7 ss bs++[(s,b,V.int (ss.length:Nat))]))) l1 (.lst (bs.map V.ref++[.ref b]))):=TS.lst (by rw[aH h.ne1]; exact h.e1);have t:=t1.trans t2;refine⟨(h.same.upd n2).upd n1,by rw[a8,BK]; rfl,?_,?_,Paired.snoc (Paired.mapP h.st λs b q=>q.ts t) (hb.ts t),?_⟩
 . rw[aH (Ne.symm h.ne1),a8,oe h.lb]
 . rw[aH (Ne.symm n12),aH h.ne2]; exact h.e2
 . rw[Dp hi];exact Paired.mapP h.sn λs b q=>(q.ts t).grow _
theorem LQ.more (h:LQ K P w H Hc l1 nd l2 fns ss i ys bs) (n2:H l2=none) (n12:l1≠l2) {s:aR} {b:Addr} (hs:ss[i]?=some s) (hb:cf K Hc fns ss s b):LQ K P w H (upd Hc l2 (.lst (ys.map V.ref++[.ref b]))) l1 nd l2 fns ss (i+1) (ys++[b]) bs:=by have t:TS Hc (upd Hc l2 (.lst (ys.map V.ref++[.ref b]))):=TS.lst h.e2;refine⟨h.same.upd n2,by rw[aH n12]; exact h.e1,by rw[aH (Ne.symm h.ne2)]; exact h.eN,by rw[a8,BK]; rfl,Paired.mapP h.st λs b q=>q.ts t,?_⟩;rw[Bm,hs];exact Paired.snoc (Paired.mapP h.sn λs b q=>q.ts t) (hb.ts t)
theorem LQ.other (h:LQ K P w H Hc l1 nd l2 fns ss i ys bs) {l:Addr} {zs:List V} {o:HO} (hl:Hc l=some (.lst zs)) (n0:H l=none) (n1:l1≠l) (n2:l2≠l):LQ K P w H (upd Hc l o) l1 nd l2 fns ss i ys bs :=
 ⟨h.same.upd n0,by rw[aH n1]; exact h.e1,by rw[aH (cY h.eN hl (by unfold SD; intro z; cases z))]; exact h.eN,by rw[aH n2]; exact h.e2,Paired.mapP h.st λs b q=>q.ts (TS.lst hl),Paired.mapP h.sn λs b q=>q.ts (TS.lst hl)⟩
end
theorem LQ.ini {K:W.Frag} {P:Program} {w:World} {H G:Hp} {l1 nd l2 a3:Addr} {s0:aR} (S:a0 H G) (n2:H nd=none) (h1:G l1=some (.lst [.ref a3])) (hn:G nd=some (SD bP P w nd [])) (st:bV K G a3 s0) (hl2:(upd G nd (SD bP P w nd [(s0,a3,.int 0)])) l2=none) :
   LQ K P w H (upd (upd G nd (SD bP P w nd [(s0,a3,.int 0)])) l2 (.lst [])) l1 nd l2 fns [s0] 0 [] [a3]/\l1≠l2/\H l2=none:=by
 have m1:l1≠nd:=cY h1 hn (by unfold SD; intro z; cases z);have g1:(upd G nd (SD bP P w nd [(s0,a3,.int 0)])) l1=some (.lst [.ref a3]):=by rw[aH m1]; exact h1
 have m2:l1≠l2:=bJ g1 hl2;have m3:nd≠l2:=bJ (o:=SD bP P w nd [(s0,a3,.int 0)]) a8 hl2;have S1:a0 H (upd G nd (SD bP P w nd [(s0,a3,.int 0)])):=S.upd n2;exact⟨⟨S1.trans (a0.new hl2),by rw[aH m2]; exact g1,by rw[aH m3,a8]; rfl,a8,.cons (st.ts ((TS.ext hn).trans (.of (a0.new hl2)))) .nil,.nil⟩,m2,S1.free hl2⟩
structure Bf (fns:List F2.Fd) (g:SN) (ss:List aR) (i:Nat):Prop where
 hd:ss[0]?=some ([(g,0)],false)
 nd:ss.Nodup
 vs:∀s∈ss,VS fns g s
 le:i<=ss.length
 cl:∀s∈ss.take i,∀t∈bF fns s,t∈ss
 kn:Kn 1 ((ss.take i).flatMap (bE fns ss)) ss.length
theorem Bf.ini {g:SN} (h:VS fns g ([(g,0)],false)):Bf fns g [([(g,0)],false)] 0:=⟨rfl,by simp,λs hs=>by rw[Bq] at hs; subst hs; exact h,BW _,λs hs=>(by cases hs),rfl⟩
theorem Bf.len {g:SN} {ss:List aR} {i:Nat} (h:Bf fns g ss i) (P:Pg fns) (hB:(en fns 3 g []).length<=200):ss.length<=200:=Bk (jL h.nd λs hs=>iS P (h.vs s hs)) hB
structure Bs (fns:List F2.Fd) (g:SN) (ss:List aR) (i:Nat) (ts:List aR) (ss5:List aR):Prop where
 hd:ss5[0]?=some ([(g,0)],false)
 nd:ss5.Nodup
 vs:∀s∈ss5,VS fns g s
 pre:∃u,ss5=ss++u
 le:i<=ss.length
 cl:∀s∈ss.take i,∀t∈bF fns s,t∈ss
 mem:∀t∈ts,t∈ss5
 kn:Kn 1 ((ss.take i).flatMap (bE fns ss)++ts.map (ss5.idxOf ·)) ss5.length
section
variable {fns:List F2.Fd} {g:SN} {ss ss5 ts:List aR} {i:Nat}
theorem Bs.ini (h:Bf fns g ss i):Bs fns g ss i [] ss:=⟨h.hd,h.nd,h.vs,⟨[],by simp⟩,h.le,h.cl,λt ht=>(by cases ht),by rw[List.map_nil,CJ]; exact h.kn⟩
theorem Bs.len (h:Bs fns g ss i ts ss5) (P:Pg fns) (hB:(en fns 3 g []).length<=200):ss5.length<=200:=Bk (jL h.nd λs hs=>iS P (h.vs s hs)) hB
theorem Bs.room (h:Bs fns g ss i ts ss5) (P:Pg fns) (hB:(en fns 3 g []).length<=200) {s:aR} (hs:VS fns g s) (n:s ∉ ss5):ss5.length<200:=by
 have:(s :: ss5).length<=(en fns 3 g []).length:=jL (Cg.mpr ⟨n,h.nd⟩) λx hx=>by
   rcases Be.mp hx with rfl|hx
   . exact iS P hs
   . exact iS P (h.vs x hx)
 rw[BV] at this;omega
theorem Bs.old (h:Bs fns g ss i ts ss5) {s:aR} (hs:s∈ss5):Bs fns g ss i (ts++[s]) ss5:=by have hi:=Ce hs;refine⟨h.hd,h.nd,h.vs,h.pre,h.le,h.cl,λt ht=>(C5.mp ht).elim (h.mem t) λz=>by rw[Bq] at z; subst z; exact hs,?_⟩;rw[BK,<- CF];exact h.kn.app ⟨(by show ss5.idxOf s<=ss5.length; omega),by show ss5.length=max ss5.length (ss5.idxOf s+1); omega⟩
theorem Bs.new (h:Bs fns g ss i ts ss5) {s:aR} (hv:VS fns g s) (hs:s ∉ ss5):Bs fns g ss i (ts++[s]) (ss5++[s]):=by
 obtain⟨u,hu⟩:=h.pre;have e1:ts.map ((ss5++[s]).idxOf ·)=ts.map (ss5.idxOf ·):=CZ λt ht=>by rw[Cu,BJ (h.mem t ht)]
 have e2:(ss5++[s]).idxOf s=ss5.length:=by rw[Cu,BE hs]; simp
 refine⟨?_,?_,λt ht=>(C5.mp ht).elim (h.vs t) λz=>by rw[Bq] at z; subst z; exact hv,⟨u++[s],by rw[hu,CF]⟩,h.le,h.cl,λt ht=>(C5.mp ht).elim (λz=>C8 _ (h.mem t z)) λz=>Br _ z,?_⟩
 . have:=(BC.mp h.hd).1;rw[C0 this]; exact h.hd
 . rw[List.nodup_append];exact⟨h.nd,by simp,λa ha b hb=>by rw[Bq] at hb; subst hb; exact λz=>hs (z ▸ ha)⟩
 . rw[BK,<- CF,e1];refine h.kn.app ?_;show Kn ss5.length [(ss5++[s]).idxOf s] (ss5++[s]).length;rw[e2,BH];exact⟨BG _,by show ss5.length+1=max ss5.length (ss5.length+1); omega⟩
theorem Bs.fin {s:aR} (h:Bs fns g ss i (bF fns s) ss5) (hs:ss[i]?=some s):Bf fns g ss5 (i+1):=by
 obtain⟨u,hu⟩:=h.pre;have hi:=(BC.mp hs).1;have tk:ss5.take (i+1)=ss.take i++[s]:=by rw[hu,Dp hi,Bm,hs]; rfl
 refine⟨h.hd,h.nd,h.vs,by rw[hu,BH]; omega,λr hr t ht=>?_,?_⟩
 . rw[tk] at hr;rcases C5.mp hr with z|z
   . rw[hu]; exact C8 _ (h.cl r z t ht)
   . rw[Bq] at z; subst z; exact h.mem t ht
 . rw[tk,List.flatMap_append];have e:(ss.take i).flatMap (bE fns ss5)=(ss.take i).flatMap (bE fns ss):=by rw[List.flatMap_def,List.flatMap_def];congr 1;refine CZ λr hr=>?_;rw[hu,pM (h.cl r hr)]
   rw[e];have:=h.kn;simpa [bE] using this
theorem Bf.pln (h:Bf fns g ss ss.length) (P:Pg fns) (hB:(en fns 3 g []).length<=200):Pln fns g ss:=by have hc:=h.cl;have hk:=h.kn;rw[Bw] at hc hk;exact⟨h.hd,h.nd,h.vs,hc,hk,h.len P hB⟩
end
end K51
namespace Wk
open PySem L2 Gx Fl K41 Bg
inductive RG where
 | out (a:V)|copy (x:Str) (a:V)|op (x s:Str) (a b:V)|back (a:V)|new (x:Str)|get (x:Str) (a:V) (f:Str)|put (a:V) (f:Str) (b:V)|call (x g:Str) (p:Addr) (as:List V)|ifs (a:V)|whl (a:V)
def RG.items:RG->List V
 | .out a=>[.str "out",a]
 | .copy x a=>[.str "copy",.str x,a]
 | .op x s a b=>[.str "op",.str x,.str s,a,b]
 | .back a=>[.str "back",a]
 | .new x=>[.str "new",.str x]
 | .get x a f=>[.str "get",.str x,a,.str f]
 | .put a f b=>[.str "put",a,.str f,b]
 | .call x g p _=>[.str "call",.str x,.str g,.ref p]
 | .ifs a=>[.str "if",a]
 | .whl a=>[.str "while",a]
def RG.kind:RG->Str
 | .out _=>"out"
 | .copy _ _=>"copy"
 | .op _ _ _ _=>"op"
 | .back _=>"back"
 | .new _=>"new"
 | .get _ _ _=>"get"
 | .put _ _ _=>"put"
 | .call _ _ _ _=>"call"
 | .ifs _=>"if"
 | .whl _=>"while"
def RG.gx:RG->Option Str
 | .copy x _=>some x
 | .op x _ _ _=>some x
 | .new x=>some x
 | .get x _ _=>some x
 | .call x _ _ _=>some x
 | _=>none
def RG.as:RG->List V
 | .out a=>[a]
 | .copy _ a=>[a]
 | .op _ _ a b=>[a,b]
 | .back a=>[a]
 | .new _=>[]
 | .get _ a _=>[a]
 | .put a _ b=>[a,b]
 | .call _ _ _ as=>as
 | .ifs a=>[a]
 | .whl a=>[a]
def RG.cl:RG->Str
 | .call _ g _ _=>g
 | _=>""
def RG.rr (r:Addr) (rg:RG):RR:=⟨⟨r,rg.kind,rg.cl⟩,⟨r,0,0,rg.gx,rg.as⟩⟩
def RG.parts (rg:RG):List V:=(rg.gx.toList.map V.str)++rg.as
structure RGAt (K:W.Frag) (H:Hp) (r:Addr) (rg:RG):Prop where
 it:a9 K H r rg.items
 ar:∀x g p as,rg=.call x g p as->a9 K H p as
structure RG.Ok (rg:RG):Prop where
 at_:∀v∈rg.parts,K12.Atom v
 sg:∀x s a b,rg=.op x s a b->PyData.strOk s=true
 fl:(∀x a f,rg=.get x a f->PyData.strOk f=true)/\∀a f b,rg=.put a f b->PyData.strOk f=true
 cl:∀x g p as,rg=.call x g p as->PyData.strOk g=true/\as.length<=10
theorem gat {x:Str} (h:K12.Atom (.str x)):K12.Nm x:=by
 rcases h with⟨s,e,h⟩|⟨i,e⟩
 . cases e; exact h
 . cases e
theorem yu {K:W.Frag} {H:Hp} {r:Addr} {rg:RG} (h:RGAt K H r rg):K12.RowS K H rg.items rg.gx rg.as:=by
 cases rg with
 | out a=>exact .out a
 | copy x a=>exact .copy x a
 | op x s a b=>exact .op x s a b
 | back a=>exact .back a
 | new x=>exact .new x
 | get x a f=>exact .get x a f
 | put a f b=>exact .put a f b
 | call x g p as=>exact .call x g p as (h.ar x g p as rfl)
 | ifs a=>exact .ifs a
 | whl a=>exact .whl a
theorem uF {rg:RG} (ok:rg.Ok):rg.as.length<=10:=by
 cases rg with
 | call x g p as=>exact(ok.cl x g p as rfl).2
 | _=>simp [RG.as]
theorem rg_ok {K:W.Frag} {H:Hp} {r:Addr} {rg:RG} (h:RGAt K H r rg) (ok:rg.Ok):jc K H (rg.rr r):=by
 refine⟨rfl,?_,⟨⟨_,h.it,yu h⟩,λv hv=>ok.at_ v (Br _ hv),uF ok,λx hx=>?_⟩⟩
 . have ne:∀k∈([("out":Str),"copy","op","back","new","get","put","if","while"]:List Str),¬ k="call":=by decide +kernel
   cases rg with
   | call x g p as=>exact⟨_,h.it,λ_=>⟨_,_,rfl⟩⟩
   | out a=>exact⟨_,h.it,λz=>absurd z (ne "out" (by simp))⟩
   | copy x a=>exact⟨_,h.it,λz=>absurd z (ne "copy" (by simp))⟩
   | op x s a b=>exact⟨_,h.it,λz=>absurd z (ne "op" (by simp))⟩
   | back a=>exact⟨_,h.it,λz=>absurd z (ne "back" (by simp))⟩
   | new x=>exact⟨_,h.it,λz=>absurd z (ne "new" (by simp))⟩
   | get x a f=>exact⟨_,h.it,λz=>absurd z (ne "get" (by simp))⟩
   | put a f b=>exact⟨_,h.it,λz=>absurd z (ne "put" (by simp))⟩
   | ifs a=>exact⟨_,h.it,λz=>absurd z (ne "if" (by simp))⟩
   | whl a=>exact⟨_,h.it,λz=>absurd z (ne "while" (by simp))⟩
 . have hx:rg.gx=some x:=hx;refine gat (ok.at_ (.str x) (C8 _ ?_));rw[hx];simp
end Wk
namespace K14
open PySem PySem.NumText L2 K11
theorem str_ext {a b:Str} (h:a.cps.toList=b.cps.toList):a=b:=by cases a;cases b;have:=Array.toList_inj.mp h;simp only at this;rw[this]
end K14
namespace K14
open PySem PyProof.Rows L2 K11 Gx
theorem let_at {z:Int} (h0:0<=z) (h1:z<26):aY ("abcdefghijklmnopqrstuvwxyz":Str).cps.toList z=some (97+z.toNat):=by
 obtain⟨n,rfl⟩:=EL h0;have g:∀n<26,("abcdefghijklmnopqrstuvwxyz":Str).cps.toList[n]?=some (97+n):=by decide +kernel
 exact bp (g n (by omega))
end K14
namespace Wk
open PySem L2 Gx
theorem nodup_range {α:Type} {m:Nat} {f:Nat->α} (h:∀j k,j<m->k<m->f j=f k->j=k):((List.range m).map f).Nodup:=by rw[List.nodup_iff_pairwise_ne,List.pairwise_map];refine List.Pairwise.imp_of_mem (R:=λa b=>a≠b) (λ{a b} ha hb hab z=>hab (h a b (Ca.mp ha) (Ca.mp hb) z)) List.nodup_range
end Wk
namespace PySem
open Sem (wp)
@[reducible] def IsTri (h:Heap) (T:Addr) (a b c:Value):Prop:=h.get? T=some { cls:=.type "tuple",data:=.seq #[a,b,c] }
end PySem
namespace Wh
open PySem L2 Gx Fl K41 Bg Wk
inductive RH where
 | rg (r:RG)|els|fin
def RH.items:RH->List V
 | .rg r=>r.items
 | .els=>[.str "else"]
 | .fin=>[.str "end"]
def RH.kind:RH->Str
 | .rg r=>r.kind
 | .els=>"else"
 | .fin=>"end"
def RH.gx:RH->Option Str
 | .rg r=>r.gx
 | _=>none
def RH.as:RH->List V
 | .rg r=>r.as
 | _=>[]
def RH.cl:RH->Str
 | .rg r=>r.cl
 | _=>""
def RH.rr (r:Addr) (rg:RH):RR:=⟨⟨r,rg.kind,rg.cl⟩,⟨r,0,0,rg.gx,rg.as⟩⟩
structure RHAt (K:W.Frag) (H:Hp) (r:Addr) (rg:RH):Prop where
 it:a9 K H r rg.items
 ar:∀x g p as,rg=.rg (.call x g p as)->a9 K H p as
theorem RHAt.mono {K:W.Frag} {H H':Hp} {r:Addr} {rg:RH} (h:RHAt K H r rg) (e:a0 H H'):RHAt K H' r rg:=⟨e.tup h.it,λx g p as z=>e.tup (h.ar x g p as z)⟩
theorem RHAt.rg {K:W.Frag} {H:Hp} {r:Addr} {rg:RG} (h:RHAt K H r (.rg rg)):RGAt K H r rg:=⟨h.it,λx g p as z=>h.ar x g p as (by rw[z])⟩
def RH.Ok:RH->Prop
 | .rg r=>r.Ok
 | _=>True
theorem xg:¬ (("else":Str)="call"):=by decide +kernel
theorem zG:¬ (("end":Str)="call"):=by decide +kernel
theorem wS {K:W.Frag} {H:Hp} {r:Addr} {rg:RH} (h:RHAt K H r rg) (ok:rg.Ok):jc K H (rg.rr r):=by
 cases rg with
 | rg x=>exact Wk.rg_ok h.rg ok
 | els=>exact⟨rfl,⟨_,h.it,λz=>absurd z xg⟩,⟨⟨_,h.it,.els⟩,(λv hv=>absurd hv CC),BW _,(λx hx=>by cases hx)⟩⟩
 | fin=>exact⟨rfl,⟨_,h.it,λz=>absurd z zG⟩,⟨⟨_,h.it,.fin⟩,(λv hv=>absurd hv CC),BW _,(λx hx=>by cases hx)⟩⟩
def cg (rs:List Addr) (rgs:List RH):List RR:=(rs.zip rgs).map λp=>p.2.rr p.1
variable {rs:List Addr} {rgs:List RH}
theorem za (h:rs.length=rgs.length):(cg rs rgs).length=rgs.length:=by unfold cg;rw[BA,Dl];omega
theorem m8 {k:Nat} {x:RR} (hx:(cg rs rgs)[k]?=some x):∃r rg,rs[k]?=some r/\rgs[k]?=some rg/\x=rg.rr r:=by unfold cg at hx;rw[BI,C7] at hx;obtain⟨p,hp,rfl⟩:=hx;rw[E7] at hp;exact⟨p.1,p.2,hp.1,hp.2,rfl⟩
theorem qb {α:Type} (g:Addr->α):∀(rs:List Addr) (rgs:List RH),rs.length=rgs.length->(rs.zip rgs).map (λp=>g p.1)=rs.map g
 | [],[],_=>rfl
 | r :: rs,v :: rgs,h=>by rw[List.zip_cons_cons,Bx,Bx,qb g rs rgs (by simpa using h)]
 | [],_ :: _,h=>by simp at h
 | _ :: _,[],h=>by simp at h
theorem nS {α:Type} (g:RH->α):∀(rs:List Addr) (rgs:List RH),rs.length=rgs.length->(rs.zip rgs).map (λp=>g p.2)=rgs.map g
 | [],[],_=>rfl
 | r :: rs,v :: rgs,h=>by rw[List.zip_cons_cons,Bx,Bx,nS g rs rgs (by simpa using h)]
 | [],_ :: _,h=>by simp at h
 | _ :: _,[],h=>by simp at h
theorem wK (h:rs.length=rgs.length):((cg rs rgs).map λx=>V.ref x.w.r)=rs.map V.ref:=by unfold cg;rw[CN];exact qb V.ref rs rgs h
theorem pd (h:rs.length=rgs.length):((cg rs rgs).map λx=>x.w.k)=rgs.map RH.kind:=by unfold cg;rw[CN];exact nS RH.kind rs rgs h
def dq (nk:Str) (fo:V) (fa qC tr:Addr) (ps:List Str) (rs:List Addr) (rgs:List RH):F2.Fd:=⟨nk,fo,fa,qC,tr,ps,(cg rs rgs).map (·.w),(cg rs rgs).map (·.d)⟩
section
variable {K:W.Frag} {H:Hp} {nk:Str} {fa tr qC:Addr} {fo:V} {ps:List Str} {rs:List Addr} {rgs:List RH}
theorem wG (hl:rs.length=rgs.length) (h1:a9 K H fa [.str nk,fo,.ref qC,.ref tr]) (h2:a9 K H tr (rs.map V.ref)) (h3:∀(i:Nat) r rg,rs[i]?=some r->rgs[i]?=some rg->RHAt K H r rg/\rg.Ok) (h4:a9 K H qC (ps.map V.str)) (h5:∀s∈ps,K12.Nm s) (h6:ps.length<=100) (h7:rgs.length<=100) (wf:K13.Wf (rgs.map RH.kind)) :
   F2.FnAt K H (dq nk fo fa qC tr ps rs rgs):=by
 refine vI (cg rs rgs) h1 (by rw[wK hl]; exact h2) (λx hx=>?_) h4 h5 h6 (by rw[za hl]; exact h7) (by rw[pd hl]; exact wf);obtain⟨k,hk⟩:=Bp hx;obtain⟨r,rg,e1,e2,rfl⟩:=m8 hk;exact wS (h3 k r rg e1 e2).1 (h3 k r rg e1 e2).2
end
theorem xa {nk:Str} {fo:V} {fa qC tr:Addr} {ps:List Str} (hl:rs.length=rgs.length):F2.kds (dq nk fo fa qC tr ps rs rgs)=rgs.map RH.kind:=by unfold F2.kds;show((cg rs rgs).map (·.w)).map (·.k)=_;rw[CN];exact pd hl
theorem RHAt.lst {K:W.Frag} {H:Hp} {q r:Addr} {l:List V} {o:HO} {rh:RH} (h:RHAt K H r rh) (hq:H q=some (.lst l)):RHAt K (upd H q o) r rh:=⟨K13.sqT_lst h.it hq,λx g p as z=>K13.sqT_lst (h.ar x g p as z) hq⟩
theorem RH.item0 (rh:RH):aY rh.items 0=some (.str rh.kind):=by
 cases rh with
 | rg r=>cases r <;> rfl
 | els=>rfl
 | fin=>rfl
end Wh
namespace K51
open PySem L2 K13
structure Gd (ks os:List Str):Prop where
 g:Good ks os
 one:∀i j b,i<j->j<ks.length->kd ks i="else"->kd ks j="else"->(stk ks i).head?=some b->(stk ks j).head?=some b->False
 top:∀(i b:Nat),(stk ks ks.length)[i]?=some b->os[i]?=some ("if":Str)->∀j,j<ks.length->kd ks j="else"->(stk ks j).head?=some b->False
theorem A3:Gd [] []:=⟨zQ,λi j b _ h=>absurd h (D9 j),λi b h=>by cases h⟩
section
variable {ks os:List Str} {x:Str}
theorem Gd.snoc (h:Gd ks os) {os':List Str} (g:Good (ks++[x]) os') (hx:¬ x="else") (ht:∀(i b:Nat),(stk (ks++[x]) (ks++[x]).length)[i]?=some b->os'[i]?=some ("if":Str)->b=ks.length\/∃i':Nat,(stk ks ks.length)[i']?=some b/\os[i']?=some ("if":Str)):Gd (ks++[x]) os':=by
 have hn:(ks++[x]).length=ks.length+1:=by rw[BH]; rfl
 have lt:∀j,j<ks.length+1->kd (ks++[x]) j="else"->j<ks.length:=λj hj e=>by
   rcases Bl j ks.length with z|z
   . exact z
   . have:j=ks.length:=by omega
     rw[this,gJ] at e;exact absurd e hx
 refine⟨g,λi j b hij hj e1 e2 h1 h2=>?_,λi b hi ho j hj e hb=>?_⟩
 . have hj':=lt j (by omega) e2;rw[dA (by omega)] at e1;rw[dA hj'] at e2;rw[de _ _ _ (by omega)] at h1 h2;exact h.one i j b hij hj' e1 e2 h1 h2
 . have hj':=lt j (by omega) e;rw[dA hj'] at e;rw[de _ _ _ (by omega)] at hb;rcases ht i b hi ho with z|⟨i',z1,z2⟩
   . have:=(stk_lt ks j b (CI hb)).1;omega
   . exact h.top i' b z1 z2 j hj' e hb
theorem Gd.opn (h:Gd ks os) (ho:isO x=true):Gd (ks++[x]) (x :: os):=by
 refine h.snoc (h.g.opn ho) (kZ ho) λi b hi hi2=>?_;rw[gO] at hi;unfold push at hi;rw[BJ ho] at hi;cases i with
 | zero=>exact .inl (by simpa using hi.symm)
 | succ i=>exact .inr ⟨i,by simpa using hi,by simpa using hi2⟩
theorem Gd.plain (h:Gd ks os) (h1:¬ isO x=true) (h2:¬ isE x=true) (h3:¬ x="end"):Gd (ks++[x]) os:=by refine h.snoc (h.g.plain h1 h2 h3) (λz=>h2 (by rw[z]; decide +kernel)) λi b hi hi2=>?_;rw[gO] at hi;unfold push at hi;rw[BE h1,BE h3] at hi;exact .inr ⟨i,hi,hi2⟩
theorem Gd.fin {o:Str} (h:Gd ks (o :: os)):Gd (ks++[("end":Str)]) os:=by refine h.snoc h.g.fin (λz=>els_fin z.symm) λi b hi hi2=>?_;rw[gO] at hi;unfold push at hi;rw[BE (by decide +kernel),BJ rfl] at hi;exact .inr ⟨i+1,by simpa using hi,by simpa using hi2⟩
theorem Gd.els (h:Gd ks (("if":Str) :: os)):Gd (ks++[("else":Str)]) (("else":Str) :: os):=by
 have hn:(ks++[("else":Str)]).length=ks.length+1:=by rw[BH]; rfl
 have lt:∀j,j<ks.length+1->j<ks.length\/j=ks.length:=λj hj=>by omega
 have st:stk (ks++[("else":Str)]) (ks++[("else":Str)]).length=stk ks ks.length:=by rw[gO];unfold push;rw[BE (by decide +kernel),BE els_fin]
 have top0:∀b,(stk ks ks.length).head?=some b->∀j,j<ks.length->kd ks j="else"->(stk ks j).head?=some b->False:=λb hb=>h.top 0 b (by rw[<- List.head?_eq_getElem?]; exact hb) rfl;refine⟨h.g.els',λi j b hij hj e1 e2 h1 h2=>?_,λi b hi ho j hj e hb=>?_⟩
 . rcases lt j (by omega) with z|rfl
   . rw[dA (by omega)] at e1 e2;rw[de _ _ _ (by omega)] at h1 h2;exact h.one i j b hij z e1 e2 h1 h2
   . rw[dA (by omega)] at e1;rw[de _ _ _ (by omega)] at h1 h2;exact top0 b h2 i hij e1 h1
 . rw[st] at hi;cases i with
   | zero=>cases ho
   | succ i =>
     rcases lt j (by omega) with z|rfl
     . rw[dA z] at e;rw[de _ _ _ (by omega)] at hb;exact h.top (i+1) b hi (by simpa using ho) j z e hb
     . rw[de _ _ _ (BG _)] at hb;have nd:=stk_nodup ks ks.length;have h0:(stk ks ks.length)[0]?=some b:=by rw[<- List.head?_eq_getElem?]; exact hb
       have:=(CY (BC.mp h0).1 nd).mp (h0.trans hi.symm);omega
theorem Gd.ends:∀{ks os:List Str},Gd ks os->∀j,j<=os.length->Gd (ks++List.replicate j ("end":Str)) (os.drop j)
 | ks,os,h,0,_=>by simpa using h
 | ks,[],h,j+1,hj=>by simp at hj
 | ks,o :: os,h,j+1,hj=>by have:=Gd.ends h.fin j (by simpa using hj);rw[CF] at this;simpa [CM] using this
end
def di (ks:List Str):Prop:=∀i j b,i<ks.length->j<ks.length->kd ks i="else"->kd ks j="else"->(stk ks i).head?=some b->(stk ks j).head?=some b->i=j
theorem Gd.back {ks:List Str} (h:Gd ks []):Wf (ks++[("back":Str)])/\di (ks++[("back":Str)]):=by
 refine⟨h.g.back,λi j b hi hj e1 e2 h1 h2=>?_⟩;have h':=h.plain (x:="back") back_O back_E (by decide +kernel);rcases DU i j with z|z|z
 . exact(h'.one i j b z hj e1 e2 h1 h2).elim
 . exact z
 . exact(h'.one j i b z hi e2 e1 h2 h1).elim
def dh (ks:List Str) (b k:Nat):Option Nat->Prop
 | none=>∀j,j<k->¬ (kd ks j="else"/\(stk ks j).head?=some b)
 | some f=>f<k/\kd ks f="else"/\(stk ks f).head?=some b
def iI:Option Nat->V
 | none=>.non
 | some n=>.int n
structure Shut (ks:List Str) (b:Nat) (o:Option Nat) (e:Nat):Prop where
 ends:Ends ks b e
 els:dh ks b e o
theorem xZ {ks:List Str} (w:Wf ks) (u:di ks) {b e:Nat} {o:Option Nat} (h:Shut ks b o e):First ks b (o.getD e):=by
 have he:=h.ends;cases o with
 | none =>
   refine⟨he.2.1,iA he,λk hk hh=>?_⟩;have hlt:k<e:=hk;have hE:=hh.1;unfold isE at hE;rw[Cp,BL,BL] at hE;rcases hE with z|z
   . exact h.els k hlt ⟨z,hh.2⟩
   . have:=ends_uniq (end_at w (by have:=he.2.1; omega) z hh.2) he;omega
 | some f =>
   obtain⟨h1,h2,h3⟩:=h.els;have hfl:f<ks.length:=by have:=he.2.1; omega
   refine⟨hfl,⟨by show isE (kd ks f)=true; rw[h2]; decide +kernel,h3⟩,λk hk hh=>?_⟩;have hk:k<f:=hk;have hE:=hh.1;unfold isE at hE;rw[Cp,BL,BL] at hE;rcases hE with z|z
   . have:=u k f b (by omega) hfl z h2 hh.2 h3;omega
   . have:=ends_uniq (end_at w (by omega) z hh.2) he;omega
theorem uy {ks:List Str} (w:Wf ks) (u:di ks) {b e k:Nat} {o:Option Nat} (h:Shut ks b o e) (hk:k<ks.length) (hE:isE (kd ks k)=true):(k=e\/o=some k) <-> (stk ks k).head?=some b:=by
 constructor
 . rintro (rfl|rfl)
   . exact(iA h.ends).2
   . exact h.els.2.2
 . intro hb;unfold isE at hE;rw[Cp,BL,BL] at hE;rcases hE with z|z
   . right;cases o with
     | none =>
       have hle:=hit_le h.ends ⟨by rw[z]; decide +kernel,hb⟩;rcases Bl k e with q|q
       . exact(h.els k q ⟨z,hb⟩).elim
       . have:k=e:=by omega
         rw[this,h.ends.2.2.1] at z;exact absurd z.symm els_fin
     | some f =>
       obtain⟨h1,h2,h3⟩:=h.els;rw[u k f b hk (by have:=h.ends.2.1; omega) z h2 hb h3]
   . left;exact ends_uniq (end_at w hk z hb) h.ends
end K51
namespace K51
open PySem L2 Gx Fl Bg Wk K55 Wh
variable {K:W.Frag}
def gq:List Str:=["+","-","*","/","<","=","&","|","^"]
def eu:Int->List Int->List Int
 | _,[]=>[]
 | n,z :: zs=>n%z :: eu (n / z) zs
def i4:Int->List Int->Int
 | n,[]=>n
 | n,z :: zs=>i4 (n / z) zs
theorem ni:∀(n:Int) (zs:List Int) (z:Int),eu n (zs++[z])=eu n zs++[i4 n zs%z]
 | _,[],_=>rfl
 | n,y :: zs,z=>Bv (n%y :: ·) (ni (n / y) zs z)
theorem qj:∀(n:Int) (zs:List Int) (z:Int),i4 n (zs++[z])=i4 n zs / z
 | _,[],_=>rfl
 | n,y :: zs,z=>qj (n / y) zs z
theorem pN:∀(n:Int) (zs:List Int),(eu n zs).length=zs.length
 | _,[]=>rfl
 | n,y :: zs=>Bv (·+1) (pN (n / y) zs)
structure PolOk (ns:List Str):Prop where
 nd:ns.Nodup
 ok:∀n∈ns,∃cs:List Nat,n=tx cs/\(∀c∈cs,97<=c/\c<=122)/\0<cs.length/\cs.length<=8
def du (f a b:Nat) (d:Int) (k:Nat):List Nat:=List.replicate a f++(97+((d+(k:Int))%26).toNat) :: List.replicate b f
theorem Ah {f a b:Nat} {d:Int} {j k:Nat} (hj:j<26) (hk:k<26) (h:du f a b d j=du f a b d k):j=k:=by unfold du at h;rw[List.append_cancel_left_eq,List.cons.injEq] at h;omega
theorem wL {f a b:Nat} {d:Int} {k:Nat} (hf:97<=f/\f<=122):∀c∈du f a b d k,97<=c/\c<=122:=λc hc=>by
 unfold du at hc;rcases C5.mp hc with h|h
 . rw[(Dz.mp h).2]; exact hf
 . rcases Be.mp h with h|h
   . rw[h]; omega
   . rw[(Dz.mp h).2]; exact hf
theorem qd (f a b:Nat) (d:Int) (k:Nat):(du f a b d k).length=a+b+1:=by unfold du;rw[BH,BV,Cv,Cv];omega
def bB (ns:List Str) (v:V):Prop:=(∃i:Int,v=.int i/\0<=i/\i<281474976710656)\/∃s,v=.str s/\s∈ns
theorem AT {z:Int} (h0:0<=z) (h1:z<9):∃g,aY ("+-*/<=&|^":Str).cps.toList z=some g/\(⟨#[g]⟩:Str)∈gq:=by
 have hl:("+-*/<=&|^":Str).cps.toList.length=9:=by decide +kernel
 obtain⟨g,hg,hm⟩:=eG (xs:=("+-*/<=&|^":Str).cps.toList) h0 (by rw[hl]; exact h1);have key:∀g∈("+-*/<=&|^":Str).cps.toList,(⟨#[g]⟩:Str)∈gq:=by decide +kernel
 exact⟨g,hg,key g hm⟩
structure RowsH (K:W.Frag) (H:Hp) (rs:List Addr) (rhs:List RH):Prop where
 len:rs.length=rhs.length
 at_:∀(i:Nat) r rh,rs[i]?=some r->rhs[i]?=some rh->RHAt K H r rh
theorem RowsH.mono {H H':Hp} {rs:List Addr} {rhs:List RH} (h:RowsH K H rs rhs) (e:a0 H H'):RowsH K H' rs rhs:=⟨h.len,λi r rh h1 h2=>(h.at_ i r rh h1 h2).mono e⟩
variable {H:Hp} {rh:RH}
theorem RowsH.snoc {rs:List Addr} {rhs:List RH} {r:Addr} (h:RowsH K H rs rhs) (hr:RHAt K H r rh):RowsH K H (rs++[r]) (rhs++[rh]):=by
 have hl:=h.len;refine⟨by rw[BH,BH,hl]; rfl,λi r' rh' h1 h2=>?_⟩;rcases Bl i rs.length with hi|hi
 . rw[C0 hi] at h1;rw[C0 (by omega)] at h2;exact h.at_ i _ _ h1 h2
 . rw[Bz hi] at h1;rw[Bz (by omega)] at h2;have e:i - rs.length=0:=by have:=(BC.mp h1).1; simpa using this
   rw[e] at h1;rw[show i - rhs.length=0 by omega] at h2;cases h1;cases h2;exact hr
theorem RowsH.lst {H:Hp} {q:Addr} {l:List V} {o:HO} {rs:List Addr} {rhs:List RH} (h:RowsH K H rs rhs) (hq:H q=some (.lst l)):RowsH K (upd H q o) rs rhs:=⟨h.len,λi r rh h1 h2=>(h.at_ i r rh h1 h2).lst hq⟩
structure Pf where
 a:Addr
 nm:Str
 fo:Bool
 pa:Addr
 ps:List Str
 ra:Addr
 rs:List Addr
 rhs:List RH
structure PfAt (K:W.Frag) (H:Hp) (f:Pf):Prop where
 it:a9 K H f.a [.str f.nm,.bl f.fo,.ref f.pa,.ref f.ra]
 pr:a9 K H f.pa (f.ps.map V.str)
 rt:a9 K H f.ra (f.rs.map V.ref)
 rw_:RowsH K H f.rs f.rhs
 l6:f.ps.length<=6
 small:f.rhs.length<=61
theorem PfAt.mono {H H':Hp} {f:Pf} (h:PfAt K H f) (e:a0 H H'):PfAt K H' f:=⟨e.tup h.it,e.tup h.pr,e.tup h.rt,h.rw_.mono e,h.l6,h.small⟩
theorem lF (h:rh.kind="call"):∃x g p as,rh=.rg (.call x g p as):=by
 have key:∀k∈([("out":Str),"copy","op","back","new","get","put","if","while","else","end"]:List Str),¬ k="call":=by decide +kernel
 cases rh with
 | els=>exact absurd h (key "else" (by simp))
 | fin=>exact absurd h (key "end" (by simp))
 | rg r =>
   cases r with
   | call x g p as=>exact⟨x,g,p,as,rfl⟩
   | _=>exact absurd h (key _ (by simp [RH.kind,RG.kind]))
theorem uM {v:V} {n:Nat} (h:K12.Atom v):Bg.HasD K H n v:=by
 rcases h with⟨s,rfl,hn⟩|⟨i,rfl⟩
 . exact .str hn.2
 . exact .int
theorem wd {r:Addr} (h:RHAt K H r rh) (ok:rh.Ok):Bg.HasD K H 2 (.ref r):=by
 have it:=h.it;cases rh with
 | els=>exact Bg.HasD.tup (n:=1) it (.cons (.str (by decide +kernel)) .nil)
 | fin=>exact Bg.HasD.tup (n:=1) it (.cons (.str (by decide +kernel)) .nil)
 | rg g =>
   have ok:g.Ok:=ok;have at_:∀{v} {n:Nat},v∈g.parts->Bg.HasD K H n v:=λhv=>uM (ok.at_ _ hv);cases g with
   | out a=>exact Bg.HasD.tup (n:=1) it (.cons (.str (by decide +kernel)) (.cons (at_ (by simp [RG.parts,RG.gx,RG.as])) .nil))
   | copy x a=>exact Bg.HasD.tup (n:=1) it (.cons (.str (by decide +kernel)) (.cons (at_ (by simp [RG.parts,RG.gx,RG.as])) (.cons (at_ (by simp [RG.parts,RG.gx,RG.as])) .nil)))
   | op x s a b=>exact Bg.HasD.tup (n:=1) it (.cons (.str (by decide +kernel)) (.cons (at_ (by simp [RG.parts,RG.gx,RG.as])) (.cons (.str (ok.sg x s a b rfl)) (.cons (at_ (by simp [RG.parts,RG.gx,RG.as])) (.cons (at_ (by simp [RG.parts,RG.gx,RG.as])) .nil)))))
   | back a=>exact Bg.HasD.tup (n:=1) it (.cons (.str (by decide +kernel)) (.cons (at_ (by simp [RG.parts,RG.gx,RG.as])) .nil))
   | new x=>exact Bg.HasD.tup (n:=1) it (.cons (.str (by decide +kernel)) (.cons (at_ (by simp [RG.parts,RG.gx,RG.as])) .nil))
   | get x a f=>exact Bg.HasD.tup (n:=1) it (.cons (.str (by decide +kernel)) (.cons (at_ (by simp [RG.parts,RG.gx,RG.as])) (.cons (at_ (by simp [RG.parts,RG.gx,RG.as])) (.cons (.str (ok.fl.1 x a f rfl)) .nil))))
   | put a f b=>exact Bg.HasD.tup (n:=1) it (.cons (.str (by decide +kernel)) (.cons (at_ (by simp [RG.parts,RG.gx,RG.as])) (.cons (.str (ok.fl.2 a f b rfl)) (.cons (at_ (by simp [RG.parts,RG.gx,RG.as])) .nil))))
   | call x g p as=>exact Bg.HasD.tup (n:=1) it (.cons (.str (by decide +kernel)) (.cons (at_ (by simp [RG.parts,RG.gx,RG.as])) (.cons (.str (ok.cl x g p as rfl).1) (.cons (Bg.HasD.tup (n:=0) (h.ar x g p as rfl) (Bg.HasA.of λv hv=>at_ (by simp [RG.parts,RG.gx,RG.as,hv]))) .nil))))
   | ifs a=>exact Bg.HasD.tup (n:=1) it (.cons (.str (by decide +kernel)) (.cons (at_ (by simp [RG.parts,RG.gx,RG.as])) .nil))
   | whl a=>exact Bg.HasD.tup (n:=1) it (.cons (.str (by decide +kernel)) (.cons (at_ (by simp [RG.parts,RG.gx,RG.as])) .nil))
structure Cl where
 a:Addr
 nm:Str
 k:Nat
structure ClAt (K:W.Frag) (H:Hp) (c:Cl):Prop where
 it:a9 K H c.a [.str c.nm,.int (c.k:Nat)]
 k6:c.k<=6
theorem ClAt.mono {H':Hp}{c:Cl} (h:ClAt K H c) (e:a0 H H'):ClAt K H' c:=⟨e.tup h.it,h.k6⟩
def gV (ns:List Str) (gs:List Str):RG->Prop
 | .out a=>bB ns a
 | .copy x a=>x∈ns/\bB ns a
 | .op x s a b=>x∈ns/\s∈gq/\bB ns a/\bB ns b
 | .new x=>x∈ns
 | .get x a f=>x∈ns/\bB ns a/\f∈ns
 | .put a f b=>bB ns a/\f∈ns/\bB ns b
 | .call x g _ as=>x∈ns/\g∈gs/\as.length<=6/\∀a∈as,bB ns a
 | .ifs a=>bB ns a
 | .whl a=>bB ns a
 | .back _=>False
def g8 (ns gs:List Str):RH->Prop
 | .rg (.back a)=>bB ns a
 | .rg r=>gV ns gs r
 | _=>True
theorem bB.at_ {ns:List Str} (hn:∀s∈ns,K12.Nm s) {v:V} (h:bB ns v):K12.Atom v:=by
 rcases h with⟨i,rfl,_⟩|⟨s,rfl,hs⟩
 . exact .inr ⟨i,rfl⟩
 . exact .inl ⟨s,rfl,hn s hs⟩
theorem xt:∀s∈gq,PyData.strOk s=true:=by decide +kernel
theorem vX {ns gs:List Str} (hn:∀s∈ns,K12.Nm s) (hg:∀g∈gs,PyData.strOk g=true) (h:g8 ns gs rh):rh.Ok:=by
 have str:∀s∈ns,K12.Atom (.str s):=λs hs=>.inl ⟨s,rfl,hn s hs⟩;cases rh with
 | els=>trivial
 | fin=>trivial
 | rg r =>
   show r.Ok;have one:∀a,bB ns a->∀v∈[a],K12.Atom v:=λa h v hv=>by rw[Bq.mp hv]; exact h.at_ hn
   cases r with
   | back a =>
     have h:bB ns a:=h;exact⟨one a h,(λ_ _ _ _ z=>by cases z),⟨(λ_ _ _ z=>by cases z),(λ_ _ _ z=>by cases z)⟩,(λ_ _ _ _ z=>by cases z)⟩
   | out a =>
     have h:bB ns a:=h;exact⟨one a h,(λ_ _ _ _ z=>by cases z),⟨(λ_ _ _ z=>by cases z),(λ_ _ _ z=>by cases z)⟩,(λ_ _ _ _ z=>by cases z)⟩
   | ifs a =>
     have h:bB ns a:=h;exact⟨one a h,(λ_ _ _ _ z=>by cases z),⟨(λ_ _ _ z=>by cases z),(λ_ _ _ z=>by cases z)⟩,(λ_ _ _ _ z=>by cases z)⟩
   | whl a =>
     have h:bB ns a:=h;exact⟨one a h,(λ_ _ _ _ z=>by cases z),⟨(λ_ _ _ z=>by cases z),(λ_ _ _ z=>by cases z)⟩,(λ_ _ _ _ z=>by cases z)⟩
   | new x =>
     have h:x∈ns:=h;exact⟨(λv hv=>by rw[show v=.str x by simpa [RG.parts,RG.gx,RG.as] using hv]; exact str x h),(λ_ _ _ _ z=>by cases z),⟨(λ_ _ _ z=>by cases z),(λ_ _ _ z=>by cases z)⟩,(λ_ _ _ _ z=>by cases z)⟩
   | copy x a =>
     obtain⟨h1,h2⟩:x∈ns/\bB ns a:=h;exact⟨(λv hv=>(show v=.str x\/v=a by simpa [RG.parts,RG.gx,RG.as] using hv).elim (λe=>by rw[e]; exact str x h1) λe=>by rw[e]; exact h2.at_ hn),(λ_ _ _ _ z=>by cases z),⟨(λ_ _ _ z=>by cases z),(λ_ _ _ z=>by cases z)⟩,(λ_ _ _ _ z=>by cases z)⟩
   | get x a f =>
     obtain⟨h1,h2,h3⟩:x∈ns/\bB ns a/\f∈ns:=h;exact⟨(λv hv=>(show v=.str x\/v=a by simpa [RG.parts,RG.gx,RG.as] using hv).elim (λe=>by rw[e]; exact str x h1) λe=>by rw[e]; exact h2.at_ hn),(λ_ _ _ _ z=>by cases z),⟨(λ_ _ _ z=>by cases z; exact(hn _ h3).2),(λ_ _ _ z=>by cases z)⟩,(λ_ _ _ _ z=>by cases z)⟩
   | put a f b =>
     obtain⟨h1,h2,h3⟩:bB ns a/\f∈ns/\bB ns b:=h;exact⟨(λv hv=>(show v=a\/v=b by simpa [RG.parts,RG.gx,RG.as] using hv).elim (λe=>by rw[e]; exact h1.at_ hn) λe=>by rw[e]; exact h3.at_ hn),(λ_ _ _ _ z=>by cases z),⟨(λ_ _ _ z=>by cases z),(λ_ _ _ z=>by cases z; exact(hn _ h2).2)⟩,(λ_ _ _ _ z=>by cases z)⟩
   | op x s a b =>
     obtain⟨h1,h2,h3,h4⟩:x∈ns/\s∈gq/\bB ns a/\bB ns b:=h;exact⟨(λv hv=>(show v=.str x\/v=a\/v=b by simpa [RG.parts,RG.gx,RG.as] using hv).elim (λe=>by rw[e]; exact str x h1) λz=>z.elim (λe=>by rw[e]; exact h3.at_ hn) λe=>by rw[e]; exact h4.at_ hn),(λ_ _ _ _ z=>by cases z; exact xt _ h2),⟨(λ_ _ _ z=>by cases z),(λ_ _ _ z=>by cases z)⟩,(λ_ _ _ _ z=>by cases z)⟩
   | call x g p as =>
     obtain⟨h1,h2,h3,h4⟩:x∈ns/\g∈gs/\as.length<=6/\∀a∈as,bB ns a:=h;exact⟨(λv hv=>(show v=.str x\/v∈as by simpa [RG.parts,RG.gx,RG.as] using hv).elim (λe=>by rw[e]; exact str x h1) λe=>(h4 v e).at_ hn),(λ_ _ _ _ z=>by cases z),⟨(λ_ _ _ z=>by cases z),(λ_ _ _ z=>by cases z)⟩,(λ_ _ _ _ z=>by cases z; exact⟨hg g h2,by omega⟩)⟩
structure PfO (gs:List Str) (n:Nat) (f:Pf):Prop where
 nm:K12.Nm f.nm
 ps:∀s∈f.ps,K12.Nm s
 wf:K13.Wf (f.rhs.map RH.kind)
 one:di (f.rhs.map RH.kind)
 ok:∀rh∈f.rhs,rh.Ok
 cl:∀rh∈f.rhs,∀x g p as,rh=.rg (.call x g p as)->g∈gs
 cel:∀M,2<=M->bv M (f.rhs.map RH.kind)<=n * M+1
def Pf.fd (f:Pf):F2.Fd:=dq f.nm (.bl f.fo) f.a f.pa f.ra f.ps f.rs f.rhs
variable {f:Pf}
theorem AO (a:PfAt K H f) {gs:List Str} {n:Nat} (o:PfO gs n f):Bg.HasD K H 4 (.ref f.a):=by
 refine Bg.HasD.tup (n:=3) a.it (.cons (.str o.nm.2) (.cons .bl (.cons ((Bg.HasD.tup (n:=0) a.pr (Bg.HasA.of λv hv=>?_)).up (by decide)) (.cons (Bg.HasD.tup (n:=2) a.rt (Bg.HasA.of λv hv=>?_)) .nil))))
 . obtain⟨s,hs,rfl⟩:=Ba.mp hv;exact .str (o.ps s hs).2
 . obtain⟨r,hr,rfl⟩:=Ba.mp hv;obtain⟨i,hi⟩:=Bp hr;have hlt:i<f.rhs.length:=by rw[<- a.rw_.len]; exact(BC.mp hi).1
   have e:=BP hlt;exact wd (a.rw_.at_ i r _ hi e) (o.ok _ (BQ e))
theorem ww (a:PfAt K H f) {gs:List Str} {n:Nat} (o:PfO gs n f):F2.FnAt K H f.fd :=
 wG a.rw_.len a.it a.rt (λi r rg h1 h2=>⟨a.rw_.at_ i r rg h1 h2,o.ok rg (BQ h2)⟩) a.pr o.ps (by have:=a.l6; omega) (by have:=a.small; omega) o.wf
theorem lJ (a:PfAt K H f):F2.kds f.fd=f.rhs.map RH.kind:=xa a.rw_.len
theorem vZ (a:PfAt K H f) {w:Rw} (hw:w∈f.fd.rs):∃rh r,rh∈f.rhs/\w=(rh.rr r).w:=by obtain⟨x,hx,rfl⟩:=Ba.mp hw;obtain⟨k,hk⟩:=Bp hx;obtain⟨r,rg,e1,e2,rfl⟩:=m8 hk;exact⟨rg,r,BQ e2,rfl⟩
structure PrgO (fs:List Pf) (cs:List Nat):Prop where
 nd:(fs.map (·.nm)).Nodup
 fn:∀(i:Nat) f,fs[i]?=some f->PfO (fs.map (·.nm)) (cs.getD i 0) f
theorem lu {fs:List Pf} {cs:List Nat} (a:∀f∈fs,PfAt K H f) (o:PrgO fs cs):Pg (fs.map Pf.fd)/\nz (fs.map Pf.fd) cs/\∀f∈fs.map Pf.fd,F2.FnAt K H f:=by
 have at_:∀f∈fs,∃n,PfO (fs.map (·.nm)) n f:=λf hf=>let ⟨i,hi⟩:=Bp hf; ⟨_,o.fn i f hi⟩
 refine⟨⟨?_,λg hg=>?_,λg hg=>?_,λg hg=>?_,λg hg w hw hk=>?_⟩,λi g hi M hM=>?_,λg hg=>?_⟩
 . rw[CN]; exact o.nd
 . obtain⟨f,hf,rfl⟩:=Ba.mp hg;obtain⟨n,q⟩:=at_ f hf;rw[lJ (a f hf)]; exact q.wf
 . obtain⟨f,hf,rfl⟩:=Ba.mp hg;exact⟨f.fo,rfl⟩
 . obtain⟨f,hf,rfl⟩:=Ba.mp hg;obtain⟨n,q⟩:=at_ f hf;exact q.nm.2
 . obtain⟨f,hf,rfl⟩:=Ba.mp hg;obtain⟨n,q⟩:=at_ f hf;obtain⟨rh,r,h1,rfl⟩:=vZ (a f hf) hw;obtain⟨x,g,p,as,rfl⟩:=lF (rh:=rh) hk;obtain⟨f',h2,h3⟩:=Ba.mp (q.cl _ h1 x g p as rfl);exact⟨f'.fd,Ba.mpr ⟨f',h2,rfl⟩,h3⟩
 . rw[BI] at hi;obtain⟨f,hf,rfl⟩:=C7.mp hi;rw[lJ (a f (BQ hf))];exact(o.fn i f hf).cel M hM
 . obtain⟨f,hf,rfl⟩:=Ba.mp hg;obtain⟨n,q⟩:=at_ f hf;exact ww (a f hf) q
end K51
namespace K51
open PySem L2 Gx Fl Bg Wk K55 Wh
theorem gv {P1:Prop} [Decidable P1] {X A B:Prop} (h:P1->B->X) (b:B):if decide P1=true then X else(if false=true then A else B):=by
 by_cases p:P1
 . exact aV (BN p) (h p b)
 . exact aO (by rw[BL]; exact p) (aO BO b)
theorem yQ {b1 b2:Bool} {A B X:Prop} (h:b1=true\/b2=true->A) (hb:B) (k:(if b2=true then A else B)->X):if b1=true then(if true=true then A else B) else X:=by
 by_cases h1:b1=true
 . rw[BJ h1,BJ rfl]; exact h (.inl h1)
 . rw[BE h1];refine k ?_;by_cases h2:b2=true
   . rw[BJ h2]; exact h (.inr h2)
   . rw[BE h2]; exact hb
structure BdS (K:W.Frag) (H H2:Hp) (l o:Addr) (ns gs:List Str) (rs:List Addr) (rhs:List RH) (os:List Str):Prop where
 same:a0 H H2
 eL:H2 l=some (.lst (rs.map V.ref))
 eO:H2 o=some (.lst (K13.opsV os))
 rows:RowsH K H2 rs rhs
 nm:∀s∈os,K13.Nm s
 ok:∀rh∈rhs,g8 ns gs rh
section
variable {K:W.Frag} {H H2 H3:Hp} {l o r:Addr} {ns gs:List Str} {rs:List Addr} {rhs:List RH} {rh:RH} {os os':List Str}
theorem BdS.mono (h:BdS K H H2 l o ns gs rs rhs os) (e:a0 H2 H3):BdS K H H3 l o ns gs rs rhs os:=⟨h.same.trans e,e _ _ h.eL,e _ _ h.eO,h.rows.mono e,h.nm,h.ok⟩
theorem BdS.add (h:BdS K H H2 l o ns gs rs rhs os) (hl0:H l=none) (hne:l≠o) (hr:RHAt K H2 r rh) (hk:g8 ns gs rh):BdS K H (upd H2 l (.lst (rs.map V.ref++[V.ref r]))) l o ns gs (rs++[r]) (rhs++[rh]) os :=
 ⟨h.same.upd hl0,by rw[a8,BK]; rfl,by rw[aH hne.symm]; exact h.eO,(h.rows.snoc hr).lst h.eL,h.nm,λx hx=>(C5.mp hx).elim (h.ok x) λz=>by rw[Bq.mp z]; exact hk⟩
theorem BdS.nest (h:BdS K H H2 l o ns gs rs rhs os) (ho0:H o=none) (hne:l≠o) (hn:∀s∈os',K13.Nm s) {ys:List V} (e:ys=K13.opsV os'):BdS K H (upd H2 o (.lst ys)) l o ns gs rs rhs os' :=
 ⟨h.same.upd ho0,by rw[aH hne]; exact h.eL,by rw[a8,e],h.rows.lst h.eO,hn,h.ok⟩
end
theorem iF (M:Nat) (ks:List Str) (k:Str):bv M (ks++[k])=bv M ks+wt M k:=by unfold bv;rw[BK,List.sum_append];simp
theorem nL {M:Nat} (h:1<=M) (k:Str):wt M k<=M:=by
 unfold wt;split
 . exact BW _
 split
 . exact BG _
 . exact h
theorem ky {M:Nat} {k:Str} (h:¬ k="call"):wt M k<=1:=by
 unfold wt;rw[BE h];split
 . exact BW _
 . exact BG _
theorem tt {M:Nat} {k:Str} (h:K13.isE k=true):wt M k=0:=by unfold wt; rw[BJ h]
def cr (K:W.Frag) (H:Hp) (el wl cl:Addr) (an:Int) (l o:Addr) (ns gs:List Str) (i:Nat) (σ:St) (H2:Hp):Prop:=∃(rs:List Addr) (rhs:List RH) (os:List Str) (v6 v7 v8 v9:Option V),σ=[some (.ref el),some (.ref wl),some (.ref cl),some (.int an),some (.ref l),some (.ref o),v6,v7,v8,v9] /\
 BdS K H H2 l o ns gs rs rhs os/\Gd (rhs.map RH.kind) os/\rhs.length<=2 * i/\os.length<=i/\∀M,2<=M->bv M (rhs.map RH.kind)<=i * M
variable {H:Hp} {ns gs:List Str} {rs:List Addr} {rhs:List RH} {r:Addr}
theorem cr.one {K:W.Frag} {H2:Hp}{el wl cl:Addr} {an:Int} {l o:Addr} {i:Nat} {rh:RH} {os:List Str} {v6 v7 v8 v9:Option V} (b:BdS K H H2 l o ns gs (rs++[r]) (rhs++[rh]) os) (g:Gd (rhs.map RH.kind++[rh.kind]) os) (h1:rhs.length<=2 * i) (h2:os.length<=i+1) (h3:∀M,2<=M->bv M (rhs.map RH.kind)<=i * M) :
   cr K H el wl cl an l o ns gs (i+1) [some (.ref el),some (.ref wl),some (.ref cl),some (.int an),some (.ref l),some (.ref o),v6,v7,v8,v9] H2:=by
 refine⟨_,_,os,v6,v7,v8,v9,rfl,b,by rw[BK]; exact g,by rw[BH]; show _+1<=_; omega,h2,λM hM=>?_⟩;rw[BK];show bv M (rhs.map RH.kind++[rh.kind])<=_;rw[iF,ED];exact Nat.add_le_add (h3 M hM) (nL (by omega) _)
theorem cr.two {K:W.Frag} {H2:Hp}{el wl cl:Addr} {an:Int} {l o:Addr} {i:Nat} {rh rh':RH} {r':Addr}{os:List Str} {v6 v7 v8 v9:Option V} (b:BdS K H H2 l o ns gs (rs++[r]++[r']) (rhs++[rh]++[rh']) os) (g:Gd (rhs.map RH.kind++[rh.kind]++[rh'.kind]) os) (h1:rhs.length<=2 * i) (h2:os.length<=i+1) (h3:∀M,2<=M->bv M (rhs.map RH.kind)<=i * M) (n1:¬ rh.kind="call") (n2:¬ rh'.kind="call") :
   cr K H el wl cl an l o ns gs (i+1) [some (.ref el),some (.ref wl),some (.ref cl),some (.int an),some (.ref l),some (.ref o),v6,v7,v8,v9] H2:=by
 refine⟨_,_,os,v6,v7,v8,v9,rfl,b,by rw[BK,BK]; exact g,by rw[BH,BH]; show _+1+1<=_; omega,h2,λM hM=>?_⟩;rw[BK,BK];show bv M (rhs.map RH.kind++[rh.kind]++[rh'.kind])<=_;rw[iF,iF,ED];have a:=h3 M hM;have b1:=ky (M:=M) n1;have b2:=ky (M:=M) n2;omega
theorem wD {rg:RG} (h:gV ns gs rg):(∃a,rg=.ifs a/\bB ns a)\/(∃a,rg=.whl a/\bB ns a)\/(¬ rg.kind="if"/\¬ rg.kind="while"/\¬ K13.isO rg.kind=true/\¬ K13.isE rg.kind=true/\¬ rg.kind="end"):=by
 have key:∀k∈([("out":Str),"copy","op","new","get","put","call"]:List Str),¬ k="if"/\¬ k="while"/\¬ K13.isO k=true/\¬ K13.isE k=true/\¬ k="end":=by decide +kernel
 cases rg with
 | ifs a=>exact .inl ⟨a,rfl,h⟩
 | whl a=>exact .inr (.inl ⟨a,rfl,h⟩)
 | back a=>exact h.elim
 | _=>exact .inr (.inr (key _ (by simp [RG.kind])))
theorem xr {rg:RG} (h:gV ns gs rg):g8 ns gs (.rg rg):=by
 cases rg with
 | back a=>exact h.elim
 | _=>exact h
theorem kN {K:W.Frag} {rg:RG} (h:RGAt K H r rg):RHAt K H r (.rg rg):=⟨h.it,λx g p as z=>h.ar x g p as (by cases z; rfl)⟩
def szs:List Int:=[4,4,4,4,4,3,3,3,3,3,3,7,7,8,4]
theorem vU (n:Int):∃d0 d1 d2 d3 d4 d5 d6 d7 d8 d9 d10 d11 d12 d13 d14:Int,eu n szs=[d0,d1,d2,d3,d4,d5,d6,d7,d8,d9,d10,d11,d12,d13,d14]/\(0<=d0/\d0<4)/\(0<=d1/\d1<4)/\(0<=d2/\d2<4)/\(0<=d3/\d3<4)/\(0<=d4/\d4<4)/\(0<=d5/\d5<3)/\(0<=d9/\d9<3)/\(0<=d13/\d13<8)/\(0<=d14/\d14<4) :=
 ⟨_,_,_,_,_,_,_,_,_,_,_,_,_,_,_,rfl,bR _ 4 (by decide),bR _ 4 (by decide),bR _ 4 (by decide),bR _ 4 (by decide),bR _ 4 (by decide),bR _ 3 (by decide),bR _ 3 (by decide),bR _ 8 (by decide),bR _ 4 (by decide)⟩
theorem qI (h:PolOk ns):∀s∈ns,K12.Nm s:=λs hs=>by
 obtain⟨cs,rfl,h1,h2,h3⟩:=h.ok s hs;refine⟨by rw[zV]; omega,?_⟩;have key:∀c∈List.range 123,97<=c->c∈K12.lets.cps.toList:=by decide +kernel
 exact K41.ok_lets λc hc=>key c (Ca.mpr (by have:=(h1 c hc).2; omega)) (h1 c hc).1
variable {xs:List V} {b:Nat}
theorem mT {a:Nat}:ak xs (some (a:Int)) (some (b:Int))=(xs.drop a).take (b - a):=by
 unfold ak;rw[HT.sIx_nat,HT.sIx_nat];rcases Bl a xs.length with h|h
 . rw[DA (CL h)];rcases Bl b xs.length with h2|h2
   . rw[DA (CL h2)]
   . rw[Df h2,C9 (by rw[CP]; omega),C9 (by rw[CP]; omega)]
 . rw[Df h,D2,List.drop_eq_nil_of_le h];simp
theorem vb {a:Nat}:ak xs (some (a:Int)) none=xs.drop a:=by
 unfold ak;rw[HT.sIx_nat,HT.sIx_none];rcases Bl a xs.length with h|h
 . rw[DA (CL h),C9 (by rw[CP]; omega)]
 . rw[Df h,D2,List.drop_eq_nil_of_le h];simp
theorem ik :ak xs none (some (b:Int))=xs.take b:=by
 unfold ak;rw[HT.sIx_none,HT.sIx_nat,Dt,Nat.sub_zero];rcases Bl b xs.length with h|h
 . rw[DA (CL h)]
 . rw[Df h,C9 (BG _),C9 h]
def bM (s:Nat) (w:Bool) (k:Nat):Nat:=if w=true/\k=0 then 8 else s
def cel (s:Nat) (w:Bool) (k:Nat):Nat:=bM s w k+(if s=0/\0<k then 1 else 0)
def eF (s:Nat) (w:Bool):Nat->Nat
 | 0=>14
 | k+1=>eF s w k - bM s w k
def lst (m s:Nat) (w:Bool):Nat:=(if w=true/\0<m then 2 else eF s w m)+(if s=0/\0<m then 1 else 0)
def gP (m s:Nat) (w:Bool):List Nat:=(List.range m).map (cel s w)++[lst m s w]
theorem wN:∀m,m<4->∀s,s<3->∀w:Bool,∀i,i<m+1->cap (gP m s w) 2 i<=200:=by decide +kernel
theorem qt {x:Str} (ks:List Str) (h1:¬ K13.isO x=true) (h2:¬ x="end"):∀i,K13.stk (x :: ks) (i+1)=(K13.stk ks i).map (·+1)
 | 0=>by show K13.push [] 0 x=[];unfold K13.push;rw[BE h1,BE h2]
 | i+1=>by
   show K13.push (K13.stk (x :: ks) (i+1)) (i+1) (K13.kd ks i)=(K13.push (K13.stk ks i) i (K13.kd ks i)).map (·+1);rw[qt ks h1 h2 i];unfold K13.push;split
   . rfl
   . split
     . cases K13.stk ks i <;> rfl
     . rfl
theorem yR {ks:List Str} (w:K13.Wf ks) (u:di ks):K13.Wf (("call":Str) :: ks)/\di (("call":Str) :: ks):=by
 have c:=qt (x:="call") ks (by decide +kernel) (by decide +kernel);have n0:¬ K13.kd (("call":Str) :: ks) 0="else":=show ¬ (("call":Str)="else") by decide +kernel
 have hl:(("call":Str) :: ks).length=ks.length+1:=rfl;refine⟨⟨λi hi he=>?_,λi b r hi he hs=>?_,?_,λi hi=>?_,CO _⟩,λi j b hi hj e1 e2 h1 h2=>?_⟩
 . cases i with
   | zero=>exact absurd he (show ¬ (K13.isE ("call":Str)=true) by decide +kernel)
   | succ i =>
     rw[c];intro z;exact w.open_ i (by omega) he (Dr.mp z)
 . cases i with
   | zero=>exact absurd he n0
   | succ i =>
     rw[c] at hs;cases q:K13.stk ks i with
     | nil=>rw[q] at hs; cases hs
     | cons b' r' =>
       rw[q,Bx] at hs;obtain⟨rfl,_⟩:=List.cons.inj hs;exact w.els i b' r' (by omega) he q
 . rw[hl,c,w.shut];rfl
 . cases i with
   | zero=>exact absurd w.pos (by rw[hl] at hi; omega)
   | succ i=>exact w.last i (by omega)
 . cases i with
   | zero=>exact absurd e1 n0
   | succ i =>
     cases j with
     | zero=>exact absurd e2 n0
     | succ j =>
       rw[c,List.head?_map] at h1 h2;obtain⟨b1,q1,p1⟩:=C7.mp h1;obtain⟨b2,q2,p2⟩:=C7.mp h2;have:b1=b2:=by omega
       subst this;have:=u i j b1 (by omega) (by omega) e1 e2 q1 q2;omega
variable {K:W.Frag}
theorem A8:bootBuiltins "set"=some (.type "set"):=by decide +kernel
def gB (K:W.Frag):List V->Hp->VK->Prop:=λxs H Q=>∃p ys,xs=[.ref p]/\(aA K H p ys\/a9 K H p ys)/\Q (.int (ys.length:Nat)) H
structure RwsO (K:W.Frag) (H:Hp) (tr:Addr) (rs:List Addr) (rhs:List RH) (ns gs:List Str) (n:Nat):Prop where
 sq:a9 K H tr (rs.map V.ref)
 rows:RowsH K H rs rhs
 wf:K13.Wf (rhs.map RH.kind)
 one:di (rhs.map RH.kind)
 len:rhs.length<=44
 ok:∀rh∈rhs,g8 ns gs rh
 cel:∀M,2<=M->bv M (rhs.map RH.kind)<=n * M+1
theorem RwsO.mono {H H':Hp} {tr:Addr} {rs:List Addr} {rhs:List RH} {ns gs:List Str} {n:Nat} (h:RwsO K H tr rs rhs ns gs n) (e:a0 H H'):RwsO K H' tr rs rhs ns gs n:=⟨e.tup h.sq,h.rows.mono e,h.wf,h.one,h.len,h.ok,h.cel⟩
theorem RwsO.up {tr:Addr} {n m:Nat} (h:RwsO K H tr rs rhs ns gs n) (e:n<=m):RwsO K H tr rs rhs ns gs m:=⟨h.sq,h.rows,h.wf,h.one,h.len,h.ok,λM hM=>Bk (h.cel M hM) (Dm (Dn M e) 1)⟩
theorem RowsH.cons {H:Hp} {rs:List Addr} {rhs:List RH} {r:Addr} {rh:RH} (h:RowsH K H rs rhs) (hr:RHAt K H r rh):RowsH K H (r :: rs) (rh :: rhs):=by
 refine⟨by rw[BV,BV,h.len],λi r' rh' h1 h2=>?_⟩;cases i with
 | zero=>cases h1; cases h2; exact hr
 | succ i=>exact h.at_ i r' rh' h1 h2
theorem RwsO.cat {Q:VK} {tp tr:Addr}{n:Nat} {rg:RG} {g:Str} (ht:a9 K H tp [.ref r]) (hr:RGAt K H r rg) (ok:gV ns [g] rg) (hk:rg.kind="call") (hg:g∈gs) (h:RwsO K H tr rs rhs ns gs n) (hl:rhs.length<=43) (q:∀p' H' rs' rhs',a0 H H'->RwsO K H' p' rs' rhs' ns gs (n+1)->Q (.ref p') H'):ij K (.ref tp) (.ref tr) H Q:=by
 have hne:rs≠[]:=λz=>by have h1:=h.rows.len;have h2:=h.wf.pos;rw[z] at h1;rw[BA,<- h1] at h2;exact absurd h2 (by decide)
 refine⟨tp,tr,_,_,rfl,rfl,ht,h.sq,(by simp),?_,(λz=>absurd (Dr.mp z) hne),λ_ p hp=>q p _ (r :: rs) (.rg rg :: rhs) (a0.new hp) ?_⟩
 . rw[BA,h.rows.len];have:(1000:Nat)<sizeLine:=by decide
   show 1+rhs.length<=sizeLine;omega
 . have wc:=yR h.wf h.one;have e:(RH.rg rg :: rhs).map RH.kind=("call":Str) :: rhs.map RH.kind:=by rw[Bx]; exact Bv (· :: _) hk
   refine⟨a9.of a8,(h.rows.cons (kN hr)).mono (a0.new hp),by rw[e]; exact wc.1,by rw[e]; exact wc.2,by show rhs.length+1<=44; omega,λrh hm=>?_,λM hM=>?_⟩
   . rcases Be.mp hm with rfl|hm
     . obtain⟨x,g',p',as,e'⟩:=lF (rh:=.rg rg) hk;cases e';obtain⟨h1,h2,h3,h4⟩:x∈ns/\g'∈[g]/\as.length<=6/\∀a∈as,bB ns a:=ok;exact(show x∈ns/\g'∈gs/\as.length<=6/\∀a∈as,bB ns a from⟨h1,by rw[Bq.mp h2]; exact hg,h3,h4⟩)
     . exact h.ok rh hm
   . rw[e];have hc:bv M (("call":Str) :: rhs.map RH.kind)=wt M "call"+bv M (rhs.map RH.kind):=by unfold bv; rw[Bx,List.sum_cons]
     have a:=nL (M:=M) (by omega) "call";have b:=h.cel M hM;rw[hc,ED];omega
theorem PfAt.lst {H:Hp} {q:Addr} {l:List V} {o:HO} {f:Pf} (h:PfAt K H f) (hq:H q=some (.lst l)):PfAt K (upd H q o) f:=⟨(TS.lst hq).tup h.it,(TS.lst hq).tup h.pr,(TS.lst hq).tup h.rt,h.rw_.lst hq,h.l6,h.small⟩
theorem nV {a pa tr:Addr} {nm:Str} {fo:Bool} {ps:List Str} {n:Nat} (it:a9 K H a [.str nm,.bl fo,.ref pa,.ref tr]) (pr:a9 K H pa (ps.map V.str)) (h:RwsO K H tr rs rhs ns gs n) (hm:nm∈gs) (hg:∀s∈gs,K12.Nm s) (hn:∀s∈ns,K12.Nm s) (hp:∀s∈ps,s∈ns) (l6:ps.length<=6):PfAt K H ⟨a,nm,fo,pa,ps,tr,rs,rhs⟩/\PfO gs n ⟨a,nm,fo,pa,ps,tr,rs,rhs⟩:=by have hgk:∀g∈gs,PyData.strOk g=true:=λg h=>(hg g h).2;refine⟨⟨it,pr,h.sq,h.rows,l6,by show rhs.length<=61; have:=h.len; omega⟩,hg nm hm,λs hs=>hn s (hp s hs),h.wf,h.one,λrh hr=>vX hn hgk (h.ok rh hr),λrh hr x g p as e=>?_,h.cel⟩;subst e;obtain⟨_,h2,_⟩:x∈ns/\g∈gs/\as.length<=6/\∀a∈as,bB ns a:=h.ok _ hr;exact h2
def PgJ (K:W.Frag) (H7:Hp) (a l0 wl dl cl' pl:Addr) (hd mn:Int) (gs:List Str) (s:Nat) (w:Bool) (i:Nat) (σ:St) (Hx:Hp):Prop:=∃(zl:Addr) (zs:List Int) (fs:List Pf) (v10 v11 v12 v13 v14 v15:Option V),σ=[some (.ref a),some (.int 14),some (.int hd),some (.ref l0),some (.int mn),some (.ref wl),some (.ref dl),some (.ref cl'),some (.ref zl),some (.ref pl),v10,v11,v12,v13,v14,v15]/\a0 H7 Hx/\Hx zl=some (.lst (zs.map V.int))/\zs.length<=eF s w i/\Hx pl=some (.lst (fs.map λf=>V.ref f.a))/\zl≠pl/\fs.length=i/\(∀f∈fs,PfAt K Hx f)/\fs.map (·.nm)=gs.take i/\∀(j:Nat) f,fs[j]?=some f->PfO gs (cel s w j) f
theorem ie {P1:Prop} [Decidable P1] {X A B:Prop} (h:P1->X) (b:¬ P1->B):if decide P1=true then X else(if false=true then A else B):=by
 by_cases p:P1
 . exact aV (BN p) (h p)
 . exact aO (by rw[BL]; exact p) (aO BO (b p))
theorem uh {d5 d13 d14:Int} (b5:0<=d5/\d5<3) (n:5<=ns.length/\ns.length<=20/\(d13=1->ns.length=20)):∃ms:List Str,ak (ns.map V.str) (some d5) (some (d5+(3+5 * (if decide (V.int d13=V.int 1)=true then 1 else 0)+2 * (if decide (V.int d14=V.int 1)=true then 1 else 0))))=ms.map V.str/\(∀s∈ms,s∈ns)/\3<=ms.length/\ms.length<=20:=by
 obtain⟨wn,h1,h2,h3⟩:∃wn:Nat,(3+5 * (if decide (V.int d13=V.int 1)=true then(1:Int) else 0)+2 * (if decide (V.int d14=V.int 1)=true then 1 else 0))=(wn:Int)/\3<=wn/\(5<wn->d13=1):=by
   by_cases h:d13=1
   . by_cases h':d14=1
     . exact⟨10,by rw[h,h']; rfl,by decide,λ_=>h⟩
     . exact⟨8,by rw[BE (c:=decide (V.int d14=V.int 1)=true) (by rw[BL]; exact λz=>h' (V.int.inj z)),h]; rfl,by decide,λ_=>h⟩
   . rw[BE (by rw[BL]; exact λz=>h (V.int.inj z))];by_cases h':d14=1
     . exact⟨5,by rw[h']; rfl,by decide,λz=>absurd z (by decide)⟩
     . exact⟨3,by rw[BE (by rw[BL]; exact λz=>h' (V.int.inj z))]; rfl,by decide,λz=>absurd z (by decide)⟩
 rw[h1];obtain⟨a5,rfl⟩:∃a5:Nat,d5=a5:=⟨d5.toNat,by omega⟩
 refine⟨(ns.drop a5).take wn,?_,λs hs=>List.mem_of_mem_drop (CU hs),?_,?_⟩
 . rw[show((a5:Int)+(wn:Int))=((a5+wn:Nat):Int) by omega,mT,D4,EY,EK]
 . rw[Bd,CP];have:=n.1;rcases Bl 5 wn with z|z
   . have:=n.2.2 (h3 z);omega
   . omega
 . rw[Bd,CP];have:=n.2.1;omega
theorem jA {v:V} {k j:Nat} (hj:xs[j]?=some v) (h:j+k=xs.length) (hk:0<k):aY xs (-(k:Int))=some v:=by unfold aY bz;have:=(BC.mp hj).1;rw[BE (by omega),BJ (by omega),D0,show(-(k:Int)+(xs.length:Int)).toNat=j by omega];exact hj
theorem fk (x:Str):cP (.str x) [.str "if",.str "while"]=K13.isO x:=by
 show cP (.str x) ((["if","while"]:List Str).map V.str)=_;rw[K12.inV_map];unfold K13.isO;by_cases h1:x="if"
 . rw[BN (by rw[h1]; exact BU),BN h1]; rfl
 by_cases h2:x="while"
 . rw[BN (by rw[h2]; exact BS _ BU),BN h2,Bool.or_true]
 . rw[BY h1,BY h2,BY]
   . rfl
   . simp [h1,h2]
theorem pP (x:Str):cP (.str x) [.str "else",.str "end"]=K13.isE x:=by
 show cP (.str x) ((["else","end"]:List Str).map V.str)=_;rw[K12.inV_map];unfold K13.isE;by_cases h1:x="else"
 . rw[BN (by rw[h1]; exact BU),BN h1]; rfl
 by_cases h2:x="end"
 . rw[BN (by rw[h2]; exact BS _ BU),BN h2,Bool.or_true]
 . rw[BY h1,BY h2,BY]
   . rfl
   . simp [h1,h2]
theorem jM {ks:List Str} {k:Nat}{o:Option Nat} (h:dh ks b k o) (hn:¬ (K13.kd ks k="else"/\(K13.stk ks k).head?=some b)):dh ks b (k+1) o:=by
 cases o with
 | none =>
   intro j hj z;rcases Bl j k with y|y
   . exact h j y z
   . have:j=k:=by omega
     rw[this] at z;exact hn z
 | some f=>exact⟨DS h.1,h.2⟩
theorem vt {ks:List Str} {k:Nat}(hA:K13.At ks b k 1) (he:K13.kd ks k="else"):dh ks b (k+1) (some k):=⟨CA k,he,by rw[K13.at_one hA]; rfl⟩
theorem AQ {ks:List Str} :dh ks b (b+1) none:=λj hj z=>by have:=(K13.stk_lt ks j b (CI z.2)).1;omega
theorem pf {ks:List Str} {k d:Nat}(hA:K13.At ks b k d) (hd:¬ d=1):¬ (K13.stk ks k).head?=some b:=by
 obtain⟨pre,e,l⟩:=hA;intro z;cases pre with
 | nil=>exact hd (by simpa using l.symm)
 | cons x pre =>
   have nd:=K13.stk_nodup ks k;rw[e] at nd z;have:x=b:=by simpa using z
   rw[this] at nd;simp at nd
theorem oz {k e:Nat} {o:Option Nat}:cP (.int (k:Nat)) [iI o,.int (e:Nat)]=decide (k=e\/o=some k):=by
 have q:∀n:Nat,(V.int (n:Int)=V.int (k:Int)) <-> n=k:=λn=>⟨λz=>by have:=V.int.inj z; omega,λz=>by rw[z]⟩
 cases o with
 | none =>
   show(false || ((((e:Int)==(k:Int))) || false))=_;rw[Bool.false_or,DY,Di,EF];constructor
   . intro z; left; omega
   . rintro (z|z)
     . omega
     . cases z
 | some f =>
   show(((f:Int)==(k:Int)) || (((e:Int)==(k:Int)) || false))=_;rw[DY,Di,Di,<- Bool.decide_or,EF];constructor
   . rintro (z|z)
     . right; rw[show f=k by omega]
     . left; omega
   . rintro (z|z)
     . right; omega
     . left; cases z; rfl
theorem qe {fs:List Pf} (nd:(fs.map (·.nm)).Nodup) {g:Str} (hg:g∈fs.map (·.nm)):∃(j:Nat) (f:Pf),fs[j]?=some f/\f.nm=g/\lk (fs.map Pf.fd) g=some f.fd/\no (fs.map Pf.fd) g=j/\∀(m:Nat) z,m<j->(fs.map λf=>V.str f.nm)[m]?=some z->dD z (.str g)=false:=by
 obtain⟨f,hf,rfl⟩:=Ba.mp hg;obtain⟨j,hj⟩:=Bp hf;have nd':((fs.map Pf.fd).map (·.name)).Nodup:=by rw[CN]; exact nd
 have h1:=eZ nd' (i:=j) (f:=f.fd) (by rw[BI,hj]; rfl);refine⟨j,f,hj,rfl,h1.1,h1.2,λm z hm hz=>?_⟩;rw[BI] at hz;obtain⟨f',hf',rfl⟩:=C7.mp hz;show(f'.nm==f.nm)=false;refine beq_false_of_ne λe=>?_;have a:(fs.map (·.nm))[m]?=some f.nm:=by rw[BI,hf',<- e]; rfl
 have b:(fs.map (·.nm))[j]?=some f.nm:=by rw[BI,hj]; rfl
 have:=(CY (BC.mp a).1 nd).mp (a.trans b.symm);omega
theorem zI {fs:List Pf} (nd:(fs.map (·.nm)).Nodup) {i j:Nat} {f g:Pf} (hi:fs[i]?=some f) (hj:fs[j]?=some g) (e:f.nm=g.nm):i=j:=by
 have a:(fs.map (·.nm))[i]?=some f.nm:=by rw[BI,hi]; rfl
 have b:(fs.map (·.nm))[j]?=some f.nm:=by rw[BI,hj,e]; rfl
 exact(CY (BC.mp a).1 nd).mp (a.trans b.symm)
theorem xC {f:Pf} (a:PfAt K H f) {k:Nat} {w:Rw} (hw:f.fd.rs[k]?=some w):∃r rh,f.rs[k]?=some r/\f.rhs[k]?=some rh/\RHAt K H r rh/\w.k=rh.kind/\(w.k="call"->∃x g p as,rh=.rg (.call x g p as)/\w.c=g):=by have hw:((cg f.rs f.rhs).map (·.w))[k]?=some w:=hw;rw[BI] at hw;obtain⟨x,hx,rfl⟩:=C7.mp hw;obtain⟨r,rh,h1,h2,rfl⟩:=m8 hx;refine⟨r,rh,h1,h2,a.rw_.at_ k r rh h1 h2,rfl,λhk=>?_⟩;obtain⟨x,g,p,as,rfl⟩:=lF (rh:=rh) hk;exact⟨x,g,p,as,rfl,rfl⟩
theorem z8 {f:Pf} (a:PfAt K H f):K13.RowsAt K H f.ra (f.rhs.map RH.kind):=by
 refine⟨f.rs,a.rt,by rw[BA]; exact a.rw_.len,λi r hr=>?_⟩;have hlt:i<f.rhs.length:=by rw[<- a.rw_.len]; exact(BC.mp hr).1
 have e:=BP hlt;have h:=a.rw_.at_ i r _ hr e;obtain⟨rest,hrest⟩:∃rest,(f.rhs[i]).items=V.str (f.rhs[i]).kind :: rest:=by
   generalize f.rhs[i]=rh;cases rh with
   | els=>exact⟨_,rfl⟩
   | fin=>exact⟨_,rfl⟩
   | rg r=>cases r <;> exact⟨_,rfl⟩
 refine⟨rest,?_⟩;have:K13.kd (f.rhs.map RH.kind) i=(f.rhs[i]).kind:=by unfold K13.kd;rw[C4,BI,e];rfl
 rw[this,<- hrest];exact h.it
theorem tU {f:F2.Fd} (w:K13.Wf (F2.kds f)) {k:Nat} {r:Rw} (h:f.rs[k]?=some r) (hc:r.k="call"):(bA f k).take 1=bA f k:=by
 have hk:K13.kd (F2.kds f) k="call":=by rw[gU h,hc]
 obtain⟨hD,_⟩:=iB w h (by rw[hc]; exact gy);refine C9 ?_;generalize bA f k=l at hD;cases hD with
 | back z=>exact BW _
 | two z _ _ _=>rw[hk] at z; exact absurd z (by decide +kernel)
 | one _ _ _ _=>exact BG 1
theorem jU {α β:Type} {R:α->β->Prop}:∀{xs:List α} {ys:List β},Paired R xs ys->∀{i:Nat} {b:β},ys[i]?=some b->∃s,xs[i]?=some s/\R s b
 | _,_,.nil,i,b,h=>by cases h
 | _,_,.cons r t,0,b,h=>by cases h; exact⟨_,rfl,r⟩
 | _,_,.cons r t,i+1,b,h=>jU t h
theorem AK (p:SN×Nat):av 1 (cJ p):=by
 refine av.tuple (n:=0) λd hd=>?_;simp only[Be,CC,or_false] at hd;rcases hd with rfl|rfl
 . exact av.str p.1.2
 . exact av.int _
theorem qU (s:aR):av 3 (bP.D s):=by
 show av 3 (eX s);refine av.tuple (n:=2) λd hd=>?_;simp only[Be,CC,or_false] at hd;rcases hd with rfl|rfl
 . refine av.tuple (n:=1) λd hd=>?_;obtain⟨p,_,rfl⟩:=Ba.mp hd;exact AK p
 . exact av.bool _
theorem A0 (ss:List aR):av 4 (.list (ss.map bP.D)):=av.list λd hd=>by obtain⟨s,_,rfl⟩:=Ba.mp hd;exact qU s
theorem lM {H:Hp}:∀{ss:List aR} {bs:List Addr},Paired (λs b=>bV K H b s) ss bs->ao K H (ss.map bP.D) (bs.map V.ref)
 | _,_,.nil=>by show ao K H [] []; unfold ao; rfl
 | _,_,.cons r t=>ud r.dat (lM t)
theorem mZ {α β:Type} {R:α->β->Prop} {S:β->α->Prop} (f:∀a b,R a b->S b a):∀{xs:List α} {ys:List β},Paired R xs ys->Paired S ys xs
 | _,_,.nil=>.nil
 | _,_,.cons r t=>.cons (f _ _ r) (mZ f t)
theorem yG (s:Nat) (w:Bool) (k:Nat) (hs:s<3):bM s w k<=8:=by unfold bM; split <;> omega
theorem lA (s:Nat) (w:Bool):∀k,eF s w k<=14
 | 0=>BG _
 | k+1=>Bk (Nat.sub_le _ _) (lA s w k)
end K51
namespace K51
open PySem L2 Gx Fl K55 Bg Wk Wh
def top (i:Nat):Stmt:=PySem.Challenge.pw_stopglass_k51_stations.main.body.getD i (.Pass ⟨0,0,0,0⟩)
abbrev lq:Stmt:=top 6
abbrev jo:Stmt:=top 7
abbrev l7:Stmt:=top 8
abbrev lV:Stmt:=top 9
abbrev m6:Stmt:=top 10
abbrev jV:Stmt:=top 11
abbrev l8:Stmt:=top 12
abbrev jr:Stmt:=top 13
abbrev kC:Stmt:=lG (top 14) 0
abbrev ju:Stmt:=lG (top 14) 1
abbrev lY:Stmt:=lG (top 14) 2
abbrev ko:Stmt:=top 16
abbrev kj:Stmt:=top 20
abbrev lK:Stmt:=top 21
abbrev jq:Stmt:=top 22
abbrev lD:Stmt:=top 23
abbrev jd:Stmt:=top 25
abbrev ja:Stmt:=top 26
abbrev jm:Stmt:=top 27
abbrev kR:Stmt:=top 28
abbrev kf:Stmt:=top 29
abbrev lC:Stmt:=top 30
abbrev lE:Stmt:=top 31
abbrev jp:Stmt:=top 32
abbrev lZ:Stmt:=top 33
abbrev lH:Stmt:=top 34
abbrev mB:Stmt:=top 35
abbrev kL:Stmt:=top 36
abbrev jT:Stmt:=top 37
abbrev ka:Stmt:=top 38
abbrev kB:Stmt:=top 39
abbrev lm:Stmt:=top 40
abbrev jx:Stmt:=top 41
abbrev lQ:Stmt:=top 42
set_option genInjectivity false in
set_option genSizeOf false in
structure Adr where
 b8:Addr
 rX:Addr
 sk:FuncData
 rd:Addr
 su:FuncData
 rA:Addr
 sK:FuncData
 qy:Addr
 rq:FuncData
 r6:Addr
 sI:FuncData
 rj:Addr
 sw:FuncData
 qz:Addr
 sH:FuncData
 r9:Addr
 sJ:FuncData
 qv:Addr
 rm:FuncData
 qw:Addr
 rn:FuncData
 qx:Addr
 rp:FuncData
 rW:Addr
 sj:FuncData
 rY:Addr
 so:FuncData
 rZ:Addr
 sr:FuncData
 rf:Addr
 sv:FuncData
 rB:Addr
 sL:FuncData
 rE:Addr
 sO:FuncData
 rL:Addr
 sU:FuncData
 rF:Addr
 sP:FuncData
 rC:Addr
 sM:FuncData
 rP:Addr
 sY:FuncData
 rQ:Addr
 sZ:FuncData
 rD:Addr
 sN:FuncData
 rO:Addr
 sX:FuncData
 rS:Addr
 sh:FuncData
 rN:Addr
 sW:FuncData
 rM:Addr
 sV:FuncData
 rT:Addr
 si:FuncData
 rR:Addr
 sf:FuncData
 rH:Addr
 sR:FuncData
 rG:Addr
 sQ:FuncData
 rJ:Addr
 sS:FuncData
 rK:Addr
 sT:FuncData
 rV:Addr
 jO:FuncData
 mC:Addr
 mD:Addr
structure Txt (K:W.Frag) (mg:Str->Option Value) (t:Adr):Prop where
 names_of:DefOk K mg "names_of" lq ["function"] t.rX t.sk
 reads:DefOk K mg "reads" jo ["row"] t.rd t.su
 gives:DefOk K mg "gives" l7 ["row"] t.rA t.sK
 atoms_of:DefOk K mg "atoms_of" lV ["row"] t.qy t.rq
 each_once:DefOk K mg "each_once" m6 ["names"] t.r6 t.sI
 ways:DefOk K mg "ways" jV ["rows"] t.rj t.sw
 begins_of:DefOk K mg "begins_of" l8 ["rows"] t.qz t.sH
 firsts_behind:DefOk K mg "firsts_behind" jr ["rows","begins"] t.r9 t.sJ
 qu:IniOk K t.b8 "Flows.__init__" kC ["self","program"] t.qv t.rm
 iK:MetOk K t.b8 "row_at" "Flows.row_at" ju ["self","frame"] t.qw t.rn
 iL:MetOk K t.b8 "ways_at" "Flows.ways_at" lY ["self","frame"] t.qx t.rp
 moved:DefOk K mg "moved" ko ["flows","chain","way"] t.rW t.sj
 plan:DefOk K mg "plan" kj ["program","name"] t.rY t.so
 plan_in:DefOk K mg "plan_in" lK ["flows","name"] t.rZ t.sr
 stops_behind:DefOk K mg "stops_behind" jq ["flows","chain","wait"] t.rf t.sv
 is_in_place:DefOk K mg "is_in_place" lD ["flows","chain"] t.rB t.sL
 jP:DefOk K mg "_law_cell_at" jd ["_law_script","_law_k"] t.rE t.sO
 mH:DefOk K mg "_law_names" ja ["_law_cell","_law_many"] t.rL t.sU
 mF:DefOk K mg "_law_digits" jm ["_law_number","_law_sizes"] t.rF t.sP
 iM:DefOk K mg "_law_atom" kR ["_law_digit","_law_cell","_law_words"] t.rC t.sM
 t9:DefOk K mg "_law_row" kf ["_law_cell","_law_words","_law_calls"] t.rP t.sY
 mI:DefOk K mg "_law_rows" lC ["_law_cells","_law_words","_law_calls","_law_answer"] t.rQ t.sZ
 mE:DefOk K mg "_law_call" lE ["_law_x","_law_called","_law_words"] t.rD t.sN
 t8:DefOk K mg "_law_program" jp ["_law_script","_law_most"] t.rO t.sX
 jQ:DefOk K mg "_law_shut" lZ ["_law_rows_here","_law_at"] t.rS t.sh
 ga:DefOk K mg "_law_past" lH ["_law_rows_here","_law_at"] t.rN t.sW
 l_on:DefOk K mg "_law_on" mB ["_law_rows_here","_law_at"] t.rM t.sV
 tD:DefOk K mg "_law_whole" kL ["_law_found"] t.rT t.si
 mJ:DefOk K mg "_law_rows_of" jT ["_law_program_here","_law_name"] t.rR t.sf
 t5:DefOk K mg "_law_folds" ka ["_law_program_here","_law_chain","_law_inner"] t.rH t.sR
 sy:DefOk K mg "_law_due" kB ["_law_program_here","_law_chain","_law_wait"] t.rG t.sQ
 t6:DefOk K mg "_law_formed" lm ["_law_stations"] t.rJ t.sS
 mG:DefOk K mg "_law_meets" jx ["_law_program_here","_law_name","_law_stations"] t.rK t.sT
 law:DefOk K mg "law" lQ ["_law_script"] t.rV t.jO
 bj:ClsOk K mg "Flows" t.b8
 B6:cp K t.b8 "last"
 jR:cp K t.b8 "number_of"
 mK:cp K t.b8 "folded_of"
 tF:cp K t.b8 "params_of"
 mL:cp K t.b8 "rows_of"
 tE:cp K t.b8 "names_in"
 mM:cp K t.b8 "ways_in"
 B5:∃tk,mg "MOST_STATIONS"=some (.int 200 tk)
 B4:∃tk,mg "MOST_FRAMES"=some (.int 3 tk)
 B3:mg "GIVING_KINDS"=some (.ref t.mC)
 B8:∀H:Hp,a9 K H t.mC (K12.giving.map V.str)
 B2:mg "ATOM_PLACES"=some (.ref t.mD)
 B9:kh K t.mD K12.tabl
 b_len:mg "len"=none
 b_list:mg "list"=none
 b_tuple:mg "tuple"=none
 b_isinstance:mg "isinstance"=none
 b_range:mg "range"=none
 b_enumerate:mg "enumerate"=none
 b_dict:mg "dict"=none
 b_str:mg "str"=none
 b_int:mg "int"=none
 b_bool:mg "bool"=none
 b_all:mg "all"=none
 b_max:mg "max"=none
 b_set:mg "set"=none
 bl:∀(s:Shared) (u:Value),BindsTo s t.jO ⟨[u],[]⟩ [("_law_script",u)]
section
variable {P:Program} {w:World} {K:W.Frag} {mg:Str->Option Value} {base:Heap} {t:Adr}
def A1 (K:W.Frag) (t:Adr):Sp:=λvs H Q _=>∃(x dx p:Addr) (fns:List F2.Fd),vs=[.ref x,.ref p]/\H x=some (.ins t.b8 dx [])/\aA K (cK x H) p (fns.map λf=>V.ref f.fa)/\fns≠[]/\fns.length<=12/\(∀f∈fns,F2.FnAt K (cK x H) f)/\(fns.map (·.name)).Nodup /\
 ∀H',a0 (cK x H) H'->F2.FlowsAt K t.b8 H' x fns->Q .non H'
def dJ (K:W.Frag) (t:Adr) (H:Hp) (x:Addr) (fns:List F2.Fd):Prop:=F2.FlowsAt K t.b8 H x fns/\Pg fns
theorem dJ.mono {H H':Hp} {x:Addr} {fns:List F2.Fd} (h:dJ K t H x fns) (e:a0 H H'):dJ K t H' x fns:=⟨h.1.mono e,h.2⟩
def tX (K:W.Frag) (t:Adr):Sp:=λvs H Q _=>∃(x fa:Addr) (fns:List F2.Fd) (p:SN×Nat) (f:F2.Fd) (w:Rw),vs=[.ref x,.ref fa]/\dJ K t H x fns/\a9 K H fa [.str p.1.1,.int p.2]/\AtW fns p f w/\Q (.ref w.r) H
def wb (K:W.Frag) (t:Adr):Sp:=λvs H Q _=>∃(x fa:Addr) (fns:List F2.Fd) (p:SN×Nat) (f:F2.Fd) (w:Rw),vs=[.ref x,.ref fa]/\dJ K t H x fns/\a9 K H fa [.str p.1.1,.int p.2]/\AtW fns p f w/\K13.isE w.k=false/\∀q,a9 K H q (K13.natsV (bA f p.2))->Q (.ref q) H
def x8 (K:W.Frag) (t:Adr):Sp:=λvs H Q _=>∃(x ca:Addr) (fns:List F2.Fd) (p:SN×Nat) (rest:List (SN×Nat)) (f:F2.Fd) (w:Rw) (j to_:Nat),vs=[.ref x,.ref ca,.int j]/\dJ K t H x fns/\bU K H ca (p :: rest)/\AtW fns p f w/\K13.isE w.k=false/\(bA f p.2)[j]?=some to_/\rest.length<=3/\∀ca' H',a0 H H'->bU K H' ca' ((p.1,to_) :: rest)->Q (.ref ca') H'
def xb (K:W.Frag) (t:Adr):Sp:=λvs H Q _=>∃(x ca:Addr) (fns:List F2.Fd) (p:SN×Nat) (rest:List (SN×Nat)) (f:F2.Fd) (w:Rw),vs=[.ref x,.ref ca]/\dJ K t H x fns/\bU K H ca (p :: rest)/\AtW fns p f w/\w.k="call"/\rest.length<=3/\∀H',a0 H H'->Q (.bl (bh fns p.1.1 w.c rest.length)) H'
def tQ (K:W.Frag) (t:Adr):Sp:=λvs H Q _=>∃(x ca:Addr) (fns:List F2.Fd) (g:SN) (p:SN×Nat) (rest:List (SN×Nat)) (wt:Bool),vs=[.ref x,.ref ca,.bl wt]/\dJ K t H x fns/\bU K H ca (p :: rest)/\VS fns g (p :: rest,wt) /\
 ∀l H' bs,a0 H H'->H l=none->H' l=some (.lst (bs.map V.ref))->Paired (λs b=>bV K H' b s) (bF fns (p :: rest,wt)) bs->Q (.ref l) H'
def zY (K:W.Frag) (t:Adr):Sp:=λvs H Q _=>∃(x:Addr) (fns:List F2.Fd) (h:F2.Fd),vs=[.ref x,.str h.name]/\dJ K t H x fns/\h∈fns/\(en fns 3 (az h.name) []).length<=200 /\
 ∀l H' bs ss,a0 H H'->H l=none->H' l=some (.lst (bs.map V.ref))->Paired (cf K H' fns ss) ss bs->Pln fns (az h.name) ss->Q (.ref l) H'
structure PrA (K:W.Frag) (H:Hp) (p:Addr) (fns:List F2.Fd):Prop where
 sq:aA K H p (fns.map λf=>V.ref f.fa)
 ne:fns≠[]
 len:fns.length<=12
 all:∀f∈fns,F2.FnAt K H f
 pg:Pg fns
def xu (K:W.Frag) (t:Adr):Sp:=λvs H Q _=>∃(p:Addr) (fns:List F2.Fd) (h:F2.Fd),vs=[.ref p,.str h.name]/\PrA K H p fns/\h∈fns/\(en fns 3 (az h.name) []).length<=200 /\
 ∀l H' bs ss,a0 H H'->H l=none->H' l=some (.lst (bs.map V.ref))->Paired (cf K H' fns ss) ss bs->Pln fns (az h.name) ss->Q (.ref l) H'
def yE (K:W.Frag):Sp:=λvs H Q _=>∃(a:Addr) (ns:List Int) (k:Int),vs=[.ref a,.int k]/\aA K H a (ns.map V.int)/\ns.length<=63/\0<=k/\∀z,Q (.int z) H
theorem c8 {n:Nat} (h:n<1000000):n<sizeLine:=by
 have:(1000000:Nat)<sizeLine:=by decide
 omega
theorem oQ (xs:List V) {z:Int} (h0:0<=z) (h1:z<=xs.length):ak xs none (some z)=xs.take z.toNat:=by
 unfold ak;have e:HT.sIx xs.length xs.length (some z)=z.toNat:=by
   obtain⟨k,rfl⟩:∃k:Nat,z=(k:Int):=⟨z.toNat,by omega⟩
   rw[HT.sIx_nat];omega
 rw[e];show(xs.drop 0).take (z.toNat - 0)=_;simp
def wx (K:W.Frag):Sp:=λvs H Q _=>∃(c:Int) (m:Nat),vs=[.int c,.int m]/\m<=26/\∀l H' ns,H l=none->a0 H H'->H' l=some (.lst (ns.map V.str))->ns.length=m->PolOk ns->Q (.ref l) H'
def Aj (K:W.Frag):Sp:=λvs H Q _=>∃(n:Int) (a:Addr) (zs:List Int),vs=[.int n,.ref a]/\aA K H a (zs.map V.int)/\(∀z∈zs,0<z/\z<2 ^ 64)/\zs.length<=20/\∀l H',H l=none->a0 H H'->H' l=some (.lst ((eu n zs).map V.int))->Q (.ref l) H'
def zK (K:W.Frag):Sp:=λvs H Q _=>∃(d c:Int) (wl:Addr) (ns:List Str),vs=[.int d,.int c,.ref wl]/\aA K H wl (ns.map V.str)/\0<=d/\∀v,bB ns v->Q v H
def uS (K:W.Frag):Sp:=λvs H Q _=>∃(c:Int) (wl cl:Addr) (ns:List Str) (cs:List Cl),vs=[.int c,.ref wl,.ref cl]/\aA K H wl (ns.map V.str)/\0<ns.length/\ns.length<=100/\aA K H cl (cs.map λx=>V.ref x.a)/\0<cs.length/\cs.length<=100/\(∀x∈cs,ClAt K H x) /\
 ∀r H' rg,a0 H H'->RGAt K H' r rg->gV ns (cs.map (·.nm)) rg->Q (.ref r) H'
def yC (K:W.Frag):Sp:=λvs H Q _=>∃(el wl cl:Addr) (zs:List Int) (an:Int) (ns:List Str) (cs:List Cl),vs=[.ref el,.ref wl,.ref cl,.int an]/\aA K H el (zs.map V.int)/\zs.length<=14/\aA K H wl (ns.map V.str)/\0<ns.length/\ns.length<=100/\aA K H cl (cs.map λx=>V.ref x.a)/\0<cs.length/\cs.length<=100/\(∀x∈cs,ClAt K H x) /\
 ∀tr H' rs rhs,a0 H H'->a9 K H' tr (rs.map V.ref)->RowsH K H' rs rhs->K13.Wf (rhs.map RH.kind)->di (rhs.map RH.kind)->rhs.length<=3 * zs.length+1->(∀rh∈rhs,g8 ns (cs.map (·.nm)) rh)->(∀M,2<=M->bv M (rhs.map RH.kind)<=zs.length * M+1)->Q (.ref tr) H'
def wE (K:W.Frag):Sp:=λvs H Q _=>∃(x:Str) (wl:Addr) (ns:List Str) (c:Cl),vs=[.str x,.ref c.a,.ref wl]/\aA K H wl (ns.map V.str)/\3<=ns.length/\ClAt K H c/\x∈ns/\∀tp r H' rg,a0 H H'->a9 K H' tp [.ref r]->RGAt K H' r rg->gV ns [c.nm] rg->rg.kind="call"->Q (.ref tp) H'
structure PgA (K:W.Frag) (H:Hp) (p:Addr) (fs:List Pf) (cs:List Nat):Prop where
 sq:aA K H p (fs.map λf=>V.ref f.a)
 ne:fs≠[]
 len:fs.length<=4
 at_:∀f∈fs,PfAt K H f
 ok:PrgO fs cs
 cap:∀i,i<fs.length->cap cs 2 i<=200
def tm (K:W.Frag):Sp:=λvs H Q _=>∃(a:Addr) (sc:List Int),vs=[.ref a,.int 14]/\aA K H a (sc.map V.int)/\sc.length<=63/\∀l H' fs cs,a0 H H'->H l=none->H' l=some (.lst (fs.map λf=>V.ref f.a))->PgA K H' l fs cs->Q (.ref l) H'
def xR (K:W.Frag):Sp:=λvs H Q _=>∃(a:Addr) (ks:List Str) (b e:Nat),vs=[.ref a,.int b]/\K13.RowsAt K H a ks/\K13.Wf ks/\ks.length<=100/\K13.Ends ks b e/\∀o p H',Shut ks b o e->a0 H H'->H' p=some (.tup [iI o,.int e])->Q (.ref p) H'
def uB (K:W.Frag):Sp:=λvs H Q _=>∃(a:Addr) (ks:List Str) (k r:Nat),vs=[.ref a,.int k]/\K13.RowsAt K H a ks/\K13.Wf ks/\di ks/\ks.length<=100/\k+1<ks.length/\K13.Beh ks k r/\∀H',a0 H H'->Q (.int r) H'
def tV (K:W.Frag):Sp:=λvs H Q _=>∃(a:Addr) (ks:List Str) (k:Nat) (l:List Nat),vs=[.ref a,.int k]/\K13.RowsAt K H a ks/\K13.Wf ks/\di ks/\ks.length<=100/\k<ks.length/\¬ K13.kd ks k="back"/\K13.Due ks k (some l)/\∀p H',a0 H H'->H p=none->H' p=some (.lst (l.map λr=>V.int (r:Nat)))->Q (.ref p) H'
def zn (K:W.Frag):Sp:=λvs H Q _=>∃(i:Int),vs=[.int i]/\Q (.bl true) H
def zo (K:W.Frag):Sp:=λvs H Q _=>∃(p:Addr) (fs:List Pf) (cs:List Nat) (f:Pf),vs=[.ref p,.str f.nm]/\PgA K H p fs cs/\f∈fs/\∀H',a0 H H'->Q (.ref f.ra) H'
def zy (K:W.Frag):Sp:=λvs H Q _=>∃(p ca:Addr) (fs:List Pf) (cs:List Nat) (g:Str) (q:SN×Nat) (rest:List (SN×Nat)),vs=[.ref p,.ref ca,.str g]/\PgA K H p fs cs/\bU K H ca (q :: rest)/\rest.length<=3/\g∈fs.map (·.nm)/\q.1.1∈fs.map (·.nm)/\∀H',a0 H H'->Q (.bl (bh (fs.map Pf.fd) q.1.1 g rest.length)) H'
def yB (K:W.Frag):Sp:=λvs H Q _=>∃(p ca:Addr) (fs:List Pf) (cs:List Nat) (g:SN) (q:SN×Nat) (rest:List (SN×Nat)) (wt:Bool),vs=[.ref p,.ref ca,.bl wt]/\PgA K H p fs cs/\bU K H ca (q :: rest)/\VS (fs.map Pf.fd) g (q :: rest,wt) /\
 ∀l H' bs,a0 H H'->H l=none->H' l=some (.lst (bs.map V.ref))->Paired (λs b=>bV K H' b s) (bF (fs.map Pf.fd) (q :: rest,wt)) bs->Q (.ref l) H'
def zO (K:W.Frag):Sp:=λvs H Q _=>∃(l:Addr) (bs:List Addr) (fns:List F2.Fd) (ss:List aR),vs=[.ref l]/\aA K H l (bs.map V.ref)/\Paired (cf K H fns ss) ss bs/\ss≠[]/\ss.length<=200/\∀H',a0 H H'->Q (.bl true) H'
def vE (K:W.Frag):Sp:=λvs H Q _=>∃(p l:Addr) (fs:List Pf) (cs:List Nat) (f:Pf) (bs:List Addr) (ss:List aR),vs=[.ref p,.str f.nm,.ref l]/\PgA K H p fs cs/\f∈fs/\aA K H l (bs.map V.ref)/\Paired (cf K H (fs.map Pf.fd) ss) ss bs/\Pln (fs.map Pf.fd) (az f.nm) ss/\∀H',a0 H H'->Q (.bl true) H'
theorem PgA.mono {H H':Hp} {p:Addr} {fs:List Pf} {cs:List Nat} (h:PgA K H p fs cs) (e:a0 H H'):PgA K H' p fs cs:=⟨e.seq h.sq,h.ne,h.len,λf hf=>(h.at_ f hf).mono e,h.ok,h.cap⟩
def sp_law (K:W.Frag):Sp:=λvs H Q _=>∃(a:Addr) (ns:List Int),vs=[.ref a]/\aA K H a (ns.map V.int)/\ns.length<=63/\∀H',Q (.bl true) H'
theorem dB:0<=sizeLine:=by decide
theorem bt:1<=sizeLine:=by decide
theorem ay:2<=sizeLine:=by decide
theorem le3:3<=sizeLine:=by decide
theorem fZ:4<=sizeLine:=by decide
theorem at0 {x:V} {r:List V}:aY (x :: r) 0=some x:=K13.at0
theorem jB (xs:List V) (v:V):ak (xs++[v]) none (some (-1))=xs:=by
 unfold ak;have h:HT.sIx (xs++[v]).length (xs++[v]).length (some (-1))=xs.length:=by rw[BH];unfold HT.sIx;show(if(-1:Int)<0 then((-1:Int)+((xs.length+[v].length:Nat):Int)).toNat else min (Int.toNat (-1)) (xs.length+[v].length))=xs.length;rw[BJ (by decide)];show((-1:Int)+((xs.length+1:Nat):Int)).toNat=_;omega
 rw[h,HT.sIx_none,Dt,Nat.sub_zero];exact List.take_left
theorem dJ.ob {H:Hp} {x:Addr} {fns:List F2.Fd} (h:dJ K t H x fns):∃dx fs,H x=some (.ins t.b8 dx fs)/\fs.lookup ("row_at":Str)=none/\fs.lookup ("ways_at":Str)=none:=by obtain⟨dx,fz,d,kv,nl,wl,h0,hO,_⟩:=h.1.ob;exact⟨dx,_,hO.ob,(qR _ _).1,(qR _ _).2⟩
theorem fm {H H':Hp} {rest:List (SN×Nat)} {yr:List V} (h:Paired (dF K H) rest yr) (e:a0 H H'):Paired (dF K H') rest yr:=Paired.mapP h λp v q=>q.ts (.of e)
theorem st0 {G:Hp} {a1 a2 a3:Addr} {g:SN} (h1:a9 K G a1 [.str g.1,.int 0]) (h2:a9 K G a2 [.ref a1]) (h3:a9 K G a3 [.ref a2,.bl false]):bV K G a3 ([(g,0)],false):=⟨a2,h3,bU.mk (fa:=a1) (yr:=[]) h2 h1 .nil⟩
theorem vj {x y:Addr} (i j:Int) (h:i=j):[V.ref x,.ref y,.int i]=[V.ref x,.ref y,.int j]:=by rw[h]
theorem vi2 {x a b:Int} (h:a=b):[V.int x,.int a]=[V.int x,.int b]:=by rw[h]
end
end K51
namespace K51
open PySem L2 K12
section
variable {P:Program} {w:World} {K:W.Frag} {mg:Str->Option Value} {base:Heap} {t:Adr}
theorem A7:FnScope ["names"] ["names"] (aW m6):=by walk_at "s"
theorem p9 (T:Txt K mg t):FnOk P w K mg base CX0 1 t.r6 t.sI ["names"] (K12.sp_each_once K):=by
 refine T.each_once.F.ok A7 (λvs H Q E h=>?_) (λcdv A outer s H vs Q E hr h=>?_)
 . obtain⟨_,_,rfl,_⟩:=h;rfl
 . obtain⟨p0,ss,rfl,hS,hl,q⟩:=h;refine⟨_,(aC (@aQ _ _ _ _ (ci (zi rfl) (by rfl) T.b_list gp (a4 (ci (uE rfl) (by rfl) T.b_dict yY (a4 (dL (N':=["name"]) (js:=[none]) (by kernel_rfl) rfl (cq (pv 0)) cZ (λ_ _ _ _=>(ai (i:=0) (show(["name"]:List Str).Nodup by decide +kernel) rfl (Or.inl rfl) (.inr rfl))) (λ_ _ _ _=>da) (λ_ _ _ _=>(aS (a4 (pv 0) (a4 bQ a7 rfl) rfl)))) a7 rfl)) a7 rfl))) aX),?_⟩;refine⟨_,rfl,p0,rfl,⟨_,hS⟩,λp hp=>fe (xs:=ss.map V.str) (by rw[BA]; omega) (λi acc H2=>i<=ss.length/\a0 H H2/\H2 p=some (.lst acc)/\∃ps:List Addr,acc=ps.map V.ref/\Paired (λa (kv:aD×V)=>a9 K H2 a [kV kv.1,kv.2]) ps (bZ (ss.take i))) ⟨BW _,a0.new hp,a8,[],rfl,.nil⟩ ?_ ?_ ?_⟩
   . rintro i acc H2 hi ⟨hi',s2,h2,ps,rfl,hps⟩;refine⟨h2,?_,s2.seq hS⟩;have:=Paired.length hps;rw[BA,this];unfold bZ;rw[BA,Bd];omega
   . rintro i x acc H2 hx ⟨hi',s2,h2,ps,rfl,hps⟩;have hi:i<ss.length:=by have:=(BC.mp hx).1;rw[BA] at this;exact this
     rw[BI] at hx;have hx:V.str ss[i]=x:=by simpa [hi] using hx
     subst hx;refine⟨_,rfl,(by show 2<=sizeLine; decide),λa ha=>?_⟩;have hap:a≠p:=λz=>by rw[z,h2] at ha; cases ha
     have e:(upd H2 a (.tup [V.str ss[i],V.bl true])) p=some (.lst (ps.map V.ref)):=by rw[aH hap.symm]; exact h2
     refine⟨e,hi,?_,a8,ps++[a],by rw[BK]; rfl,?_⟩
     . exact(s2.trans (a0.new ha)).upd hp
     . have e2:bZ (ss.take (i+1))=bZ (ss.take i)++[(Sum.inr ss[i],V.bl true)]:=by unfold bZ;rw[Bm,BK];simp [hi]
       rw[e2];refine Paired.snoc (Paired.mapP hps λb kv z=>sqT_lst ((a0.new ha).tup z) e) ?_;exact a9.of (by rw[aH hap]; exact a8)
   . rintro acc H2 ⟨hi',s2,h2,ps,rfl,hps⟩;have e0:ss.take (ss.map V.str).length=ss:=by rw[BA]; exact Bw
     rw[e0] at hps;refine⟨p,ps,bZ ss,rfl,aA.of h2,hps,by unfold bZ; rw[BA]; omega,λd hd=>?_⟩;rw[z6];refine⟨d,bZ (onceL ss),rfl,a8,λl hl'=>?_⟩;rw[u9];exact q l _ ((s2.trans (a0.new hd)).trans (a0.new hl')) (s2.free ((a0.new hd).free hl')) a8
theorem xf:FnScope ["row"] ["row"] (aW l7):=by walk_at "s"
theorem x4 (T:Txt K mg t):FnOk P w K mg base CX0 1 t.rA t.sK ["row"] (K12.sp_gives K):=by
 refine T.gives.F.ok xf (λvs H Q E h=>?_) (λcdv A outer s H vs Q E hr h=>?_)
 . obtain⟨_,_,_,_,rfl,_⟩:=h;rfl
 . obtain⟨r,xs,g,as,rfl,hr,hrow,q⟩:=h;refine⟨_,(aC (@aQ _ _ _ _ (@kY _ _ _ _ _ _ _ _ (aL dz (aB aG (pv 0) a6 (λ_ _=>rfl)) (p8 T.B3) (by with_unfolding_all rfl)) (aB aG (pv 0) a6 (λ_ _=>rfl)) gi)) aX),?_⟩;obtain⟨kd,h0,hc⟩:=zU hrow;refine⟨_,rfl,r,xs,_,_,rfl,rfl,hr,h0,t.mC,giving.map V.str,rfl,.inr (T.B8 H),rfl,zp,_,rfl,?_⟩;rcases hc with⟨x,rfl,e,h1⟩|⟨rfl,e⟩
   . exact aV e ⟨_,rfl,r,xs,_,_,rfl,rfl,hr,h1,q⟩
   . exact aO (xm e) q
theorem xS:FnScope ["row"] ["row"] (aW lV):=by walk_at "s"
theorem wM (T:Txt K mg t):FnOk P w K mg base CX0 1 t.qy t.rq ["row"] (K12.sp_atoms_of K):=by
 refine T.atoms_of.F.ok xS (λvs H Q E h=>?_) (λcdv A outer s H vs Q E hr h=>?_)
 . obtain⟨_,_,_,_,rfl,_⟩:=h;rfl
 . obtain⟨r,xs,g,as,rfl,hr,hrow,hl,q⟩:=h;refine⟨_,(aC (aT (aL am (aB aG (pv 0) a6 (λ_ _=>rfl)) af (aN _)) (@aE _ _ _ (@aQ _ _ _ _ (ci lP (by rfl) T.b_list gp (a4 (aB aG (pv 0) a6 (λ_ _=>rfl)) a7 rfl)))) aX) (@aE _ _ _ (@aQ _ _ _ _ (dL (N':=["place","row"]) (js:=[none,some 0]) (by kernel_rfl) rfl (gb (aB AJ (p8 T.B2) (aB aG (pv 0) a6 (λ_ _=>rfl)) (λ_ _=>rfl))) cZ (λ_ _ _ _=>(ai (i:=0) (show(["place","row"]:List Str).Nodup by decide +kernel) rfl (Or.inl rfl) (.inr rfl))) (λ_ _ _ _=>da) (λ_ _ _ _=>(aB (show cM _ (dw K) from aG) (pv 1) (pv 0) (λ_ _=>rfl))))))),?_⟩;obtain⟨kd,h0,hc⟩:=yq hrow;refine⟨_,rfl,r,xs,_,_,rfl,rfl,hr,h0,rfl,_,rfl,?_⟩;rcases hc with⟨rfl,p,h3,hp⟩|⟨hne,pl,hk,hpl,hat⟩
   . exact aV (BN rfl) ⟨_,rfl,r,xs,_,_,rfl,rfl,hr,h3,p,as,rfl,.inr hp,λl hl=>q l _ (a0.new hl) hl a8⟩
   . refine aO (λh=>hne (V.str.inj (eQ h))) ?_;refine⟨_,rfl,r,xs,_,_,rfl,rfl,hr,h0,t.mD,tabl,_,_,rfl,rfl,T.B9,hk,λa ha=>?_⟩;refine⟨a,rfl,⟨_,ha⟩,λp hp=>kI (xs:=pl.map V.int) (by rw[BA]; omega) (λi acc H2=>acc=as.take i/\H2=upd H p (.lst acc)) ⟨rfl,rfl⟩ ?_ ?_ ?_⟩
     . rintro i acc H2 hi ⟨rfl,rfl⟩;exact⟨a8,by rw[Bd]; omega,(a0.new hp).tup ha⟩
     . rintro i x acc H2 hx ⟨rfl,rfl⟩;have hi:i<as.length:=by have:=(BC.mp hx).1;rw[BA] at this;omega
       obtain⟨p1,hp1,hp2⟩:=hat i as[i] (by simp [hi]);rw[BI,hp1] at hx;have hx:V.int p1=x:=by simpa using hx
       subst hx;refine⟨_,rfl,_,rfl,r,xs,_,_,rfl,rfl,(a0.new hp).tup hr,hp2,a8,?_,kX⟩;rw[Bm];simp [hi]
     . rintro acc H2 ⟨rfl,rfl⟩;have e:(as.take (pl.map V.int).length)=as:=by rw[BA,hpl]; exact Bw
       exact q p _ (a0.new hp) hp (by rw[a8,e])
theorem ur:FnScope ["row"] ["row"] (aW jo):=by walk_at "s"
theorem AL (T:Txt K mg t):FnOk P w K mg base CX0 2 t.rd t.su ["row"] (K12.sp_reads K):=by
 have G_each_once:=p9 (P:=P) (w:=w) (base:=base) T;have G_atoms_of:=wM (P:=P) (w:=w) (base:=base) T;refine T.reads.F.ok ur (λvs H Q E h=>?_) (λcdv A outer s H vs Q E hr h=>?_)
 . obtain⟨_,_,_,_,rfl,_⟩:=h;rfl
 . obtain⟨r,xs,g,as,rfl,hrw,hrow,hl,hat,q⟩:=h;refine⟨_,(aC (@aQ _ _ _ _ (ah T.each_once G_each_once (hr.mono (by decide)) (a4 (dL (N':=["atom"]) (js:=[none]) (by kernel_rfl) rfl (cq (ah T.atoms_of G_atoms_of (hr.mono (by decide)) (a4 (pv 0) a7 rfl))) cZ (λ_ _ _ _=>(ai (i:=0) (show(["atom"]:List Str).Nodup by decide +kernel) rfl (Or.inl rfl) (.inr rfl))) (λ_ _ _ _=>(lI (cu (au (show bo _ (.builtin "isinstance") (Ae K) from kQ) (by rfl) T.b_isinstance fJ (a4 (pv 0) (a4 (fW (v:=V.ty "str") rfl T.b_str vK rfl) a7 rfl) rfl))))) (λ_ _ _ _=>(pv 0))) a7 rfl))) aX),?_⟩;refine⟨_,rfl,r,xs,g,as,rfl,hrw,hrow,hl,λl0 H1 s1 n1 e1=>?_⟩;refine⟨l0,rfl,⟨_,aA.of e1⟩,λp hp=>fe (xs:=as) (by omega) (λi acc H2=>acc=(cQ (as.take i)).map V.str/\H2=upd H1 p (.lst acc)) ⟨rfl,rfl⟩ ?_ ?_ ?_⟩
   . rintro i acc H2 hi ⟨rfl,rfl⟩;refine⟨a8,?_,(a0.new hp).seq (aA.of e1)⟩;have:=lN (as.take i);rw[BA];rw[Bd] at this;omega
   . rintro i x acc H2 hx ⟨rfl,rfl⟩;have hi:i<as.length:=(BC.mp hx).1;have e2:cQ (as.take (i+1))=cQ (as.take i)++cQ [x]:=by rw[Bm,hx,yp];rfl
     rcases hat x (BQ hx) with⟨s,rfl,hn⟩|⟨z,rfl⟩
     . refine⟨_,rfl,_,_,_,true,rfl,.str _,rfl,_,rfl,?_⟩;refine⟨_,rfl,a8,?_,kX⟩;rw[e2,BK];rfl
     . refine⟨_,rfl,_,_,_,false,rfl,.int _,rfl,_,rfl,?_⟩;refine⟨?_,?_⟩
       . rw[e2,ym,CJ]
       . rfl
   . rintro acc H2 ⟨rfl,rfl⟩;rw[Bw];have hle:=lN as;exact⟨p,cQ as,rfl,aA.of a8,by omega,λl H3 s3 n3 e3=>q l H3 ((s1.trans (a0.new hp)).trans s3) (s1.free ((a0.new hp).free n3)) e3⟩
theorem iQ:FnScope ["function","found","row","given"] ["function"] (aW lq):=by walk_at "s"
theorem wW (T:Txt K mg t):FnOk P w K mg base CX0 3 t.rX t.sk ["function"] (K12.sp_names_of K):=by
 have G_each_once:=p9 (P:=P) (w:=w) (base:=base) T;have G_gives:=x4 (P:=P) (w:=w) (base:=base) T;have G_reads:=AL (P:=P) (w:=w) (base:=base) T;refine T.names_of.F.ok iQ (λvs H Q E h=>?_) (λcdv A outer s H vs Q E hr h=>?_)
 . obtain⟨_,_,_,rfl,_⟩:=h;rfl
 . obtain⟨f,ps,ds,rfl,hf,q⟩:=h;refine⟨_,(aC (@aK _ _ 1 _ _ _ _ iQ.nd rfl (Or.inl rfl) (ci lP (by rfl) T.b_list gp (a4 (aB aG (pv 0) a6 (λ_ _=>rfl)) a7 rfl)) (by rfl) (by walk_at "f")) (aC (cD PassesOwn.never rfl (gb (aB aG (pv 0) a6 (λ_ _=>rfl))) (ai (i:=2) iQ.nd rfl (Or.inl rfl)) (aC (@aK _ _ 3 _ _ _ _ iQ.nd rfl (Or.inl rfl) (ah T.gives G_gives (hr.mono (by decide)) (a4 (pv 2) a7 rfl)) (by rfl) (by walk_at "f")) (aC (aT (lh (Aq (pv 3))) (@aE _ _ _ (@bS _ _ _ _ (bT BR Bb Bc bi (pv 1) (a4 (pv 3) a7 rfl)) (by rfl))) aX) (@aE _ _ _ (@bS _ _ _ _ (bT BR PySem.F.slot_list_extend PySem.F.type_list_extend ve (pv 1) (a4 (ah T.reads G_reads (hr.mono (by decide)) (a4 (pv 2) a7 rfl)) a7 rfl)) (by rfl)))))) (@aE _ _ _ (@aQ _ _ _ _ (ah T.each_once G_each_once (hr.mono (by decide)) (a4 (pv 1) a7 rfl)))))),?_⟩;obtain⟨n,b,pp,rr,hF,hP,hR⟩:=hf.fn;refine⟨_,rfl,f,_,_,_,rfl,rfl,hF,rfl,pp,_,rfl,.inr hP,λl hl=>?_⟩;refine⟨_,rfl,f,_,_,_,rfl,rfl,(a0.new hl).tup hF,rfl,?_⟩;refine⟨rr,rfl,⟨_,(a0.new hl).tup hR⟩,ql (xs:=ds.map λd=>V.ref d.r) (λi σ H2=>a0 H H2/\∃v1 v2 fs,σ=[some (.ref f),some (.ref l),v1,v2]/\H2 l=some (.lst (List.map V.str fs))/\onceL fs=onceL (ps++(ds.take i).flatMap fQ)/\fs.length<=100+11 * i) ⟨a0.new hl,_,_,ps,rfl,a8,by simp,by have:=hf.pl; omega⟩ ?_ ?_ ?_⟩
   . rintro i σ H2 hi ⟨s2,_⟩;exact s2.tup hR
   . rintro i x σ H2 hx ⟨s2,v1,v2,fs,rfl,h2,ho,hlen⟩;have hi:i<ds.length:=by have:=(BC.mp hx).1;rw[BA] at this;exact this
     rw[BI] at hx;have hx:V.ref ds[i].r=x:=by simpa [hi] using hx
     subst hx;have hd:=hf.rows ds[i] (Db hi);have hds:=hf.dl;have ef:(ds.take (i+1)).flatMap fQ=(ds.take i).flatMap fQ++fQ ds[i]:=by rw[Bm,List.flatMap_append];simp [hi]
     have hol:=AW (cQ ds[i].as);have hsl:=lN ds[i].as;have hal:=hd.len;obtain⟨xs,hr1,hr2⟩:=(hd.mono s2).row;refine⟨_,rfl,ds[i].r,xs,_,_,rfl,hr1,hr2,?_⟩;refine⟨_,rfl,_,rfl,?_⟩;cases hg:ds[i].gx with
     | none =>
       refine gA ⟨_,rfl,.inl ⟨rfl,_,aA.of h2⟩,_,rfl,ds[i].r,xs,_,_,rfl,hr1,hr2,hd.len,hd.ats,λl4 H4 s4 n4 e4=>?_⟩;refine⟨l,l4,_,_,rfl,rfl,s4 _ _ h2,e4,iO (by rw[BA,BA]; omega),?_⟩;refine⟨(s2.trans s4).upd hl,_,_,fs++[]++onceL (cQ ds[i].as),rfl,(by rw[a8,CJ,BK]),?_,(by simp only[BH,D7]; omega)⟩;rw[nK ho,ef,CF];unfold fQ;rw[hg];rfl
     | some x =>
       refine ii ⟨_,rfl,.inl ⟨rfl,_,aA.of h2⟩,_,rfl,l,_,_,rfl,rfl,h2,dG (by rw[BA]; omega),?_⟩;have s3:a0 H (upd H2 l (.lst (List.map V.str fs++[V.str x]))):=s2.upd hl;obtain⟨xs',hr1',hr2'⟩:=(hd.mono s3).row;refine⟨_,rfl,.inl ⟨rfl,_,aA.of a8⟩,_,rfl,ds[i].r,xs',_,_,rfl,hr1',hr2',hd.len,hd.ats,λl4 H4 s4 n4 e4=>?_⟩;refine⟨l,l4,_,_,rfl,rfl,s4 _ _ a8,e4,iO (by simp only[BH,BA,BV,D7]; omega),?_⟩;refine⟨(s3.trans s4).upd hl,_,_,fs++[x]++onceL (cQ ds[i].as),rfl,(by rw[a8,BK,BK]; rfl),?_,(by simp only[BH,BV,D7]; omega)⟩;rw[nK ho,ef,CF];unfold fQ;rw[hg];rfl
   . rintro σ H2 ⟨s2,v1,v2,fs,rfl,h2,ho,hlen⟩;rw[BA,Bw] at ho;rw[BA] at hlen;have hds:=hf.dl;refine⟨_,rfl,l,fs,rfl,aA.of h2,by omega,λl3 H3 s3 n3 e3=>q l3 H3 (s2.trans s3) (s2.free n3) ?_⟩;rw[e3,ho];rfl
end
end K51
namespace K51
open PySem L2 K13
section
variable {P:Program} {w:World} {K:W.Frag} {mg:Str->Option Value} {base:Heap} {t:Adr}
theorem i6:FnScope ["rows","opened","begins","k","row"] ["rows"] (aW l8):=by walk_at "s"
theorem zL (T:Txt K mg t):FnOk P w K mg base CX0 1 t.qz t.sH ["rows"] (K13.sp_begins_of K):=by
 refine T.begins_of.F.ok i6 (λvs H Q E h=>?_) (λcdv A outer s H vs Q E hr h=>?_)
 . obtain⟨_,_,rfl,_⟩:=h;rfl
 . obtain⟨a,ks,rfl,hR,w,hn,q⟩:=h;refine⟨_,(aC (@aK _ _ 1 _ _ _ _ i6.nd rfl (Or.inl rfl) (bd a7) (by rfl) (by walk_at "f")) (aC (@aK _ _ 2 _ _ _ _ i6.nd rfl (Or.inl rfl) eC (by rfl) (by walk_at "f")) (aC (cD PassesOwn.never rfl (mj rfl T.b_enumerate (a4 (pv 0) a7 rfl)) (eW rfl (bW (ai (i:=3) i6.nd rfl (Or.inl rfl)) (bW (ai (i:=4) i6.nd rfl (Or.inl rfl)) dm))) (@aE _ _ _ (aT (aL dz (aB aG (pv 4) a6 (λ_ _=>rfl)) (aS (a4 af (a4 af a7 rfl) rfl)) (by with_unfolding_all rfl)) (@aE _ _ _ (@bS _ _ _ _ (bT BR Bb Bc bi (pv 1) (a4 (pv 3) a7 rfl)) (by rfl))) (@aE _ _ _ (aT (aL am (aB aG (pv 4) a6 (λ_ _=>rfl)) af (aN _)) (@aE _ _ _ (eD (bu hr.units) (pv 2) (pv 3) (aB aP (pv 1) (bO bN a6) (λ_ _=>rfl)) (by rfl))) (@aE _ _ _ (aT (aL am (aB aG (pv 4) a6 (λ_ _=>rfl)) af (aN _)) (@aE _ _ _ (eD (bu hr.units) (pv 2) (pv 3) (nn BR PySem.F.slot_list_pop PySem.F.type_list_pop oG (pv 1)) (by rfl))) aX))))))) (@aE _ _ _ (@aQ _ _ _ _ (pv 2)))))),?_⟩;refine⟨dB,λol hol=>λd hd=>?_⟩;obtain⟨rs,e1,e2,e3⟩:=hR.ex;have hdo:d≠ol:=λz=>by rw[z,a8] at hd; cases hd
   have s0:a0 H (upd (upd H ol (.lst [])) d (.dK [])):=(a0.new hol).trans (a0.new hd);have hd0:H d=none:=(a0.new hol).free hd;refine⟨_,rfl,a,rfl,⟨_,s0.tup e1⟩,ox (xs:=rs.map V.ref) (λi σ H2=>i<=ks.length/\a0 H H2/\∃v3 v4,σ=[some (.ref a),some (.ref ol),some (.ref d),v3,v4]/\H2 ol=some (.lst (cw ks i))/\H2 d=some (.dK (bg ks i))) ⟨BW _,s0,_,_,rfl,by rw[aH hdo.symm]; exact a8,a8⟩ ?_ ?_ ?_⟩
   . rintro i σ H2 hi ⟨_,s2,_⟩;exact s2.tup e1
   . rintro i x σ H2 b hx ⟨hi',s2,v3,v4,rfl,ho,hg⟩ hb;have hi:i<rs.length:=by have:=(BC.mp hx).1;rw[BA] at this;exact this
     rw[BI] at hx;have hx:V.ref rs[i]=x:=by simpa [hi] using hx
     subst hx;obtain⟨rest,hrow⟩:=e3 i rs[i] (by simp [hi]);have s3:a0 H (upd H2 b (.tup [.int i,.ref rs[i]])):=s2.trans (a0.new hb);have ho3:=a0.new (o:=.tup [.int i,.ref rs[i]]) hb _ _ ho;have hg3:=a0.new (o:=.tup [.int i,.ref rs[i]]) hb _ _ hg;have sl:=Ao ks i;have bl:=m7 ks i;refine⟨b,_,rfl,a9.of a8,rfl,_,_,rfl,_,_,rfl,rfl,?_⟩;refine⟨_,rfl,rs[i],_,_,_,rfl,rfl,s3.tup hrow,at0,ay,λtw htw=>⟨tw,[V.str "if",V.str "while"],rfl,.inr (a9.of a8),rfl,rfl,_,rfl,?_⟩⟩;have s4:=s3.trans (a0.new (o:=.tup [V.str "if",V.str "while"]) htw);have ho4:=a0.new (o:=.tup [V.str "if",V.str "while"]) htw _ _ ho3;have hg4:=a0.new (o:=.tup [V.str "if",V.str "while"]) htw _ _ hg3;by_cases hO:isO (kd ks i)=true
     . refine aV ((inO _).trans hO) ?_;refine⟨_,rfl,.inl ⟨rfl,_,aA.of ho4⟩,_,rfl,ol,_,_,rfl,rfl,ho4,dG (by omega),?_⟩;refine⟨by omega,s4.upd hol,_,_,rfl,?_,?_⟩
       . rw[a8];have:stk ks (i+1)=i :: stk ks i:=by rw[cI]; unfold push; rw[BJ hO]
         unfold cw;rw[this,CH,BK];rfl
       . rw[aH hdo,oT (iT hO)];exact hg4
     refine aO (λz=>hO ((inO _).symm.trans z)) ?_;refine⟨_,rfl,rs[i],_,_,_,rfl,rfl,s4.tup hrow,at0,rfl,_,rfl,?_⟩;by_cases h1:kd ks i="else"
     . refine aV (BN (Bv V.str h1)) ?_;have hE:isE (kd ks i)=true:=by rw[h1]; decide +kernel
       obtain⟨t,r,ht⟩:∃t r,stk ks i=t :: r:=by
         cases z:stk ks i with
         | nil=>exact absurd z (w.open_ i (by omega) hE)
         | cons t r=>exact⟨t,r,rfl⟩
       obtain⟨q1,q2,q3⟩:=oX ht;refine⟨_,rfl,_,rfl,ol,_,_,_,rfl,rfl,aA.of ho4,q1,_,rfl,_,rfl,d,_,rfl,ck.k (k:=Sum.inl (i:Int)) hg4 (dG (by omega)),?_⟩;refine⟨by omega,s4.upd hd0,_,_,rfl,?_,?_⟩
       . rw[aH hdo.symm];have:stk ks (i+1)=stk ks i:=by rw[cI]; unfold push; rw[BE hO,BE (by rw[h1]; exact els_fin)]
         unfold cw;rw[this];exact ho4
       . rw[a8,jH ⟨hE,by rw[ht]; rfl⟩]
     refine aO (λz=>h1 (V.str.inj (eQ z))) ?_;refine⟨_,rfl,rs[i],_,_,_,rfl,rfl,s4.tup hrow,at0,rfl,_,rfl,?_⟩;by_cases h2:kd ks i="end"
     . refine aV (BN (Bv V.str h2)) ?_;have hE:isE (kd ks i)=true:=by rw[h2]; decide +kernel
       obtain⟨t,r,ht⟩:∃t r,stk ks i=t :: r:=by
         cases z:stk ks i with
         | nil=>exact absurd z (w.open_ i (by omega) hE)
         | cons t r=>exact⟨t,r,rfl⟩
       obtain⟨q1,q2,q3⟩:=oX ht;refine⟨_,rfl,.inl ⟨rfl,_,aA.of ho4⟩,ol,_,_,rfl,rfl,ho4,q2,_,rfl,_,rfl,d,_,rfl,ck.k (k:=Sum.inl (i:Int)) (by rw[aH hdo]; exact hg4) (dG (by omega)),?_⟩;refine⟨by omega,(s4.upd hol).upd hd0,_,_,rfl,?_,?_⟩
       . rw[aH hdo.symm,a8,q3];have:stk ks (i+1)=r:=by rw[cI]; unfold push; rw[BE hO,BJ h2,ht]; rfl
         unfold cw;rw[this]
       . rw[a8,jH ⟨hE,by rw[ht]; rfl⟩]
     refine aO (λz=>h2 (V.str.inj (eQ z))) ?_;refine⟨by omega,s4,_,_,rfl,?_,?_⟩
     . have:stk ks (i+1)=stk ks i:=by rw[cI]; unfold push; rw[BE hO,BE h2]
       unfold cw;rw[this];exact ho4
     . rw[oT (uT h1 h2)];exact hg4
   . rintro σ H2 ⟨_,s2,v3,v4,rfl,ho,hg⟩;rw[BA,e2] at hg;exact⟨_,rfl,q d H2 s2 hd0 hg⟩
theorem fG:FnScope ["rows","begins","ends","k","begin","behind","follower","kind"] ["rows","begins"] (aW jr):=by walk_at "s"
theorem uK (T:Txt K mg t):FnOk P w K mg base CX0 1 t.r9 t.sJ ["rows","begins"] (K13.sp_firsts_behind K):=by
 refine T.firsts_behind.F.ok fG (λvs H Q E h=>?_) (λcdv A outer s H vs Q E hr h=>?_)
 . obtain⟨_,_,_,rfl,_⟩:=h;rfl
 . obtain⟨a,d,ks,rfl,hR,w,hn,hd,q⟩:=h;refine⟨_,(aC (@aK _ _ 2 _ _ _ _ fG.nd rfl (Or.inl rfl) eC (by rfl) (by walk_at "f")) (aC (cD PassesOwn.never rfl (pA (pv 1)) (eW rfl (bW (ai (i:=3) fG.nd rfl (Or.inl rfl)) (bW (ai (i:=4) fG.nd rfl (Or.inl rfl)) dm))) (@aE _ _ _ (eD (bu hr.units) (pv 2) (pv 4) (pv 3) (by rfl)))) (aC (@aK _ _ 5 _ _ _ _ fG.nd rfl (Or.inl rfl) (@aM _ _ _ _ _ _ _ _ Am (bd (a4 gi a7 rfl)) (au bI (by rfl) T.b_len bC (a4 (pv 0) a7 rfl))) (by rfl) (by walk_at "f")) (aC (cD PassesOwn.never rfl (vW rfl T.b_range (a4 (@aM _ _ _ _ _ _ _ _ fH (au bI (by rfl) T.b_len bC (a4 (pv 0) a7 rfl)) a6) (a4 (bO bN a6) (a4 (bO bN a6) a7 rfl) rfl) rfl)) (ai (i:=3) fG.nd rfl (Or.inl rfl)) (aC (@aK _ _ 6 _ _ _ _ fG.nd rfl (Or.inl rfl) (@aM _ _ _ _ _ _ _ _ cE (pv 3) a6) (by rfl) (by walk_at "f")) (aC (@aK _ _ 7 _ _ _ _ fG.nd rfl (Or.inl rfl) (aB aG (aB aG (pv 0) (pv 6) (λ_ _=>rfl)) a6 (λ_ _=>rfl)) (by rfl) (by walk_at "f")) (@aE _ _ _ (aT (aL am (pv 7) af (aN _)) (@aE _ _ _ (dZ (aB aP (pv 5) (dS (bu hr.units) (pv 2) (dS (bu hr.units) (pv 1) (pv 6) (λ_ _=>rfl)) (λ_ _=>rfl)) (λ_ _=>rfl)) (i5 (pv 5) (pv 3) gk))) (@aE _ _ _ (aT (@PW.pt _ _ _ (cT (aL am (pv 7) af (aN _)) (cV (aL am (aB aG (aB aG (pv 0) (dS (bu hr.units) (pv 1) (pv 6) (λ_ _=>rfl)) (λ_ _=>rfl)) a6 (λ_ _=>rfl)) af (aN _))))) (@aE _ _ _ (dZ (dS (bu hr.units) (pv 1) (pv 6) (λ_ _=>rfl)) (i5 (pv 5) (pv 3) gk))) (@aE _ _ _ (aT (aL am (pv 7) af (aN _)) (@aE _ _ _ (dZ (aB aP (pv 5) (pv 6) (λ_ _=>rfl)) (i5 (pv 5) (pv 3) gk))) (@aE _ _ _ (dZ (pv 6) (i5 (pv 5) (pv 3) gk)))))))))))) (@aE _ _ _ (@aQ _ _ _ _ (pv 5))))))),?_⟩;refine λed hed=>?_;have hde:d≠ed:=λz=>by rw[<- z,hd] at hed; cases hed
   refine⟨_,rfl,d,bg ks ks.length,rfl,.inl ⟨a0.new hed _ _ hd,λo=>?_⟩⟩;have sF:a0 (upd H d (.frz o (.dK (bg ks ks.length)))) (upd (upd H ed (.dK [])) d (.frz o (.dK (bg ks ks.length)))):=λb u h=>by
     by_cases hb:b=d
     . subst hb;rw[a8] at h ⊢;exact h
     . rw[aH hb] at h ⊢;rw[aH (λz=>by rw[z,hed] at h; cases h)];exact h
   have hF:(upd H d (.frz o (.dK (bg ks ks.length)))) d=some (.frz o (.dK (bg ks ks.length))):=a8;have hedF:(upd H d (.frz o (.dK (bg ks ks.length)))) ed=none:=by rw[aH hde.symm]; exact hed
   have hRF:RowsAt K (upd H d (.frz o (.dK (bg ks ks.length)))) a ks:=hR.frz hd;have qF:∀l H',a0 (upd H d (.frz o (.dK (bg ks ks.length)))) H'->(upd H d (.frz o (.dK (bg ks ks.length)))) l=none->ph H' l ks->Q (.ref l) H':=λl H' h1 h2 h3=>q l o H' h1 (by rw[aH (λz=>by rw[z,hF] at h2; cases h2)] at h2; exact h2) h3;generalize upd H d (.frz o (.dK (bg ks ks.length)))=HF at sF hF hedF hRF qF;have bl:=m7 ks ks.length;have pl:=kJ ks ks.length;refine mX (λi σ H2=>i<=(bg ks ks.length).length/\a0 HF H2/\∃v3 v4 eds,σ=[some (.ref a),some (.ref d),some (.ref ed),v3,v4,none,none,none]/\H2 ed=some (.dK eds)/\eds.length<=i/\∀b:Nat,aw eds (Sum.inl (b:Int):aD)=(dE ((ax ks ks.length).take i) b).map λ(m:Nat)=>V.int (m:Int)) ⟨BW _,sF,_,_,[],rfl,by rw[aH hde.symm]; exact a8,BG _,λb=>rfl⟩ ?_ ?_ ?_
   . rintro i σ H2 hi ⟨_,s2,_⟩;exact s2 _ _ hF
   . rintro i kv σ H2 b hkv ⟨hi,s2,v3,v4,eds,rfl,he,hel,hv⟩ hb;obtain⟨p,hp,rfl⟩:=oq hkv;have hlt:=(BC.mp hkv).1;have he3:=a0.new (o:=.tup [V.int (p.1:Int),V.int (p.2:Int)]) hb _ _ he;refine⟨b,_,rfl,a9.of a8,rfl,_,_,rfl,_,_,rfl,rfl,?_⟩;refine⟨_,rfl,_,rfl,_,rfl,ed,_,rfl,ck.k (k:=Sum.inl (p.2:Int)) he3 (dG (by omega)),?_⟩;refine⟨hlt,(s2.trans (a0.new hb)).upd hedF,_,_,_,rfl,a8,?_,λb'=>?_⟩
     . exact Bk (cx _ _ _) (by omega)
     . rw[hX,Bm,hp];show _=(dE ((ax ks ks.length).take i++[p]) b').map _;rw[pD,hv b'];by_cases h:p.2=b'
       . rw[BJ h,BJ (by rw[h])];rfl
       . rw[BE h,BE (λz=>h (by have:(b':Int)=(p.2:Int):=Sum.inl.inj z; omega))]
   . rintro σ H2 ⟨_,s2,v3,v4,eds,rfl,he,hel,hv⟩;have hv:∀b:Nat,aw eds (Sum.inl (b:Int):aD)=(dE (ax ks ks.length) b).map λ(m:Nat)=>V.int (m:Int):=λb=>by rw[hv b];unfold bg dg;rw[BA,Bw]
     obtain⟨rs,r1,r2,r3⟩:=hRF.ex;have rl:(rs.map V.ref).length=ks.length:=by rw[BA,r2]
     refine⟨bt,λnl hnl=>⟨_,rfl,a,_,rfl,.inr ((s2.trans (a0.new hnl)).tup r1),nl,_,_,rfl,rfl,a8,by omega,by rw[rl]; omega,by rw[rl]; exact iO (by simp; omega),λbl hbl=>?_⟩⟩;have s3:=(s2.trans (a0.new (o:=.lst [V.non]) hnl)).trans (a0.new (o:=.lst (List.replicate (((rs.map V.ref).length:Int).toNat) [V.non]).flatten) hbl);have hbF:HF bl=none:=s2.free ((a0.new hnl).free hbl);have hbe:bl≠ed:=λz=>by have:=(a0.new hnl).free hbl;rw[z,he] at this;cases this
     have he3:=(a0.new (o:=.lst (List.replicate (((rs.map V.ref).length:Int).toNat) [V.non]).flatten) hbl) _ _ ((a0.new (o:=.lst [V.non]) hnl) _ _ he);refine⟨_,rfl,a,_,rfl,.inr (s3.tup r1),_,_,rfl,rfl,_,rfl,_,rfl,(ks.length:Int) - 2,-1,by rw[rl],⟨by omega,by omega,by omega,by omega⟩,?_⟩;have hnn:(((ks.length:Int) - 2) - -1).toNat=ks.length - 1:=by omega
     rw[hnn];refine vR (λi σ H4=>a0 HF H4/\∃v3 v4 v6 v7 bs,σ=[some (.ref a),some (.ref d),some (.ref ed),v3,v4,some (.ref bl),v6,v7]/\H4 ed=some (.dK eds)/\H4 bl=some (.lst bs)/\bs.length=ks.length/\∀k,k+1<ks.length->ks.length - 1 - i<=k->∃r:Nat,Beh ks k r/\bs[k]?=some (.int (r:Int))) ⟨s3,_,_,_,_,_,rfl,he3,a8,by rw[rl]; exact uc _,λk h1 h2=>by omega⟩ ?_ ?_
     . rintro i σ H4 hi ⟨s4,v3,v4,v6,v7,bs,rfl,e4,b4,l4,hb4⟩;obtain⟨k,hk⟩:∃k:Nat,k+2+i=ks.length:=⟨ks.length - 2 - i,by omega⟩
       have ek:((ks.length:Int) - 2) - (i:Int)=(k:Int):=by omega
       rw[ek];have hR4:=hRF.mono s4;have old:∀j,j+1<ks.length->k<j->∃r:Nat,Beh ks j r/\bs[j]?=some (.int (r:Int)):=λj h1 h2=>hb4 j h1 (by omega);have fin:∀(r:Nat) (v3 v4 v6 v7:Option V),Beh ks k r->a0 HF (upd H4 bl (.lst (bs.set k (.int (r:Int)))))/\∃v3' v4' v6' v7' bs',([some (.ref a),some (.ref d),some (.ref ed),v3,v4,some (.ref bl),v6,v7]:St)=[some (.ref a),some (.ref d),some (.ref ed),v3',v4',some (.ref bl),v6',v7']/\(upd H4 bl (.lst (bs.set k (.int (r:Int))))) ed=some (.dK eds)/\(upd H4 bl (.lst (bs.set k (.int (r:Int))))) bl=some (.lst bs')/\bs'.length=ks.length/\∀j,j+1<ks.length->ks.length - 1 - (i+1)<=j->∃r:Nat,Beh ks j r/\bs'[j]?=some (.int (r:Int)):=λr v3 v4 v6 v7 hr=>by
         refine⟨s4.upd hbF,_,_,_,_,_,rfl,by rw[aH hbe.symm]; exact e4,a8,by rw[ES]; exact l4,λj h1 h2=>?_⟩;by_cases hj:j=k
         . subst hj;exact⟨r,hr,by rw[DV (by omega)]⟩
         . obtain⟨r',q1,q2⟩:=old j h1 (by omega);exact⟨r',q1,by rw[C' (λz=>hj z.symm)]; exact q2⟩
       have hix:bz bs.length (k:Int)=some k:=by unfold bz;rw[BJ (by omega),BJ (by omega),B']
       have at_bs:∀j r:Nat,bs[j]?=some (.int (r:Int))->aY bs (j:Int)=some (.int (r:Int)):=λj r h=>bp h;refine⟨_,rfl,_,_,rfl,rfl,?_⟩;show gI 6 (V.int ((k:Int)+1)) _ _ _;rw[show((k:Int)+1)=((k+1:Nat):Int) by omega];refine⟨_,rfl,_,rfl,ixk hR4 (by omega) (by omega) ?_⟩;refine⟨_,rfl,rfl,_,rfl,?_⟩;have top:isE (kd ks (k+1))=true->∃b,(stk ks (k+1)).head?=some b:=λh=>by
         cases z:stk ks (k+1) with
         | nil=>exact absurd z (w.open_ (k+1) (by omega) h)
         | cons b r=>exact⟨b,rfl⟩
       have fz:Rd H4 d (.dK (bg ks ks.length)):=.inr ⟨o,s4 _ _ hF⟩;by_cases h1:kd ks (k+1)="else"
       . refine aV (BN (Bv V.str h1)) ?_;have hE:isE (kd ks (k+1))=true:=by rw[h1]; decide +kernel
         obtain⟨b,hb⟩:=top hE;have hbo:=kP (⟨hE,hb⟩:br ks b (k+1));obtain⟨e,hEn⟩:=ends_ex w (by omega) hbo.2;have h5:k+1<=e:=hit_le hEn ⟨hE,hb⟩;have h6:e+1<ks.length:=by
           rcases Bl (e+1) ks.length with z|z
           . exact z
           . have:=w.last e (by have:=hEn.2.1; omega);rw[hEn.2.2.1] at this;exact absurd this.symm back_ne.2
         obtain⟨r,hr1,hr2⟩:=old e h6 (by omega);have g1:cG H4 d (.int ((k+1:Nat):Int)) (some (.int (b:Int))):=.inl ⟨_,Sum.inl ((k+1:Nat):Int),fz,rfl,(qK ks.length (by omega) ⟨hE,hb⟩).symm⟩;have g2:cG H4 ed (.int (b:Int)) (some (.int (e:Int))):=.inl ⟨_,Sum.inl (b:Int),.inl e4,rfl,by rw[hv b,uJ hEn]; rfl⟩;exact⟨_,rfl,_,rfl,_,rfl,_,rfl,d,_,rfl,g1,ed,_,rfl,g2,bl,_,_,_,rfl,rfl,aA.of b4,at_bs e r hr2,_,rfl,_,rfl,bl,_,_,_,rfl,rfl,b4,hix,fin r _ _ _ _ (.els h1 hb hEn hr1)⟩
       refine aO (λz=>h1 (V.str.inj (eQ z))) ?_;refine⟨_,rfl,rfl,_,rfl,?_⟩;by_cases h2:kd ks (k+1)="end"
       . have hE:isE (kd ks (k+1))=true:=by rw[h2]; decide +kernel
         obtain⟨b,hb⟩:=top hE;have hbo:=kP (⟨hE,hb⟩:br ks b (k+1));have g1:cG H4 d (.int ((k+1:Nat):Int)) (some (.int (b:Int))):=.inl ⟨_,Sum.inl ((k+1:Nat):Int),fz,rfl,(qK ks.length (by omega) ⟨hE,hb⟩).symm⟩;refine aV (BN (Bv V.str h2)) ?_;refine⟨_,rfl,_,rfl,_,rfl,d,_,rfl,g1,ixk hR4 (by omega) (by omega) ⟨rfl,_,rfl,?_⟩⟩;by_cases h3:kd ks b="while"
         . refine aV (BN (Bv V.str h3)) ?_;exact⟨_,rfl,_,rfl,d,_,rfl,g1,_,rfl,_,rfl,bl,_,_,_,rfl,rfl,b4,hix,fin b _ _ _ _ (.whl h2 hb h3)⟩
         . refine aO (λz=>h3 (V.str.inj (eQ z))) ?_;refine⟨_,rfl,rfl,_,rfl,aV (BN (Bv V.str h2)) ?_⟩;have h6:k+1+1<ks.length:=by
             rcases Bl (k+1+1) ks.length with z|z
             . exact z
             . have:=w.last (k+1) (by omega);rw[h2] at this;exact absurd this.symm back_ne.2
           obtain⟨r,hr1,hr2⟩:=old (k+1) h6 (by omega);exact⟨_,rfl,_,rfl,bl,_,_,_,rfl,rfl,aA.of b4,at_bs (k+1) r hr2,_,rfl,_,rfl,bl,_,_,_,rfl,rfl,b4,hix,fin r _ _ _ _ (.fin h2 hb h3 hr1)⟩
       . refine aO (λz=>h2 (V.str.inj (eQ z))) (gA ?_);refine⟨_,rfl,rfl,_,rfl,aO (λz=>h2 (V.str.inj (eQ z))) ?_⟩;exact⟨_,rfl,_,rfl,_,rfl,bl,_,_,_,rfl,rfl,b4,hix,fin (k+1) _ _ _ _ (.oth h1 h2)⟩
     . rintro σ H4 ⟨s4,v3,v4,v6,v7,bs,rfl,e4,b4,l4,hb4⟩;exact⟨_,rfl,qF bl H4 s4 hbF ⟨bs,b4,l4,λk h1=>hb4 k h1 (by omega)⟩⟩
theorem dr:FnScope ["rows","begins","behind","turns","k","begin","found","row"] ["rows"] (aW jV):=by walk_at "s"
theorem B1 (T:Txt K mg t):FnOk P w K mg base CX0 2 t.rj t.sw ["rows"] (K13.sp_ways K):=by
 have G_begins_of:=zL (P:=P) (w:=w) (base:=base) T;have G_firsts_behind:=uK (P:=P) (w:=w) (base:=base) T;refine T.ways.F.ok dr (λvs H Q E h=>?_) (λcdv A outer s H vs Q E hr h=>?_)
 . obtain⟨_,_,rfl,_⟩:=h;rfl
 . obtain⟨a,ks,rfl,hR,w,hn,q⟩:=h;refine⟨_,(aC (@aK _ _ 1 _ _ _ _ dr.nd rfl (Or.inl rfl) (ah T.begins_of G_begins_of (hr.mono (by decide)) (a4 (pv 0) a7 rfl)) (by rfl) (by walk_at "f")) (aC (@aK _ _ 2 _ _ _ _ dr.nd rfl (Or.inl rfl) (ah T.firsts_behind G_firsts_behind (hr.mono (by decide)) (a4 (pv 0) (a4 (pv 1) a7 rfl) rfl)) (by rfl) (by walk_at "f")) (aC (@aK _ _ 3 _ _ _ _ dr.nd rfl (Or.inl rfl) eC (by rfl) (by walk_at "f")) (aC (cD PassesOwn.never rfl (pA (pv 1)) (eW rfl (bW (ai (i:=4) dr.nd rfl (Or.inl rfl)) (bW (ai (i:=5) dr.nd rfl (Or.inl rfl)) dm))) (@aE _ _ _ (@bS _ _ _ _ (AY (pv 3) (pv 5) (pv 4) ⟨rfl,rfl,rfl,rfl⟩) (by rfl)))) (aC (@aK _ _ 6 _ _ _ _ dr.nd rfl (Or.inl rfl) (bd a7) (by rfl) (by walk_at "f")) (aC (cD PassesOwn.never rfl (mj rfl T.b_enumerate (a4 (pv 0) a7 rfl)) (eW rfl (bW (ai (i:=4) dr.nd rfl (Or.inl rfl)) (bW (ai (i:=7) dr.nd rfl (Or.inl rfl)) dm))) (@aE _ _ _ (aT (aL dz (aB aG (pv 7) a6 (λ_ _=>rfl)) (aS (a4 af (a4 af a7 rfl) rfl)) (by with_unfolding_all rfl)) (@aE _ _ _ (@bS _ _ _ _ (bT BR Bb Bc bi (pv 6) (a4 gi a7 rfl)) (by rfl))) (@aE _ _ _ (aT (aL am (aB aG (pv 7) a6 (λ_ _=>rfl)) af (aN _)) (@aE _ _ _ (@bS _ _ _ _ (bT BR Bb Bc bi (pv 6) (a4 (aS a7) a7 rfl)) (by rfl))) (@aE _ _ _ (aT (lh (zm (bu hr.units) (pv 4) (pv 3))) (@aE _ _ _ (@bS _ _ _ _ (bT BR Bb Bc bi (pv 6) (a4 (aS (a4 (aB aP (pv 2) (pv 4) (λ_ _=>rfl)) (a4 (aB aP (pv 2) (dS (bu hr.units) (pv 3) (pv 4) (λ_ _=>rfl)) (λ_ _=>rfl)) a7 rfl) rfl)) a7 rfl)) (by rfl))) (@aE _ _ _ (@bS _ _ _ _ (bT BR Bb Bc bi (pv 6) (a4 (aS (a4 (aB aP (pv 2) (pv 4) (λ_ _=>rfl)) a7 rfl)) a7 rfl)) (by rfl)))))))))) (@aE _ _ _ (@aQ _ _ _ _ (pv 6))))))))),?_⟩;refine⟨_,rfl,a,ks,rfl,hR,w,hn,λd H1 s1 n1 e1=>?_⟩;refine⟨_,rfl,_,rfl,a,d,ks,rfl,hR.mono s1,w,hn,e1,λl o H2 s2 n2 hB=>?_⟩;have s02:a0 H H2:=(s1.upd n1).trans s2;have hdF:H2 d=some (.frz o (.dK (bg ks ks.length))):=s2 _ _ a8;have hl0:H l=none:=s1.free n2;refine λtd htd=>?_;have bl:=m7 ks ks.length;obtain⟨bs,hb1,hb2,hb3⟩:=hB;refine⟨_,rfl,d,bg ks ks.length,rfl,.inr ⟨o,a0.new htd _ _ hdF,?_⟩⟩;refine mX (λi σ H3=>i<=(bg ks ks.length).length/\a0 H2 H3/\∃v4 v5 tds,σ=[some (.ref a),some (.ref d),some (.ref l),some (.ref td),v4,v5,none,none]/\H3 td=some (.dK tds)/\tds.length<=i/\∀b:Nat,aw tds (Sum.inl (b:Int):aD)=(bb ((ax ks ks.length).take i) b).map λ(m:Nat)=>V.int (m:Int)) ⟨BW _,a0.new htd,_,_,[],rfl,a8,BG _,λb=>rfl⟩ ?_ ?_ ?_
   . rintro i σ H3 hi ⟨_,s3,_⟩;exact s3 _ _ hdF
   . rintro i kv σ H3 b hkv ⟨hi,s3,v4,v5,tds,rfl,he,hel,hv⟩ hb;obtain⟨p,hp,rfl⟩:=oq hkv;have hlt:=(BC.mp hkv).1;have he3:=a0.new (o:=.tup [V.int (p.1:Int),V.int (p.2:Int)]) hb _ _ he;refine⟨b,_,rfl,a9.of a8,rfl,_,_,rfl,_,_,rfl,rfl,?_⟩;have tk:∀b',bb ((ax ks ks.length).take (i+1)) b'=if(bb ((ax ks ks.length).take i) b').isSome=true then bb ((ax ks ks.length).take i) b' else if p.2=b' then some p.1 else none:=λb'=>by rw[Bm,hp];exact qJ _ p b'
     refine⟨_,rfl,td,rfl,.inl ⟨tds,.inl he3⟩,_,rfl,_,rfl,tds,Sum.inl (p.2:Int),he3,rfl,dG (by omega),λv hv'=>?_,λhv'=>?_⟩
     . refine⟨hlt,s3.trans (a0.new hb),_,_,tds,rfl,he3,by omega,λb'=>?_⟩;rw[hv b',tk b'];cases z:bb ((ax ks ks.length).take i) b' with
       | some m=>rfl
       | none =>
         rw[BE (show ¬ (none:Option Nat).isSome=true by decide),BE];intro h;rw[h,hv b',z] at hv';cases hv'
     . refine⟨hlt,(s3.trans (a0.new hb)).upd htd,_,_,_,rfl,a8,Bk (cx _ _ _) (by omega),λb'=>?_⟩;rw[hX,tk b'];by_cases h:p.2=b'
       . subst h;have z:bb ((ax ks ks.length).take i) p.2=none:=by
           rw[hv p.2] at hv';cases y:bb ((ax ks ks.length).take i) p.2 with
           | none=>rfl
           | some m=>rw[y] at hv'; cases hv'
         rw[BJ rfl,z,BE (show ¬ (none:Option Nat).isSome=true by decide),BJ rfl];rfl
       . rw[BE (λz=>h (by have:(b':Int)=(p.2:Int):=Sum.inl.inj z; omega)),hv b',BE h];cases z:bb ((ax ks ks.length).take i) b' with
         | some m=>rfl
         | none=>rfl
   . rintro σ H3 ⟨_,s3,v4,v5,tds,rfl,he,hel,hv⟩;have hv:∀b:Nat,aw tds (Sum.inl (b:Int):aD)=(bb (ax ks ks.length) b).map λ(m:Nat)=>V.int (m:Int):=λb=>by rw[hv b];unfold bg dg;rw[BA,Bw]
     obtain⟨rs,r1,r2,r3⟩:=hR.ex;refine⟨dB,λfl hfl=>?_⟩;have s03:=s02.trans s3;have hf2:H3 fl=none:=hfl;have htf:td≠fl:=λz=>by rw[<- z,he] at hfl; cases hfl
     have hf0:H fl=none:=s03.free hfl;refine⟨_,rfl,a,rfl,⟨_,(s03.trans (a0.new hfl)).tup r1⟩,ox (xs:=rs.map V.ref) (λi σ H4=>i<=ks.length/\a0 H3 H4/\(∃v4 v5 v7,σ=[some (.ref a),some (.ref d),some (.ref l),some (.ref td),v4,v5,some (.ref fl),v7])/\FoundN H4 fl ks i) ⟨BW _,a0.new hfl,⟨_,_,_,rfl⟩,⟨[],a8,rfl,λk v z=>by simp at z⟩⟩ ?_ ?_ ?_⟩
     . rintro i σ H4 hi ⟨_,s4,_⟩;exact(s03.trans s4).tup r1
     . rintro i x σ H4 b hx ⟨hi',s4,⟨v4,v5,v7,rfl⟩,hF⟩ hb;have hi:i<rs.length:=by have:=(BC.mp hx).1;rw[BA] at this;exact this
       rw[BI] at hx;have hx:V.ref rs[i]=x:=by simpa [hi] using hx
       subst hx;obtain⟨rest,hrow⟩:=r3 i rs[i] (by simp [hi]);have s5:=s4.trans (a0.new (o:=.tup [.int i,.ref rs[i]]) hb);have hF5:=hF.mono (a0.new (o:=.tup [.int i,.ref rs[i]]) hb);refine⟨b,_,rfl,a9.of a8,rfl,_,_,rfl,_,_,rfl,rfl,?_⟩;refine⟨_,rfl,rs[i],_,_,_,rfl,rfl,(s03.trans s5).tup hrow,at0,ay,λtw htw=>⟨tw,[V.str "else",V.str "end"],rfl,.inr (a9.of a8),rfl,rfl,_,rfl,?_⟩⟩;have s6:=s5.trans (a0.new (o:=.tup [V.str "else",V.str "end"]) htw);obtain⟨vs,f1,f2,f3⟩:=hF5.mono (a0.new (o:=.tup [V.str "else",V.str "end"]) htw);generalize upd (upd H4 b (.tup [.int i,.ref rs[i]])) tw (.tup [V.str "else",V.str "end"])=H6 at s6 f1 f3 ⊢;have s06:=s03.trans s6;have fin:∀{H7:Hp} {v:V} {oo:Option (List Nat)} (u4 u5 u7:Option V),a0 H6 H7->Due ks i oo->df H7 v oo->i+1<=ks.length/\a0 H3 (upd H7 fl (.lst (vs++[v])))/\(∃v4 v5 v7,([some (.ref a),some (.ref d),some (.ref l),some (.ref td),u4,u5,some (.ref fl),u7]:St)=[some (.ref a),some (.ref d),some (.ref l),some (.ref td),v4,v5,some (.ref fl),v7])/\FoundN (upd H7 fl (.lst (vs++[v]))) fl ks (i+1):=λu4 u5 u7 s7 hd hv=>by refine⟨by omega,(s6.trans s7).upd hfl,⟨_,_,_,rfl⟩,FoundN.push (s7 _ _ f1) f2 (λk v z=>?_) hd hv⟩;obtain⟨o',d',y⟩:=f3 k v z;exact⟨o',d',y.mono s7⟩
       by_cases hE:isE (kd ks i)=true
       . refine aV ((inE _).trans hE) ?_;exact⟨_,rfl,.inl ⟨rfl,_,aA.of f1⟩,fl,_,_,rfl,rfl,f1,dG (by omega),fin _ _ _ (a0.refl _) (.no hE) rfl⟩
       refine aO (λz=>hE ((inE _).symm.trans z)) ?_;refine⟨_,rfl,rs[i],_,_,_,rfl,rfl,s06.tup hrow,at0,rfl,_,rfl,?_⟩;by_cases hbk:kd ks i="back"
       . refine aV (BN (Bv V.str hbk)) ?_;exact⟨_,rfl,.inl ⟨rfl,_,aA.of f1⟩,dB,λp hp=>⟨fl,_,_,rfl,rfl,a0.new hp _ _ f1,dG (by omega),fin _ _ _ (a0.new hp) (.back hbk) ⟨p,rfl,a8⟩⟩⟩
       refine aO (λz=>hbk (V.str.inj (eQ z))) ?_;have hlast:=not_last w (by omega) hbk;obtain⟨r,hr1,hr2⟩:=hb3 i hlast;have hb6:=(s3.trans s6) _ _ hb1;have ht6:=s6 _ _ he;refine⟨_,rfl,_,rfl,td,_,rfl,cG.k (k:=Sum.inl (i:Int)) ht6,_,rfl,?_⟩;by_cases hO:isO (kd ks i)=true
       . obtain⟨e,hEn⟩:=ends_ex w (by omega) hO;obtain⟨f,hf⟩:=first_ex hEn;obtain⟨r',hr3,hr4⟩:=hb3 f (first_last w hf);have hvi:aw tds (Sum.inl (i:Int):aD)=some (V.int (f:Int)):=by rw[hv i,zZ hf]; rfl
         refine aV (by rw[hvi]; rfl) ?_;have g:cG H6 td (.int (i:Int)) (some (V.int (f:Int))):=.inl ⟨_,Sum.inl (i:Int),.inl ht6,rfl,hvi.symm⟩;exact⟨_,rfl,.inl ⟨rfl,_,aA.of f1⟩,_,rfl,_,rfl,l,_,_,_,rfl,rfl,aA.of hb6,bp hr2,_,rfl,_,rfl,_,rfl,td,_,rfl,g,l,_,_,_,rfl,rfl,aA.of hb6,bp hr4,ay,λp hp=>⟨fl,_,_,rfl,rfl,a0.new hp _ _ f1,dG (by omega),fin _ _ _ (a0.new hp) (.two hO hf hr1 hr3) ⟨p,rfl,a8⟩⟩⟩
       . have hvi:aw tds (Sum.inl (i:Int):aD)=none:=by rw[hv i,ye hO]; rfl
         refine aO (by rw[hvi]; decide) ?_;exact⟨_,rfl,.inl ⟨rfl,_,aA.of f1⟩,_,rfl,_,rfl,l,_,_,_,rfl,rfl,aA.of hb6,bp hr2,bt,λp hp=>⟨fl,_,_,rfl,rfl,a0.new hp _ _ f1,dG (by omega),fin _ _ _ (a0.new hp) (.one hE hbk hO hr1) ⟨p,rfl,a8⟩⟩⟩
     . rintro σ H4 ⟨_,s4,⟨v4,v5,v7,rfl⟩,hF⟩;rw[BA,r2] at hF;exact⟨_,rfl,q fl H4 (s03.trans s4) hf0 hF⟩
end
end K51
namespace K51
open PySem L2 Gx Fl F2
section
variable {P:Program} {w:World} {K:W.Frag} {mg:Str->Option Value} {base:Heap} {t:Adr}
theorem kO:FnScope ["self","program","k","function"] ["self","program"] (aW kC):=by walk_at "s"
theorem xi (T:Txt K mg t):FnOk P w K mg base CX0 4 t.qv t.rm ["self","program"] (A1 K t):=by
 have G_names_of:=wW (P:=P) (w:=w) (base:=base) T;have G_ways:=B1 (P:=P) (w:=w) (base:=base) T;refine T.qu.F.ok kO (λvs H Q E h=>?_) (λcdv A outer s H vs Q E hr h=>?_)
 . obtain⟨_,_,_,_,rfl,_⟩:=h;rfl
 . obtain⟨x,dx,p,fns,rfl,hx,hS,n0,n12,hE,nd,q⟩:=h;refine⟨_,(aC (fS (pv 0) (aB aG (aB aP (pv 1) (bO bN a6) (λ_ _=>rfl)) a6 (λ_ _=>rfl)) (by rfl)) (aC (fS (pv 0) eC (by rfl)) (aC (fS (pv 0) eC (by rfl)) (aC (fS (pv 0) eC (by rfl)) (aC (fS (pv 0) eC (by rfl)) (aC (fS (pv 0) eC (by rfl)) (dH (fS (pv 0) eC (by rfl)) (@aE _ _ _ (cD PassesOwn.never rfl (A6 rfl T.b_enumerate (a4 (pv 1) a7 rfl)) (eW rfl (bW (ai (i:=2) kO.nd rfl (Or.inl rfl)) (bW (ai (i:=3) kO.nd rfl (Or.inl rfl)) dm))) (aC (eD (bu hr.units) (dN (pv 0) (by rfl)) (aB aG (pv 3) a6 (λ_ _=>rfl)) (pv 2) (by rfl)) (aC (eD (bu hr.units) (dN (pv 0) (by rfl)) (aB aG (pv 3) a6 (λ_ _=>rfl)) (aB aG (pv 3) a6 (λ_ _=>rfl)) (by rfl)) (aC (eD (bu hr.units) (dN (pv 0) (by rfl)) (aB aG (pv 3) a6 (λ_ _=>rfl)) (aB aG (pv 3) a6 (λ_ _=>rfl)) (by rfl)) (aC (eD (bu hr.units) (dN (pv 0) (by rfl)) (aB aG (pv 3) a6 (λ_ _=>rfl)) (aB aG (pv 3) a6 (λ_ _=>rfl)) (by rfl)) (aC (eD (bu hr.units) (dN (pv 0) (by rfl)) (aB aG (pv 3) a6 (λ_ _=>rfl)) (ah T.names_of G_names_of (hr.mono (by decide)) (a4 (pv 3) a7 rfl)) (by rfl)) (@aE _ _ _ (eD (bu hr.units) (dN (pv 0) (by rfl)) (aB aG (pv 3) a6 (λ_ _=>rfl)) (ah T.ways G_ways (hr.mono (by decide)) (a4 (aB aG (pv 3) a6 (λ_ _=>rfl)) a7 rfl)) (by rfl))))))))))))))))),?_⟩;have fl:(fns.map λf=>V.ref f.fa).length=fns.length:=BA _;have np:0<fns.length:=List.length_pos_iff.mpr n0;obtain⟨fz,hz⟩:∃fz,fns[fns.length - 1]?=some fz:=⟨fns[fns.length - 1],BP (by omega)⟩
   have hzT:=(hE fz (BQ hz)).fn;have eL:aY (fns.map λf=>V.ref f.fa) (-1)=some (V.ref fz.fa):=by
     unfold aY bz;rw[BE (by decide),BJ (by rw[fl]; omega),D0];have:((-1:Int)+((fns.map λf=>V.ref f.fa).length:Int)).toNat=fns.length - 1:=by rw[fl]; omega
     rw[this,BI,hz];rfl
   refine⟨_,rfl,_,rfl,p,_,_,_,rfl,rfl,n5.seq hS,eL,fz.fa,_,_,_,rfl,rfl,n5.tup hzT,at0,_,rfl,x,t.b8,dx,_,rfl,hx,T.bj.cl,T.B6,(by show 0<1000; decide),?_⟩;have sx:∀{b:Addr} {o:HO},cK x H b=some o->b≠x/\H b=some o:=λ{b o} e=>by
     have hb:b≠x:=λz=>by rw[z] at e; unfold cK at e; rw[BJ rfl] at e; cases e
     rw[eJ hb] at e;exact⟨hb,e⟩
   have l1:=gN "last" (V.str fz.name) [] 0 (BG _);intro d0 h0;refine⟨_,rfl,x,t.b8,dx,_,rfl,aZ a8 (Ne.symm (ap h0).1),T.bj.cl,T.jR,(by omega),?_⟩;have l2:=gN "number_of" (.ref d0) _ 1 l1;intro d1 h1;refine⟨_,rfl,x,t.b8,dx,_,rfl,aZ a8 (Ne.symm (ap h1).1),T.bj.cl,T.mK,(by omega),?_⟩;have l3:=gN "folded_of" (.ref d1) _ 2 l2;intro d2 h2;refine⟨_,rfl,x,t.b8,dx,_,rfl,aZ a8 (Ne.symm (ap h2).1),T.bj.cl,T.tF,(by omega),?_⟩;have l4:=gN "params_of" (.ref d2) _ 3 l3;intro d3 h3;refine⟨_,rfl,x,t.b8,dx,_,rfl,aZ a8 (Ne.symm (ap h3).1),T.bj.cl,T.mL,(by omega),?_⟩;have l5:=gN "rows_of" (.ref d3) _ 4 l4;intro d4 h4;refine⟨_,rfl,x,t.b8,dx,_,rfl,aZ a8 (Ne.symm (ap h4).1),T.bj.cl,T.tE,(by omega),?_⟩;have l6:=gN "names_in" (.ref d4) _ 5 l5;refine⟨λσ' G=>∃d:Nat->Addr,σ'=[some (.ref x),some (.ref p),none,none]/\FS t.b8 G x dx (cF (V.str fz.name) d) d (λ_=>[])/\(∀i j,i<6->j<6->d i=d j->i=j)/\a0 (cK x H) G/\∀k,cK x H (d k)=none,?_,?_⟩
   . intro d5 h5;obtain⟨nx0,z0⟩:=ap h0;have q0:H d0=none:=z0;obtain⟨nx1,z1⟩:=ap h1;obtain⟨n10,w10⟩:=ap z1;obtain⟨_,y10⟩:=ap w10;have q1:H d1=none:=y10;obtain⟨nx2,z2⟩:=ap h2;obtain⟨n21,w21⟩:=ap z2;obtain⟨_,y21⟩:=ap w21;obtain⟨n20,w20⟩:=ap y21;obtain⟨_,y20⟩:=ap w20;have q2:H d2=none:=y20;obtain⟨nx3,z3⟩:=ap h3;obtain⟨n32,w32⟩:=ap z3;obtain⟨_,y32⟩:=ap w32;obtain⟨n31,w31⟩:=ap y32;obtain⟨_,y31⟩:=ap w31;obtain⟨n30,w30⟩:=ap y31;obtain⟨_,y30⟩:=ap w30;have q3:H d3=none:=y30;obtain⟨nx4,z4⟩:=ap h4;obtain⟨n43,w43⟩:=ap z4;obtain⟨_,y43⟩:=ap w43;obtain⟨n42,w42⟩:=ap y43;obtain⟨_,y42⟩:=ap w42;obtain⟨n41,w41⟩:=ap y42;obtain⟨_,y41⟩:=ap w41;obtain⟨n40,w40⟩:=ap y41;obtain⟨_,y40⟩:=ap w40;have q4:H d4=none:=y40;obtain⟨nx5,z5⟩:=ap h5;obtain⟨n54,w54⟩:=ap z5;obtain⟨_,y54⟩:=ap w54;obtain⟨n53,w53⟩:=ap y54;obtain⟨_,y53⟩:=ap w53;obtain⟨n52,w52⟩:=ap y53;obtain⟨_,y52⟩:=ap w52;obtain⟨n51,w51⟩:=ap y52;obtain⟨_,y51⟩:=ap w51;obtain⟨n50,w50⟩:=ap y51;obtain⟨_,y50⟩:=ap w50;have q5:H d5=none:=y50;have inj:=xJ (d0:=d0) (d1:=d1) (d2:=d2) (d3:=d3) (d4:=d4) (d5:=d5) (by simp [Ne.symm n10,Ne.symm n20,Ne.symm n30,Ne.symm n40,Ne.symm n50,Ne.symm n21,Ne.symm n31,Ne.symm n41,Ne.symm n51,Ne.symm n32,Ne.symm n42,Ne.symm n52,Ne.symm n43,Ne.symm n53,Ne.symm n54]);refine⟨_,rfl,x,t.b8,dx,_,rfl,aZ a8 (Ne.symm nx5),T.bj.cl,T.mM,(by omega),dd d0 d1 d2 d3 d4 d5,rfl,⟨a8,λj hj=>?_⟩,inj,λb o e=>aZ (aZ (aZ (aZ (aZ (aZ (aZ (aZ (aZ (aZ (aZ (aZ (aZ (sx e).2 (sx e).1) (bJ (sx e).2 q0)) (sx e).1) (bJ (sx e).2 q1)) (sx e).1) (bJ (sx e).2 q2)) (sx e).1) (bJ (sx e).2 q3)) (sx e).1) (bJ (sx e).2 q4)) (sx e).1) (bJ (sx e).2 q5)) (sx e).1,λk=>?_⟩
     . match j,hj with
       | 0,_=>exact aZ (aZ (aZ (aZ (aZ (aZ (aZ (aZ (aZ (aZ (aZ a8 nx0) (Ne.symm n10)) nx0) (Ne.symm n20)) nx0) (Ne.symm n30)) nx0) (Ne.symm n40)) nx0) (Ne.symm n50)) nx0
       | 1,_=>exact aZ (aZ (aZ (aZ (aZ (aZ (aZ (aZ (aZ a8 nx1) (Ne.symm n21)) nx1) (Ne.symm n31)) nx1) (Ne.symm n41)) nx1) (Ne.symm n51)) nx1
       | 2,_=>exact aZ (aZ (aZ (aZ (aZ (aZ (aZ a8 nx2) (Ne.symm n32)) nx2) (Ne.symm n42)) nx2) (Ne.symm n52)) nx2
       | 3,_=>exact aZ (aZ (aZ (aZ (aZ a8 nx3) (Ne.symm n43)) nx3) (Ne.symm n53)) nx3
       | 4,_=>exact aZ (aZ (aZ a8 nx4) (Ne.symm n54)) nx4
       | 5,_=>exact aZ a8 nx5
       | n+6,h=>omega
     . match k with
       | 0=>exact(eJ nx0).trans q0
       | 1=>exact(eJ nx1).trans q1
       | 2=>exact(eJ nx2).trans q2
       | 3=>exact(eJ nx3).trans q3
       | 4=>exact(eJ nx4).trans q4
       | n+5=>exact(eJ nx5).trans q5
   rintro σ' G ⟨d,rfl,hFS,inj,hsm,hfd⟩;refine⟨_,rfl,p,rfl,⟨_,hsm.seq hS⟩,zj (xs:=fns.map λf=>V.ref f.fa) (λi σ H2=>∃(v2 v3:Option V) (kv:Nat->List (aD×V)) (nl wl:Nat->Addr),σ=[some (.ref x),some (.ref p),v2,v3]/\a0 (cK x H) H2/\FS t.b8 H2 x dx (cF (V.str fz.name) d) d kv/\kv 0=kD (λi _=>.int i) (fns.take i)/\kv 1=kD (λ_ f=>f.fo) (fns.take i)/\kv 2=kD (λ_ f=>.ref f.pa) (fns.take i)/\kv 3=kD (λ_ f=>.ref f.ra) (fns.take i)/\kv 4=kD (λi _=>.ref (nl i)) (fns.take i)/\kv 5=kD (λi _=>.ref (wl i)) (fns.take i)/\(∀j g,j<i->fns[j]?=some g->hl H2 (nl j)=some (.lst ((nms g).map V.str))/\K13.FoundN (hl H2) (wl j) (kds g) (kds g).length)/\∀j,j<6->(kv j).length<=i) ⟨_,_,_,λ_=>0,λ_=>0,rfl,hsm,hFS,rfl,rfl,rfl,rfl,rfl,rfl,λj g h=>absurd h (D9 _),λj hj=>BG _⟩ ?_ ?_ ?_⟩
   . rintro i σ H2 hi ⟨v2,v3,kv,nlf,wlf,rfl,s2,_⟩;exact s2.seq hS
   . rintro i y σ H2 b hy ⟨v2,v3,kv,nlf,wlf,rfl,s2,o2,k0,k1,k2,k3,k4,k5,hnw,kl⟩ hb;obtain⟨f,hi,hm,rfl⟩:=cb hy;have ilt:i<fns.length:=(BC.mp hi).1;have hT:=(hE f hm).fn;have hfu:=(hE f hm).fu;have fit:∀{n:Nat},n<=i+1->n<sizeLine:=λ{n} h=>gT (by omega);refine⟨b,_,rfl,a9.of a8,rfl,_,_,rfl,_,_,rfl,rfl,?_⟩;have s3:=s2.trans (a0.new (o:=.tup [.int i,.ref f.fa]) hb);have o3:=o2.mono (a0.new (o:=.tup [.int i,.ref f.fa]) hb);refine⟨_,rfl,_,rfl,x,t.b8,dx,_,_,rfl,o3.ob,T.bj.cl,T.jR,jk _ _,_,rfl,f.fa,_,_,_,rfl,rfl,s3.tup hT,at0,d 0,_,rfl,ck.k (k:=(Sum.inr f.name:aD)) (show _=some (HO.dK (kv 0)) from o3.dc 0 (by decide)) (fit (by have:=kl 0 (by decide); simpa using (by omega:_<=i+1))),?_⟩;have s4:=a0.upd (o:=.dK (aU (kv 0) (Sum.inr f.name:aD) (V.int i))) s3 (hfd 0);have o4:=o3.put inj 0 (by decide) (aU (kv 0) (Sum.inr f.name:aD) (V.int i));refine⟨_,rfl,f.fa,_,_,_,rfl,rfl,s4.tup hT,rfl,_,rfl,x,t.b8,dx,_,_,rfl,o4.ob,T.bj.cl,T.mK,nh _ _,_,rfl,f.fa,_,_,_,rfl,rfl,s4.tup hT,at0,d 1,_,rfl,ck.k (k:=(Sum.inr f.name:aD)) (show _=some (HO.dK (kv 1)) from o4.dc 1 (by decide)) (fit (by have:=kl 1 (by decide); simpa using (by omega:_<=i+1))),?_⟩;have s5:=a0.upd (o:=.dK (aU (kv 1) (Sum.inr f.name:aD) f.fo)) s4 (hfd 1);have o5:=o4.put inj 1 (by decide) (aU (kv 1) (Sum.inr f.name:aD) f.fo);refine⟨_,rfl,f.fa,_,_,_,rfl,rfl,s5.tup hT,rfl,_,rfl,x,t.b8,dx,_,_,rfl,o5.ob,T.bj.cl,T.tF,uV _ _,_,rfl,f.fa,_,_,_,rfl,rfl,s5.tup hT,at0,d 2,_,rfl,ck.k (k:=(Sum.inr f.name:aD)) (show _=some (HO.dK (kv 2)) from o5.dc 2 (by decide)) (fit (by have:=kl 2 (by decide); simpa using (by omega:_<=i+1))),?_⟩;have s6:=a0.upd (o:=.dK (aU (kv 2) (Sum.inr f.name:aD) (.ref f.pa))) s5 (hfd 2);have o6:=o5.put inj 2 (by decide) (aU (kv 2) (Sum.inr f.name:aD) (.ref f.pa));refine⟨_,rfl,f.fa,_,_,_,rfl,rfl,s6.tup hT,rfl,_,rfl,x,t.b8,dx,_,_,rfl,o6.ob,T.bj.cl,T.mL,pF _ _,_,rfl,f.fa,_,_,_,rfl,rfl,s6.tup hT,at0,d 3,_,rfl,ck.k (k:=(Sum.inr f.name:aD)) (show _=some (HO.dK (kv 3)) from o6.dc 3 (by decide)) (fit (by have:=kl 3 (by decide); simpa using (by omega:_<=i+1))),?_⟩;have s7:=a0.upd (o:=.dK (aU (kv 3) (Sum.inr f.name:aD) (.ref f.ra))) s6 (hfd 3);have o7:=o6.put inj 3 (by decide) (aU (kv 3) (Sum.inr f.name:aD) (.ref f.ra));refine⟨_,rfl,f.fa,f.ps,f.ds,rfl,hfu.mono s7,λnl H8 e8 hnl hl8=>?_⟩;have s8:=s7.trans e8;have o8:=o7.mono e8;refine⟨_,rfl,x,t.b8,dx,_,_,rfl,o8.ob,T.bj.cl,T.tE,yn _ _,_,rfl,f.fa,_,_,_,rfl,rfl,s8.tup hT,at0,d 4,_,rfl,ck.k (k:=(Sum.inr f.name:aD)) (show _=some (HO.dK (kv 4)) from o8.dc 4 (by decide)) (fit (by have:=kl 4 (by decide); simpa using (by omega:_<=i+1))),?_⟩;have s9:=a0.upd (o:=.dK (aU (kv 4) (Sum.inr f.name:aD) (.ref nl))) s8 (hfd 4);have o9:=o8.put inj 4 (by decide) (aU (kv 4) (Sum.inr f.name:aD) (.ref nl));refine⟨_,rfl,f.fa,_,_,_,rfl,rfl,s9.tup hT,rfl,f.ra,kds f,rfl,((hE f hm).old.mono s9).rows,(hE f hm).wf,(by unfold kds; rw[BA]; have:=(hE f hm).len; omega),λwl HA eA hwl dq=>?_⟩;have sA:=s9.trans eA;have oA:=o9.mono eA;refine⟨_,rfl,x,t.b8,dx,_,_,rfl,oA.ob,T.bj.cl,T.mM,nJ _ _,_,rfl,f.fa,_,_,_,rfl,rfl,sA.tup hT,at0,d 5,_,rfl,ck.k (k:=(Sum.inr f.name:aD)) (show _=some (HO.dK (kv 5)) from oA.dc 5 (by decide)) (fit (by have:=kl 5 (by decide); simpa using (by omega:_<=i+1))),?_⟩;have sB:=a0.upd (o:=.dK (aU (kv 5) (Sum.inr f.name:aD) (.ref wl))) sA (hfd 5);have oB:=oA.put inj 5 (by decide) (aU (kv 5) (Sum.inr f.name:aD) (.ref wl));have c3:a0 (hl H2) (hl H8):=by have z1:a0 (hl H2) (hl (upd H2 b (.tup [.int i,.ref f.fa]))):=(a0.new (o:=.tup [.int i,.ref f.fa]) hb).hl;have z2:=e8.hl;rw[gQ (o6.dc 3 (by decide)),gQ (o5.dc 2 (by decide)),gQ (o4.dc 1 (by decide)),gQ (o3.dc 0 (by decide))] at z2;exact z1.trans z2
     have c4:a0 (hl H8) (hl HA):=by have z2:=eA.hl;rw[gQ (o8.dc 4 (by decide))] at z2;exact z2
     have c5:hl (upd HA (d 5) (.dK (aU (kv 5) (Sum.inr f.name:aD) (.ref wl))))=hl HA:=gQ (oA.dc 5 (by decide));refine⟨_,_,_,λj=>if j=i then nl else nlf j,λj=>if j=i then wl else wlf j,rfl,sB,oB,?_,?_,?_,?_,?_,?_,λj g hj hg=>?_,λj hj=>?_⟩
     . show aU (kv 0) (Sum.inr f.name:aD) (V.int i)=_;rw[k0];exact fK hi nd (λ_ _ _=>rfl) rfl
     . show aU (kv 1) (Sum.inr f.name:aD) f.fo=_;rw[k1];exact fK hi nd (λ_ _ _=>rfl) rfl
     . show aU (kv 2) (Sum.inr f.name:aD) (.ref f.pa)=_;rw[k2];exact fK hi nd (λ_ _ _=>rfl) rfl
     . show aU (kv 3) (Sum.inr f.name:aD) (.ref f.ra)=_;rw[k3];exact fK hi nd (λ_ _ _=>rfl) rfl
     . show aU (kv 4) (Sum.inr f.name:aD) (.ref nl)=_;rw[k4];exact fK hi nd (λj _ hj=>by show V.ref (nlf j)=V.ref (if j=i then nl else nlf j); rw[BE (by omega)]) (by show V.ref nl=V.ref (if i=i then nl else nlf i); rw[BJ rfl])
     . show aU (kv 5) (Sum.inr f.name:aD) (.ref wl)=_;rw[k5];exact fK hi nd (λj _ hj=>by show V.ref (wlf j)=V.ref (if j=i then wl else wlf j); rw[BE (by omega)]) (by show V.ref wl=V.ref (if i=i then wl else wlf i); rw[BJ rfl])
     . rw[c5];by_cases hji:j=i
       . subst hji;rw[hi] at hg;cases hg;refine⟨?_,?_⟩
         . show hl HA (if j=j then nl else nlf j)=_;rw[BJ rfl];exact c4 _ _ (nM hl8)
         . show K13.FoundN (hl HA) (if j=j then wl else wlf j) _ _;rw[BJ rfl];exact dq.hl
       . obtain⟨y1,y2⟩:=hnw j g (by omega) hg;refine⟨?_,?_⟩
         . show hl HA (if j=i then nl else nlf j)=_;rw[BE hji];exact c4 _ _ (c3 _ _ y1)
         . show K13.FoundN (hl HA) (if j=i then wl else wlf j) _ _;rw[BE hji];exact y2.mono (c3.trans c4)
     . have e:=kl j hj
       match j,hj with
       | 0,_=>exact Bk (cx _ _ _) (by omega)
       | 1,_=>exact Bk (cx _ _ _) (by omega)
       | 2,_=>exact Bk (cx _ _ _) (by omega)
       | 3,_=>exact Bk (cx _ _ _) (by omega)
       | 4,_=>exact Bk (cx _ _ _) (by omega)
       | 5,_=>exact Bk (cx _ _ _) (by omega)
       | n+6,h=>omega
   . rintro σ H2 ⟨v2,v3,kv,nlf,wlf,rfl,s2,o2,k0,k1,k2,k3,k4,k5,hnw,kl⟩;rw[fl,Bw] at k0 k1 k2 k3 k4 k5;exact q H2 s2 ⟨λf hf=>(hE f hf).mono s2,nd,dx,fz,d,kv,nlf,wlf,hz,o2,k0,k1,k2,k3,k4,k5,λi f hi=>let ⟨y1,y2⟩:=hnw i f (by rw[fl]; exact(BC.mp hi).1) hi; ⟨jy _ _ y1,y2.mono jy⟩⟩
end
end K51
namespace K51
open PySem L2 Gx Fl K55 Bg Wk Wh
section
variable {P:Program} {w:World} {K:W.Frag} {mg:Str->Option Value} {base:Heap} {t:Adr}
theorem uC:FnScope ["self","frame"] ["self","frame"] (aW ju):=by walk_at "s"
theorem oP (T:Txt K mg t):FnOk P w K mg base CX0 1 t.qw t.rn ["self","frame"] (tX K t):=by
 refine T.iK.F.ok uC (λvs H Q E h=>?_) (λcdv A outer s H vs Q E hr h=>?_)
 . obtain⟨_,_,_,_,_,_,rfl,_⟩:=h;rfl
 . obtain⟨x,fa,fns,p,f,w,rfl,hF,hT,hW,q⟩:=h;refine⟨_,(aC (@aQ _ _ _ _ (aB aG (dS (bu hr.units) (dN (pv 0) (by rfl)) (aB aG (pv 1) a6 (λ_ _=>rfl)) (λ_ _=>rfl)) (aB aG (pv 1) a6 (λ_ _=>rfl)) (λ_ _=>rfl))) aX),?_⟩;have nd:=hF.1.nd;obtain⟨i,hi⟩:=Bp hW.mem;obtain⟨dx,fz,d,kv,nl,wl,h0,hO,h2,h3,h4,h5,h6,h7,h8⟩:=hF.1.ob;have hd:=hO.dc 3 (by decide);rw[h5] at hd;have hg:=cG.k (k:=(Sum.inr f.name:aD)) hd;rw[F2.kD_at _ nd hi,hW.nm] at hg;exact⟨_,rfl,x,t.b8,dx,_,_,rfl,hO.ob,T.bj.cl,T.mL,pF _ _,_,rfl,fa,_,_,_,rfl,rfl,hT,at0,_,_,rfl,hg,_,rfl,fa,_,_,_,rfl,rfl,hT,rfl,f.ra,_,_,_,rfl,rfl,(hF.1.all f hW.mem).rw_,yl (by omega) (by rw[B']; exact hW.rw_),q⟩
theorem wm:FnScope ["self","frame"] ["self","frame"] (aW lY):=by walk_at "s"
theorem oK (T:Txt K mg t):FnOk P w K mg base CX0 1 t.qx t.rp ["self","frame"] (wb K t):=by
 refine T.iL.F.ok wm (λvs H Q E h=>?_) (λcdv A outer s H vs Q E hr h=>?_)
 . obtain⟨_,_,_,_,_,_,rfl,_⟩:=h;rfl
 . obtain⟨x,fa,fns,p,f,w,rfl,hF,hT,hW,he,q⟩:=h;refine⟨_,(aC (@aQ _ _ _ _ (aB aP (dS (bu hr.units) (dN (pv 0) (by rfl)) (aB aG (pv 1) a6 (λ_ _=>rfl)) (λ_ _=>rfl)) (aB aG (pv 1) a6 (λ_ _=>rfl)) (λ_ _=>rfl))) aX),?_⟩;have nd:=hF.1.nd;obtain⟨i,hi⟩:=Bp hW.mem;obtain⟨dx,fz,d,kv,nl,wl,h0,hO,h2,h3,h4,h5,h6,h7,h8⟩:=hF.1.ob;have hd:=hO.dc 5 (by decide);rw[h7] at hd;have hg:=cG.k (k:=(Sum.inr f.name:aD)) hd;rw[F2.kD_at _ nd hi,hW.nm] at hg;obtain⟨vs,e1,e2,e3⟩:=(h8 i f hi).2;have hp:p.2<vs.length:=by rw[e2,gh]; exact(BC.mp hW.rw_).1
   have ev:vs[p.2]?=some vs[p.2]:=BP hp;obtain⟨o,due,vo⟩:=e3 p.2 _ ev;obtain rfl:=due.uniq (iB (hF.2.wf f hW.mem) hW.rw_ he).1;obtain⟨qa,eq1,eq2⟩:=vo;have ea:aY vs (p.2:Int)=some (.ref qa):=by rw[<- eq1]; exact bp ev
   exact⟨_,rfl,x,t.b8,dx,_,_,rfl,hO.ob,T.bj.cl,T.mM,nJ _ _,_,rfl,fa,_,_,_,rfl,rfl,hT,at0,_,_,rfl,hg,_,rfl,fa,_,_,_,rfl,rfl,hT,rfl,_,_,_,_,rfl,rfl,aA.of e1,ea,q qa (a9.of eq2)⟩
theorem qV:FnScope ["flows","chain","way","last"] ["flows","chain","way"] (aW ko):=by walk_at "s"
theorem vC (T:Txt K mg t):FnOk P w K mg base CX0 2 t.rW t.sj ["flows","chain","way"] (x8 K t):=by
 have G_Flows_ways_at:=oK (P:=P) (w:=w) (base:=base) T;refine T.moved.F.ok qV (λvs H Q E h=>?_) (λcdv A outer s H vs Q E hr h=>?_)
 . obtain⟨_,_,_,_,_,_,_,_,_,rfl,_⟩:=h;rfl
 . obtain⟨x,ca,fns,p,rest,f,w,j,to_,rfl,hF,hC,hW,he,hj,hl,q⟩:=h;refine⟨_,(aC (@aK _ _ 3 _ _ _ _ qV.nd rfl (Or.inl rfl) (aB aG (pv 1) (bO bN a6) (λ_ _=>rfl)) (by rfl) (by walk_at "f")) (@aE _ _ _ (@aQ _ _ _ _ (@aM _ _ _ _ _ _ _ _ vn (cN eE (pv 1) cW (cC (bO bN a6))) (aS (a4 (aS (a4 (aB aG (pv 3) a6 (λ_ _=>rfl)) (a4 (aB aG (jD (pv 0) T.bj.cl T.iL.m G_Flows_ways_at (hr.mono (by decide)) T.iL.b .nil fw (a4 (pv 3) a7 rfl)) (pv 2) (λ_ _=>rfl)) a7 rfl) rfl)) a7 rfl)))))),?_⟩;obtain⟨fa,yr,h1,h2,h3⟩:=hC.cons;refine⟨_,rfl,_,rfl,ca,_,_,_,rfl,rfl,h1,gR _ _,?_⟩;refine⟨_,rfl,_,rfl,_,rfl,dv h1 λqA HA sA hqA=>?_⟩;rw[jB] at hqA;obtain⟨dx,fs,ob,_,lk2⟩:=(hF.mono sA).ob;refine⟨_,rfl,fa,_,_,_,rfl,rfl,sA.tup h2,at0,_,rfl,x,dx,_,rfl,ob,lk2,_,rfl,x,fa,fns,p,f,w,rfl,hF.mono sA,sA.tup h2,hW,he,λqq hq=>?_⟩;refine⟨_,rfl,qq,_,_,_,rfl,rfl,hq,(show aY (K13.natsV (bA f p.2)) (j:Int)=some (.int to_) from bp (by unfold K13.natsV; rw[BI,hj]; rfl)),ay,λp1 hp1=>⟨bt,λp2 hp2=>?_⟩⟩;have s1:a0 HA (upd (upd HA p1 (.tup [.str p.1.1,.int (to_:Int)])) p2 (.tup [.ref p1])):=(a0.new hp1).trans (a0.new hp2);have e1:a9 K (upd (upd HA p1 (.tup [.str p.1.1,.int (to_:Int)])) p2 (.tup [.ref p1])) p1 [.str p.1.1,.int (to_:Int)]:=(a0.new hp2).tup (a9.of a8);by_cases hy:yr=[]
   . subst hy;refine .inr ⟨qA,p2,_,rfl,rfl,s1.tup hqA,a9.of a8,q p2 _ (sA.trans s1) ?_⟩;exact bU.mk (fa:=p1) (a9.of a8) e1 (fm h3 (sA.trans s1))
   . have ln:yr.length=rest.length:=(Paired.length h3).symm;refine .inl ⟨qA,p2,_,_,rfl,rfl,s1.tup hqA,a9.of a8,by simpa using hy,?_,λz=>absurd z (by simp),λ_ p3 hp3=>?_⟩
     . rw[CD,ln];show rest.length+1<=sizeLine;have:(4:Nat)<=sizeLine:=by decide
       omega
     . exact q p3 _ ((sA.trans s1).trans (a0.new hp3)) (bU.mk (fa:=p1) (a9.of a8) ((a0.new hp3).tup e1) (fm h3 ((sA.trans s1).trans (a0.new hp3))))
theorem pO:FnScope ["flows","chain","called"] ["flows","chain"] (aW lD):=by walk_at "s"
theorem A9 (T:Txt K mg t):FnOk P w K mg base CX0 2 t.rB t.sL ["flows","chain"] (xb K t):=by
 have G_Flows_row_at:=oP (P:=P) (w:=w) (base:=base) T;refine T.is_in_place.F.ok pO (λvs H Q E h=>?_) (λcdv A outer s H vs Q E hr h=>?_)
 . obtain⟨_,_,_,_,_,_,_,rfl,_⟩:=h;rfl
 . obtain⟨x,ca,fns,p,rest,f,w,rfl,hF,hC,hW,hk,hl,q⟩:=h;refine⟨_,(aC (@aK _ _ 2 _ _ _ _ pO.nd rfl (Or.inl rfl) (aB aG (jD (pv 0) T.bj.cl T.iK.m G_Flows_row_at (hr.mono (by decide)) T.iK.b .nil fw (a4 (aB aG (pv 1) (bO bN a6) (λ_ _=>rfl)) a7 rfl)) a6 (λ_ _=>rfl)) (by rfl) (by walk_at "f")) (aC (aT (@PW.pt _ _ _ (fj (dU (cu (dS (bu hr.units) (dN (pv 0) (by rfl)) (pv 2) (λ_ _=>rfl)))) (g7 (aL yO (au bI (by rfl) T.b_len bC (a4 (pv 1) a7 rfl)) (qM T.B4) (aN _))))) (@aE _ _ _ (@aQ _ _ _ _ bQ)) aX) (@aE _ _ _ (@aQ _ _ _ _ (eB fE (dS (bu hr.units) (dN (pv 0) (by rfl)) (pv 2) (λ_ _=>rfl)) (dS (bu hr.units) (dN (pv 0) (by rfl)) (aB aG (aB aG (pv 1) (bO bN a6) (λ_ _=>rfl)) a6 (λ_ _=>rfl)) (λ_ _=>rfl)) (aN _)))))),?_⟩;obtain⟨fa,yr,h1,h2,h3⟩:=hC.cons;obtain⟨dx,fs,ob,lk1,_⟩:=hF.ob;have hmem:=BQ hW.rw_;obtain⟨rest',hr1,hr2⟩:=(hF.1.all f hW.mem).rk w hmem;obtain⟨xx,yy,rfl⟩:=hr2 hk;refine⟨_,rfl,x,dx,_,rfl,ob,lk1,_,rfl,_,rfl,ca,_,_,_,rfl,rfl,h1,gR _ _,x,fa,fns,p,f,w,rfl,hF,h2,hW,w.r,_,_,_,rfl,rfl,hr1,rfl,?_⟩;have nd:=hF.1.nd;obtain⟨i,hi⟩:=Bp hW.mem;obtain⟨fc,hfc,hcn⟩:=hF.2.call f hW.mem w hmem hk;obtain⟨j,hj⟩:=Bp hfc;have li:=eZ nd hi;have lj:=eZ nd hj;rw[hW.nm] at li;rw[hcn] at lj;obtain⟨bf,hbf⟩:=hF.2.fo fc hfc;obtain⟨dx',fz,d,kv,nl,wl,h0,hO,e2,e3,e4,e5,e6,e7,e8⟩:=hF.1.ob;have d0:=hO.dc 0 (by decide);rw[e2] at d0;have d1:=hO.dc 1 (by decide);rw[e3] at d1;have g1:=cG.k (k:=(Sum.inr fc.name:aD)) d1;rw[F2.kD_at _ nd hj,hcn,hbf] at g1;have g0:=cG.k (k:=(Sum.inr fc.name:aD)) d0;rw[F2.kD_at _ nd hj,hcn] at g0;have g2:=cG.k (k:=(Sum.inr f.name:aD)) d0;rw[F2.kD_at _ nd hi,hW.nm] at g2;have ei:bh fns p.1.1 w.c rest.length=(decide (bf=true)&&decide (rest.length+1<3)&&decide (j<i)):=by unfold bh;rw[lj.1,lj.2,li.2];show(decide (fc.fo=.bl true)&&_&&_)=_;rw[hbf];cases bf <;> rfl
   rw[ei] at q;have ln:(yr.reverse++[V.ref fa]).length=rest.length+1:=by rw[BH,CD,(Paired.length h3).symm]; rfl
   refine⟨_,rfl,x,t.b8,dx',_,_,rfl,hO.ob,T.bj.cl,T.mK,nh _ _,_,rfl,_,_,rfl,g1,?_⟩;refine⟨bf,rfl,?_⟩;cases bf with
   | false=>exact aV rfl (aV rfl (q H (a0.refl _)))
   | true =>
     refine aO (by simp) ⟨_,rfl,ca,_,rfl,.inr h1,_,_,rfl,rfl,_,rfl,?_⟩;by_cases c:rest.length+1<3
     . refine aO (by rw[BL,ln]; omega) ⟨_,rfl,x,t.b8,dx',_,_,rfl,hO.ob,T.bj.cl,T.jR,jk _ _,_,rfl,_,_,rfl,g0,_,rfl,x,t.b8,dx',_,_,rfl,hO.ob,T.bj.cl,T.jR,jk _ _,_,rfl,_,rfl,ca,_,_,_,rfl,rfl,h1,gR _ _,fa,_,_,_,rfl,rfl,h2,at0,_,_,rfl,g2,_,_,rfl,rfl,?_⟩;have:=q H (a0.refl _);rw[BN c] at this;refine vq ?_ this;show V.bl (decide ((j:Int)<(i:Int)))=V.bl (true&&true&&decide (j<i));rw[E3,E3];congr 1;rw[C3,BL,BL];omega
     . refine aV (by rw[BL,ln]; omega) ?_;have:=q H (a0.refl _);rw[BY c] at this;exact this
theorem mQ:FnScope ["flows","chain","wait","row"] ["flows","chain","wait"] (aW jq):=by walk_at "s"
theorem xA (T:Txt K mg t):FnOk P w K mg base CX0 3 t.rf t.sv ["flows","chain","wait"] (tQ K t):=by
 have G_moved:=vC (P:=P) (w:=w) (base:=base) T;have G_is_in_place:=A9 (P:=P) (w:=w) (base:=base) T;have G_Flows_row_at:=oP (P:=P) (w:=w) (base:=base) T;have G_Flows_ways_at:=oK (P:=P) (w:=w) (base:=base) T;refine T.stops_behind.F.ok mQ (λvs H Q E h=>?_) (λcdv A outer s H vs Q E hr h=>?_)
 . obtain⟨_,_,_,_,_,_,_,rfl,_⟩:=h;rfl
 . obtain⟨x,ca,fns,g,p,rest,wt,rfl,hF,hC,hV,q⟩:=h;refine⟨_,(aC (@aK _ _ 3 _ _ _ _ mQ.nd rfl (Or.inl rfl) (jD (pv 0) T.bj.cl T.iK.m G_Flows_row_at (hr.mono (by decide)) T.iK.b .nil fw (a4 (aB aG (pv 1) (bO bN a6) (λ_ _=>rfl)) a7 rfl)) (by rfl) (by walk_at "f")) (aC (aT (aL am (aB aG (pv 3) a6 (λ_ _=>rfl)) af (aN _)) (@aE _ _ _ (@aQ _ _ _ _ (@kY _ _ _ _ _ _ _ _ (aL eT (au bI (by rfl) T.b_len bC (a4 (pv 1) a7 rfl)) a6 (aN _)) (bd (a4 (aS (a4 (ah T.moved G_moved (hr.mono (by decide)) (a4 (pv 0) (a4 (cN eE (pv 1) cW (cC (bO bN a6))) (a4 a6 a7 rfl) rfl) rfl)) (a4 bQ a7 rfl) rfl)) a7 rfl)) (bd a7)))) aX) (aC (aT (@PW.pt _ _ _ (cT (aL am (aB aG (pv 3) a6 (λ_ _=>rfl)) af (aN _)) (cV (dU (cu (pv 2)))))) (@aE _ _ _ (@aQ _ _ _ _ (bd (a4 (@kY _ _ _ _ _ _ _ _ (cu (ah T.is_in_place G_is_in_place (hr.mono (by decide)) (a4 (pv 0) (a4 (pv 1) a7 rfl) rfl))) (aS (a4 (@aM _ _ _ _ _ _ _ _ hU (pv 1) (aS (a4 (aS (a4 (aB aG (pv 3) a6 (λ_ _=>rfl)) (a4 a6 a7 rfl) rfl)) a7 rfl))) (a4 bQ a7 rfl) rfl)) (aS (a4 (pv 1) (a4 bQ a7 rfl) rfl))) a7 rfl)))) aX) (@aE _ _ _ (@aQ _ _ _ _ (dL (N':=["way","flows","chain"]) (js:=[none,some 0,some 1]) (by kernel_rfl) rfl (gK rfl T.b_range (a4 (au bI (by rfl) T.b_len bC (a4 (jD (pv 0) T.bj.cl T.iL.m G_Flows_ways_at (hr.mono (by decide)) T.iL.b .nil fw (a4 (aB aG (pv 1) (bO bN a6) (λ_ _=>rfl)) a7 rfl)) a7 rfl)) a7 rfl)) cZ (λ_ _ _ _=>(ai (i:=0) (show(["way","flows","chain"]:List Str).Nodup by decide +kernel) rfl (Or.inl rfl) (.inr rfl))) (λ_ _ _ _=>da) (λ_ _ _ _=>(aS (a4 (ah T.moved G_moved (hr.mono (by decide)) (a4 (pv 1) (a4 (pv 2) (a4 (pv 0) a7 rfl) rfl) rfl)) (a4 bQ a7 rfl) rfl))))))))),?_⟩;obtain⟨fa,yr,h1,h2,h3⟩:=hC.cons;obtain⟨dx,fs,ob,lk1,lk2⟩:=hF.ob;obtain⟨f,w,hW,hE⟩:=Vc.hd hV.ch;have P:=hF.2;obtain⟨rest',hr1,hr2⟩:=(hF.1.all f hW.mem).rk w (BQ hW.rw_);have ln:(yr.reverse++[V.ref fa]).length=rest.length+1:=by rw[BH,CD,(Paired.length h3).symm]; rfl
   have W2:=lr f p.2;have nl:(K13.natsV (bA f p.2)).length=(bA f p.2).length:=by unfold K13.natsV; rw[BA]
   refine⟨_,rfl,x,dx,_,rfl,ob,lk1,_,rfl,_,rfl,ca,_,_,_,rfl,rfl,h1,gR _ _,x,fa,fns,p,f,w,rfl,hF,h2,hW,?_⟩;have t4:(4:Nat)<=sizeLine:=by decide
   have hlen:=Vc.len hV.ch;refine⟨_,rfl,w.r,_,_,_,rfl,rfl,hr1,at0,rfl,_,rfl,?_⟩;by_cases hb:w.k="back"
   . refine aV (BN (by rw[hb])) ⟨_,rfl,ca,_,rfl,.inr h1,_,_,rfl,rfl,_,rfl,?_⟩;cases rest with
     | nil =>
       refine aO (by rw[BL,ln]; decide) ⟨dB,λl hl=>q l _ [] (a0.new hl) hl a8 ?_⟩;rw[jf P hW hb];exact .nil
     | cons q1 r1 =>
       refine aV (by rw[BL,ln,BV]; omega) ?_;obtain⟨f1,w1,hW1,hk1⟩:=Vc.tl hV.ch q1 BU;have hE1:K13.isE w1.k=false:=by rw[hk1]; exact gy
       obtain⟨t0,tl,ht⟩:∃t0 tl,bA f1 q1.2=t0 :: tl:=List.exists_cons_of_ne_nil ((iB (P.wf f1 hW1.mem) hW1.rw_ hE1).2.2 (by rw[hk1]; exact jX.1));refine⟨_,rfl,_,rfl,_,rfl,_,rfl,dv h1 λqA HA sA hqA=>?_⟩;rw[jB] at hqA;rw[BV] at hlen;refine⟨x,qA,fns,q1,r1,f1,w1,0,t0,rfl,hF.mono sA,⟨yr,hqA,fm h3 sA⟩,hW1,hE1,by rw[ht]; rfl,by omega,λca' H' s' hch=>?_⟩;refine⟨ay,λb hb'=>⟨bt,λl hl=>?_⟩⟩;have sl:a0 H _:=((sA.trans s').trans (a0.new (o:=.tup [.ref ca',.bl false]) hb')).trans (a0.new (o:=.lst [.ref b]) hl);have hl0:H l=none:=((sA.trans s').trans (a0.new (o:=.tup [.ref ca',.bl false]) hb')).free hl;refine q l _ [b] sl hl0 a8 ?_;rw[lx P hW hb hW1,ht];exact .cons ⟨ca',(a0.new hl).tup (a9.of a8),hch.ts (.of ((a0.new hb').trans (a0.new hl)))⟩ .nil
   . refine aO (λz=>hb (V.str.inj (Bo z))) ⟨_,rfl,w.r,_,_,_,rfl,rfl,hr1,at0,rfl,_,rfl,?_⟩;by_cases hc:w.k="call"/\wt=false
     . obtain⟨hk,rfl⟩:=hc;refine aV (BN (by rw[hk])) ⟨_,rfl,_,rfl,aV rfl ?_⟩;obtain⟨xx,yy,rfl⟩:=hr2 hk;obtain⟨fc,hfc,hcn⟩:=P.call f hW.mem w (BQ hW.rw_) hk;have ok:PyData.strOk w.c=true:=by rw[<- hcn]; exact P.ok fc hfc
       refine⟨_,rfl,_,rfl,x,ca,fns,p,rest,f,w,rfl,hF,hC,hW,hk,by omega,λH1 s1=>⟨_,rfl,?_⟩⟩;by_cases hi:bh fns p.1.1 w.c rest.length=true
       . refine aV hi ⟨_,rfl,_,rfl,w.r,_,_,_,rfl,rfl,s1.tup hr1,rfl,ay,λp1 hp1=>⟨bt,λp2 hp2=>?_⟩⟩;have s2:=(a0.new (o:=.tup [.str w.c,.int 0]) hp1).trans (a0.new (o:=.tup [.ref p1]) hp2);refine⟨ca,p2,_,_,rfl,rfl,(s1.trans s2).tup h1,a9.of a8,by simp,by rw[ln]; show rest.length+1+1<=sizeLine; omega,λz=>absurd z (by simp),λ_ p3 hp3=>?_⟩;refine⟨ay,λb hb'=>⟨bt,λl hl=>?_⟩⟩;have s3:=(a0.new (o:=.tup (yr.reverse++[.ref fa]++[.ref p1])) hp3).trans ((a0.new (o:=.tup [.ref p3,.bl false]) hb').trans (a0.new (o:=.lst [.ref b]) hl));have hl0:H l=none:=((s1.trans s2).trans ((a0.new (o:=.tup (yr.reverse++[.ref fa]++[.ref p1])) hp3).trans (a0.new (o:=.tup [.ref p3,.bl false]) hb'))).free hl;refine q l _ [b] ((s1.trans s2).trans s3) hl0 a8 ?_;rw[kE P hW hk hi];have e:(az w.c).1=w.c:=by unfold az; rw[dif_pos ok]
         refine .cons ⟨p3,(a0.new hl).tup (a9.of a8),?_⟩ .nil;refine bU.mk (fa:=p1) (yr:=.ref fa :: yr) ?_ ?_ (.cons ⟨fa,rfl,((s1.trans s2).trans s3).tup h2⟩ (fm h3 ((s1.trans s2).trans s3)))
         . rw[CH];exact((a0.new hb').trans (a0.new hl)).tup (a9.of a8)
         . rw[e];exact(((a0.new hp2).trans s3)).tup (a9.of a8)
       . refine aO hi ⟨_,rfl,ay,λb hb'=>⟨bt,λl hl=>?_⟩⟩;have s2:=(a0.new (o:=.tup [.ref ca,.bl true]) hb').trans (a0.new (o:=.lst [.ref b]) hl);refine q l _ [b] (s1.trans s2) ((s1.trans (a0.new (o:=.tup [.ref ca,.bl true]) hb')).free hl) a8 ?_;rw[l9 P hW hk hi];exact .cons ⟨ca,(a0.new hl).tup (a9.of a8),hC.ts (.of (s1.trans s2))⟩ .nil
     . by_cases hk:w.k="call"
       . have hwt:wt=true:=by cases wt with|true=>rfl|false=>exact absurd ⟨hk,rfl⟩ hc
         subst hwt;refine aV (BN (by rw[hk])) ⟨_,rfl,_,rfl,aO (by simp) ?_⟩;refine⟨_,rfl,x,dx,_,rfl,ob,lk2,_,rfl,_,rfl,ca,_,_,_,rfl,rfl,h1,gR _ _,x,fa,fns,p,f,w,rfl,hF,h2,hW,hE,λqq hq=>⟨qq,_,rfl,.inr hq,_,rfl,(by rw[nl]; omega),(by rw[nl]; omega),λl hl=>iH (lo:=0) (n:=(K13.natsV (bA f p.2)).length) (by rw[nl]; omega) (λi acc H2=>a0 H H2/\H2 l=some (.lst acc)/\∃bs:List Addr,acc=bs.map V.ref/\Paired (λs b=>bV K H2 b s) (((bA f p.2).take i).map λto=>((p.1,to) :: rest,false)) bs) ⟨a0.new hl,a8,[],rfl,.nil⟩ ?_ ?_ ?_⟩⟩
         . rintro i acc H2 hi ⟨s2,e2,bs,rfl,hP⟩;have:=Paired.length hP;rw[BA,Bd] at this;exact⟨e2,by rw[BA]; omega⟩
         . rintro i acc H2 hi ⟨s2,e2,bs,rfl,hP⟩;rw[nl] at hi;have ei:(bA f p.2)[i]?=some (bA f p.2)[i]:=BP hi;refine⟨_,rfl,_,rfl,_,rfl,x,ca,fns,p,rest,f,w,i,(bA f p.2)[i],vj _ _ (by omega),hF.mono s2,hC.ts (.of s2),hW,hE,ei,by omega,λca' H' s' hch=>⟨ay,λb hb'=>?_⟩⟩;have s3:=s'.trans (a0.new (o:=.tup [.ref ca',.bl false]) hb');have t3:TS H2 _:=(TS.of s3).trans (TS.lst (o:=.lst (bs.map V.ref++[.ref b])) (s3 _ _ e2));refine⟨s3 _ _ e2,(s2.trans s3).upd hl,a8,bs++[b],by rw[BK]; rfl,?_⟩;rw[Bm,ei,BK];refine Paired.snoc (Paired.mapP hP λs b q=>q.ts t3) ⟨ca',?_,?_⟩
           . exact(TS.lst (s3 _ _ e2)).tup (a9.of a8)
           . exact(hch.ts (.of (a0.new hb'))).ts (TS.lst (s3 _ _ e2))
         . rintro acc H2 ⟨s2,e2,bs,rfl,hP⟩;rw[nl,Bw] at hP;refine q l H2 bs s2 hl e2 ?_;rw[ix P hW hb hc];exact hP
       . refine aO (λz=>hk (V.str.inj (Bo z))) (aO (by simp) ?_);refine⟨_,rfl,x,dx,_,rfl,ob,lk2,_,rfl,_,rfl,ca,_,_,_,rfl,rfl,h1,gR _ _,x,fa,fns,p,f,w,rfl,hF,h2,hW,hE,λqq hq=>⟨qq,_,rfl,.inr hq,_,rfl,(by rw[nl]; omega),(by rw[nl]; omega),λl hl=>iH (lo:=0) (n:=(K13.natsV (bA f p.2)).length) (by rw[nl]; omega) (λi acc H2=>a0 H H2/\H2 l=some (.lst acc)/\∃bs:List Addr,acc=bs.map V.ref/\Paired (λs b=>bV K H2 b s) (((bA f p.2).take i).map λto=>((p.1,to) :: rest,false)) bs) ⟨a0.new hl,a8,[],rfl,.nil⟩ ?_ ?_ ?_⟩⟩
         . rintro i acc H2 hi ⟨s2,e2,bs,rfl,hP⟩;have:=Paired.length hP;rw[BA,Bd] at this;exact⟨e2,by rw[BA]; omega⟩
         . rintro i acc H2 hi ⟨s2,e2,bs,rfl,hP⟩;rw[nl] at hi;have ei:(bA f p.2)[i]?=some (bA f p.2)[i]:=BP hi;refine⟨_,rfl,_,rfl,_,rfl,x,ca,fns,p,rest,f,w,i,(bA f p.2)[i],vj _ _ (by omega),hF.mono s2,hC.ts (.of s2),hW,hE,ei,by omega,λca' H' s' hch=>⟨ay,λb hb'=>?_⟩⟩;have s3:=s'.trans (a0.new (o:=.tup [.ref ca',.bl false]) hb');have t3:TS H2 _:=(TS.of s3).trans (TS.lst (o:=.lst (bs.map V.ref++[.ref b])) (s3 _ _ e2));refine⟨s3 _ _ e2,(s2.trans s3).upd hl,a8,bs++[b],by rw[BK]; rfl,?_⟩;rw[Bm,ei,BK];refine Paired.snoc (Paired.mapP hP λs b q=>q.ts t3) ⟨ca',?_,?_⟩
           . exact(TS.lst (s3 _ _ e2)).tup (a9.of a8)
           . exact(hch.ts (.of (a0.new hb'))).ts (TS.lst (s3 _ _ e2))
         . rintro acc H2 ⟨s2,e2,bs,rfl,hP⟩;rw[nl,Bw] at hP;refine q l H2 bs s2 hl e2 ?_;rw[ix P hW hb hc];exact hP
theorem eh:FnScope ["flows","name","stops","numbers","stations","chain","wait","ways","stop"] ["flows","name"] (aW lK):=by walk_at "s"
theorem yV (T:Txt K mg t):FnOk P w K mg base CX0 5 t.rZ t.sr ["flows","name"] (zY K t):=by
 have G_stops_behind:=xA (P:=P) (w:=w) (base:=base) T;refine T.plan_in.F.ok eh (λvs H Q E h=>?_) (λcdv A outer s H vs Q E hr h=>?_)
 . obtain⟨_,_,_,rfl,_⟩:=h;rfl
 . obtain⟨x,fns,h,rfl,hF,hh,hB,q⟩:=h;refine⟨_,(aC (@aK _ _ 2 _ _ _ _ eh.nd rfl (Or.inl rfl) (bd (a4 (aS (a4 (aS (a4 (aS (a4 (pv 1) (a4 a6 a7 rfl) rfl)) a7 rfl)) (a4 bQ a7 rfl) rfl)) a7 rfl)) (by rfl) (by walk_at "f")) (aC (@aK _ _ 3 _ _ _ _ eh.nd rfl (Or.inl rfl) (Av bP hr.units (aB aP (pv 2) a6 (λ_ _=>rfl)) a6) (by rfl) (by walk_at "f")) (aC (@aK _ _ 4 _ _ _ _ eh.nd rfl (Or.inl rfl) (bd a7) (by rfl) (by walk_at "f")) (aC (pi PassesOwn.never (aL fE (au bI (by rfl) T.b_len bC (a4 (pv 4) a7 rfl)) (au bI (by rfl) T.b_len bC (a4 (pv 2) a7 rfl)) (aN _)) (aC (dZ (aB aP (pv 2) (au bI (by rfl) T.b_len bC (a4 (pv 4) a7 rfl)) (λ_ _=>rfl)) (eW rfl (bW (ai (i:=5) eh.nd rfl (Or.inl rfl)) (bW (ai (i:=6) eh.nd rfl (Or.inl rfl)) dm)))) (aC (@aK _ _ 7 _ _ _ _ eh.nd rfl (Or.inl rfl) (bd a7) (by rfl) (by walk_at "f")) (aC (cD PassesOwn.never rfl (cq (ah T.stops_behind G_stops_behind (hr.mono (by decide)) (a4 (pv 0) (a4 (pv 5) (a4 (pv 6) a7 rfl) rfl) rfl))) (ai (i:=8) eh.nd rfl (Or.inl rfl)) (aC (aT (aL (yZ bP hr.units) (pv 8) (pv 3) (by with_unfolding_all rfl)) (aC (aT (aL am (au bI (by rfl) T.b_len bC (a4 (pv 2) a7 rfl)) (qM T.B5) (aN _)) xI aX) (aC (xL bP hr.units (pv 3) (pv 8) (au bI (by rfl) T.b_len bC (a4 (pv 2) a7 rfl)) (by rfl)) (@aE _ _ _ (@bS _ _ _ _ (bT BR Bb Bc bi (pv 2) (a4 (pv 8) a7 rfl)) (by rfl))))) aX) (@aE _ _ _ (@bS _ _ _ _ (bT BR Bb Bc bi (pv 7) (a4 (AB bP hr.units (pv 3) (pv 8) (λ_ _=>rfl)) a7 rfl)) (by rfl))))) (@aE _ _ _ (@bS _ _ _ _ (bT BR Bb Bc bi (pv 4) (a4 (aS (a4 (pv 5) (a4 (pv 6) (a4 (ci j2 (by rfl) T.b_tuple fU (a4 (pv 7) a7 rfl)) a7 rfl) rfl) rfl)) a7 rfl)) (by rfl))))))) (@aE _ _ _ (@aQ _ _ _ _ (pv 4))))))),?_⟩;have P':=hF.2;have eg:(az h.name).1=h.name:=by rw[gS (P'.ok h hh)]
   generalize hgg:az h.name=g at hB q eg;have V0:VS fns g ([(g,0)],false):=by rw[<- hgg]; exact zq P' hh
   rw[<- eg];refine⟨_,rfl,ay,λa1 ha1=>⟨bt,λa2 ha2=>⟨ay,λa3 ha3=>⟨bt,λl1 hl1=>?_⟩⟩⟩⟩;intro nd hnd;have S3:=((a0.new (o:=.tup [.str g.1,.int 0]) ha1).trans (a0.new (o:=.tup [.ref a1]) ha2)).trans (a0.new (o:=.tup [.ref a2,.bl false]) ha3);have n1:=S3.free hl1;have S4:=S3.trans (a0.new (o:=.lst [.ref a3]) hl1);have n2:=S4.free hnd;have A4:bV K _ a3 ([(g,0)],false):=st0 (((a0.new (o:=.tup [.ref a1]) ha2).trans ((a0.new (o:=.tup [.ref a2,.bl false]) ha3).trans (a0.new (o:=.lst [.ref a3]) hl1))).tup (a9.of a8)) (((a0.new (o:=.tup [.ref a2,.bl false]) ha3).trans (a0.new (o:=.lst [.ref a3]) hl1)).tup (a9.of a8)) ((a0.new (o:=.lst [.ref a3]) hl1).tup (a9.of a8));have A5:=A4.ts (.of (a0.new (o:=SD bP P w nd []) hnd));have hl1':=a0.new (o:=SD bP P w nd []) hnd _ _ (a8 (o:=.lst [.ref a3]));refine⟨_,rfl,l1,_,_,_,rfl,rfl,aA.of hl1',at0,a3,([(g,0)],false),.int 0,rfl,a8,A5.dat,?_⟩;refine⟨dB,λl2 hl2=>?_⟩;obtain⟨L0,n12,n22⟩:=LQ.ini (fns:=fns) (S4.trans (a0.new hnd)) n2 hl1' a8 A5 hl2;refine Az (λσ Hc=>∃ss i ys bs v5 v6 v7 v8,σ=[some (.ref x),some (.str g.1),some (.ref l1),some (.ref nd),some (.ref l2),v5,v6,v7,v8]/\LQ K P w H Hc l1 nd l2 fns ss i ys bs/\Bf fns g ss i) (λ_ Hc=>match Hc l2 with|some (.lst xs)=>200 - xs.length|_=>0) ⟨_,0,[],[a3],_,_,_,_,rfl,L0,Bf.ini V0⟩ ?_ ?_
   . rintro σ Hc ⟨ss,i,ys,bs,v5,v6,v7,v8,rfl,hL,hB1⟩;have lb:=hL.lb;have hi:=hB1.le;have ly:ys.length=i:=by rw[<- hL.ly]; exact DA hi
     have l200:=hB1.len P' hB;refine⟨_,rfl,l2,_,rfl,.inl (aA.of hL.e2),_,rfl,l1,_,rfl,.inl (aA.of hL.e1),_,_,rfl,rfl,_,rfl,?_⟩;by_cases c:i<ss.length
     . refine aV (by rw[BL,BA,BA,<- lb,ly]; omega) ?_;have es:ss[i]?=some ss[i]:=BP c;have eb:bs[i]?=some (bs[i]'(by omega)):=BP (by omega);have hst:bV K Hc (bs[i]'(by omega)) ss[i]:=iE hL.st c (by omega);generalize hs:ss[i]=s at es hst;generalize bs[i]'(by omega)=b at eb hst;obtain⟨ch,wt⟩:=s;obtain⟨ca,hb1,hb2⟩:=hst;have hV:=hB1.vs _ (BQ es);cases ch with
       | nil=>exact absurd hV.ch (by intro z; exact z)
       | cons p rest =>
       refine⟨_,rfl,_,rfl,l2,_,rfl,.inl (aA.of hL.e2),l1,_,_,_,rfl,rfl,aA.of hL.e1,(show aY (bs.map V.ref) (((ys.map V.ref).length:Nat):Int)=some (.ref b) by rw[BA,ly]; exact bp (by rw[BI,eb]; rfl)),?_⟩;refine⟨b,_,rfl,hb1,rfl,?_⟩;refine⟨_,_,rfl,_,_,rfl,rfl,dB,λl3 hl3=>?_⟩;have L3:=hL.mono (a0.new (o:=.lst []) hl3);have n33:=hL.same.free hl3;have n13:l1≠l3:=bJ hL.e1 hl3;have n23:l2≠l3:=bJ hL.e2 hl3;refine⟨_,rfl,_,rfl,_,rfl,x,ca,fns,g,p,rest,wt,rfl,hF.mono L3.same,hb2.ts (.of (a0.new hl3)),hV,λl4 H4 bs4 s4 hl4 e4 hT=>?_⟩;have L4:=L3.mono s4;have n14:l1≠l4:=bJ L3.e1 hl4;have n34:l3≠l4:=bJ (o:=.lst []) a8 hl4;have nN4:nd≠l4:=bJ L3.eN hl4;have lt:=Paired.length hT;refine⟨l4,rfl,⟨_,aA.of e4⟩,fP (xs:=bs4.map V.ref) (λk σ H5=>H5 l4=some (.lst (bs4.map V.ref))/\∃ss5 bs5 v8,σ=[some (.ref x),some (.str g.1),some (.ref l1),some (.ref nd),some (.ref l2),some (.ref ca),some (.bl wt),some (.ref l3),v8]/\H5 l3=some (.lst (K13.natsV (((bF fns (p :: rest,wt)).take k).map (ss5.idxOf ·))))/\Paired (λs b=>bV K H5 b s) (bF fns (p :: rest,wt)) bs4/\bU K H5 ca (p :: rest)/\LQ K P w H H5 l1 nd l2 fns ss5 i ys bs5/\Bs fns g ss i ((bF fns (p :: rest,wt)).take k) ss5) ⟨e4,ss,bs,_,rfl,s4 _ _ a8,hT,hb2.ts (.of ((a0.new hl3).trans s4)),L4,Bs.ini hB1⟩ (λk σ H5 _ h=>aA.of h.1) ?_ ?_⟩
       . rintro k xv σ H5 hx ⟨e4,ss5,bs5,v8,rfl,e3,hT5,hC5,hL5,hB5⟩;obtain⟨b',hb',rfl⟩:∃b',bs4[k]?=some b'/\xv=.ref b':=by rw[BI] at hx;obtain⟨b',h1,h2⟩:=C7.mp hx;exact⟨b',h1,h2.symm⟩
         obtain⟨s',es',hs'⟩:=lT hT5 hb';have lb5:=hL5.lb;have l5:=hB5.len P' hB;have tk:(bF fns (p :: rest,wt)).take (k+1)=(bF fns (p :: rest,wt)).take k++[s']:=by rw[Bm,es']; rfl
         have vs':VS fns g s':=tO P' hV s' (BQ es');have kk:((bF fns (p :: rest,wt)).take k).length<=2:=by rw[Bd]; have:=ke fns (p :: rest,wt); omega
         have zl:(K13.natsV (((bF fns (p :: rest,wt)).take k).map (ss5.idxOf ·))).length<=2:=by unfold K13.natsV; rw[BA,BA]; exact kk
         refine⟨_,rfl,_,rfl,nd,b',_,s',rfl,rfl,hL5.eN,hL5.ks,hs'.dat,_,rfl,?_⟩;rw[px lb5];by_cases nin:s'∈ss5
         . refine aO (by simpa using nin) ?_;obtain⟨b2,hb2'⟩:=wC lb5 nin;refine⟨_,rfl,.inl ⟨rfl,_,aA.of e3⟩,_,rfl,_,rfl,nd,b',_,s',b2,_,rfl,rfl,hL5.eN,hL5.ks,hs'.dat,hb2',l3,_,_,rfl,rfl,e3,gT (by omega),?_⟩;refine⟨by rw[aH (Ne.symm n34)]; exact e4,ss5,bs5,_,rfl,by rw[a8,tk,BK]; unfold K13.natsV; rw[BK]; rfl,Paired.mapP hT5 λs b q=>q.ts (TS.lst e3),hC5.ts (TS.lst e3),hL5.other e3 n33 n13 n23,by rw[tk]; exact hB5.old nin⟩
         . refine aV (by simpa using nin) ?_;have nl:(bs5.map V.ref).length<200:=by rw[BA,<- lb5]; exact hB5.room P' hB vs' nin
           refine⟨_,rfl,l1,_,rfl,.inl (aA.of hL5.e1),rfl,_,rfl,aO (λz=>by have:=V.int.inj (Bo z); omega) ?_⟩;refine⟨_,rfl,l1,_,rfl,.inl (aA.of hL5.e1),_,rfl,_,rfl,nd,b',_,s',rfl,rfl,hL5.eN,hL5.ks,hs'.dat,by rw[px lb5]; exact nin,gT (by rw[xn lb5]; omega),?_⟩;rw[BA,<- lb5];have hL7:=hL5.push n1 n2 n12 (by have:=hB5.pre; obtain⟨u,hu⟩:=this; rw[hu,BH]; omega) hs';have e1':upd H5 nd (SD bP P w nd (c7 ss5 bs5++[(s',b',V.int ((ss5.length:Nat):Int))])) l1=some (.lst (bs5.map V.ref)):=by rw[aH hL5.ne1]; exact hL5.e1
           refine⟨_,rfl,.inl ⟨rfl,_,aA.of e1'⟩,_,rfl,l1,_,_,rfl,rfl,e1',gT (by omega),?_⟩;have n3N:l3≠nd:=cY e3 hL5.eN (by unfold SD; intro z; cases z);have e3':upd (upd H5 nd (SD bP P w nd (c7 ss5 bs5++[(s',b',V.int ((ss5.length:Nat):Int))]))) l1 (.lst (bs5.map V.ref++[.ref b'])) l3=some (.lst (K13.natsV (((bF fns (p :: rest,wt)).take k).map (ss5.idxOf ·)))):=by rw[aH (Ne.symm n13),aH n3N]; exact e3
           have t7:=(TS.ext (o:=SD bP P w nd (c7 ss5 bs5++[(s',b',V.int ((ss5.length:Nat):Int))])) hL5.eN).trans (TS.lst (o:=.lst (bs5.map V.ref++[.ref b'])) e1');have B7:=hB5.new vs' nin;have lst_:(s',b',V.int ((ss5.length:Nat):Int))∈c7 (ss5++[s']) (bs5++[b']):=by rw[oe lb5]; exact Br _ (Bq.mpr rfl)
           refine⟨_,rfl,.inl ⟨rfl,_,aA.of e3'⟩,_,rfl,_,rfl,nd,b',_,s',b',.int ((ss5.length:Nat):Int),rfl,rfl,hL7.eN,hL7.ks,(hs'.ts t7).dat,lst_,l3,_,_,rfl,rfl,e3',gT (by omega),?_⟩;have ex:(ss5++[s']).idxOf s'=ss5.length:=by rw[Cu,BE nin]; simp
           have eo:((bF fns (p :: rest,wt)).take k).map ((ss5++[s']).idxOf ·)=((bF fns (p :: rest,wt)).take k).map (ss5.idxOf ·):=CZ λt ht=>by rw[Cu,BJ (hB5.mem t ht)]
           refine⟨by rw[aH (Ne.symm n34),aH (Ne.symm n14),aH (Ne.symm nN4)]; exact e4,ss5++[s'],bs5++[b'],_,rfl,?_,Paired.mapP hT5 λs b q=>q.ts (t7.trans (TS.lst e3')),hC5.ts (t7.trans (TS.lst e3')),hL7.other e3' n33 n13 n23,by rw[tk]; exact B7⟩;rw[a8,tk,BK,eo];unfold K13.natsV;rw[BK];show some (HO.lst (_++[V.int ((ss5.length:Nat):Int)]))=some (HO.lst (_++[V.int (((ss5++[s']).idxOf s':Nat):Int)]));rw[ex]
       . rintro σ H5 ⟨_,ss5,bs5,v8,rfl,e3,hT5,hC5,hL5,hB5⟩;rw[BA,<- lt,Bw] at e3 hB5;refine⟨_,rfl,.inl ⟨rfl,_,aA.of hL5.e2⟩,_,rfl,_,rfl,_,rfl,l3,_,rfl,.inl ⟨aA.of e3,λtp htp=>⟨le3,λtq htq=>?_⟩⟩⟩;have S6:=(a0.new (o:=.tup (K13.natsV ((bF fns (p :: rest,wt)).map (ss5.idxOf ·)))) htp).trans (a0.new (o:=.tup [.ref ca,.bl wt,.ref tp]) htq);have L6:=hL5.mono S6;obtain⟨u,hu⟩:=hB5.pre;have s5:ss5[i]?=some (p :: rest,wt):=by rw[hu,C0 c]; exact es
         have stn:cf K _ fns ss5 (p :: rest,wt) tq:=⟨ca,tp,a9.of a8,hC5.ts (.of S6),(a0.new (o:=.tup [.ref ca,.bl wt,.ref tp]) htq).tup (a9.of a8),hB5.mem⟩
         refine⟨l2,_,_,rfl,rfl,L6.e2,gT (by rw[BA]; omega),⟨ss5,i+1,_,_,_,_,_,_,rfl,L6.more n22 n12 s5 stn,hB5.fin es⟩,?_⟩;rw[a8,hL.e2];show 200 - (ys.map V.ref++[V.ref tq]).length<200 - (ys.map V.ref).length;rw[BH,BA,ly];show 200 - (i+1)<200 - i;omega
     . have hiN:i=ss.length:=by omega
       subst hiN;refine aO (by rw[BL,BA,BA,<- lb,ly]; omega) ?_;have sn:=hL.sn;rw[Bw] at sn;exact⟨_,rfl,q l2 Hc ys ss hL.same n22 hL.e2 sn (hB1.pln P' hB)⟩
   . rintro σ Hc Q1 Q2 hh ⟨v,e1,p1,xs1,e2,e3,v',e1',p2,xs2,e2',e3',a,b,ea,eb,k,ek,z⟩;exact⟨v,e1,p1,xs1,e2,e3,v',e1',p2,xs2,e2',e3',a,b,ea,eb,k,ek,hh _ _ z⟩
theorem AI:FnScope ["program","name"] ["program","name"] (aW kj):=by walk_at "s"
theorem AH (T:Txt K mg t):FnOk P w K mg base CX0 7 t.rY t.so ["program","name"] (xu K t):=by
 have G_plan_in:=yV (P:=P) (w:=w) (base:=base) T;have G_Flows_init:=xi (P:=P) (w:=w) (base:=base) T;refine T.plan.F.ok AI (λvs H Q E h=>?_) (λcdv A outer s H vs Q E hr h=>?_)
 . obtain⟨_,_,_,rfl,_⟩:=h;rfl
 . obtain⟨p,fns,h,rfl,hP,hh,hL,q⟩:=h;refine⟨_,(aC (@aQ _ _ _ _ (ah T.plan_in G_plan_in (hr.mono (by decide)) (a4 (vL T.bj T.qu G_Flows_init (hr.mono (by decide)) (a4 (pv 0) a7 rfl)) (a4 (pv 1) a7 rfl) rfl))) aX),?_⟩;refine⟨_,rfl,λx dx nx ndx nex=>?_⟩;have s0:a0 H (upd (upd H dx (.own x)) x (.ins t.b8 dx [])):=λb o e=>by rw[aH (bJ e nx),aH (bJ e ndx)];exact e
   have s1':a0 H (cK x (upd (upd H dx (.own x)) x (.ins t.b8 dx []))):=λb o e=>by rw[AZ,eJ (bJ e nx),aH (bJ e ndx)];exact e
   refine⟨x,dx,p,fns,rfl,a8,s1'.seq hP.sq,hP.ne,hP.len,λf hf=>(hP.all f hf).mono s1',hP.pg.nd,λH1 s1 hF=>⟨rfl,?_⟩⟩;have s01:a0 H H1:=λb o e=>s1 b o (by rw[eJ (bJ e nx)]; exact s0 b o e);exact⟨_,rfl,x,fns,h,rfl,⟨hF,hP.pg⟩,hh,hL,λl H2 bs ss s2 hl=>q l H2 bs ss (s01.trans s2) (s01.free hl)⟩
theorem vY:FnScope ["_law_script","_law_k"] ["_law_script","_law_k"] (aW jd):=by walk_at "s"
theorem xE (T:Txt K mg t):FnOk P w K mg base CX0 1 t.rE t.sO ["_law_script","_law_k"] (yE K):=by
 refine T.jP.F.ok vY (λvs H Q E h=>?_) (λcdv A outer s H vs Q E hr h=>?_)
 . obtain⟨_,_,_,rfl,_⟩:=h;rfl
 . obtain⟨a,ns,k,rfl,hS,hl,h0,q⟩:=h;refine⟨_,(aC (aT (aL fE (pv 1) (au bI (by rfl) T.b_len bC (a4 (pv 0) a7 rfl)) (aN _)) (@aE _ _ _ (@aQ _ _ _ _ (aB aP (pv 0) (pv 1) (λ_ _=>rfl)))) aX) (@aE _ _ _ (@aQ _ _ _ _ a6))),?_⟩;have hlen:(ns.map V.int).length=ns.length:=BA _;refine⟨_,rfl,_,rfl,a,_,rfl,.inl hS,_,_,rfl,rfl,_,rfl,?_⟩;refine dY (λc=>?_) (λc=>?_)
   . have c:=eQ c;rw[hlen] at c;obtain⟨z,hz⟩:=xW h0 c;exact⟨_,rfl,_,rfl,a,_,_,_,rfl,rfl,hS,hz,q _⟩
   . exact q _
theorem eI:FnScope ["_law_cell","_law_many","_law_size","_law_place","_law_letters","_law_fill","_law_found","_law_k","_law_letter"] ["_law_cell","_law_many"] (aW ja):=by walk_at "s"
theorem u2 (T:Txt K mg t):FnOk P w K mg base CX0 1 t.rL t.sU ["_law_cell","_law_many"] (wx K):=by
 refine T.mH.F.ok eI (λvs H Q E h=>?_) (λcdv A outer s H vs Q E hr h=>?_)
 . obtain⟨_,_,rfl,_⟩:=h;rfl
 . obtain⟨c,m,rfl,hm,q⟩:=h;refine⟨_,(aC (@aK _ _ 0 _ _ _ _ eI.nd rfl (Or.inl rfl) (@aM _ _ _ _ _ _ _ _ cA (@aM _ _ _ _ _ _ _ _ dn (pv 0) a6) a6) (by rfl) (by walk_at "f")) (aC (@aK _ _ 2 _ _ _ _ eI.nd rfl (Or.inl rfl) (aB aG (@Ay _ _ [V.int 1,V.int 3,V.int 4,V.int 5,V.int 6,V.int 7,V.int 8] (by kernel_rfl)) (@aM _ _ _ _ _ _ _ _ cA (pv 0) a6) (λ_ _=>rfl)) (by rfl) (by walk_at "f")) (aC (@aK _ _ 3 _ _ _ _ eI.nd rfl (Or.inl rfl) (@aM _ _ _ _ _ _ _ _ cA (@aM _ _ _ _ _ _ _ _ iX (pv 0) a6) (pv 2)) (by rfl) (by walk_at "f")) (aC (@aK _ _ 4 _ _ _ _ eI.nd rfl (Or.inl rfl) af (by rfl) (by walk_at "f")) (aC (@aK _ _ 5 _ _ _ _ eI.nd rfl (Or.inl rfl) (aB m5 (pv 4) (@aM _ _ _ _ _ _ _ _ cA (@aM _ _ _ _ _ _ _ _ iX (pv 0) a6) a6) (λ_ _=>rfl)) (by rfl) (by walk_at "f")) (aC (@aK _ _ 6 _ _ _ _ eI.nd rfl (Or.inl rfl) (bd a7) (by rfl) (by walk_at "f")) (aC (cD PassesOwn.never rfl (gK rfl T.b_range (a4 (pv 1) a7 rfl)) (ai (i:=7) eI.nd rfl (Or.inl rfl)) (aC (@aK _ _ 8 _ _ _ _ eI.nd rfl (Or.inl rfl) (aB m5 (pv 4) (@aM _ _ _ _ _ _ _ _ cA (@aM _ _ _ _ _ _ _ _ cE (@aM _ _ _ _ _ _ _ _ iX (pv 0) a6) (pv 7)) a6) (λ_ _=>rfl)) (by rfl) (by walk_at "f")) (@aE _ _ _ (@bS _ _ _ _ (bT BR Bb Bc bi (pv 6) (a4 (@aM _ _ _ _ _ _ _ _ nH (@aM _ _ _ _ _ _ _ _ nH (@aM _ _ _ _ _ _ _ _ nX (pv 5) (pv 3)) (pv 8)) (@aM _ _ _ _ _ _ _ _ nX (pv 5) (@aM _ _ _ _ _ _ _ _ fH (@aM _ _ _ _ _ _ _ _ fH (pv 2) a6) (pv 3)))) a7 rfl)) (by rfl))))) (@aE _ _ _ (@aQ _ _ _ _ (pv 6)))))))))),?_⟩;have lf:("abcdefghijklmnopqrstuvwxyz":Str).length<=sizeLine:=by decide +kernel
   refine⟨_,rfl,_,_,rfl,rfl,.inr ⟨by decide,by decide⟩,_,_,rfl,rfl,(show(0:Int)<1000000007 by decide),?_⟩;refine⟨(by show 7<=sizeLine; decide),λtp htp=>?_⟩;have bc:=bR (c * 48271) 1000000007 (by decide);have b7:=bR (c * 48271%1000000007) 7 (by decide);have s0:∃sz:Int,aY [V.int 1,V.int 3,V.int 4,V.int 5,V.int 6,V.int 7,V.int 8] ((c * 48271%1000000007)%7)=some (.int sz)/\1<=sz/\sz<=8:=by obtain⟨v,hv,hm⟩:=eG (xs:=[V.int 1,V.int 3,V.int 4,V.int 5,V.int 6,V.int 7,V.int 8]) b7.1 b7.2;simp only[Be,CC,or_false] at hm;rcases hm with rfl|rfl|rfl|rfl|rfl|rfl|rfl <;> exact⟨_,hv,by decide,by decide⟩
   obtain⟨sz,hsz,sz1,sz8⟩:=s0;generalize e:upd H tp _=H1;have ⟨s1,e1⟩:=nw e htp;refine⟨_,rfl,_,_,rfl,rfl,(show(0:Int)<7 by decide),tp,_,_,_,rfl,rfl,a9.of e1,hsz,?_⟩;have ba:=bR ((c * 48271%1000000007) / 7) sz (by omega);refine⟨_,rfl,_,_,rfl,rfl,⟨by decide,by decide⟩,_,rfl,_,_,rfl,rfl,(show(0:Int)<sz by omega),?_⟩;have bf:=bR ((c * 48271%1000000007) / 59) 26 (by decide);refine⟨_,rfl,_,rfl,_,_,rfl,rfl,⟨by decide,by decide⟩,_,_,rfl,rfl,(show(0:Int)<26 by decide),_,_,_,rfl,rfl,lf,K14.let_at bf.1 bf.2,?_⟩;generalize hf_:97+((c * 48271%1000000007) / 59%26).toNat=f;have hfl:97<=f/\f<=122:=by omega
   refine⟨dB,λl hl=>?_⟩;generalize e:upd H1 l _=H2;have ⟨s2,e2⟩:=nw e hl;refine⟨_,rfl,_,rfl,by omega,by omega,kK (lo:=0) (n:=(m:Int).toNat) (λi σ H'=>∃(v7 v8:Option V),σ=[some (.int (c * 48271%1000000007)),some (.int m),some (.int sz),some (.int ((c * 48271%1000000007) / 7%sz)),some (.str "abcdefghijklmnopqrstuvwxyz"),some (.str ⟨#[f]⟩),some (.ref l),v7,v8]/\a0 H1 H'/\H' l=some (.lst (((List.range i).map λk=>tx (du f ((c * 48271%1000000007) / 7%sz).toNat (sz - 1 - (c * 48271%1000000007) / 7%sz).toNat ((c * 48271%1000000007) / 1543) k)).map V.str))) ⟨_,_,rfl,s2,e2⟩ ?_ ?_⟩
   . rintro i σ H' hi ⟨v7,v8,rfl,s3,e3⟩;have b2:=bR ((c * 48271%1000000007) / 1543+(0+(i:Int))) 26 (by decide);refine⟨_,rfl,_,rfl,_,_,rfl,rfl,⟨by decide,by decide⟩,_,rfl,_,_,rfl,rfl,_,_,rfl,rfl,(show(0:Int)<26 by decide),_,_,_,rfl,rfl,lf,K14.let_at b2.1 b2.2,?_⟩;have w1:∀n:Nat,n<=8->Str.length ⟨(List.replicate n f).toArray⟩=n:=λn _=>by show((List.replicate n f).toArray).size=n; simp
     refine⟨_,rfl,.inl ⟨rfl,_,aA.of e3⟩,_,rfl,_,rfl,f,((c * 48271%1000000007) / 7%sz),rfl,rfl,(by revert ba; generalize (c * 48271%1000000007) / 7%sz=y; omega),(by revert ba; generalize (c * 48271%1000000007) / 7%sz=y; omega),_,rfl,_,_,rfl,rfl,?_,_,rfl,_,rfl,_,_,rfl,rfl,_,rfl,_,_,rfl,rfl,f,(sz - 1 - (c * 48271%1000000007) / 7%sz),rfl,rfl,(by revert ba; generalize (c * 48271%1000000007) / 7%sz=y; omega),(by revert ba; generalize (c * 48271%1000000007) / 7%sz=y; omega),_,_,rfl,rfl,?_,l,_,_,rfl,rfl,e3,c8 (by rw[BA,BA,List.length_range]; omega),_,_,rfl,s3.upd hl,?_⟩
     . rw[w1 _ (by revert ba; generalize (c * 48271%1000000007) / 7%sz=y; omega)];show((c * 48271%1000000007) / 7%sz).toNat+1<=sizeLine;exact CL (c8 (by revert ba; generalize (c * 48271%1000000007) / 7%sz=y; omega))
     . rw[Str.length_append,w1 _ (by revert ba; generalize (c * 48271%1000000007) / 7%sz=y; omega),w1 _ (by revert ba; generalize (c * 48271%1000000007) / 7%sz=y; omega)];show((c * 48271%1000000007) / 7%sz).toNat+1+_<=sizeLine;exact CL (c8 (by revert ba; generalize (c * 48271%1000000007) / 7%sz=y; omega))
     . rw[a8,List.range_succ,BK,BK];refine Bv some (Bv HO.lst (Bv (_++·) (Bv (λy=>[V.str y]) (K14.str_ext ?_))));rw[kH,Int.zero_add];show(((List.replicate ((c * 48271%1000000007) / 7%sz).toNat f).toArray++#[97+(((c * 48271%1000000007) / 1543+(i:Int))%26).toNat]++(List.replicate (sz - 1 - (c * 48271%1000000007) / 7%sz).toNat f).toArray).toList)=_;unfold du;simp
   . rintro σ H' ⟨v7,v8,rfl,s3,e3⟩;rw[B'] at e3;refine⟨_,rfl,q l H' _ (s1.free hl) (s1.trans s3) e3 (by simp) ⟨nodup_range λj k hj hk z=>Ah (by omega) (by omega) (zC z),λn hn=>?_⟩⟩;obtain⟨k,_,rfl⟩:=Ba.mp hn;exact⟨_,rfl,wL hfl,(by rw[qd]; exact CO _),(by rw[qd]; revert ba; generalize (c * 48271%1000000007) / 7%sz=y; omega)⟩
theorem ic:FnScope ["_law_number","_law_sizes","_law_found","_law_size"] ["_law_number","_law_sizes"] (aW jm):=by walk_at "s"
theorem mz (T:Txt K mg t):FnOk P w K mg base CX0 1 t.rF t.sP ["_law_number","_law_sizes"] (Aj K):=by
 refine T.mF.F.ok ic (λvs H Q E h=>?_) (λcdv A outer s H vs Q E hr h=>?_)
 . obtain⟨_,_,_,rfl,_⟩:=h;rfl
 . obtain⟨n,a,zs,rfl,ha,hz,hlen,q⟩:=h;refine⟨_,(aC (@aK _ _ 2 _ _ _ _ ic.nd rfl (Or.inl rfl) (bd a7) (by rfl) (by walk_at "f")) (aC (cD PassesOwn.never rfl (cq (pv 1)) (ai (i:=3) ic.nd rfl (Or.inl rfl)) (aC (@bS _ _ _ _ (bT BR Bb Bc bi (pv 2) (a4 (@aM _ _ _ _ _ _ _ _ cA (pv 0) (pv 3)) a7 rfl)) (by rfl)) (@aE _ _ _ (@aK _ _ 0 _ _ _ _ ic.nd rfl (Or.inl rfl) (@aM _ _ _ _ _ _ _ _ pS (pv 0) (pv 3)) (by rfl) (by walk_at "f"))))) (@aE _ _ _ (@aQ _ _ _ _ (pv 2))))),?_⟩;refine⟨dB,λl hl=>?_⟩;generalize e:upd H l _=H1;have ⟨s1,e1⟩:=nw e hl;refine⟨_,rfl,a,rfl,⟨_,s1.seq ha⟩,fP (xs:=zs.map V.int) (λi σ H'=>∃v3:Option V,σ=[some (.int (i4 n (zs.take i))),some (.ref a),some (.ref l),v3]/\a0 H H'/\H' l=some (.lst ((eu n (zs.take i)).map V.int))) ⟨_,rfl,s1,e1⟩ ?_ ?_ ?_⟩
   . rintro i σ H' hi ⟨v3,rfl,s2,e2⟩;exact s2.seq ha
   . rintro i x σ H' hx ⟨v3,rfl,s2,e2⟩;obtain⟨z,hzi,hzm,rfl⟩:=cb hx;have hzz:=hz z hzm;have et:zs.take (i+1)=zs.take i++[z]:=by rw[Bm,hzi]; rfl
     have ln:((eu n (zs.take i)).map V.int).length<=20:=by rw[BA,pN,Bd]; omega
     refine⟨_,rfl,.inl ⟨rfl,_,aA.of e2⟩,_,rfl,_,rfl,_,_,rfl,rfl,hzz.1,l,_,_,rfl,rfl,e2,c8 (by omega),_,rfl,_,rfl,_,_,rfl,rfl,hzz,some (.int z),?_,s2.upd hl,?_⟩
     . rw[et,qj];rfl
     . rw[a8,et,ni,BK];rfl
   . rintro σ H' ⟨v3,rfl,s2,e2⟩;rw[BA,Bw] at e2;exact⟨_,rfl,q l H' hl s2 e2⟩
theorem vP:FnScope ["_law_digit","_law_cell","_law_words"] ["_law_digit","_law_cell","_law_words"] (aW kR):=by walk_at "s"
theorem my (T:Txt K mg t):FnOk P w K mg base CX0 1 t.rC t.sM ["_law_digit","_law_cell","_law_words"] (zK K):=by
 refine T.iM.F.ok vP (λvs H Q E h=>?_) (λcdv A outer s H vs Q E hr h=>?_)
 . obtain⟨_,_,_,_,rfl,_⟩:=h;rfl
 . obtain⟨d,c,wl,ns,rfl,hW,h0,q⟩:=h;refine⟨_,(aC (aT (aL fE (pv 0) (au bI (by rfl) T.b_len bC (a4 (pv 2) a7 rfl)) (aN _)) (@aE _ _ _ (@aQ _ _ _ _ (aB aP (pv 2) (pv 0) (λ_ _=>rfl)))) aX) (aC (aT (aL am (pv 0) (au bI (by rfl) T.b_len bC (a4 (pv 2) a7 rfl)) (aN _)) (@aE _ _ _ (@aQ _ _ _ _ (@aM _ _ _ _ _ _ _ _ cA (pv 1) a6))) aX) (@aE _ _ _ (@aQ _ _ _ _ (@aM _ _ _ _ _ _ _ _ cA (@aM _ _ _ _ _ _ _ _ dn (pv 1) a6) a6))))),?_⟩;refine⟨_,rfl,_,rfl,wl,_,rfl,.inl hW,_,_,rfl,rfl,_,rfl,?_⟩;by_cases c1:d<(((ns.map V.str).length:Nat):Int)
   . obtain⟨v,hv,hm⟩:=eG (xs:=ns.map V.str) h0 c1;obtain⟨s,hs,rfl⟩:=Ba.mp hm;exact aV (BN c1) ⟨_,rfl,_,rfl,wl,_,_,_,rfl,rfl,hW,hv,q _ (.inr ⟨s,rfl,hs⟩)⟩
   . refine aO (by rw[BL]; exact c1) ⟨_,rfl,_,rfl,wl,_,rfl,.inl hW,rfl,_,rfl,?_⟩;by_cases c2:(V.int d)=.int (((ns.map V.str).length:Nat):Int)
     . have b:=bR c 3 (by decide);exact aV (BN c2) ⟨_,rfl,_,_,rfl,rfl,(show(0:Int)<3 by decide),q _ (.inl ⟨_,rfl,b.1,by omega⟩)⟩
     . have b:=bR (c * 69621) 281474976710656 (by decide);exact aO (by rw[BL]; exact c2) ⟨_,rfl,_,_,rfl,rfl,.inr ⟨by decide,by decide⟩,_,_,rfl,rfl,(show(0:Int)<281474976710656 by decide),q _ (.inl ⟨_,rfl,b.1,b.2⟩)⟩
theorem cy:FnScope ["_law_cell","_law_words","_law_calls","_law_wide","_law_sizes","_law_kind","_law_x","_law_one","_law_other","_law_sign","_law_which","_law_given"] ["_law_cell","_law_words","_law_calls"] (aW kf):=by walk_at "s"
theorem AM (T:Txt K mg t):FnOk P w K mg base CX0 2 t.rP t.sY ["_law_cell","_law_words","_law_calls"] (uS K):=by
 have G_l_digits:=mz (P:=P) (w:=w) (base:=base) T;have G_l_atom:=my (P:=P) (w:=w) (base:=base) T;refine T.t9.F.ok cy (λvs H Q E h=>?_) (λcdv A outer s H vs Q E hr h=>?_)
 . obtain⟨_,_,_,_,_,rfl,_⟩:=h;rfl
 . obtain⟨c,wl,cl,ns,cs,rfl,hW,n0,n100,hC,c0,c100,hA,q⟩:=h;refine⟨_,(aC (@aK _ _ 3 _ _ _ _ cy.nd rfl (Or.inl rfl) (@aM _ _ _ _ _ _ _ _ cE (au bI (by rfl) T.b_len bC (a4 (pv 1) a7 rfl)) a6) (by rfl) (by walk_at "f")) (aC (@aK _ _ 4 _ _ _ _ cy.nd rfl (Or.inl rfl) (bd (a4 a6 (a4 (au bI (by rfl) T.b_len bC (a4 (pv 1) a7 rfl)) (a4 (pv 3) (a4 (pv 3) (a4 a6 (a4 (au bI (by rfl) T.b_len bC (a4 (pv 2) a7 rfl)) a7 rfl) rfl) rfl) rfl) rfl) rfl)) (by rfl) (by walk_at "f")) (aC (dZ (ah T.mF G_l_digits (hr.mono (by decide)) (a4 (@aM _ _ _ _ _ _ _ _ cA (@aM _ _ _ _ _ _ _ _ dn (pv 0) a6) a6) (a4 (pv 4) a7 rfl) rfl)) (zM rfl (bW (ai (i:=5) cy.nd rfl (Or.inl rfl)) (bW (ai (i:=6) cy.nd rfl (Or.inl rfl)) (bW (ai (i:=7) cy.nd rfl (Or.inl rfl)) (bW (ai (i:=8) cy.nd rfl (Or.inl rfl)) (bW (ai (i:=9) cy.nd rfl (Or.inl rfl)) (bW (ai (i:=10) cy.nd rfl (Or.inl rfl)) dm)))))))) (aC (@aK _ _ 7 _ _ _ _ cy.nd rfl (Or.inl rfl) (ah T.iM G_l_atom (hr.mono (by decide)) (a4 (pv 7) (a4 (pv 0) (a4 (pv 1) a7 rfl) rfl) rfl)) (by rfl) (by walk_at "f")) (dH (@aK _ _ 8 _ _ _ _ cy.nd rfl (Or.inl rfl) (ah T.iM G_l_atom (hr.mono (by decide)) (a4 (pv 8) (a4 (@aM _ _ _ _ _ _ _ _ pS (pv 0) a6) (a4 (pv 1) a7 rfl) rfl) rfl)) (by rfl) (by walk_at "f")) (aC (aT (aL am (pv 5) a6 (aN _)) (@aE _ _ _ (@aQ _ _ _ _ (aS (a4 af (a4 (aB aP (pv 1) (pv 6) (λ_ _=>rfl)) (a4 (pv 7) a7 rfl) rfl) rfl)))) aX) (aC (aT (aL am (pv 5) a6 (aN _)) (@aE _ _ _ (@aQ _ _ _ _ (aS (a4 af (a4 (aB aP (pv 1) (pv 6) (λ_ _=>rfl)) a7 rfl) rfl)))) aX) (aC (aT (aL am (pv 5) a6 (aN _)) (@aE _ _ _ (@aQ _ _ _ _ (aS (a4 af (a4 (aB aP (pv 1) (pv 6) (λ_ _=>rfl)) (a4 (pv 7) (a4 (aB aP (pv 1) (@aM _ _ _ _ _ _ _ _ cA (pv 0) (au bI (by rfl) T.b_len bC (a4 (pv 1) a7 rfl))) (λ_ _=>rfl)) a7 rfl) rfl) rfl) rfl)))) aX) (aC (aT (aL am (pv 5) a6 (aN _)) (@aE _ _ _ (@aQ _ _ _ _ (aS (a4 af (a4 (pv 7) (a4 (aB aP (pv 1) (@aM _ _ _ _ _ _ _ _ cA (pv 0) (au bI (by rfl) T.b_len bC (a4 (pv 1) a7 rfl))) (λ_ _=>rfl)) (a4 (pv 8) a7 rfl) rfl) rfl) rfl)))) aX) (aC (aT (aL am (pv 5) a6 (aN _)) (@aE _ _ _ (@aQ _ _ _ _ (aS (a4 af (a4 (pv 7) a7 rfl) rfl)))) aX) (aC (aT (aL fE (pv 5) a6 (aN _)) (aC (@aK _ _ 11 _ _ _ _ cy.nd rfl (Or.inl rfl) (aS (a4 (pv 7) (a4 (pv 8) (a4 (aB aP (pv 1) a6 (λ_ _=>rfl)) (a4 a6 (a4 (aB aP (pv 1) (bO bN a6) (λ_ _=>rfl)) (a4 a6 a7 rfl) rfl) rfl) rfl) rfl) rfl)) (by rfl) (by walk_at "f")) (@aE _ _ _ (@aQ _ _ _ _ (aS (a4 af (a4 (aB aP (pv 1) (pv 6) (λ_ _=>rfl)) (a4 (aB aG (aB aP (pv 2) (pv 10) (λ_ _=>rfl)) a6 (λ_ _=>rfl)) (a4 (cN eE (pv 11) cW (cC (aB aG (aB aP (pv 2) (pv 10) (λ_ _=>rfl)) a6 (λ_ _=>rfl)))) a7 rfl) rfl) rfl) rfl))))) aX) (aC (aT (aL am (pv 5) a6 (aN _)) (@aE _ _ _ (@aQ _ _ _ _ (aS (a4 af (a4 (pv 7) a7 rfl) rfl)))) aX) (aC (aT (aL am (pv 5) a6 (aN _)) (@aE _ _ _ (@aQ _ _ _ _ (aS (a4 af (a4 (pv 7) a7 rfl) rfl)))) aX) (@aE _ _ _ (@aQ _ _ _ _ (aS (a4 af (a4 (aB aP (pv 1) (pv 6) (λ_ _=>rfl)) (a4 (aB m5 af (pv 9) (λ_ _=>rfl)) (a4 (pv 7) (a4 (pv 8) a7 rfl) rfl) rfl) rfl) rfl))))))))))))))))),?_⟩;have pn:(0:Int)<((ns.map V.str).length:Nat):=by rw[BA]; omega
   have pn2:(((ns.map V.str).length:Nat):Int)<2 ^ 64:=by rw[BA]; omega
   have pw:(0:Int)<(((ns.map V.str).length:Nat):Int)+2:=by omega
   have pw2:(((ns.map V.str).length:Nat):Int)+2<2 ^ 64:=by rw[BA]; omega
   have pc:(0:Int)<((cs.map λx=>V.ref x.a).length:Nat):=by rw[BA]; omega
   have pc2:(((cs.map λx=>V.ref x.a).length:Nat):Int)<2 ^ 64:=by rw[BA]; omega
   refine⟨_,rfl,wl,_,rfl,.inl hW,_,_,rfl,rfl,?_⟩;refine⟨_,rfl,wl,_,rfl,.inl hW,_,rfl,_,rfl,_,rfl,cl,_,rfl,.inl hC,(by show 6<=sizeLine; decide),λsl hsl=>?_⟩;generalize e:upd H sl _=H1;have ⟨s1,e1⟩:=nw e hsl;have e1':aA K H1 sl (([16,(((ns.map V.str).length:Nat):Int),(((ns.map V.str).length:Nat):Int)+2,(((ns.map V.str).length:Nat):Int)+2,9,(((cs.map λx:Cl=>V.ref x.a).length:Nat):Int)]:List Int).map V.int):=aA.of e1;refine⟨_,rfl,_,_,rfl,rfl,.inr ⟨by decide,by decide⟩,_,_,rfl,rfl,(show(0:Int)<1000000007 by decide),_,rfl,_,sl,([16,(((ns.map V.str).length:Nat):Int),(((ns.map V.str).length:Nat):Int)+2,(((ns.map V.str).length:Nat):Int)+2,9,(((cs.map λx:Cl=>V.ref x.a).length:Nat):Int)]:List Int),rfl,e1',(λz hz=>by
     simp only[Be,CC,or_false] at hz;rcases hz with rfl|rfl|rfl|rfl|rfl|rfl
     . exact⟨by decide,by decide⟩
     . exact⟨pn,pn2⟩
     . exact⟨pw,pw2⟩
     . exact⟨pw,pw2⟩
     . exact⟨by decide,by decide⟩
     . exact⟨pc,pc2⟩),(by show 6<=20; decide),λl0 H2 hl0 s2 e2=>?_⟩
   generalize c * 48271%1000000007=n at e2;refine⟨l0,_,rfl,aA.of e2,rfl,_,_,rfl,_,_,rfl,_,_,rfl,_,_,rfl,_,_,rfl,_,_,rfl,rfl,?_⟩;have bk:=bR n 16 (by decide);have bx:=bR (n / 16) _ pn;have b1:=bR (n / 16 / (((ns.map V.str).length:Nat):Int)) _ pw;have b2:=bR (n / 16 / (((ns.map V.str).length:Nat):Int) / ((((ns.map V.str).length:Nat):Int)+2)) _ pw;have b9:=bR (n / 16 / (((ns.map V.str).length:Nat):Int) / ((((ns.map V.str).length:Nat):Int)+2) / ((((ns.map V.str).length:Nat):Int)+2)) 9 (by decide);have bc:=bR (n / 16 / (((ns.map V.str).length:Nat):Int) / ((((ns.map V.str).length:Nat):Int)+2) / ((((ns.map V.str).length:Nat):Int)+2) / 9) _ pc;obtain⟨vx,hvx,hvm⟩:=eG (xs:=ns.map V.str) bx.1 bx.2;obtain⟨x,hx,rfl⟩:=Ba.mp hvm;obtain⟨g,hg,hgm⟩:=AT b9.1 b9.2;obtain⟨vc,hvc,hvcm⟩:=eG (xs:=cs.map λx:Cl=>V.ref x.a) bc.1 bc.2;obtain⟨cc,hcc,rfl⟩:=Ba.mp hvcm;have by_:=bR c _ pn;obtain⟨vy,hvy,hvym⟩:=eG (xs:=ns.map V.str) by_.1 by_.2;obtain⟨y,hy,rfl⟩:=Ba.mp hvym;have S:=s1.trans s2;have hW2:=S.seq hW;have hC2:=S.seq hC;refine⟨_,rfl,_,rfl,_,rfl,_,c,wl,ns,rfl,hW2,b1.1,λu hu=>?_⟩;refine⟨λσ' H'=>H2=H'/\∃v,bB ns v/\σ'=[some (.int c),some (.ref wl),some (.ref cl),some (.int ((((ns.map V.str).length:Nat):Int)+2)),some (.ref sl),some (.int (n%16)),some (.int (n / 16%(((ns.map V.str).length:Nat):Int))),some u,some v,some (.int (n / 16 / (((ns.map V.str).length:Nat):Int) / ((((ns.map V.str).length:Nat):Int)+2) / ((((ns.map V.str).length:Nat):Int)+2)%9)),some (.int (n / 16 / (((ns.map V.str).length:Nat):Int) / ((((ns.map V.str).length:Nat):Int)+2) / ((((ns.map V.str).length:Nat):Int)+2) / 9%(((cs.map λx:Cl=>V.ref x.a).length:Nat):Int))),none],⟨_,rfl,_,rfl,_,_,rfl,rfl,⟨by decide,by decide⟩,_,rfl,_,_,wl,ns,rfl,hW2,b2.1,λv hv=>⟨rfl,v,hv,rfl⟩⟩,?_⟩;rintro σ H' ⟨rfl,v,hv,rfl⟩;generalize hk:n%16=k at bk ⊢;refine⟨_,rfl,rfl,_,rfl,?_⟩;by_cases k0:(V.int k)=.int 0
   . refine aV (BN k0) ⟨_,rfl,_,rfl,wl,_,_,_,rfl,rfl,hW2,hvx,_,rfl,le3,λr hr=>?_⟩;exact q r _ (.copy x u) (S.trans (a0.new hr)) ⟨a9.of a8,λ_ _ _ _ z=>by cases z⟩ ⟨hx,hu⟩
   refine aO (by rw[BL]; exact k0) ⟨_,rfl,rfl,_,rfl,?_⟩;by_cases k1:(V.int k)=.int 1
   . refine aV (BN k1) ⟨_,rfl,_,rfl,wl,_,_,_,rfl,rfl,hW2,hvx,ay,λr hr=>?_⟩;exact q r _ (.new x) (S.trans (a0.new hr)) ⟨a9.of a8,λ_ _ _ _ z=>by cases z⟩ hx
   refine aO (by rw[BL]; exact k1) ⟨_,rfl,rfl,_,rfl,?_⟩;by_cases k2:(V.int k)=.int 2
   . refine aV (BN k2) ⟨_,rfl,_,rfl,wl,_,_,_,rfl,rfl,hW2,hvx,_,rfl,_,rfl,_,rfl,_,rfl,wl,_,rfl,.inl hW2,_,_,rfl,rfl,pn,wl,_,_,_,rfl,rfl,hW2,hvy,fZ,λr hr=>?_⟩;exact q r _ (.get x u y) (S.trans (a0.new hr)) ⟨a9.of a8,λ_ _ _ _ z=>by cases z⟩ ⟨hx,hu,hy⟩
   refine aO (by rw[BL]; exact k2) ⟨_,rfl,rfl,_,rfl,?_⟩;by_cases k3:(V.int k)=.int 3
   . refine aV (BN k3) ⟨_,rfl,_,rfl,_,rfl,_,rfl,wl,_,rfl,.inl hW2,_,_,rfl,rfl,pn,wl,_,_,_,rfl,rfl,hW2,hvy,_,rfl,fZ,λr hr=>?_⟩;exact q r _ (.put u y v) (S.trans (a0.new hr)) ⟨a9.of a8,λ_ _ _ _ z=>by cases z⟩ ⟨hu,hy,hv⟩
   refine aO (by rw[BL]; exact k3) ⟨_,rfl,rfl,_,rfl,?_⟩;by_cases k4:(V.int k)=.int 4
   . refine aV (BN k4) ⟨_,rfl,ay,λr hr=>?_⟩;exact q r _ (.out u) (S.trans (a0.new hr)) ⟨a9.of a8,λ_ _ _ _ z=>by cases z⟩ hu
   refine aO (by rw[BL]; exact k4) ⟨_,rfl,_,_,rfl,rfl,_,rfl,?_⟩;by_cases k8:k<8
   . obtain⟨v0,hv0,hm0⟩:=eG (xs:=ns.map V.str) (i:=0) (Int.le_refl 0) pn;obtain⟨y0,hy0,rfl⟩:=Ba.mp hm0;obtain⟨y9,hy9,hv9⟩:∃y9∈ns,aY (ns.map V.str) (-1)=some (.str y9):=by
       have hne:ns≠[]:=λz=>by rw[z] at n0; exact absurd n0 (C6 0)
       refine⟨ns.getLast hne,List.getLast_mem hne,?_⟩
       conv=>lhs; rw[<- Cb hne,BK]
       exact K13.at_last _ _
     refine aV (BN k8) ⟨_,rfl,_,rfl,_,rfl,wl,_,_,_,rfl,rfl,hW2,hv0,_,rfl,_,rfl,wl,_,_,_,rfl,rfl,hW2,hv9,(by show 6<=sizeLine; decide),λgt hgt=>?_⟩;have S3:=S.trans (a0.new (o:=.tup [u,v,.str y0,.int 2,.str y9,.int 7]) hgt);have e3:=a8 (H:=H2) (a:=gt) (o:=.tup [u,v,.str y0,.int 2,.str y9,.int 7]);generalize upd H2 gt (.tup [u,v,.str y0,.int 2,.str y9,.int 7])=H3 at S3 e3 ⊢;have hCl:=hA cc hcc;refine⟨_,rfl,_,rfl,wl,_,_,_,rfl,rfl,S3.seq hW,hvx,_,rfl,_,rfl,cl,_,_,_,rfl,rfl,S3.seq hC,hvc,cc.a,_,_,_,rfl,rfl,S3.tup hCl.it,at0,_,rfl,_,rfl,_,rfl,cl,_,_,_,rfl,rfl,S3.seq hC,hvc,cc.a,_,_,_,rfl,rfl,S3.tup hCl.it,rfl,_,rfl,dv (a9.of e3) λqA HA sA hqA=>⟨fZ,λr hr=>?_⟩⟩;have k6:=hCl.k6;have el:ak [u,v,V.str y0,V.int 2,V.str y9,V.int 7] none (some ((cc.k:Nat):Int))=[u,v,V.str y0,V.int 2,V.str y9,V.int 7].take cc.k:=by rw[oQ _ (by omega) (by show _<=(6:Int); omega),B']
     rw[el] at hqA;have all:∀a∈[u,v,V.str y0,V.int 2,V.str y9,V.int 7],bB ns a:=λa ha=>by
       simp only[Be,CC,or_false] at ha;rcases ha with rfl|rfl|rfl|rfl|rfl|rfl
       . exact hu
       . exact hv
       . exact .inr ⟨_,rfl,hy0⟩
       . exact .inl ⟨_,rfl,by decide,by decide⟩
       . exact .inr ⟨_,rfl,hy9⟩
       . exact .inl ⟨_,rfl,by decide,by decide⟩
     exact q r _ (.call x cc.nm qA ([u,v,V.str y0,V.int 2,V.str y9,V.int 7].take cc.k)) ((S3.trans sA).trans (a0.new hr)) ⟨a9.of a8,λx' g' p' as' z=>by cases z; exact(a0.new hr).tup hqA⟩ ⟨hx,Ba.mpr ⟨cc,hcc,rfl⟩,by rw[Bd]; omega,λa ha=>all a (CU ha)⟩
   refine aO (by rw[BL]; exact k8) ⟨_,rfl,rfl,_,rfl,?_⟩;by_cases k9:(V.int k)=.int 8
   . refine aV (BN k9) ⟨_,rfl,ay,λr hr=>?_⟩;exact q r _ (.whl u) (S.trans (a0.new hr)) ⟨a9.of a8,λ_ _ _ _ z=>by cases z⟩ hu
   refine aO (by rw[BL]; exact k9) ⟨_,rfl,rfl,_,rfl,?_⟩;by_cases k10:(V.int k)=.int 9
   . refine aV (BN k10) ⟨_,rfl,ay,λr hr=>?_⟩;exact q r _ (.ifs u) (S.trans (a0.new hr)) ⟨a9.of a8,λ_ _ _ _ z=>by cases z⟩ hu
   refine aO (by rw[BL]; exact k10) ⟨_,rfl,_,rfl,wl,_,_,_,rfl,rfl,hW2,hvx,_,rfl,_,_,_,rfl,rfl,(by decide +kernel),hg,_,rfl,_,rfl,(by show 5<=sizeLine; decide),λr hr=>?_⟩;exact q r _ (.op x ⟨#[g]⟩ u v) (S.trans (a0.new hr)) ⟨a9.of a8,λ_ _ _ _ z=>by cases z⟩ ⟨hx,hgm,hu,hv⟩
theorem fN:FnScope ["_law_cells","_law_words","_law_calls","_law_answer","_law_rows_here","_law_nests","_law_cell","_law_kind","_law_row_here","_law_nest"] ["_law_cells","_law_words","_law_calls","_law_answer"] (aW lC):=by walk_at "s"
theorem uI (T:Txt K mg t):FnOk P w K mg base CX0 3 t.rQ t.sZ ["_law_cells","_law_words","_law_calls","_law_answer"] (yC K):=by
 have G_l_atom:=my (P:=P) (w:=w) (base:=base) T;have G_l_row:=AM (P:=P) (w:=w) (base:=base) T;refine T.mI.F.ok fN (λvs H Q E h=>?_) (λcdv A outer s H vs Q E hr h=>?_)
 . obtain⟨_,_,_,_,_,_,_,rfl,_⟩:=h;rfl
 . obtain⟨el,wl,cl,zs,an,ns,cs,rfl,hZ,z14,hW,n0,n100,hC,c0,c100,hA,q⟩:=h;refine⟨_,(aC (@aK _ _ 4 _ _ _ _ fN.nd rfl (Or.inl rfl) (bd a7) (by rfl) (by walk_at "f")) (aC (@aK _ _ 5 _ _ _ _ fN.nd rfl (Or.inl rfl) (bd a7) (by rfl) (by walk_at "f")) (aC (cD PassesOwn.never rfl (cq (pv 0)) (ai (i:=6) fN.nd rfl (Or.inl rfl)) (aC (@aK _ _ 7 _ _ _ _ fN.nd rfl (Or.inl rfl) (@aM _ _ _ _ _ _ _ _ cA (@aM _ _ _ _ _ _ _ _ cA (@aM _ _ _ _ _ _ _ _ dn (pv 6) a6) a6) a6) (by rfl) (by walk_at "f")) (@aE _ _ _ (aT (@PW.pt _ _ _ (cT (aL eT (pv 7) a6 (aN _)) (cV (aL eT (au bI (by rfl) T.b_len bC (a4 (pv 5) a7 rfl)) a6 (aN _))))) (@aE _ _ _ (aT (@PW.pt _ _ _ (cT (aL am (pv 7) a6 (aN _)) (cV (aL am (aB aP (pv 5) (bO bN a6) (λ_ _=>rfl)) af (aN _))))) (aC (dZ af (i5 (pv 5) (bO bN a6) gk)) (@aE _ _ _ (@bS _ _ _ _ (bT BR Bb Bc bi (pv 4) (a4 (aS (a4 af a7 rfl)) a7 rfl)) (by rfl)))) (aC (@bS _ _ _ _ (nn BR PySem.F.slot_list_pop PySem.F.type_list_pop oG (pv 5)) (by rfl)) (@aE _ _ _ (@bS _ _ _ _ (bT BR Bb Bc bi (pv 4) (a4 (aS (a4 af a7 rfl)) a7 rfl)) (by rfl)))))) (@aE _ _ _ (aT (@PW.pt _ _ _ (cT (aL am (pv 7) a6 (aN _)) (cV (@PW.pt _ _ _ (fj (aL eT (au bI (by rfl) T.b_len bC (a4 (pv 5) a7 rfl)) a6 (aN _)) (g7 (aL am (@aM _ _ _ _ _ _ _ _ cA (pv 6) a6) a6 (aN _)))))))) (@aE _ _ _ (@bS _ _ _ _ (bT BR Bb Bc bi (pv 4) (a4 (aS (a4 af (a4 (ah T.iM G_l_atom (hr.mono (by decide)) (a4 (@aM _ _ _ _ _ _ _ _ cA (@aM _ _ _ _ _ _ _ _ iX (pv 6) a6) (@aM _ _ _ _ _ _ _ _ cE (au bI (by rfl) T.b_len bC (a4 (pv 1) a7 rfl)) a6)) (a4 (pv 6) (a4 (pv 1) a7 rfl) rfl) rfl)) a7 rfl) rfl)) a7 rfl)) (by rfl))) (aC (@aK _ _ 8 _ _ _ _ fN.nd rfl (Or.inl rfl) (ah T.t9 G_l_row (hr.mono (by decide)) (a4 (pv 6) (a4 (pv 1) (a4 (pv 2) a7 rfl) rfl) rfl)) (by rfl) (by walk_at "f")) (aC (@bS _ _ _ _ (bT BR Bb Bc bi (pv 4) (a4 (pv 8) a7 rfl)) (by rfl)) (aC (aT (aL dz (aB aG (pv 8) a6 (λ_ _=>rfl)) (aS (a4 af (a4 af a7 rfl) rfl)) (by with_unfolding_all rfl)) (@aE _ _ _ (@bS _ _ _ _ (bT BR Bb Bc bi (pv 5) (a4 (aB aG (pv 8) a6 (λ_ _=>rfl)) a7 rfl)) (by rfl))) aX) (@aE _ _ _ (aT (@PW.pt _ _ _ (cT (aL am (aB aG (pv 8) a6 (λ_ _=>rfl)) af (aN _)) (cT (aL dz (aB aG (pv 8) a6 (λ_ _=>rfl)) (pv 1) (by with_unfolding_all rfl)) (cV (aL am (@aM _ _ _ _ _ _ _ _ cA (pv 6) a6) a6 (aN _)))))) (@aE _ _ _ (@bS _ _ _ _ (bT BR Bb Bc bi (pv 4) (a4 (aS (a4 af (a4 (aB aG (pv 8) a6 (λ_ _=>rfl)) (a4 af (a4 (aB aG (pv 8) a6 (λ_ _=>rfl)) (a4 a6 a7 rfl) rfl) rfl) rfl) rfl)) a7 rfl)) (by rfl))) aX))))))))))) (aC (cD PassesOwn.never rfl (cq (pv 5)) (ai (i:=9) fN.nd rfl (Or.inl rfl)) (@aE _ _ _ (@bS _ _ _ _ (bT BR Bb Bc bi (pv 4) (a4 (aS (a4 af a7 rfl)) a7 rfl)) (by rfl)))) (aC (@bS _ _ _ _ (bT BR Bb Bc bi (pv 4) (a4 (aS (a4 af (a4 (ah T.iM G_l_atom (hr.mono (by decide)) (a4 (@aM _ _ _ _ _ _ _ _ cA (pv 3) (@aM _ _ _ _ _ _ _ _ cE (au bI (by rfl) T.b_len bC (a4 (pv 1) a7 rfl)) a6)) (a4 (pv 3) (a4 (pv 1) a7 rfl) rfl) rfl)) a7 rfl) rfl)) a7 rfl)) (by rfl)) (@aE _ _ _ (@aQ _ _ _ _ (ci j2 (by rfl) T.b_tuple fU (a4 (pv 4) a7 rfl))))))))),?_⟩;have pw:(0:Int)<(((ns.map V.str).length:Nat):Int)+2:=by omega
   refine⟨dB,λl hl0=>⟨dB,λo ho00=>?_⟩⟩;have hne:l≠o:=K13.nfree (a0.refl _) a8 ho00;have ho0:H o=none:=(a0.new hl0).free ho00;have s0':a0 H (upd (upd H l (.lst [])) o (.lst [])):=(a0.new hl0).trans (a0.new ho00);refine⟨_,rfl,el,rfl,⟨_,s0'.seq hZ⟩,fP (xs:=zs.map V.int) (λi σ H2=>cr K H el wl cl an l o ns (cs.map (·.nm)) i σ H2) ⟨[],[],[],_,_,_,_,rfl,⟨s0',(by rw[aH hne]; exact a8),a8,⟨rfl,λi r rh z=>by cases z⟩,(λs h=>by cases h),(λs h=>by cases h)⟩,A3,BW _,BW _,λM _=>BW _⟩ ?_ ?_ ?_⟩
   . rintro i σ H2 hi ⟨rs,rhs,os,v6,v7,v8,v9,_,b,_⟩;exact b.same.seq hZ
   . rintro i x σ H2 hx ⟨rs,rhs,os,v6,v7,v8,v9,rfl,b,g,h1,h2,h3⟩;obtain⟨c,hci,hcm,rfl⟩:=cb hx;have hilt:i<zs.length:=(BC.mp hci).1;have rl:=b.rows.len;refine⟨_,rfl,_,_,rfl,rfl,.inr ⟨by decide,by decide⟩,_,_,rfl,rfl,(show(0:Int)<1000000007 by decide),_,_,rfl,rfl,(show(0:Int)<16 by decide),?_⟩;generalize hk:c * 48271%1000000007%16=k;refine⟨_,rfl,_,_,rfl,rfl,_,rfl,gv (λk13 rest=>⟨_,rfl,o,_,rfl,.inl (aA.of b.eO),_,_,rfl,rfl,_,rfl,dY (λhos=>?_) (λ_=>rest)⟩) ?_⟩
     . have hos:=Bo hos;rw[K13.opsV_len] at hos;obtain⟨oo,rr,rfl⟩:∃oo rr,os=oo :: rr:=by
         cases os with
         | nil=>exact absurd hos (by decide)
         | cons oo rr=>exact⟨oo,rr,rfl⟩
       have pop:∀{σ7:Option V},True->True:=λ_=>trivial;refine⟨_,rfl,rfl,_,rfl,gv (λk14 rest=>⟨_,rfl,_,rfl,o,_,_,_,rfl,rfl,aA.of b.eO,(by rw[K13.opsV_cons]; exact K13.at_last _ _),rfl,_,rfl,dY (λhif=>?_) (λ_=>rest)⟩) ?_⟩
       . have hif:oo="if":=V.str.inj (Bo hif);subst hif;refine⟨_,rfl,_,rfl,o,_,_,_,rfl,rfl,b.eO,(by rw[K13.opsV_cons]; exact K13.ix_last _ _),?_⟩;have b2:=b.nest (os':="else" :: rr) ho0 hne (λs hs=>(Be.mp hs).elim (λe=>by rw[e]; unfold K13.Nm; decide +kernel) λe=>b.nm s (BS _ e)) (ys:=(K13.opsV ("if" :: rr)).set (K13.opsV rr).length (V.str "else")) (by rw[K13.opsV_cons,K13.opsV_cons,List.set_append_right _ _ (BG _),Nat.sub_self]; rfl);generalize upd H2 o (.lst ((K13.opsV ("if" :: rr)).set (K13.opsV rr).length (V.str "else")))=H3 at b2 ⊢;refine⟨_,rfl,.inl ⟨rfl,_,aA.of b2.eL⟩,bt,λr hr=>⟨l,_,_,rfl,rfl,a0.new hr _ _ b2.eL,c8 (by rw[BA]; omega),?_⟩⟩;exact cr.one ((b2.mono (a0.new hr)).add (rh:=.els) hl0 hne ⟨a9.of a8,λ_ _ _ _ z=>by cases z⟩ trivial) g.els h1 (by rw[BV] at h2 ⊢; omega) h3
       . have top:(K13.opsV (oo :: rr))[(K13.opsV (oo :: rr)).length - 1]?=some (V.str oo):=by rw[K13.opsV_cons,BH,List.length_singleton,Nat.add_sub_cancel]; simp
         refine⟨_,rfl,.inl ⟨rfl,_,aA.of b.eO⟩,o,_,_,rfl,rfl,b.eO,top,?_⟩;have b2:=b.nest (os':=rr) ho0 hne (λs hs=>b.nm s (BS _ hs)) (ys:=(K13.opsV (oo :: rr)).dropLast) (by rw[K13.opsV_cons,List.dropLast_concat]);generalize upd H2 o (.lst (K13.opsV (oo :: rr)).dropLast)=H3 at b2 ⊢;refine⟨_,rfl,.inl ⟨rfl,_,aA.of b2.eL⟩,bt,λr hr=>⟨l,_,_,rfl,rfl,a0.new hr _ _ b2.eL,c8 (by rw[BA]; omega),?_⟩⟩;exact cr.one ((b2.mono (a0.new hr)).add (rh:=.fin) hl0 hne ⟨a9.of a8,λ_ _ _ _ z=>by cases z⟩ trivial) g.fin h1 (by rw[BV] at h2; omega) h3
     refine⟨_,rfl,rfl,_,rfl,gv (λk13 rest=>⟨_,rfl,o,_,rfl,.inl (aA.of b.eO),_,_,rfl,rfl,_,rfl,yQ (λ_=>?_) rest (λhh=>⟨_,rfl,_,_,rfl,rfl,(show(0:Int)<5 by decide),rfl,_,rfl,hh⟩)⟩) ?_⟩
     . have bw:=bR (c / 16) _ pw;refine⟨_,rfl,.inl ⟨rfl,_,aA.of b.eL⟩,_,rfl,_,_,rfl,rfl,⟨by decide,by decide⟩,_,rfl,wl,_,rfl,.inl (b.same.seq hW),_,_,rfl,rfl,_,_,rfl,rfl,pw,_,rfl,_,rfl,_,c,wl,ns,rfl,b.same.seq hW,bw.1,λu hu=>⟨ay,λr hr=>⟨l,_,_,rfl,rfl,a0.new hr _ _ b.eL,c8 (by rw[BA]; omega),?_⟩⟩⟩;exact cr.one ((b.mono (a0.new hr)).add (rh:=.rg (.back u)) hl0 hne ⟨a9.of a8,λ_ _ _ _ z=>by cases z⟩ hu) (g.plain K13.back_O K13.back_E K13.back_ne.2) h1 (by omega) h3
     refine⟨_,rfl,_,rfl,_,rfl,c,wl,cl,ns,cs,rfl,b.same.seq hW,n0,n100,b.same.seq hC,c0,c100,(λx hx=>(hA x hx).mono b.same),λr H3 rg s3 hr hok=>?_⟩;refine⟨_,rfl,.inl ⟨rfl,_,aA.of (s3 _ _ b.eL)⟩,_,rfl,l,_,_,rfl,rfl,s3 _ _ b.eL,c8 (by rw[BA]; omega),?_⟩;have b3:=(b.mono s3).add (rh:=.rg rg) hl0 hne (kN hr) (xr hok);have hr3:RHAt K _ r (.rg rg):=(kN hr).lst (o:=.lst (rs.map V.ref++[V.ref r])) (s3 _ _ b.eL);generalize upd H3 l (.lst (rs.map V.ref++[V.ref r]))=H4 at b3 hr3 ⊢;have wz:(V.str "while")=.str "while":=rfl;rcases wD hok with⟨a,rfl,ha⟩|⟨a,rfl,ha⟩|⟨q1,q2,q3,q4,q5⟩
     . refine⟨_,rfl,r,_,_,_,rfl,rfl,hr3.it,at0,ay,λtw htw=>⟨tw,[V.str "if",V.str "while"],rfl,.inr (a9.of a8),rfl,rfl,_,rfl,aV rfl ?_⟩⟩;have b4:=b3.mono (a0.new (o:=.tup [V.str "if",V.str "while"]) htw);have hr4:=hr3.mono (a0.new (o:=.tup [V.str "if",V.str "while"]) htw);generalize upd H4 tw (.tup [V.str "if",V.str "while"])=H5 at b4 hr4 ⊢;refine⟨_,rfl,.inl ⟨rfl,_,aA.of b4.eO⟩,_,rfl,r,_,_,_,rfl,rfl,hr4.it,at0,o,_,_,rfl,rfl,b4.eO,c8 (by rw[K13.opsV_len]; omega),?_⟩;have b5:=b4.nest (os':="if" :: os) ho0 hne (λs hs=>(Be.mp hs).elim (λe=>by rw[e]; unfold K13.Nm; decide +kernel) (b.nm s)) (ys:=K13.opsV os++[V.str "if"]) (by rw[K13.opsV_cons]);have hr5:RHAt K _ r (.rg (.ifs a)):=hr4.lst (o:=.lst (K13.opsV os++[V.str "if"])) b4.eO;generalize upd H5 o (.lst (K13.opsV os++[V.str "if"]))=H6 at b5 hr5 ⊢;refine⟨_,rfl,r,_,_,_,rfl,rfl,hr5.it,at0,rfl,_,rfl,iN (gA ?_)⟩;exact cr.one b5 (g.opn (show K13.isO ("if":Str)=true by decide +kernel)) h1 (by rw[BV]; omega) h3
     . refine⟨_,rfl,r,_,_,_,rfl,rfl,hr3.it,at0,ay,λtw htw=>⟨tw,[V.str "if",V.str "while"],rfl,.inr (a9.of a8),rfl,rfl,_,rfl,aV rfl ?_⟩⟩;have b4:=b3.mono (a0.new (o:=.tup [V.str "if",V.str "while"]) htw);have hr4:=hr3.mono (a0.new (o:=.tup [V.str "if",V.str "while"]) htw);generalize upd H4 tw (.tup [V.str "if",V.str "while"])=H5 at b4 hr4 ⊢;refine⟨_,rfl,.inl ⟨rfl,_,aA.of b4.eO⟩,_,rfl,r,_,_,_,rfl,rfl,hr4.it,at0,o,_,_,rfl,rfl,b4.eO,c8 (by rw[K13.opsV_len]; omega),?_⟩;have b5:=b4.nest (os':="while" :: os) ho0 hne (λs hs=>(Be.mp hs).elim (λe=>by rw[e]; unfold K13.Nm; decide +kernel) (b.nm s)) (ys:=K13.opsV os++[V.str "while"]) (by rw[K13.opsV_cons]);have hr5:RHAt K _ r (.rg (.whl a)):=hr4.lst (o:=.lst (K13.opsV os++[V.str "while"])) b4.eO;have g5:=g.opn (show K13.isO ("while":Str)=true by decide +kernel);generalize upd H5 o (.lst (K13.opsV os++[V.str "while"]))=H6 at b5 hr5 ⊢;refine⟨_,rfl,r,_,_,_,rfl,rfl,hr5.it,at0,rfl,_,rfl,aV rfl ?_⟩;have fl:cv a=true:=by rcases ha with⟨z,rfl,_⟩|⟨s,rfl,_⟩ <;> rfl
       refine⟨_,rfl,r,_,_,_,rfl,rfl,hr5.it,rfl,_,rfl,wl,_,rfl,.inl (b5.same.seq hW),fl,(by rw[List.all_map]; exact By.mpr λx _=>rfl),_,rfl,?_⟩;by_cases hin:cP a (ns.map V.str)=true
       . obtain⟨s,hs,rfl⟩:∃s∈ns,a=.str s:=by
           rcases ha with⟨z,rfl,_⟩|⟨s,rfl,hs⟩
           . exfalso;unfold cP at hin;rw[List.any_map,Dc] at hin;obtain⟨y,_,hy⟩:=hin;exact absurd hy BO
           . exact⟨s,hs,rfl⟩
         refine aV hin ⟨_,rfl,_,_,rfl,rfl,(show(0:Int)<2 by decide),rfl,_,rfl,?_⟩;by_cases hc:(V.int (c%2))=.int 0
         . refine aV (BN hc) ⟨_,rfl,.inl ⟨rfl,_,aA.of b5.eL⟩,_,rfl,r,_,_,_,rfl,rfl,hr5.it,rfl,_,rfl,r,_,_,_,rfl,rfl,hr5.it,rfl,(by show 5<=sizeLine; decide),λr2 hr2=>⟨l,_,_,rfl,rfl,a0.new hr2 _ _ b5.eL,c8 (by rw[BA,BH]; show _+1<_; omega),?_⟩⟩;exact cr.two ((b5.mono (a0.new hr2)).add (rh:=.rg (.op s "-" (.str s) (.int 1))) hl0 hne ⟨a9.of a8,λ_ _ _ _ z=>by cases z⟩ ⟨hs,by decide +kernel,.inr ⟨s,rfl,hs⟩,.inl ⟨1,rfl,by decide,by decide⟩⟩) (g5.plain (x:="op") (by decide +kernel) (by decide +kernel) (by decide +kernel)) h1 (by rw[BV]; omega) h3 (show ¬ (("while":Str)="call") by decide +kernel) (show ¬ (("op":Str)="call") by decide +kernel)
         . exact aO (by rw[BL]; exact hc) (cr.one b5 g5 h1 (by rw[BV]; omega) h3)
       . exact aO hin (gA (cr.one b5 g5 h1 (by rw[BV]; omega) h3))
     . refine⟨_,rfl,r,_,_,_,rfl,rfl,hr3.it,RH.item0 (.rg rg),ay,λtw htw=>⟨tw,[V.str "if",V.str "while"],rfl,.inr (a9.of a8),rfl,rfl,_,rfl,aO ?_ ?_⟩⟩
       . show ¬ (cP (.str rg.kind) [V.str "if",V.str "while"]=true);have e1:(("if":Str)==rg.kind)=false:=beq_false_of_ne λz=>q1 z.symm;have e2:(("while":Str)==rg.kind)=false:=beq_false_of_ne λz=>q2 z.symm;show ¬ ((("if":Str)==rg.kind) || ((("while":Str)==rg.kind) || false))=true;rw[e1,e2];decide
       have b4:=b3.mono (a0.new (o:=.tup [V.str "if",V.str "while"]) htw);have hr4:=hr3.mono (a0.new (o:=.tup [V.str "if",V.str "while"]) htw);generalize upd H4 tw (.tup [V.str "if",V.str "while"])=H5 at b4 hr4 ⊢;refine⟨_,rfl,r,_,_,_,rfl,rfl,hr4.it,RH.item0 (.rg rg),rfl,_,rfl,aO (λz=>q2 (V.str.inj (Bo z))) (gA ?_)⟩;exact cr.one b4 (g.plain q3 q4 q5) h1 (by omega) h3
   . rintro σ H2 ⟨rs,rhs,os,v6,v7,v8,v9,rfl,b,g,h1,h2,h3⟩;rw[BA] at h1 h2 h3;have rl:=b.rows.len;refine⟨_,rfl,o,rfl,⟨_,aA.of b.eO⟩,fP (xs:=K13.opsV os) (λi σ H5=>∃rs5 rhs5 v9,σ=[some (.ref el),some (.ref wl),some (.ref cl),some (.int an),some (.ref l),some (.ref o),v6,v7,v8,v9]/\BdS K H H5 l o ns (cs.map (·.nm)) rs5 rhs5 os/\rhs5.map RH.kind=rhs.map RH.kind++List.replicate i ("end":Str)) ⟨rs,rhs,_,rfl,b,by simp⟩ ?_ ?_ ?_⟩
     . rintro i σ H5 hi ⟨rs5,rhs5,v9,_,b5,_⟩;exact aA.of b5.eO
     . rintro i x σ H5 hx ⟨rs5,rhs5,v9,rfl,b5,e5⟩;have hi:i<os.length:=by have:=(BC.mp hx).1;rw[K13.opsV_len] at this;exact this
       have l5:rhs5.length=rhs.length+i:=by have:=Bv List.length e5;simpa using this
       have rl5:=b5.rows.len;refine⟨_,rfl,.inl ⟨rfl,_,aA.of b5.eL⟩,bt,λr hr=>⟨l,_,_,rfl,rfl,a0.new hr _ _ b5.eL,c8 (by rw[BA]; omega),rs5++[r],rhs5++[.fin],_,rfl,(b5.mono (a0.new (o:=.tup [V.str "end"]) hr)).add (rh:=.fin) hl0 hne ⟨a9.of a8,λ_ _ _ _ z=>by cases z⟩ trivial,?_⟩⟩;rw[BK,e5,List.replicate_succ',CF];rfl
     . rintro σ H5 ⟨rs5,rhs5,v9,rfl,b5,e5⟩;rw[K13.opsV_len] at e5;have l5:rhs5.length=rhs.length+os.length:=by have:=Bv List.length e5;simpa using this
       have rl5:=b5.rows.len;have bw:=bR an _ pw;have g5:=g.ends os.length (BG _);rw[D2,<- e5] at g5;refine⟨_,rfl,.inl ⟨rfl,_,aA.of b5.eL⟩,_,rfl,_,rfl,wl,_,rfl,.inl (b5.same.seq hW),_,_,rfl,rfl,_,_,rfl,rfl,pw,_,rfl,_,rfl,_,an,wl,ns,rfl,b5.same.seq hW,bw.1,λu hu=>⟨ay,λr hr=>⟨l,_,_,rfl,rfl,a0.new hr _ _ b5.eL,c8 (by rw[BA]; omega),?_⟩⟩⟩;have b6:=(b5.mono (a0.new (o:=.tup [V.str "back",u]) hr)).add (rh:=.rg (.back u)) hl0 hne ⟨a9.of a8,λ_ _ _ _ z=>by cases z⟩ hu;have g6:=g5.back;generalize upd (upd H5 r (.tup [V.str "back",u])) l (.lst (rs5.map V.ref++[V.ref r]))=H6 at b6 ⊢;refine⟨_,rfl,l,_,rfl,.inl ⟨aA.of b6.eL,λtr htr=>?_⟩⟩;have ek:(rhs5++[RH.rg (.back u)]).map RH.kind=rhs5.map RH.kind++[("back":Str)]:=by rw[BK]; rfl
       refine q tr _ _ _ (b6.same.trans (a0.new htr)) (a9.of a8) (b6.rows.mono (a0.new htr)) (by rw[ek]; exact g6.1) (by rw[ek]; exact g6.2) (by rw[BH]; show _+1<=_; omega) b6.ok λM hM=>?_;rw[ek,iF,e5];have a:=h3 M hM;have e0:∀n:Nat,bv M (rhs.map RH.kind++List.replicate n ("end":Str))=bv M (rhs.map RH.kind):=λn=>by
         induction n with
         | zero=>simp
         | succ n ih=>rw[List.replicate_succ',<- CF,iF,ih,tt (by decide +kernel)]; rfl
       rw[e0];have:=ky (M:=M) (k:="back") (by decide +kernel);omega
theorem qT:FnScope ["_law_x","_law_called","_law_words","_law_given"] ["_law_x","_law_called","_law_words"] (aW lE):=by walk_at "s"
theorem tj (T:Txt K mg t):FnOk P w K mg base CX0 1 t.rD t.sN ["_law_x","_law_called","_law_words"] (wE K):=by
 refine T.mE.F.ok qT (λvs H Q E h=>?_) (λcdv A outer s H vs Q E hr h=>?_)
 . obtain⟨_,_,_,_,rfl,_⟩:=h;rfl
 . obtain⟨x,wl,ns,c,rfl,hW,n3,hCl,hx,q⟩:=h;refine⟨_,(aC (@aK _ _ 3 _ _ _ _ qT.nd rfl (Or.inl rfl) (aS (a4 (aB aP (pv 2) a6 (λ_ _=>rfl)) (a4 a6 (a4 (aB aP (pv 2) (bO bN a6) (λ_ _=>rfl)) (a4 (aB aP (pv 2) a6 (λ_ _=>rfl)) (a4 a6 (a4 (aB aP (pv 2) a6 (λ_ _=>rfl)) a7 rfl) rfl) rfl) rfl) rfl) rfl)) (by rfl) (by walk_at "f")) (@aE _ _ _ (@aQ _ _ _ _ (aS (a4 (aS (a4 af (a4 (pv 0) (a4 (aB aG (pv 1) a6 (λ_ _=>rfl)) (a4 (cN eE (pv 3) cW (cC (aB aG (pv 1) a6 (λ_ _=>rfl)))) a7 rfl) rfl) rfl) rfl)) a7 rfl))))),?_⟩;have at_:∀i:Nat,i<3->∃y∈ns,aY (ns.map V.str) (i:Int)=some (.str y):=λi hi=>by obtain⟨v,hv,hm⟩:=eG (xs:=ns.map V.str) (i:=(i:Int)) (by omega) (by rw[BA]; omega);obtain⟨y,hy,rfl⟩:=Ba.mp hm;exact⟨y,hy,hv⟩
   obtain⟨y0,hy0,hv0⟩:=at_ 0 (by decide);obtain⟨y1,hy1,hv1⟩:=at_ 1 (by decide);obtain⟨y2,hy2,hv2⟩:=at_ 2 (by decide);obtain⟨y9,hy9,hv9⟩:∃y9∈ns,aY (ns.map V.str) (-1)=some (.str y9):=by
     have hne:ns≠[]:=λz=>by rw[z] at n3; exact absurd n3 (by decide)
     refine⟨ns.getLast hne,List.getLast_mem hne,?_⟩
     conv=>lhs; rw[<- Cb hne,BK]
     exact K13.at_last _ _
   refine⟨_,rfl,wl,_,_,_,rfl,rfl,hW,hv0,_,rfl,_,rfl,wl,_,_,_,rfl,rfl,hW,hv9,_,rfl,wl,_,_,_,rfl,rfl,hW,hv1,_,rfl,wl,_,_,_,rfl,rfl,hW,hv2,(by show 6<=sizeLine; decide),λgt hgt=>?_⟩;generalize e:upd H gt _=H3;have ⟨S3,e3⟩:=nw e hgt;refine⟨_,rfl,_,rfl,c.a,_,_,_,rfl,rfl,S3.tup hCl.it,at0,_,rfl,_,rfl,c.a,_,_,_,rfl,rfl,S3.tup hCl.it,rfl,_,rfl,dv (a9.of e3) λqA HA sA hqA=>⟨fZ,λr hr=>⟨bt,λtp htp=>?_⟩⟩⟩;have k6:=hCl.k6;have el:ak [V.str y0,V.int 1,V.str y9,V.str y1,V.int 2,V.str y2] none (some ((c.k:Nat):Int))=[V.str y0,V.int 1,V.str y9,V.str y1,V.int 2,V.str y2].take c.k:=by rw[oQ _ (by omega) (by show _<=(6:Int); omega),B']
   rw[el] at hqA;have all:∀a∈[V.str y0,V.int 1,V.str y9,V.str y1,V.int 2,V.str y2],bB ns a:=λa ha=>by
     simp only[Be,CC,or_false] at ha;rcases ha with rfl|rfl|rfl|rfl|rfl|rfl
     . exact .inr ⟨_,rfl,hy0⟩
     . exact .inl ⟨_,rfl,by decide,by decide⟩
     . exact .inr ⟨_,rfl,hy9⟩
     . exact .inr ⟨_,rfl,hy1⟩
     . exact .inl ⟨_,rfl,by decide,by decide⟩
     . exact .inr ⟨_,rfl,hy2⟩
   exact q tp r _ (.call x c.nm qA ([V.str y0,V.int 1,V.str y9,V.str y1,V.int 2,V.str y2].take c.k)) ((S3.trans sA).trans ((a0.new hr).trans (a0.new htp))) (a9.of a8) ⟨(a0.new htp).tup (a9.of a8),λx' g' p' as' z=>by cases z; exact((a0.new hr).trans (a0.new htp)).tup hqA⟩ ⟨hx,Bq.mpr rfl,by rw[Bd]; omega,λa ha=>all a (CU ha)⟩ rfl
theorem bn:FnScope ["_law_script","_law_most","_law_head","_law_sizes","_law_many","_law_words","_law_called","_law_calls","_law_cells","_law_program_here","_law_k","_law_wide","_law_mine","_law_share","_law_some","_law_rows_here"] ["_law_script","_law_most"] (aW jp):=by walk_at "s"
theorem x0 (T:Txt K mg t):FnOk P w K mg base CX0 4 t.rO t.sX ["_law_script","_law_most"] (tm K):=by
 have G_l_digits:=mz (P:=P) (w:=w) (base:=base) T;have G_l_names:=u2 (P:=P) (w:=w) (base:=base) T;have G_l_rows:=uI (P:=P) (w:=w) (base:=base) T;have G_l_cell_at:=xE (P:=P) (w:=w) (base:=base) T;have G_l_call:=tj (P:=P) (w:=w) (base:=base) T;refine T.t8.F.ok bn (λvs H Q E h=>?_) (λcdv A outer s H vs Q E hr h=>?_)
 . obtain⟨_,_,rfl,_⟩:=h;rfl
 . obtain⟨a,sc,rfl,hS,h63,q⟩:=h;refine⟨_,(@aC _ _ _ _ _ (@aK _ _ 2 _ _ _ _ bn.nd rfl (Or.inl rfl) (@aM _ _ _ _ _ _ _ _ cA (@aM _ _ _ _ _ _ _ _ dn (ah T.jP G_l_cell_at (hr.mono (by decide)) (@ae _ _ _ _ _ (pv 0) (@ae _ _ _ _ _ a6 a7 (by rfl)) (by rfl))) a6) a6) (by rfl) (by walk_at "f")) (@aC _ _ _ _ _ (@aK _ _ 3 _ _ _ _ bn.nd rfl (Or.inr rfl) (ah T.mF G_l_digits (hr.mono (by decide)) (@ae _ _ _ _ _ (pv 2) (@ae _ _ _ _ _ (@AG _ _ [V.int 4,V.int 4,V.int 4,V.int 4,V.int 4,V.int 3,V.int 3,V.int 3,V.int 3,V.int 3,V.int 3,V.int 7,V.int 7,V.int 8,V.int 4] (by kernel_rfl)) a7 (by rfl)) (by rfl))) (by rfl) (by walk_at "f")) (@aC _ _ _ _ _ (@aK _ _ 4 _ _ _ _ bn.nd rfl (Or.inl rfl) (@aM _ _ _ _ _ _ _ _ cE a6 (@aB _ _ _ _ _ _ _ aP (pv 3) a6 (λ_ _=>rfl))) (by rfl) (by walk_at "f")) (@aC _ _ _ _ _ (@aK _ _ 5 _ _ _ _ bn.nd rfl (Or.inl rfl) (ah T.mH G_l_names (hr.mono (by decide)) (@ae _ _ _ _ _ (ah T.jP G_l_cell_at (hr.mono (by decide)) (@ae _ _ _ _ _ (pv 0) (@ae _ _ _ _ _ a6 a7 (by rfl)) (by rfl))) (@ae _ _ _ _ _ (@aM _ _ _ _ _ _ _ _ cE a6 (@aM _ _ _ _ _ _ _ _ dn a6 (ci kU (by rfl) T.b_int j4 (@ae _ _ _ _ _ (eB am (@aB _ _ _ _ _ _ _ aP (pv 3) a6 (λ_ _=>rfl)) a6 (aN _)) a7 (by rfl))))) a7 (by rfl)) (by rfl))) (by rfl) (by walk_at "f")) (@aC _ _ _ _ _ (@aK _ _ 6 _ _ _ _ bn.nd rfl (Or.inr rfl) (ah T.mH G_l_names (hr.mono (by decide)) (@ae _ _ _ _ _ (ah T.jP G_l_cell_at (hr.mono (by decide)) (@ae _ _ _ _ _ (pv 0) (@ae _ _ _ _ _ a6 a7 (by rfl)) (by rfl))) (@ae _ _ _ _ _ (pv 4) a7 (by rfl)) (by rfl))) (by rfl) (by walk_at "f")) (@aC _ _ _ _ _ (pq (i:=7) bn.nd rfl (Or.inl rfl) (N':=["_law_k","_law_called","_law_sizes"]) (js:=[none,some 6,some 3]) (by kernel_rfl) rfl (gK rfl T.b_range (@ae _ _ _ _ _ (pv 4) a7 (by rfl))) cZ (λ_ _ _ _=>(ai (i:=0) (show(["_law_k","_law_called","_law_sizes"]:List Str).Nodup by decide +kernel) rfl (Or.inl rfl) (.inr rfl))) (λ_ _ _ _=>da) (λ_ _ _ _=>(@aS _ _ _ _ _ (@ae _ _ _ _ _ (@aB _ _ _ _ _ _ _ (show cM _ (gX K) from aP) (pv 1) (pv 0) (λ_ _=>rfl)) (@ae _ _ _ _ _ (@aB _ _ _ _ _ _ _ (show cM _ (gX K) from aP) (pv 2) (@aM _ _ _ _ _ _ _ _ cE a6 (pv 0)) (λ_ _=>rfl)) a7 (by rfl)) (by rfl)))) (by rfl)) (@dH _ _ _ _ _ (@aT _ _ _ _ _ _ _ _ (@aL _ _ _ _ _ _ _ _ am (@aB _ _ _ _ _ _ _ aP (pv 3) a6 (λ_ _=>rfl)) a6 (aN _)) (@aE _ _ _ (@aK _ _ 7 _ _ _ _ bn.nd rfl (Or.inl rfl) (@aM _ _ _ _ _ _ _ _ wH (dL (N':=["_law_k","_law_called","_law_sizes"]) (js:=[none,some 6,some 3]) (by kernel_rfl) rfl (gK rfl T.b_range (@ae _ _ _ _ _ (@aM _ _ _ _ _ _ _ _ fH (pv 4) a6) a7 (by rfl))) cZ (λ_ _ _ _=>(ai (i:=0) (show(["_law_k","_law_called","_law_sizes"]:List Str).Nodup by decide +kernel) rfl (Or.inl rfl) (.inr rfl))) (λ_ _ _ _=>da) (λ_ _ _ _=>(@aS _ _ _ _ _ (@ae _ _ _ _ _ (@aB _ _ _ _ _ _ _ (show cM _ (gX K) from aP) (pv 1) (pv 0) (λ_ _=>rfl)) (@ae _ _ _ _ _ (@aM _ _ _ _ _ _ _ _ dn a6 (@aB _ _ _ _ _ _ _ (show cM _ (gX K) from aP) (pv 2) (@aM _ _ _ _ _ _ _ _ cE a6 (pv 0)) (λ_ _=>rfl))) a7 (by rfl)) (by rfl))))) (@bd _ _ _ _ (@ae _ _ _ _ _ (@aS _ _ _ _ _ (@ae _ _ _ _ _ (@aB _ _ _ _ _ _ _ aP (pv 6) (bO bN a6) (λ_ _=>rfl)) (@ae _ _ _ _ _ a6 a7 (by rfl)) (by rfl))) a7 (by rfl)))) (by rfl) (by walk_at "f"))) aX) (@aC _ _ _ _ _ (@aK _ _ 8 _ _ _ _ bn.nd rfl (Or.inl rfl) (@cN _ _ _ _ _ _ _ _ _ _ fR (pv 0) (cC a6) (cC (@aM _ _ _ _ _ _ _ _ cE a6 (pv 1)))) (by rfl) (by walk_at "f")) (@aC _ _ _ _ _ (@aK _ _ 9 _ _ _ _ bn.nd rfl (Or.inl rfl) (@bd _ _ _ _ a7) (by rfl) (by walk_at "f")) (@aC _ _ _ _ _ (cD PassesOwn.never rfl (gK rfl T.b_range (@ae _ _ _ _ _ (@aM _ _ _ _ _ _ _ _ fH (pv 4) a6) a7 (by rfl))) (ai (i:=10) bn.nd rfl (Or.inl rfl)) (@aC _ _ _ _ _ (@aK _ _ 11 _ _ _ _ bn.nd rfl (Or.inl rfl) (@aM _ _ _ _ _ _ _ _ cE (@aM _ _ _ _ _ _ _ _ cE a6 (@aM _ _ _ _ _ _ _ _ dn a6 (ci kU (by rfl) T.b_int j4 (@ae _ _ _ _ _ (eB am (@aB _ _ _ _ _ _ _ aP (pv 3) a6 (λ_ _=>rfl)) a6 (aN _)) a7 (by rfl))))) (@aM _ _ _ _ _ _ _ _ dn a6 (ci kU (by rfl) T.b_int j4 (@ae _ _ _ _ _ (eB am (@aB _ _ _ _ _ _ _ aP (pv 3) a6 (λ_ _=>rfl)) a6 (aN _)) a7 (by rfl))))) (by rfl) (by walk_at "f")) (@aC _ _ _ _ _ (@aK _ _ 12 _ _ _ _ bn.nd rfl (Or.inl rfl) (@cN _ _ _ _ _ _ _ _ _ _ fR (pv 5) (cC (@aB _ _ _ _ _ _ _ aP (pv 3) a6 (λ_ _=>rfl))) (cC (@aM _ _ _ _ _ _ _ _ cE (@aB _ _ _ _ _ _ _ aP (pv 3) a6 (λ_ _=>rfl)) (pv 11)))) (by rfl) (by walk_at "f")) (@aC _ _ _ _ _ (@aK _ _ 13 _ _ _ _ bn.nd rfl (Or.inl rfl) (@aB _ _ _ _ _ _ _ aP (pv 3) a6 (λ_ _=>rfl)) (by rfl) (by walk_at "f")) (@dH _ _ _ _ _ (@aT _ _ _ _ _ _ _ _ (@PW.pt _ _ _ (@cT _ _ _ _ _ _ _ (@aL _ _ _ _ _ _ _ _ am (@aB _ _ _ _ _ _ _ aP (pv 3) a6 (λ_ _=>rfl)) a6 (aN _)) (@cV _ _ _ _ (@aL _ _ _ _ _ _ _ _ am (pv 10) a6 (aN _))))) (@aE _ _ _ (@aK _ _ 13 _ _ _ _ bn.nd rfl (Or.inl rfl) a6 (by rfl) (by walk_at "f"))) aX) (@aC _ _ _ _ _ (@aK _ _ 14 _ _ _ _ bn.nd rfl (Or.inl rfl) (@cN _ _ _ _ _ _ _ _ _ _ fR (pv 8) cW (cC (pv 13))) (by rfl) (by walk_at "f")) (@aC _ _ _ _ _ (@aK _ _ 8 _ _ _ _ bn.nd rfl (Or.inl rfl) (@cN _ _ _ _ _ _ _ _ _ _ fR (pv 8) (cC (pv 13)) cW) (by rfl) (by walk_at "f")) (@aC _ _ _ _ _ (@aK _ _ 15 _ _ _ _ bn.nd rfl (Or.inl rfl) (ah T.mI G_l_rows (hr.mono (by decide)) (@ae _ _ _ _ _ (pv 14) (@ae _ _ _ _ _ (pv 12) (@ae _ _ _ _ _ (pv 7) (@ae _ _ _ _ _ (@aM _ _ _ _ _ _ _ _ cE (@aB _ _ _ _ _ _ _ aP (pv 3) a6 (λ_ _=>rfl)) (pv 10)) a7 (by rfl)) (by rfl)) (by rfl)) (by rfl))) (by rfl) (by walk_at "f")) (@dH _ _ _ _ _ (@aT _ _ _ _ _ _ _ _ (@PW.pt _ _ _ (@cT _ _ _ _ _ _ _ (@aL _ _ _ _ _ _ _ _ am (@aB _ _ _ _ _ _ _ aP (pv 3) a6 (λ_ _=>rfl)) a6 (aN _)) (@cV _ _ _ _ (@aL _ _ _ _ _ _ _ _ eT (pv 10) a6 (aN _))))) (@aE _ _ _ (@aK _ _ 15 _ _ _ _ bn.nd rfl (Or.inl rfl) (@aM _ _ _ _ _ _ _ _ hU (ah T.mE G_l_call (hr.mono (by decide)) (@ae _ _ _ _ _ (@aB _ _ _ _ _ _ _ aP (pv 12) a6 (λ_ _=>rfl)) (@ae _ _ _ _ _ (@aB _ _ _ _ _ _ _ aP (pv 7) (@aM _ _ _ _ _ _ _ _ fH (pv 10) a6) (λ_ _=>rfl)) (@ae _ _ _ _ _ (pv 12) a7 (by rfl)) (by rfl)) (by rfl))) (pv 15)) (by rfl) (by walk_at "f"))) aX) (@aE _ _ _ (@bS _ _ _ _ (bT BR Bb Bc bi (pv 9) (@ae _ _ _ _ _ (@aS _ _ _ _ _ (@ae _ _ _ _ _ (@aB _ _ _ _ _ _ _ aP (pv 6) (pv 10) (λ_ _=>rfl)) (@ae _ _ _ _ _ (eB eT (@aB _ _ _ _ _ _ _ aP (pv 3) (@aM _ _ _ _ _ _ _ _ cE a6 (pv 10)) (λ_ _=>rfl)) a6 (aN _)) (@ae _ _ _ _ _ (ci j2 (by rfl) T.b_tuple fU (@ae _ _ _ _ _ (@cN _ _ _ _ _ _ _ _ _ _ fR (pv 12) cW (cC (@aB _ _ _ _ _ _ _ aG (@aB _ _ _ _ _ _ _ aP (pv 7) (pv 10) (λ_ _=>rfl)) a6 (λ_ _=>rfl)))) a7 (by rfl))) (@ae _ _ _ _ _ (pv 15) a7 (by rfl)) (by rfl)) (by rfl)) (by rfl))) a7 (by rfl))) (by rfl)))))))))))) (@dH _ _ _ _ _ (@aT _ _ _ _ _ _ _ _ (@PW.pt _ _ _ (@cT _ _ _ _ _ _ _ (@aL _ _ _ _ _ _ _ _ am (@aB _ _ _ _ _ _ _ aP (pv 3) a6 (λ_ _=>rfl)) a6 (aN _)) (@cV _ _ _ _ (@aL _ _ _ _ _ _ _ _ eT (pv 4) a6 (aN _))))) (@aE _ _ _ (@aK _ _ 8 _ _ _ _ bn.nd rfl (Or.inl rfl) (@cN _ _ _ _ _ _ _ _ _ _ fR (pv 8) cW (cC a6)) (by rfl) (by walk_at "f"))) aX) (@aC _ _ _ _ _ (@aK _ _ 15 _ _ _ _ bn.nd rfl (Or.inl rfl) (ah T.mI G_l_rows (hr.mono (by decide)) (@ae _ _ _ _ _ (pv 8) (@ae _ _ _ _ _ (pv 5) (@ae _ _ _ _ _ (pv 7) (@ae _ _ _ _ _ (@aB _ _ _ _ _ _ _ aP (pv 3) a6 (λ_ _=>rfl)) a7 (by rfl)) (by rfl)) (by rfl)) (by rfl))) (by rfl) (by walk_at "f")) (@dH _ _ _ _ _ (@aT _ _ _ _ _ _ _ _ (@PW.pt _ _ _ (@cT _ _ _ _ _ _ _ (@aL _ _ _ _ _ _ _ _ am (@aB _ _ _ _ _ _ _ aP (pv 3) a6 (λ_ _=>rfl)) a6 (aN _)) (@cV _ _ _ _ (@aL _ _ _ _ _ _ _ _ eT (pv 4) a6 (aN _))))) (@aE _ _ _ (@aK _ _ 15 _ _ _ _ bn.nd rfl (Or.inl rfl) (@aM _ _ _ _ _ _ _ _ hU (ah T.mE G_l_call (hr.mono (by decide)) (@ae _ _ _ _ _ (@aB _ _ _ _ _ _ _ aP (pv 5) a6 (λ_ _=>rfl)) (@ae _ _ _ _ _ (@aB _ _ _ _ _ _ _ aP (pv 7) (bO bN a6) (λ_ _=>rfl)) (@ae _ _ _ _ _ (pv 5) a7 (by rfl)) (by rfl)) (by rfl))) (pv 15)) (by rfl) (by walk_at "f"))) aX) (@aC _ _ _ _ _ (@bS _ _ _ _ (bT BR Bb Bc bi (pv 9) (@ae _ _ _ _ _ (@aS _ _ _ _ _ (@ae _ _ _ _ _ (@aB _ _ _ _ _ _ _ aP (pv 6) (bO bN a6) (λ_ _=>rfl)) (@ae _ _ _ _ _ bQ (@ae _ _ _ _ _ (ci j2 (by rfl) T.b_tuple fU (@ae _ _ _ _ _ (@cN _ _ _ _ _ _ _ _ _ _ fR (pv 5) cW (cC (@aB _ _ _ _ _ _ _ aG (@aB _ _ _ _ _ _ _ aP (pv 7) (bO bN a6) (λ_ _=>rfl)) a6 (λ_ _=>rfl)))) a7 (by rfl))) (@ae _ _ _ _ _ (pv 15) a7 (by rfl)) (by rfl)) (by rfl)) (by rfl))) a7 (by rfl))) (by rfl)) (@aE _ _ _ (@aQ _ _ _ _ (pv 9))))))))))))))))),?_⟩;refine⟨_,rfl,a,sc,0,rfl,hS,h63,by decide,λz0=>⟨_,_,rfl,rfl,.inr ⟨by decide,by decide⟩,_,_,rfl,rfl,(show(0:Int)<1000000007 by decide),?_⟩⟩;refine⟨_,rfl,(by show 15<=sizeLine; decide),λsl hsl=>⟨_,sl,szs,rfl,aA.of a8,(by decide),(by decide),λl0 H1 hl0 s1 e1=>?_⟩⟩;have S1:a0 H H1:=(a0.new hsl).trans s1;obtain⟨d0,d1,d2,d3,d4,d5,d6,d7,d8,d9,d10,d11,d12,d13,d14,ed,b0,b1,b2,b3,b4,b5,b9,b13,b14⟩:=vU (z0 * 69621%1000000007);rw[ed] at e1;have e1:H1 l0=some (.lst [V.int d0,V.int d1,V.int d2,V.int d3,V.int d4,V.int d5,V.int d6,V.int d7,V.int d8,V.int d9,V.int d10,V.int d11,V.int d12,V.int d13,V.int d14]):=e1;refine⟨_,rfl,l0,_,_,_,rfl,rfl,aA.of e1,at0,_,_,rfl,rfl,?_⟩;refine⟨_,rfl,a,sc,1,rfl,S1.seq hS,h63,by decide,λz1=>⟨_,rfl,l0,_,_,_,rfl,rfl,aA.of e1,rfl,rfl,.inr ⟨_,rfl,_,_,rfl,rfl,.inl ⟨by decide,by decide⟩,_,_,rfl,rfl,z1,(if d13=1 then 20 else 5),vi2 ?_,?_,λwl H2 ns hwl s2 e2 ln pol=>?_⟩⟩⟩
   . by_cases h:d13=1
     . subst h; rfl
     . rw[BE h,BE (by rw[BL]; exact λz=>h (V.int.inj z))]; rfl
   . split <;> decide
   have S2:=S1.trans s2;have pm:(1:Int)+d0=((d0.toNat+1:Nat):Int):=by omega
   generalize hm0:d0.toNat=m0 at pm;have m4:m0<4:=by omega
   refine⟨_,rfl,a,sc,2,rfl,S2.seq hS,h63,by decide,λz2=>⟨_,rfl,z2,m0+1,vi2 pm,by omega,λdl H3 gs hdl s3 e3 lg polg=>?_⟩⟩;have S3:=S2.trans s3;have e1_3:=s3 _ _ (s2 _ _ e1);have e2_3:=s3 _ _ e2;have ar:∀i:Nat,i<4->∃d:Int,aY [V.int d0,V.int d1,V.int d2,V.int d3,V.int d4,V.int d5,V.int d6,V.int d7,V.int d8,V.int d9,V.int d10,V.int d11,V.int d12,V.int d13,V.int d14] (1+(0+(i:Int)))=some (.int d)/\0<=d/\d<4:=λi hi=>by
     match i,hi with
     | 0,_=>exact⟨d1,rfl,b1⟩
     | 1,_=>exact⟨d2,rfl,b2⟩
     | 2,_=>exact⟨d3,rfl,b3⟩
     | 3,_=>exact⟨d4,rfl,b4⟩
   have gn:∀i:Nat,i<m0+1->∃g,gs[i]?=some g/\aY (gs.map V.str) (0+(i:Int))=some (.str g):=λi hi=>by have:gs[i]?=some (gs[i]'(by omega)):=BP (by omega);refine⟨_,this,?_⟩;rw[Int.zero_add];exact bp (by rw[BI,this]; rfl)
   refine⟨_,rfl,_,rfl,(by omega),(by omega),λcl hcl=>iH (lo:=0) (n:=(1+d0).toNat) (by omega) (λi acc H4=>a0 H3 H4/\H4 cl=some (.lst acc)/\∃cs:List Cl,acc=(cs.map λx=>V.ref x.a)/\cs.length=i/\(∀x∈cs,ClAt K H4 x)/\cs.map (·.nm)=gs.take i) ⟨a0.new hcl,a8,[],rfl,rfl,(λx hx=>by cases hx),rfl⟩ ?_ ?_ ?_⟩
   . rintro i acc H4 hi ⟨s4,e4,cs,rfl,lc,_⟩;exact⟨e4,by rw[BA]; omega⟩
   . rintro i acc H4 hi ⟨s4,e4,cs,rfl,lc,hA,hN⟩;obtain⟨g,hg,ag⟩:=gn i (by omega);obtain⟨d,hd,d0',d4'⟩:=ar i (by omega);refine⟨_,rfl,_,rfl,dl,_,_,_,rfl,rfl,aA.of (s4 _ _ e3),ag,_,rfl,_,rfl,_,_,rfl,rfl,l0,_,_,_,rfl,rfl,aA.of (s4 _ _ e1_3),hd,ay,λtp htp=>?_⟩;have sn:=a0.new (o:=.tup [V.str g,V.int d]) htp;refine⟨sn _ _ e4,(s4.trans sn).upd hcl,a8,cs++[⟨tp,g,d.toNat⟩],by rw[BK]; rfl,by rw[BH,lc]; rfl,λx hx=>?_,?_⟩
     . have tl:TS (upd H4 tp (.tup [V.str g,V.int d])) (upd (upd H4 tp (.tup [V.str g,V.int d])) cl (.lst ((cs.map λx=>V.ref x.a)++[V.ref tp]))):=TS.lst (sn _ _ e4);rcases C5.mp hx with z|z
       . have:=(hA x z).mono sn;exact⟨tl.tup this.it,this.k6⟩
       . rw[Bq.mp z];refine⟨tl.tup ?_,by show d.toNat<=6; omega⟩;show a9 K _ tp [V.str g,V.int ((d.toNat:Nat):Int)];rw[Int.toNat_of_nonneg d0'];exact a9.of a8
     . rw[BK,hN,Bm,hg];rfl
   rintro acc H4 ⟨s4,e4,cs,rfl,lc,hA,hN⟩;refine⟨λσ' H'=>∃(cl':Addr) (cs':List Cl),σ'=[some (.ref a),some (.int 14),some (.int (z0 * 69621%1000000007)),some (.ref l0),some (.int (1+d0)),some (.ref wl),some (.ref dl),some (.ref cl'),none,none,none,none,none,none,none,none]/\a0 H3 H'/\aA K H' cl' (cs'.map λx=>V.ref x.a)/\cs'.length=m0+1/\(∀x∈cs',ClAt K H' x)/\cs'.map (·.nm)=gs,?_,?_⟩
   . have tk:gs.take (1+d0).toNat=gs:=C9 (by omega);refine⟨_,rfl,l0,_,_,_,rfl,rfl,aA.of (s4 _ _ e1_3),rfl,rfl,_,rfl,dY (λ_=>?_) (λ_=>⟨cl,cs,rfl,s4,aA.of e4,by omega,hA,by rw[hN,tk]⟩)⟩;refine⟨_,rfl,_,_,rfl,rfl,_,rfl,(by omega),(by omega),λc2 hc2=>iH (lo:=0) (n:=(1+d0 - 1).toNat) (by omega) (λi acc H5=>a0 H4 H5/\H5 c2=some (.lst acc)/\∃cs2:List Cl,acc=(cs2.map λx=>V.ref x.a)/\cs2.length=i/\(∀x∈cs2,ClAt K H5 x)/\cs2.map (·.nm)=gs.take i) ⟨a0.new hc2,a8,[],rfl,rfl,(λx hx=>by cases hx),rfl⟩ ?_ ?_ ?_⟩
     . rintro i acc H5 hi ⟨s5,e5,cs2,rfl,lc2,_⟩;exact⟨e5,by rw[BA]; omega⟩
     . rintro i acc H5 hi ⟨s5,e5,cs2,rfl,lc2,hA2,hN2⟩;obtain⟨g,hg,ag⟩:=gn i (by omega);obtain⟨d,hd,d0',d4'⟩:=ar i (by omega);have s45:=s4.trans s5;refine⟨_,rfl,_,rfl,dl,_,_,_,rfl,rfl,aA.of (s45 _ _ e3),ag,_,rfl,_,rfl,_,_,rfl,rfl,l0,_,_,_,rfl,rfl,aA.of (s45 _ _ e1_3),hd,_,_,rfl,rfl,.inl ⟨by decide,by decide⟩,ay,λtp htp=>?_⟩;have sn:=a0.new (o:=.tup [V.str g,V.int (2 * d)]) htp;refine⟨sn _ _ e5,(s5.trans sn).upd hc2,a8,cs2++[⟨tp,g,(2 * d).toNat⟩],by rw[BK]; rfl,by rw[BH,lc2]; rfl,λx hx=>?_,?_⟩
       . have tl:TS (upd H5 tp (.tup [V.str g,V.int (2 * d)])) (upd (upd H5 tp (.tup [V.str g,V.int (2 * d)])) c2 (.lst ((cs2.map λx=>V.ref x.a)++[V.ref tp]))):=TS.lst (sn _ _ e5);rcases C5.mp hx with z|z
         . have:=(hA2 x z).mono sn;exact⟨tl.tup this.it,this.k6⟩
         . rw[Bq.mp z];refine⟨tl.tup ?_,by show(2 * d).toNat<=6; omega⟩;show a9 K _ tp [V.str g,V.int (((2 * d).toNat:Nat):Int)];rw[Int.toNat_of_nonneg (by omega)];exact a9.of a8
       . rw[BK,hN2,Bm,hg];rfl
     . rintro acc H5 ⟨s5,e5,cs2,rfl,lc2,hA2,hN2⟩;have s45:=s4.trans s5;have gne:gs≠[]:=λz=>by rw[z] at lg; cases lg
       have gl:aY (gs.map V.str) (-1)=some (.str (gs.getLast gne)):=by
         conv=>lhs; rw[<- Cb gne,BK]
         exact K13.at_last _ _
       refine⟨_,rfl,_,rfl,dl,_,_,_,rfl,rfl,aA.of (s45 _ _ e3),gl,ay,λtp htp=>⟨bt,λl2 hl2=>?_⟩⟩;have sn:=(a0.new (o:=.tup [V.str (gs.getLast gne),V.int 6]) htp).trans (a0.new (o:=.lst [V.ref tp]) hl2);refine⟨c2,l2,_,_,rfl,rfl,sn _ _ e5,a8,(by rw[BA]; exact CL (c8 (by show cs2.length+1<1000000; omega))),λr hr=>⟨r,cs2++[⟨tp,gs.getLast gne,6⟩],rfl,(s45.trans sn).trans (a0.new hr),?_,?_,λx hx=>?_,?_⟩⟩
       . rw[BK];exact aA.of a8
       . rw[BH,lc2];show(1+d0 - 1).toNat+1=_;omega
       . rcases C5.mp hx with z|z
         . exact((hA2 x z).mono sn).mono (a0.new hr)
         . rw[Bq.mp z];exact⟨((a0.new hl2).trans (a0.new hr)).tup (a9.of a8),BG _⟩
       . rw[BK,hN2,show(1+d0 - 1).toNat=gs.length - 1 by omega,<- List.dropLast_eq_take];exact Cb gne
   rintro σ H6 ⟨cl',cs',rfl,s6,hC6,lc6,hA6,hN6⟩;have S6:=S3.trans s6;have e1_6:=s6 _ _ e1_3;have e2_6:=s6 _ _ e2_3;have e3_6:=s6 _ _ e3;clear hA hN e4 s4 lc cs;obtain⟨s,hs⟩:∃s:Nat,d9=(s:Int):=⟨d9.toNat,by omega⟩
   obtain⟨w,hw⟩:∃w:Bool,w=decide (d14=1):=⟨_,rfl⟩
   refine⟨_,rfl,_,rfl,_,rfl,_,_,rfl,rfl,_,rfl,a,_,rfl,S6.seq hS,λzl hzl=>?_⟩;have s7:=a0.new (o:=.lst (ak (sc.map V.int) (some 4) (some (4+14)))) hzl;have e7:(upd H6 zl (.lst (ak (sc.map V.int) (some 4) (some (4+14))))) zl=some (.lst (((sc.drop 4).take 14).map V.int)):=by rw[a8];refine Bv (λx=>some (HO.lst x)) ((mT (a:=4) (b:=18)).trans ?_);rw[D4,EY]
   generalize hH7:upd H6 zl (.lst (ak (sc.map V.int) (some 4) (some (4+14))))=H7 at s7 e7 ⊢;have ar6:∀i:Nat,i<3->∃d:Int,aY [V.int d0,V.int d1,V.int d2,V.int d3,V.int d4,V.int d5,V.int d6,V.int d7,V.int d8,V.int d9,V.int d10,V.int d11,V.int d12,V.int d13,V.int d14] (6+(0+(i:Int)))=some (.int d):=λi hi=>by
     match i,hi with
     | 0,_=>exact⟨d6,rfl⟩
     | 1,_=>exact⟨d7,rfl⟩
     | 2,_=>exact⟨d8,rfl⟩
   have cn:∀i:Nat,i<m0+1->∃c,cs'[i]?=some c/\aY (cs'.map λx=>V.ref x.a) (i:Int)=some (.ref c.a)/\c∈cs':=λi hi=>by have:cs'[i]?=some (cs'[i]'(by omega)):=BP (by omega);exact⟨_,this,bp (by rw[BI,this]; rfl),BQ this⟩
   have cm:∀c∈cs',c.nm∈gs:=λc hc=>by rw[<- hN6]; exact Ba.mpr ⟨c,hc,rfl⟩
   have gnm:=qI polg;have wnm:=qI pol;have s3':s<3:=by omega
   have lc100:cs'.length<=100:=by omega
   have lc0:0<cs'.length:=by omega
   have S7:=S6.trans s7;have e1_7:=s7 _ _ e1_6;have e2_7:=s7 _ _ e2_6;have e3_7:=s7 _ _ e3_6;have hC7:=s7.seq hC6;have hA7:∀x∈cs',ClAt K H7 x:=λx hx=>(hA6 x hx).mono s7;have n15:5<=ns.length/\ns.length<=20/\(d13=1->ns.length=20):=by
     rw[ln];split
     . exact⟨by decide,by decide,λ_=>rfl⟩
     . exact⟨by decide,by decide,λz=>absurd z (by assumption)⟩
   refine⟨dB,λpl hpl=>⟨_,rfl,_,_,rfl,rfl,_,rfl,(by omega),(by omega),kK (lo:=0) (n:=(1+d0 - 1).toNat) (PgJ K H7 a l0 wl dl cl' pl (z0 * 69621%1000000007) (1+d0) gs s w) ⟨zl,(sc.drop 4).take 14,[],_,_,_,_,_,_,rfl,a0.new hpl,a0.new hpl _ _ e7,?_,a8,?_,rfl,(λf hf=>by cases hf),rfl,λj f hf=>by cases hf⟩ ?_ ?_⟩⟩
   . rw[Bd];show _<=14;omega
   . intro z;rw[z,hpl] at e7;cases e7
   . rintro i σ Hx hi ⟨zl,zs,fs,v10,v11,v12,v13,v14,v15,rfl,sx,ez,lz,eP,hne,lf,hF,hNm,hO⟩;have e1x:=sx _ _ e1_7;have e2x:=sx _ _ e2_7;have im:i<m0:=by omega
     have i3:i<3:=by omega
     refine⟨_,rfl,l0,_,_,_,rfl,rfl,aA.of e1x,rfl,rfl,.inr ⟨_,rfl,_,_,rfl,rfl,.inl ⟨by decide,by decide⟩,_,_,rfl,rfl,_,rfl,l0,_,_,_,rfl,rfl,aA.of e1x,rfl,rfl,.inr ⟨_,rfl,_,_,rfl,rfl,.inl ⟨by decide,by decide⟩,_,_,rfl,rfl,?_⟩⟩⟩;refine⟨_,rfl,_,rfl,l0,_,_,_,rfl,rfl,aA.of e1x,rfl,_,rfl,_,rfl,l0,_,_,_,rfl,rfl,aA.of e1x,rfl,_,rfl,_,_,rfl,rfl,_,rfl,wl,_,rfl,aA.of e2x,λml hml=>?_⟩;obtain⟨ms,em,hmem,m3,m20⟩:=uh (d13:=d13) (d14:=d14) b5 n15;have s8:=a0.new (o:=.lst (ak (ns.map V.str) (some d5) (some (d5+(3+5 * (if decide (V.int d13=V.int 1)=true then 1 else 0)+2 * (if decide (V.int d14=V.int 1)=true then 1 else 0)))))) hml;have e8:(upd Hx ml (.lst (ak (ns.map V.str) (some d5) (some (d5+(3+5 * (if decide (V.int d13=V.int 1)=true then 1 else 0)+2 * (if decide (V.int d14=V.int 1)=true then 1 else 0))))))) ml=some (.lst (ms.map V.str)):=by rw[a8]; exact Bv (λx=>some (HO.lst x)) em
     refine⟨_,rfl,l0,_,_,_,rfl,rfl,aA.of (s8 _ _ e1x),rfl,λσ' H'=>∃v11,σ'=[some (.ref a),some (.int 14),some (.int (z0 * 69621%1000000007)),some (.ref l0),some (.int (1+d0)),some (.ref wl),some (.ref dl),some (.ref cl'),some (.ref zl),some (.ref pl),some (.int (0+(i:Int))),v11,some (.ref ml),some (.int ((bM s w i:Nat):Int)),v14,v15]/\a0 Hx H'/\H' ml=some (.lst (ms.map V.str)),?_,?_⟩
     . refine⟨_,rfl,l0,_,_,_,rfl,rfl,aA.of (s8 _ _ e1x),rfl,rfl,_,rfl,ie (λh14=>⟨_,rfl,rfl,_,rfl,dY (λhk=>?_) (λhk=>?_)⟩) (λh14=>?_)⟩
       . have hk:i=0:=by have:=V.int.inj (Bo hk); omega
         have e:bM s w i=8:=by unfold bM; rw[BJ ⟨by rw[hw]; exact BN (V.int.inj h14),hk⟩]
         refine⟨some (.int (3+5 * (if decide (V.int d13=V.int 1)=true then 1 else 0)+2 * (if decide (V.int d14=V.int 1)=true then 1 else 0))),Bv (λZZ:Int=>([some (.ref a),some (.int 14),some (.int (z0 * 69621%1000000007)),some (.ref l0),some (.int (1+d0)),some (.ref wl),some (.ref dl),some (.ref cl'),some (.ref zl),some (.ref pl),some (.int (0+(i:Int))),some (.int (3+5 * (if decide (V.int d13=V.int 1)=true then 1 else 0)+2 * (if decide (V.int d14=V.int 1)=true then 1 else 0))),some (.ref ml),some (.int ZZ),v14,v15]:St)) (show(8:Int)=((bM s w i:Nat):Int) by rw[e]; rfl),s8,e8⟩
       . have e:bM s w i=s:=by unfold bM;rw[BE];rintro ⟨_,z⟩;rw[BL] at hk;exact hk (by rw[z]; rfl)
         refine⟨some (.int (3+5 * (if decide (V.int d13=V.int 1)=true then 1 else 0)+2 * (if decide (V.int d14=V.int 1)=true then 1 else 0))),Bv (λZZ:Int=>([some (.ref a),some (.int 14),some (.int (z0 * 69621%1000000007)),some (.ref l0),some (.int (1+d0)),some (.ref wl),some (.ref dl),some (.ref cl'),some (.ref zl),some (.ref pl),some (.int (0+(i:Int))),some (.int (3+5 * (if decide (V.int d13=V.int 1)=true then 1 else 0)+2 * (if decide (V.int d14=V.int 1)=true then 1 else 0))),some (.ref ml),some (.int ZZ),v14,v15]:St)) (show(d9:Int)=((bM s w i:Nat):Int) by rw[e]; exact hs),s8,e8⟩
       . have e:bM s w i=s:=by unfold bM;rw[BE];rintro ⟨z,_⟩;rw[hw,BL] at z;exact h14 (by rw[z])
         refine⟨some (.int (3+5 * (if decide (V.int d13=V.int 1)=true then 1 else 0)+2 * (if decide (V.int d14=V.int 1)=true then 1 else 0))),Bv (λZZ:Int=>([some (.ref a),some (.int 14),some (.int (z0 * 69621%1000000007)),some (.ref l0),some (.int (1+d0)),some (.ref wl),some (.ref dl),some (.ref cl'),some (.ref zl),some (.ref pl),some (.int (0+(i:Int))),some (.int (3+5 * (if decide (V.int d13=V.int 1)=true then 1 else 0)+2 * (if decide (V.int d14=V.int 1)=true then 1 else 0))),some (.ref ml),some (.int ZZ),v14,v15]:St)) (show(d9:Int)=((bM s w i:Nat):Int) by rw[e]; exact hs),s8,e8⟩
     clear s8 e8;rintro σ8 H8 ⟨v11',rfl,s8,e8⟩;have ez8:=s8 _ _ ez;have e1_8:=s8 _ _ e1x;refine⟨_,rfl,_,rfl,_,rfl,zl,_,rfl,aA.of ez8,λp1 hp1=>?_⟩;have s9:=a0.new (o:=.lst (ak (zs.map V.int) none (some ((bM s w i:Nat):Int)))) hp1;have e9:(upd H8 p1 (.lst (ak (zs.map V.int) none (some ((bM s w i:Nat):Int))))) p1=some (.lst ((zs.take (bM s w i)).map V.int)):=by rw[a8,ik,D4]
     generalize upd H8 p1 (.lst (ak (zs.map V.int) none (some ((bM s w i:Nat):Int))))=H9 at s9 e9 ⊢;refine⟨_,rfl,_,rfl,_,rfl,zl,_,rfl,aA.of (s9 _ _ ez8),λp2 hp2=>?_⟩;have s10:=a0.new (o:=.lst (ak (zs.map V.int) (some ((bM s w i:Nat):Int)) none)) hp2;have e10:(upd H9 p2 (.lst (ak (zs.map V.int) (some ((bM s w i:Nat):Int)) none))) p2=some (.lst ((zs.drop (bM s w i)).map V.int)):=by rw[a8,vb,EY]
     generalize upd H9 p2 (.lst (ak (zs.map V.int) (some ((bM s w i:Nat):Int)) none))=H10 at s10 e10 ⊢;have sA:=s9.trans s10;have sB:=s8.trans sA;have sC:=sx.trans sB;have sh8:=yG s w i s3';have lft:=lA s w i;refine⟨_,rfl,_,rfl,_,rfl,_,rfl,l0,_,_,_,rfl,rfl,aA.of (sA _ _ e1_8),rfl,_,rfl,_,_,rfl,rfl,p1,ml,cl',zs.take (bM s w i),_,ms,cs',rfl,aA.of (s10 _ _ e9),?_,aA.of (sA _ _ e8),by omega,by omega,sC.seq hC7,lc0,lc100,(λx hx=>(hA7 x hx).mono sC),λtr H11 rs rhs s11 htr hrows hwf hone hlen hok hwts=>?_⟩
     . rw[Bd]; omega
     have R0:RwsO K H11 tr rs rhs ms gs (bM s w i):=⟨htr,hrows,hwf,hone,by rw[Bd] at hlen; omega,by rw[hN6] at hok; exact hok,λM hM=>Bk (hwts M hM) (Dm (Dn M (by rw[Bd]; omega)) 1)⟩
     have hlen':rhs.length<=43:=by rw[Bd] at hlen; omega
     clear hrows hwf hone hlen hok hwts;have s8_11:=sA.trans s11;have cel1:bM s w i<=cel s w i:=Dd _ _;refine⟨λσ' H'=>∃v11 v14 tr2 rs2 rhs2,σ'=[some (.ref a),some (.int 14),some (.int (z0 * 69621%1000000007)),some (.ref l0),some (.int (1+d0)),some (.ref wl),some (.ref dl),some (.ref cl'),some (.ref p2),some (.ref pl),some (.int (0+(i:Int))),v11,some (.ref ml),some (.int ((bM s w i:Nat):Int)),v14,some (.ref tr2)]/\a0 H11 H'/\RwsO K H' tr2 rs2 rhs2 ms gs (cel s w i),?_,?_⟩
     . refine⟨_,rfl,l0,_,_,_,rfl,rfl,aA.of (s8_11 _ _ e1_8),rfl,rfl,_,rfl,gv (λh9 rest=>⟨_,rfl,_,_,rfl,rfl,_,rfl,dY (λhk=>?_) (λ_=>rest)⟩) ⟨_,_,_,_,_,rfl,a0.refl _,R0.up cel1⟩⟩;have i0:0<i:=by have:=Bo hk; omega
       have s0:s=0:=by have:=V.int.inj h9; omega
       have cel2:bM s w i+1=cel s w i:=by unfold cel; rw[BJ ⟨s0,i0⟩]
       obtain⟨x1,hx1,ax1⟩:∃x1∈ms,aY (ms.map V.str) 1=some (.str x1):=by have:ms[1]?=some (ms[1]'(by omega)):=BP (by omega);exact⟨_,BQ this,bp (j:=1) (by rw[BI,this]; rfl)⟩
       obtain⟨c,_,ac,hc⟩:=cn (i - 1) (by omega);have ac:aY (cs'.map λx=>V.ref x.a) (0+(i:Int) - 1)=some (.ref c.a):=by rw[show(0+(i:Int) - 1)=((i - 1:Nat):Int) by omega]; exact ac
       refine⟨_,rfl,ml,_,_,_,rfl,rfl,aA.of (s8_11 _ _ e8),ax1,_,rfl,_,rfl,_,_,rfl,rfl,cl',_,_,_,rfl,rfl,(sC.trans s11).seq hC7,ac,_,rfl,x1,ml,ms,c,rfl,aA.of (s8_11 _ _ e8),m3,((hA7 c hc).mono sC).mono s11,hx1,λtp r H12 rg s12 htp hr hok hkc=>⟨_,rfl,RwsO.cat htp hr hok hkc (cm c hc) (R0.mono s12) hlen' λp' H13 rs' rhs' s13 R1=>⟨_,_,_,rs',rhs',rfl,s12.trans s13,R1.up (EC cel2)⟩⟩⟩
     clear R0 hlen' htr;rintro σ12 H12 ⟨v11'',v14',tr2,rs2,rhs2,rfl,s12,R2⟩;have sD:=(sC.trans s11).trans s12;have s10_12:=s11.trans s12;have eP12:H12 pl=some (.lst (fs.map λf=>V.ref f.a)):=s12 _ _ (s11 _ _ (sB _ _ eP));have e8_12:=s12 _ _ (s8_11 _ _ e8);obtain⟨g,hg,ag⟩:=gn i (by omega);obtain⟨c,hci,ac,hc⟩:=cn i (by omega);have ac:aY (cs'.map λx=>V.ref x.a) (0+(i:Int))=some (.ref c.a):=by rw[Int.zero_add]; exact ac
     obtain⟨d,hd⟩:=ar6 i i3;have hcA:=(hA7 c hc).mono sD;refine⟨_,rfl,.inl ⟨rfl,_,aA.of eP12⟩,_,rfl,_,rfl,dl,_,_,_,rfl,rfl,aA.of (sD _ _ e3_7),ag,_,rfl,_,rfl,_,_,rfl,rfl,l0,_,_,_,rfl,rfl,aA.of (sD _ _ e1_7),hd,_,_,rfl,rfl,_,rfl,_,rfl,_,rfl,cl',_,_,_,rfl,rfl,sD.seq hC7,ac,c.a,_,_,_,rfl,rfl,hcA.it,rfl,_,rfl,ml,_,rfl,aA.of e8_12,λmp hmp=>⟨mp,_,rfl,.inl ⟨aA.of a8,λpa hpa=>?_⟩⟩⟩;have s13:=a0.new (o:=.lst (ak (ms.map V.str) none (some ((c.k:Nat):Int)))) hmp;have s14:=a0.new (o:=.tup (ak (ms.map V.str) none (some ((c.k:Nat):Int)))) hpa;have e14:a9 K (upd (upd H12 mp (.lst (ak (ms.map V.str) none (some ((c.k:Nat):Int))))) pa (.tup (ak (ms.map V.str) none (some ((c.k:Nat):Int))))) pa ((ms.take c.k).map V.str):=by rw[D4,<- ik];exact a9.of a8
     have sE:=s13.trans s14;generalize upd (upd H12 mp (.lst (ak (ms.map V.str) none (some ((c.k:Nat):Int))))) pa (.tup (ak (ms.map V.str) none (some ((c.k:Nat):Int))))=H14 at sE e14 ⊢;refine⟨_,rfl,fZ,λta hta=>?_⟩;have s15:=a0.new (o:=.tup [V.str g,V.bl (decide (d > 0)),V.ref pa,V.ref tr2]) hta;have F0:=nV (K:=K) (H:=upd H14 ta (.tup [V.str g,V.bl (decide (d > 0)),V.ref pa,V.ref tr2])) (a9.of a8) (s15.tup e14) (R2.mono (sE.trans s15)) (BQ hg) gnm (λx hx=>wnm x (hmem x hx)) (λx hx=>CU hx) (by rw[Bd]; have:=hcA.k6; omega);have sF:=sD.trans (sE.trans s15);have sG:a0 Hx (upd H14 ta (.tup [V.str g,V.bl (decide (d > 0)),V.ref pa,V.ref tr2])):=sB.trans (s10_12.trans (sE.trans s15));have ePF:=(sE.trans s15) _ _ eP12;have ezF:=(s10_12.trans (sE.trans s15)) _ _ e10;have hne2:p2≠pl:=λz=>by rw[z] at hp2;have:=s9 _ _ (s8 _ _ eP);rw[hp2] at this;cases this
     refine⟨pl,_,_,rfl,rfl,ePF,c8 (by rw[BA]; omega),p2,zs.drop (bM s w i),fs++[⟨ta,g,decide (d > 0),pa,ms.take c.k,tr2,rs2,rhs2⟩],_,_,_,_,_,_,rfl,sF.upd hpl,by rw[aH hne2]; exact ezF,by rw[CP]; show _<=eF s w i - bM s w i; omega,by rw[a8,BK]; rfl,hne2,by rw[BH,lf]; rfl,λf hf=>?_,?_,λj f hf=>?_⟩
     . rcases C5.mp hf with z|z
       . exact((hF f z).mono sG).lst ePF
       . rw[Bq.mp z];exact F0.1.lst ePF
     . rw[BK,hNm,Bm,hg];rfl
     . rcases DU j fs.length with z|z|z
       . rw[C0 z] at hf;exact hO j f hf
       . rw[z,Bz (BG _),Nat.sub_self] at hf;cases hf;rw[z,lf];exact F0.2
       . rw[Bz (by omega),Dh (by show 1<=_; omega)] at hf;cases hf
   . rintro σ Hx ⟨zl,zs,fs,v10,v11,v12,v13,v14,v15,rfl,sx,ez,lz,eP,hne,lf,hF,hNm,hO⟩;have e1x:=sx _ _ e1_7;have e2x:=sx _ _ e2_7;have hn:(1+d0 - 1).toNat=m0:=by omega
     rw[hn] at lz lf hNm;have l14:=lA s w m0;refine⟨λσ' H'=>∃zl2 zs2,σ'=[some (.ref a),some (.int 14),some (.int (z0 * 69621%1000000007)),some (.ref l0),some (.int (1+d0)),some (.ref wl),some (.ref dl),some (.ref cl'),some (.ref zl2),some (.ref pl),v10,v11,v12,v13,v14,v15]/\a0 Hx H'/\aA K H' zl2 ((zs2:List Int).map V.int)/\zs2.length<=14/\zs2.length<=(if w=true/\0<m0 then 2 else eF s w m0),?_,?_⟩
     . refine⟨_,rfl,l0,_,_,_,rfl,rfl,aA.of e1x,rfl,rfl,_,rfl,ie (λh14=>⟨_,rfl,_,_,rfl,rfl,_,rfl,dY (λhk=>?_) (λhk=>?_)⟩) (λh14=>?_)⟩
       . refine⟨_,rfl,_,rfl,zl,_,rfl,aA.of ez,λp1 hp1=>⟨p1,zs.take 2,rfl,a0.new hp1,?_,by rw[Bd]; omega,?_⟩⟩
         . rw[D4,<- ik (b:=2)];exact aA.of a8
         . rw[Bd];have:0<m0:=by have:=Bo hk; omega
           rw[BJ ⟨by rw[hw]; exact BN (V.int.inj h14),this⟩];omega
       . refine⟨zl,zs,rfl,a0.refl _,aA.of ez,by omega,?_⟩;rw[BE]
         . exact lz
         . rintro ⟨_,z⟩;rw[BL] at hk;omega
       . refine⟨zl,zs,rfl,a0.refl _,aA.of ez,by omega,?_⟩;rw[BE]
         . exact lz
         . rintro ⟨z,_⟩;rw[hw,BL] at z;exact h14 (by rw[z])
     rintro σ1 H8 ⟨zl2,zs2,rfl,s8,ez2,l2,l2'⟩;have sA:=sx.trans s8;have e1_8:=s8 _ _ e1x;refine⟨_,rfl,_,rfl,_,rfl,_,rfl,l0,_,_,_,rfl,rfl,aA.of e1_8,rfl,zl2,wl,cl',zs2,d12,ns,cs',rfl,ez2,l2,aA.of (s8 _ _ e2x),by omega,by omega,sA.seq hC7,lc0,lc100,(λx hx=>(hA7 x hx).mono sA),λtr H11 rs rhs s11 htr hrows hwf hone hlen hok hwts=>?_⟩;have R0:RwsO K H11 tr rs rhs ns gs (if w=true/\0<m0 then 2 else eF s w m0):=⟨htr,hrows,hwf,hone,by omega,by rw[hN6] at hok; exact hok,λM hM=>Bk (hwts M hM) (Dm (Dn M l2') 1)⟩
     have hlen':rhs.length<=43:=by omega
     clear hrows hwf hone hlen hok hwts;have cel1:(if w=true/\0<m0 then 2 else eF s w m0)<=lst m0 s w:=Dd _ _;refine⟨λσ' H'=>∃tr2 rs2 rhs2,σ'=[some (.ref a),some (.int 14),some (.int (z0 * 69621%1000000007)),some (.ref l0),some (.int (1+d0)),some (.ref wl),some (.ref dl),some (.ref cl'),some (.ref zl2),some (.ref pl),v10,v11,v12,v13,v14,some (.ref tr2)]/\a0 H11 H'/\RwsO K H' tr2 rs2 rhs2 ns gs (lst m0 s w),?_,?_⟩
     . refine⟨_,rfl,l0,_,_,_,rfl,rfl,aA.of (s11 _ _ e1_8),rfl,rfl,_,rfl,gv (λh9 rest=>⟨_,rfl,_,_,rfl,rfl,_,rfl,dY (λhk=>?_) (λ_=>rest)⟩) ⟨_,_,_,rfl,a0.refl _,R0.up cel1⟩⟩;have i0:0<m0:=by have:=Bo hk; omega
       have s0:s=0:=by have:=V.int.inj h9; omega
       have cel2:(if w=true/\0<m0 then 2 else eF s w m0)+1=lst m0 s w:=by unfold lst; rw[BJ (c:=s=0/\0<m0) ⟨s0,i0⟩]
       obtain⟨x1,hx1,ax1⟩:∃x1∈ns,aY (ns.map V.str) 2=some (.str x1):=by have:ns[2]?=some (ns[2]'(by omega)):=BP (by omega);exact⟨_,BQ this,bp (j:=2) (by rw[BI,this]; rfl)⟩
       obtain⟨c,hci,_,hc⟩:=cn (m0 - 1) (by omega);have ac:aY (cs'.map λx=>V.ref x.a) (-2)=some (.ref c.a):=jA (k:=2) (j:=m0 - 1) (by rw[BI,hci]; rfl) (by rw[BA]; omega) (by decide);refine⟨_,rfl,wl,_,_,_,rfl,rfl,aA.of (s11 _ _ (s8 _ _ e2x)),ax1,_,rfl,_,rfl,cl',_,_,_,rfl,rfl,(sA.trans s11).seq hC7,ac,_,rfl,x1,wl,ns,c,rfl,aA.of (s11 _ _ (s8 _ _ e2x)),by omega,((hA7 c hc).mono sA).mono s11,hx1,λtp r H12 rg s12 htp hr hok hkc=>⟨_,rfl,RwsO.cat htp hr hok hkc (cm c hc) (R0.mono s12) hlen' λp' H13 rs' rhs' s13 R1=>⟨_,rs',rhs',rfl,s12.trans s13,R1.up (EC cel2)⟩⟩⟩
     clear R0 hlen' htr;rintro σ12 H12 ⟨tr2,rs2,rhs2,rfl,s12,R2⟩;have s8_12:=s11.trans s12;have sD:=sA.trans s8_12;have eP12:H12 pl=some (.lst (fs.map λf=>V.ref f.a)):=s8_12 _ _ (s8 _ _ eP);have e2_12:=s8_12 _ _ (s8 _ _ e2x);obtain⟨g,hg,_⟩:=gn m0 (by omega);obtain⟨c,hci,_,hc⟩:=cn m0 (by omega);have ag:aY (gs.map V.str) (-1)=some (.str g):=jA (k:=1) (j:=m0) (by rw[BI,hg]; rfl) (by rw[BA]; omega) (by decide);have ac:aY (cs'.map λx=>V.ref x.a) (-1)=some (.ref c.a):=jA (k:=1) (j:=m0) (by rw[BI,hci]; rfl) (by rw[BA]; omega) (by decide);have hcA:=(hA7 c hc).mono sD;refine⟨_,rfl,.inl ⟨rfl,_,aA.of eP12⟩,_,rfl,_,rfl,dl,_,_,_,rfl,rfl,aA.of (sD _ _ e3_7),ag,_,rfl,_,rfl,_,rfl,cl',_,_,_,rfl,rfl,sD.seq hC7,ac,c.a,_,_,_,rfl,rfl,hcA.it,rfl,_,rfl,wl,_,rfl,aA.of e2_12,λmp hmp=>⟨mp,_,rfl,.inl ⟨aA.of a8,λpa hpa=>?_⟩⟩⟩;have s13:=a0.new (o:=.lst (ak (ns.map V.str) none (some ((c.k:Nat):Int)))) hmp;have s14:=a0.new (o:=.tup (ak (ns.map V.str) none (some ((c.k:Nat):Int)))) hpa;have e14:a9 K (upd (upd H12 mp (.lst (ak (ns.map V.str) none (some ((c.k:Nat):Int))))) pa (.tup (ak (ns.map V.str) none (some ((c.k:Nat):Int))))) pa ((ns.take c.k).map V.str):=by rw[D4,<- ik];exact a9.of a8
     have sE:=s13.trans s14;generalize upd (upd H12 mp (.lst (ak (ns.map V.str) none (some ((c.k:Nat):Int))))) pa (.tup (ak (ns.map V.str) none (some ((c.k:Nat):Int))))=H14 at sE e14 ⊢;refine⟨_,rfl,fZ,λta hta=>?_⟩;have s15:=a0.new (o:=.tup [V.str g,V.bl false,V.ref pa,V.ref tr2]) hta;have F0:=nV (K:=K) (H:=upd H14 ta (.tup [V.str g,V.bl false,V.ref pa,V.ref tr2])) (a9.of a8) (s15.tup e14) (R2.mono (sE.trans s15)) (BQ hg) gnm wnm (λx hx=>CU hx) (by rw[Bd]; have:=hcA.k6; omega);have sF:=sD.trans (sE.trans s15);have sG:a0 Hx (upd H14 ta (.tup [V.str g,V.bl false,V.ref pa,V.ref tr2])):=s8.trans (s8_12.trans (sE.trans s15));have ePF:=(sE.trans s15) _ _ eP12;have nmA:(fs++[(⟨ta,g,false,pa,ns.take c.k,tr2,rs2,rhs2⟩:Pf)]).map (·.nm)=gs:=by have:gs.take (m0+1)=gs:=C9 (by omega);rw[<- this,Bm,hg,BK,hNm];rfl
     refine⟨pl,_,_,rfl,rfl,ePF,c8 (by rw[BA]; omega),_,rfl,q pl _ (fs++[⟨ta,g,false,pa,ns.take c.k,tr2,rs2,rhs2⟩]) (gP m0 s w) (S7.trans (sF.upd hpl)) (S7.free hpl) (by rw[a8,BK]; rfl) ⟨?_,?_,?_,λf hf=>?_,⟨?_,λj f hf=>?_⟩,λi hi=>?_⟩⟩
     . rw[BK];exact aA.of a8
     . simp
     . rw[BH];show _+1<=4;omega
     . rcases C5.mp hf with z|z
       . exact((hF f z).mono sG).lst ePF
       . rw[Bq.mp z];exact F0.1.lst ePF
     . rw[nmA];exact polg.nd
     . rw[nmA];have lcs:((List.range m0).map (cel s w)).length=m0:=by rw[BA,List.length_range]
       rcases DU j fs.length with z|z|z
       . rw[C0 z] at hf;have:(gP m0 s w).getD j 0=cel s w j:=by unfold gP;rw[C4,C0 (by omega),BI,List.getElem?_range (by omega)];rfl
         rw[this];exact hO j f hf
       . rw[z,Bz (BG _),Nat.sub_self] at hf;cases hf;have:(gP m0 s w).getD j 0=lst m0 s w:=by unfold gP;rw[C4,Bz (by omega),lcs,show j - m0=0 by omega];rfl
         rw[this];exact F0.2
       . rw[Bz (by omega),Dh (by show 1<=_; omega)] at hf;cases hf
     . rw[BH] at hi;exact wN m0 m4 s s3' w i (by rw[<- lf]; exact hi)
theorem fM:FnScope ["_law_rows_here","_law_at","_law_depth","_law_other","_law_k"] ["_law_rows_here","_law_at"] (aW lZ):=by walk_at "s"
theorem oh (T:Txt K mg t):FnOk P w K mg base CX0 1 t.rS t.sh ["_law_rows_here","_law_at"] (xR K):=by
 refine T.jQ.F.ok fM (λvs H Q E h=>?_) (λcdv A outer s H vs Q E hr h=>?_)
 . obtain⟨_,_,_,_,rfl,_⟩:=h;rfl
 . obtain⟨a,ks,b,e,rfl,hR,w,h100,hE,q⟩:=h;refine⟨_,(aC (@aK _ _ 2 _ _ _ _ fM.nd rfl (Or.inl rfl) a6 (by rfl) (by walk_at "f")) (aC (@aK _ _ 3 _ _ _ _ fM.nd rfl (Or.inl rfl) gi (by rfl) (by walk_at "f")) (aC (cD PassesOwn.never rfl (yM rfl T.b_range (a4 (pv 1) (a4 (au bI (by rfl) T.b_len bC (a4 (pv 0) a7 rfl)) a7 rfl) rfl)) (ai (i:=4) fM.nd rfl (Or.inl rfl)) (iw (aT (aL dz (aB aG (aB aG (pv 0) (pv 4) (λ_ _=>rfl)) a6 (λ_ _=>rfl)) (aS (a4 af (a4 af a7 rfl) rfl)) (by with_unfolding_all rfl)) (@aE _ _ _ (vw (i:=2) fM.nd rfl (Or.inl rfl) a6 wZ)) aX) (iw (aT (@PW.pt _ _ _ (cT (aL am (aB aG (aB aG (pv 0) (pv 4) (λ_ _=>rfl)) a6 (λ_ _=>rfl)) af (aN _)) (cV (aL am (pv 2) a6 (aN _))))) (@aE _ _ _ (@aK _ _ 3 _ _ _ _ fM.nd rfl (Or.inl rfl) (pv 4) (by rfl) (by walk_at "f"))) aX) (@aE _ _ _ (aT (aL am (aB aG (aB aG (pv 0) (pv 4) (λ_ _=>rfl)) a6 (λ_ _=>rfl)) af (aN _)) (aC (@aK _ _ 2 _ _ _ _ fM.nd rfl (Or.inl rfl) (@aM _ _ _ _ _ _ _ _ fH (pv 2) a6) (by rfl) (by walk_at "f")) (@aE _ _ _ (aT (aL am (pv 2) a6 (aN _)) (@aE _ _ _ (@aQ _ _ _ _ (aS (a4 (pv 3) (a4 (pv 4) a7 rfl) rfl)))) aX))) aX))))) (@aE _ _ _ (@aQ _ _ _ _ (aS (a4 (pv 3) (a4 (au bI (by rfl) T.b_len bC (a4 (pv 0) a7 rfl)) a7 rfl) rfl))))))),?_⟩;have he:=hE.2.1;have hb:=hE.1;have ho:=K13.at_isO hE;obtain⟨rs,eR,lR,_⟩:=hR.ex;refine⟨_,rfl,_,rfl,a,_,rfl,.inr eR,_,_,rfl,⟨by omega,by omega,by rw[BA]; omega,by rw[BA]; omega⟩,?_⟩;refine kK (lo:=(b:Int)) (n:=(((rs.map V.ref).length:Nat) - (b:Int)).toNat) (λi σ Hx=>a0 H Hx/\∃(d:Nat) (o:Option Nat) (v4:Option V),σ=[some (.ref a),some (.int (b:Nat)),some (.int (d:Nat)),some (iI o),v4]/\((i=0/\d=0/\o=none)\/(0<i/\b+i<=e/\K13.At ks b (b+i) d/\dh ks b (b+i) o))) ⟨a0.refl _,0,none,_,rfl,.inl ⟨rfl,rfl,rfl⟩⟩ ?_ ?_
   . rw[BA,lR];rintro i σ Hx hi ⟨sx,d,o,v4,rfl,hc⟩;obtain⟨k,hk⟩:∃k,b+i=k:=⟨_,rfl⟩
     have ek:(b:Int)+(i:Int)=(k:Nat):=by omega
     rw[ek];have kl:k<ks.length:=by omega
     have r0:(0:Int)<=(k:Nat):=by omega
     have r1:((k:Nat):Int)<ks.length:=by omega
     have nend:k<=e->¬ K13.kd ks k="end"->k+1<=e:=λz1 z2=>by
       rcases Bl k e with y|y
       . exact y
       . have:k=e:=by omega
         rw[this] at z2;exact absurd hE.2.2.1 z2
     refine⟨λσ' H'=>a0 H H'/\∃d1:Nat,σ'=[some (.ref a),some (.int (b:Nat)),some (.int (d1:Nat)),some (iI o),some (.int (k:Nat))]/\((K13.isO (K13.kd ks k)=true/\K13.At ks b (k+1) d1/\dh ks b (k+1) o/\k+1<=e)\/(¬ K13.isO (K13.kd ks k)=true/\0<i/\k<=e/\K13.At ks b k d1/\dh ks b k o)),?_,?_⟩
     . refine⟨_,rfl,_,rfl,K13.ixk (hR.mono sx) r0 r1 ⟨ay,λtw htw=>⟨tw,_,rfl,.inr (a9.of a8),rfl,rfl,_,rfl,?_⟩⟩⟩;rw[B'];have S:=sx.trans (a0.new (o:=.tup [V.str "if",V.str "while"]) htw);by_cases h:K13.isO (K13.kd ks k)=true
       . refine aV (by rw[fk]; exact h) ⟨_,rfl,_,_,rfl,rfl,S,d+1,rfl,.inl ⟨h,?_⟩⟩;rcases hc with⟨rfl,rfl,rfl⟩|⟨h1,h2,h3,h4⟩
         . have:k=b:=by omega
           rw[this];exact⟨K13.at_start ho,AQ,by omega⟩
         . rw[hk] at h2 h3 h4;exact⟨K13.at_open h3 h,jM h4 λz=>by rw[z.1] at h; exact absurd h (by rw[K13.else_not_O]; decide),nend h2 (K13.isO_not_end h)⟩
       . refine aO (by rw[fk]; exact h) ⟨S,d,rfl,.inr ⟨h,?_⟩⟩;rcases hc with⟨rfl,rfl,rfl⟩|⟨h1,h2,h3,h4⟩
         . have:k=b:=by omega
           rw[this] at h;exact absurd ho h
         . rw[hk] at h2 h3 h4;exact⟨h1,h2,h3,h4⟩
     rintro σ1 H1 ⟨s1,d1,rfl,c1⟩;refine⟨λσ' H'=>a0 H H'/\∃o1:Option Nat,σ'=[some (.ref a),some (.int (b:Nat)),some (.int (d1:Nat)),some (iI o1),some (.int (k:Nat))]/\((¬ K13.kd ks k="end"/\K13.At ks b (k+1) d1/\dh ks b (k+1) o1/\k+1<=e)\/(K13.kd ks k="end"/\0<i/\k<=e/\K13.At ks b k d1/\dh ks b k o1)),?_,?_⟩
     . refine⟨_,rfl,_,rfl,K13.ixk (hR.mono s1) r0 r1 ⟨rfl,_,rfl,?_⟩⟩;rw[B'];refine ie (λh=>?_) (λh=>?_)
       . have h:=V.str.inj h;have nO:¬ K13.isO (K13.kd ks k)=true:=by rw[h,K13.else_not_O]; decide
         have nE:¬ K13.kd ks k="end":=by rw[h]; exact K13.els_fin
         obtain⟨_,h1,h2,h3,h4⟩:=c1.resolve_left λz=>nO z.1;refine⟨_,rfl,rfl,_,rfl,dY (λhd=>⟨_,rfl,s1,some k,rfl,.inl ⟨nE,K13.at_other h3 nO nE,?_,nend h2 nE⟩⟩) (λhd=>⟨s1,o,rfl,.inl ⟨nE,K13.at_other h3 nO nE,?_,nend h2 nE⟩⟩)⟩
         . have:d1=1:=by have:=V.int.inj (Bo hd); omega
           rw[this] at h3;exact vt h3 h
         . refine jM h4 λz=>pf h3 (λy=>hd ?_) z.2;rw[y];rfl
       . have h:¬ K13.kd ks k="else":=λz=>h (Bv V.str z);refine⟨s1,o,rfl,?_⟩;by_cases h3:K13.kd ks k="end"
         . right;obtain⟨_,h1⟩:=c1.resolve_left λz=>by have:=z.1; rw[h3] at this; exact absurd this (by decide +kernel)
           exact⟨h3,h1⟩
         . left;refine⟨h3,?_⟩;rcases c1 with⟨_,z1,z2,z3⟩|⟨z0,z1,z2,z3,z4⟩
           . exact⟨z1,z2,z3⟩
           . exact⟨K13.at_other z3 z0 h3,jM z4 λz=>h z.1,nend z2 h3⟩
     rintro σ2 H2 ⟨s2,o1,rfl,c2⟩;refine⟨_,rfl,_,rfl,K13.ixk (hR.mono s2) r0 r1 ⟨rfl,_,rfl,?_⟩⟩;rw[B'];have ei:b+(i+1)=k+1:=by omega
     by_cases h3:K13.kd ks k="end"
     . obtain⟨_,h1,h2,hA,hEl⟩:=c2.resolve_left λz=>z.1 h3;have hp:=K13.at_pos hA;refine aV (BN (Bv V.str h3)) ⟨_,rfl,_,_,rfl,rfl,?_⟩;show gI 2 (V.int ((d1:Int) - 1)) _ _ _;rw[show((d1:Int) - 1)=((d1 - 1:Nat):Int) by omega];refine⟨_,rfl,rfl,_,rfl,?_⟩;by_cases hd:d1=1
       . subst hd;have hke:k=e:=K13.ends_uniq (b:=b) ⟨by omega,kl,h3,K13.at_one hA,λj y1 y2=>hE.2.2.2.2 j y1 (by omega)⟩ hE;refine aV (by rfl) ⟨_,rfl,_,rfl,ay,λp hp=>q o1 p _ ⟨hE,by rw[<- hke]; exact hEl⟩ (s2.trans (a0.new hp)) (by rw[a8,hke])⟩
       . refine aO (λz=>by have:=V.int.inj (Bo z); omega) ⟨s2,d1 - 1,o1,_,rfl,.inr ⟨CO _,?_⟩⟩;obtain⟨d',rfl⟩:∃d',d1=d'+1:=⟨d1 - 1,by omega⟩
         rw[ei];refine⟨?_,K13.at_end hA (by omega) h3,jM hEl λz=>pf hA hd z.2⟩;rcases Bl k e with y|y
         . exact y
         . have:k=e:=by omega
           subst this;have h9:d'+1=1:=K13.at_depth hA ⟨[],hE.2.2.2.1,rfl⟩;omega
     . obtain⟨_,h1,h2,hk1⟩:=c2.resolve_right λz=>h3 z.1;refine aO (λz=>h3 (V.str.inj (Bo z))) ⟨s2,d1,o1,_,rfl,.inr ⟨CO _,?_⟩⟩;rw[ei];exact⟨hk1,h1,h2⟩
   . rw[BA,lR];rintro σ Hx ⟨sx,d,o,v4,rfl,hc⟩;exfalso;rcases hc with⟨h,_⟩|⟨h1,h2,h3,h4⟩
     . omega
     . omega
theorem jF:FnScope ["_law_rows_here","_law_at","_law_here","_law_opened"] ["_law_rows_here","_law_at"] (aW lH):=by walk_at "s"
theorem tz (T:Txt K mg t):FnOk P w K mg base CX0 2 t.rN t.sW ["_law_rows_here","_law_at"] (uB K):=by
 have G_l_shut:=oh (P:=P) (w:=w) (base:=base) T;refine T.ga.F.ok jF (λvs H Q E h=>?_) (λcdv A outer s H vs Q E hr h=>?_)
 . obtain⟨_,_,_,_,rfl,_⟩:=h;rfl
 . obtain⟨a,ks,k,r,rfl,hR,w,u,h100,hk,hB,q⟩:=h;refine⟨_,(aC (@aK _ _ 2 _ _ _ _ jF.nd rfl (Or.inr rfl) (@aM _ _ _ _ _ _ _ _ cE (pv 1) a6) (by rfl) (by walk_at "f")) (aC (pi PassesOwn.never (aL dz (aB aG (aB aG (pv 0) (pv 2) (λ_ _=>rfl)) a6 (λ_ _=>rfl)) (aS (a4 af (a4 af a7 rfl) rfl)) (by with_unfolding_all rfl)) (iw (@aK _ _ 3 _ _ _ _ jF.nd rfl (Or.inl rfl) (aB aP (dL (N':=["_law_k","_law_here","_law_rows_here"]) (js:=[none,some 2,some 0]) (by kernel_rfl) rfl (gK rfl T.b_range (a4 (pv 2) a7 rfl)) cZ (λ_ _ _ _=>(ai (i:=0) (show(["_law_k","_law_here","_law_rows_here"]:List Str).Nodup by decide +kernel) rfl (Or.inl rfl) (.inr rfl))) (λ_ _ _ _=>(lI (@PW.pt _ _ _ (cT (aL (show aj _ (compareOp .In) (j9 K false) from dz) (aB (show cM _ (dw K) from aG) (aB (show cM _ (dw K) from aG) (pv 2) (pv 0) (λ_ _=>rfl)) a6 (λ_ _=>rfl)) (aS (a4 af (a4 af a7 rfl) rfl)) (by with_unfolding_all rfl)) (cV (aL (show aj _ (compareOp .In) (j9 K false) from dz) (pv 1) (ah T.jQ G_l_shut (hr.mono (by decide)) (a4 (pv 2) (a4 (pv 0) a7 rfl) rfl)) (by with_unfolding_all rfl))))))) (λ_ _ _ _=>(pv 0))) a6 (λ_ _=>rfl)) (by rfl) (by walk_at "f")) (aC (aT (aL am (aB aG (aB aG (pv 0) (pv 3) (λ_ _=>rfl)) a6 (λ_ _=>rfl)) af (aN _)) (@aE _ _ _ (@aQ _ _ _ _ (pv 3))) aX) (@aE _ _ _ (@aK _ _ 2 _ _ _ _ jF.nd rfl (Or.inr rfl) (@aM _ _ _ _ _ _ _ _ cE (aB aG (ah T.jQ G_l_shut (hr.mono (by decide)) (a4 (pv 0) (a4 (pv 3) a7 rfl) rfl)) a6 (λ_ _=>rfl)) a6) (by rfl) (by walk_at "f")))))) (@aE _ _ _ (@aQ _ _ _ _ (pv 2))))),?_⟩;refine⟨_,rfl,_,_,rfl,rfl,?_⟩;refine⟨λm σ H'=>a0 H H'/\∃(k':Nat) (v3:Option V),σ=[some (.ref a),some (.int (k:Nat)),some (.int ((k'+1:Nat):Int)),v3]/\K13.Beh ks k' r/\k'+1<ks.length/\m=ks.length - k',⟨_,a0.refl _,k,none,rfl,hB,hk,rfl⟩,?_⟩;rintro m σ H' ⟨s0,k',v3,rfl,hB',hk',rfl⟩;refine⟨_,rfl,_,rfl,K13.ixk (hR.mono s0) (by omega) (by omega) ⟨ay,λtw htw=>⟨tw,_,rfl,.inr (a9.of a8),rfl,rfl,_,rfl,?_⟩⟩⟩;rw[B'];have s1:=s0.trans (a0.new (o:=.tup [V.str "else",V.str "end"]) htw);generalize upd H' tw (.tup [V.str "else",V.str "end"])=H1 at s1 ⊢;by_cases hE:K13.isE (K13.kd ks (k'+1))=true
   . obtain⟨b,hb⟩:∃b,(K13.stk ks (k'+1)).head?=some b:=by
       have:=w.open_ (k'+1) hk' hE;cases z:K13.stk ks (k'+1) with
       | nil=>exact absurd z this
       | cons x r=>exact⟨x,rfl⟩
     have hbl:=K13.stk_lt ks (k'+1) b (CI hb);refine aV (by rw[pP]; exact hE) ⟨_,λ_ _ z=>z,λσ' H'=>a0 H H'/\σ'=[some (.ref a),some (.int (k:Nat)),some (.int ((k'+1:Nat):Int)),some (.int (b:Nat))],?_,?_⟩
     . refine⟨_,rfl,_,rfl,(by omega),(by omega),λcl hcl=>iH (lo:=0) (n:=k'+1) (by omega) (λi acc H2=>a0 H1 H2/\H2 cl=some (.lst acc)/\acc=(if b<i then [V.int (b:Nat)] else [])) ⟨a0.new hcl,a8,rfl⟩ ?_ ?_ ?_⟩
       . rintro i acc H2 hi ⟨s2,e2,rfl⟩;refine⟨e2,?_⟩;split
         . show 1<=i;omega
         . exact BW _
       . rintro i acc H2 hi ⟨s2,e2,rfl⟩;have i0:(0:Int)+(i:Int)=(i:Nat):=by omega
         rw[i0];have il:i<ks.length:=by omega
         have st:∀{z:V},(if b<i then [V.int (b:Nat)] else [])=(if b<i+1 then [V.int (b:Nat)] else [])\/b=i:=λ{z}=>by
           by_cases z1:b=i
           . exact .inr z1
           . left;by_cases z2:b<i
             . rw[BJ z2,BJ (by omega)]
             . rw[BE z2,BE (by omega)]
         have s02:=s1.trans s2;refine⟨_,rfl,_,rfl,K13.ixk (hR.mono s02) (by omega) (by omega) ⟨ay,λtv htv=>⟨tv,_,rfl,.inr (a9.of a8),rfl,rfl,_,rfl,?_⟩⟩⟩;rw[B'];generalize e:upd H2 tv _=H3;have s3:=(nw e htv).1;by_cases hO:K13.isO (K13.kd ks i)=true
         . obtain⟨e,hE2⟩:=K13.ends_ex w il hO;refine aV (by rw[fk]; exact hO) ⟨_,rfl,_,rfl,_,rfl,a,ks,i,e,rfl,hR.mono (s02.trans s3),w,h100,hE2,λo p H4 hS s4 hp=>⟨p,_,rfl,.inr (a9.of hp),rfl,(by cases o <;> rfl),_,rfl,?_⟩⟩;have key:=uy w u hS hk' hE;have s24:=s3.trans s4;by_cases hbi:b=i
           . subst hbi;refine aV (by rw[oz]; exact BN (key.mpr hb)) ⟨_,rfl,s24 _ _ e2,(s2.trans s24).upd hcl,a8,?_⟩;rw[BE (C6 b),BJ (CA b)];rfl
           . refine aO (by rw[oz]; show ¬ decide (k'+1=e\/o=some (k'+1))=true; rw[BL,key,hb]; exact λz=>hbi (Option.some.inj z)) ⟨s2.trans s24,s24 _ _ e2,?_⟩;exact(st (z:=.non)).resolve_right hbi
         . refine aO (by rw[fk]; exact hO) (aO BO ⟨s2.trans s3,s3 _ _ e2,?_⟩);exact(st (z:=.non)).resolve_right λz=>hO (by rw[<- z]; exact hbl.2)
       . rintro acc H2 ⟨s2,e2,rfl⟩;rw[BJ hbl.1] at e2;exact⟨cl,_,_,_,rfl,rfl,aA.of e2,at0,s1.trans s2,rfl⟩
     rintro σ2 H2 ⟨s2,rfl⟩;refine⟨_,rfl,_,rfl,K13.ixk (hR.mono s2) (by omega) (by omega) ⟨rfl,_,rfl,?_⟩⟩;rw[B'];have bl:b<ks.length:=by omega
     obtain⟨e,hE2⟩:=K13.ends_ex w bl hbl.2;by_cases hw:K13.kd ks b="while"
     . refine aV (BN (Bv V.str hw)) ⟨_,rfl,?_⟩;have hr:r=b:=by
         cases hB' with
         | els h1 h2 h3 h4 =>
           rw[h2] at hb;cases hb;have:K13.kd ks b="if":=by
             cases z:K13.stk ks (k'+1) with
             | nil=>rw[z] at h2; cases h2
             | cons x rr=>rw[z] at h2; cases h2; exact w.els _ _ _ hk' h1 z
           rw[this] at hw;exact absurd hw (by decide +kernel)
         | whl h1 h2 h3=>rw[h2] at hb; cases hb; rfl
         | fin h1 h2 h3 h4=>rw[h2] at hb; cases hb; exact absurd hw h3
         | oth h1 h2 =>
           unfold K13.isE at hE;rw[BY h1,BY h2] at hE;cases hE
       rw[<- hr];exact q _ s2
     . refine aO (λz=>hw (V.str.inj (Bo z))) ⟨_,rfl,_,rfl,a,ks,b,e,rfl,hR.mono s2,w,h100,hE2,λo p H4 hS s4 hp=>⟨p,_,_,_,rfl,rfl,a9.of hp,rfl,_,_,rfl,rfl,?_⟩⟩;have he2:k'+1<=e:=K13.hit_le hE2 ⟨hE,hb⟩;have hB2:K13.Beh ks e r:=by
         cases hB' with
         | els h1 h2 h3 h4 =>
           rw[h2] at hb;cases hb;rw[K13.ends_uniq hE2 h3];exact h4
         | whl h1 h2 h3=>rw[h2] at hb; cases hb; exact absurd h3 hw
         | fin h1 h2 h3 h4 =>
           rw[K13.ends_uniq hE2 (K13.end_at w hk' h1 hb)];exact h4
         | oth h1 h2 =>
           unfold K13.isE at hE;rw[BY h1,BY h2] at hE;cases hE
       have el:=hE2.2.1;refine⟨ks.length - e,by omega,s2.trans s4,e,_,rfl,hB2,K13.not_last w el ?_,rfl⟩;rw[hE2.2.2.1];decide +kernel
   . refine aO (by rw[pP]; exact hE) ⟨_,rfl,?_⟩;have hr:r=k'+1:=by
       unfold K13.isE at hE;rw[Cp,BL,BL] at hE;cases hB' with
       | els h1 h2 h3 h4=>exact absurd (.inl h1) hE
       | whl h1 h2 h3=>exact absurd (.inr h1) hE
       | fin h1 h2 h3 h4=>exact absurd (.inr h1) hE
       | oth h1 h2=>rfl
     rw[<- hr];exact q _ s1
theorem iW:FnScope ["_law_rows_here","_law_at","_law_row_here","_law_other","_law_end"] ["_law_rows_here","_law_at"] (aW mB):=by walk_at "s"
theorem Ap (T:Txt K mg t):FnOk P w K mg base CX0 3 t.rM t.sV ["_law_rows_here","_law_at"] (tV K):=by
 have G_l_shut:=oh (P:=P) (w:=w) (base:=base) T;have G_l_past:=tz (P:=P) (w:=w) (base:=base) T;refine T.l_on.F.ok iW (λvs H Q E h=>?_) (λcdv A outer s H vs Q E hr h=>?_)
 . obtain⟨_,_,_,_,rfl,_⟩:=h;rfl
 . obtain⟨a,ks,k,l,rfl,hR,w,u,h100,hk,hnb,hD,q⟩:=h;refine⟨_,(aC (@aK _ _ 2 _ _ _ _ iW.nd rfl (Or.inl rfl) (aB aG (pv 0) (pv 1) (λ_ _=>rfl)) (by rfl) (by walk_at "f")) (aC (aT (aL vB (aB aG (pv 2) a6 (λ_ _=>rfl)) (aS (a4 af (a4 af a7 rfl) rfl)) (by with_unfolding_all rfl)) (@aE _ _ _ (@aQ _ _ _ _ (bd (a4 (ah T.ga G_l_past (hr.mono (by decide)) (a4 (pv 0) (a4 (pv 1) a7 rfl) rfl)) a7 rfl)))) aX) (aC (dZ (ah T.jQ G_l_shut (hr.mono (by decide)) (a4 (pv 0) (a4 (pv 1) a7 rfl) rfl)) (eW rfl (bW (ai (i:=3) iW.nd rfl (Or.inl rfl)) (bW (ai (i:=4) iW.nd rfl (Or.inl rfl)) dm)))) (aC (aT (lh (um (pv 3))) (@aE _ _ _ (@aQ _ _ _ _ (bd (a4 (ah T.ga G_l_past (hr.mono (by decide)) (a4 (pv 0) (a4 (pv 1) a7 rfl) rfl)) (a4 (ah T.ga G_l_past (hr.mono (by decide)) (a4 (pv 0) (a4 (pv 4) a7 rfl) rfl)) a7 rfl) rfl)))) aX) (@aE _ _ _ (@aQ _ _ _ _ (bd (a4 (ah T.ga G_l_past (hr.mono (by decide)) (a4 (pv 0) (a4 (pv 1) a7 rfl) rfl)) (a4 (ah T.ga G_l_past (hr.mono (by decide)) (a4 (pv 0) (a4 (pv 3) a7 rfl) rfl)) a7 rfl) rfl)))))))),?_⟩;obtain⟨rs,eR,lR,hr⟩:=hR.ex;have hkl:k<rs.length:=by omega
   obtain⟨rest,hrk⟩:=hr k rs[k] (BP hkl);have hk1:=K13.not_last w hk hnb;refine⟨_,rfl,_,rfl,a,_,_,_,rfl,rfl,eR,bp (by rw[BI,BP hkl]; rfl),_,rfl,rs[k],_,_,_,rfl,rfl,hrk,at0,ay,λtw htw=>⟨tw,_,rfl,.inr (a9.of a8),rfl,rfl,_,rfl,?_⟩⟩;generalize e:upd H tw _=H1;have s1:=(nw e htw).1;by_cases hO:K13.isO (K13.kd ks k)=true
   . refine aO (by rw[fk,hO]; exact BO) ?_;obtain⟨f,r1,r2,rfl,hF,hB1,hB2⟩:∃f r1 r2,l=[r1,r2]/\K13.First ks k f/\K13.Beh ks k r1/\K13.Beh ks f r2:=by
       cases hD with
       | back h=>exact absurd h hnb
       | two _ h1 h2 h3=>exact⟨_,_,_,rfl,h1,h2,h3⟩
       | one _ _ h _=>exact absurd hO h
     obtain⟨e,hE⟩:=K13.ends_ex w hk hO;have hf1:=K13.first_last w hF;refine⟨_,rfl,_,rfl,a,ks,k,e,rfl,hR.mono s1,w,h100,hE,λo p H2 hS s2 hp=>⟨p,_,rfl,a9.of hp,rfl,_,_,rfl,_,_,rfl,rfl,?_⟩⟩;have s12:=s1.trans s2;have hfe:=K13.first_uniq (xZ w u hS) hF;have hR2:=hR.mono s12;cases o with
     | none =>
       have hfe:e=f:=hfe;subst hfe;exact⟨_,rfl,_,rfl,aV rfl ⟨_,rfl,_,rfl,a,ks,k,r1,rfl,hR2,w,u,h100,hk1,hB1,λH3 s3=>⟨_,rfl,_,rfl,a,ks,e,r2,rfl,hR2.mono s3,w,u,h100,hf1,hB2,λH4 s4=>⟨ay,λl hl=>q l _ ((s12.trans (s3.trans s4)).trans (a0.new hl)) ((s12.trans (s3.trans s4)).free hl) a8⟩⟩⟩⟩
     | some g =>
       have hfe:g=f:=hfe;subst hfe;exact⟨_,rfl,_,rfl,gA ⟨_,rfl,_,rfl,a,ks,k,r1,rfl,hR2,w,u,h100,hk1,hB1,λH3 s3=>⟨_,rfl,_,rfl,a,ks,g,r2,rfl,hR2.mono s3,w,u,h100,hf1,hB2,λH4 s4=>⟨ay,λl hl=>q l _ ((s12.trans (s3.trans s4)).trans (a0.new hl)) ((s12.trans (s3.trans s4)).free hl) a8⟩⟩⟩⟩
   . refine aV (by rw[fk,E6.mpr hO]; rfl) ?_;obtain⟨r,rfl,hB⟩:∃r,l=[r]/\K13.Beh ks k r:=by
       cases hD with
       | back h=>exact absurd h hnb
       | two h _ _ _=>exact absurd h hO
       | one _ _ _ h=>exact⟨_,rfl,h⟩
     exact⟨_,rfl,_,rfl,a,ks,k,r,rfl,hR.mono s1,w,u,h100,hk1,hB,λH2 s2=>⟨bt,λl hl=>q l _ ((s1.trans s2).trans (a0.new hl)) ((s1.trans s2).free hl) a8⟩⟩
theorem zB:FnScope ["_law_found"] ["_law_found"] (aW kL):=by walk_at "s"
theorem we (T:Txt K mg t):FnOk P w K mg base CX0 1 t.rT t.si ["_law_found"] (zn K):=by
 refine T.tD.F.ok zB (λvs H Q E h=>?_) (λcdv A outer s H vs Q E hr h=>?_)
 . obtain⟨_,rfl,_⟩:=h;rfl
 . obtain⟨z,rfl,q⟩:=h;refine⟨_,(aC (@aQ _ _ _ _ (i8 (au kQ (by rfl) T.b_isinstance fJ (a4 (pv 0) (a4 (fW (v:=V.ty "int") rfl T.b_int j4 rfl) a7 rfl) rfl)) (iy (tP (au kQ (by rfl) T.b_isinstance fJ (a4 (pv 0) (a4 (fW (v:=V.ty "bool") rfl T.b_bool uq rfl) a7 rfl) rfl)))))) aX),?_⟩;exact⟨_,rfl,_,_,_,true,rfl,.int _,rfl,_,rfl,aV rfl ⟨_,rfl,_,_,_,false,rfl,.int _,rfl,_,rfl,q⟩⟩
theorem xw:FnScope ["_law_program_here","_law_name"] ["_law_program_here","_law_name"] (aW jT):=by walk_at "s"
theorem u1 (T:Txt K mg t):FnOk P w K mg base CX0 1 t.rR t.sf ["_law_program_here","_law_name"] (zo K):=by
 refine T.mJ.F.ok xw (λvs H Q E h=>?_) (λcdv A outer s H vs Q E hr h=>?_)
 . obtain⟨_,_,_,_,rfl,_⟩:=h;rfl
 . obtain⟨p,fs,cs,f,rfl,hP,hf,q⟩:=h;refine⟨_,(aC (@aQ _ _ _ _ (aB aP (dL (N':=["_law_function","_law_name"]) (js:=[none,some 1]) (by kernel_rfl) rfl (cq (pv 0)) cZ (λ_ _ _ _=>(ai (i:=0) (show(["_law_function","_law_name"]:List Str).Nodup by decide +kernel) rfl (Or.inl rfl) (.inr rfl))) (λ_ _ _ _=>(lI (aL am (aB (show cM _ (dw K) from aG) (pv 0) a6 (λ_ _=>rfl)) (pv 1) (aN _)))) (λ_ _ _ _=>(aB (show cM _ (dw K) from aG) (pv 0) a6 (λ_ _=>rfl)))) a6 (λ_ _=>rfl))) aX),?_⟩;obtain⟨j,hj⟩:=Bp hf;have l4:=hP.len;refine⟨_,rfl,p,rfl,⟨_,hP.sq⟩,λcl hcl=>fe (xs:=fs.map λf=>V.ref f.a) (by rw[BA]; omega) (λi acc H2=>a0 H H2/\H2 cl=some (.lst acc)/\acc=(if j<i then [V.ref f.ra] else [])) ⟨a0.new hcl,a8,rfl⟩ ?_ ?_ ?_⟩
   . rintro i acc H2 hi ⟨s2,e2,rfl⟩;refine⟨e2,?_,s2.seq hP.sq⟩;split
     . show 1<=i;omega
     . exact BW _
   . rintro i x acc H2 hx ⟨s2,e2,rfl⟩;obtain⟨g,hgi,hgm,rfl⟩:=cb hx;have hg2:=(hP.at_ g hgm).mono s2;refine⟨_,rfl,g.a,_,_,_,rfl,rfl,hg2.it,at0,_,rfl,rfl,_,rfl,?_⟩;by_cases h:g.nm=f.nm
     . have hij:=zI hP.ok.nd hgi hj h;subst hij;rw[hgi] at hj;cases hj;refine aV (BN rfl) ⟨_,rfl,f.a,_,_,_,rfl,rfl,hg2.it,rfl,e2,s2.upd hcl,a8,?_⟩;rw[BE (C6 i),BJ (CA i)];rfl
     . refine aO (λz=>h (V.str.inj (Bo z))) ⟨s2,e2,?_⟩;have:i≠j:=λz=>by subst z;rw[hgi] at hj;cases hj;exact h rfl
       by_cases z:j<i
       . rw[BJ z,BJ (by omega)]
       . rw[BE z,BE (by omega)]
   . rintro acc H2 ⟨s2,e2,rfl⟩;have:=(BC.mp hj).1;rw[BJ (by rw[BA]; exact this)] at e2;exact⟨cl,_,_,_,rfl,rfl,aA.of e2,at0,q _ s2⟩
theorem jn:FnScope ["_law_program_here","_law_chain","_law_inner","_law_called","_law_there"] ["_law_program_here","_law_chain","_law_inner"] (aW ka):=by walk_at "s"
theorem zH (T:Txt K mg t):FnOk P w K mg base CX0 1 t.rH t.sR ["_law_program_here","_law_chain","_law_inner"] (zy K):=by
 refine T.t5.F.ok jn (λvs H Q E h=>?_) (λcdv A outer s H vs Q E hr h=>?_)
 . obtain⟨_,_,_,_,_,_,_,rfl,_⟩:=h;rfl
 . obtain⟨p,ca,fs,cs,g,q0,rest,rfl,hP,hC,r3,hg,hq0,q⟩:=h;refine⟨_,(aC (pq (i:=3) jn.nd rfl (Or.inl rfl) (N':=["_law_function"]) (js:=[none]) (by kernel_rfl) rfl (cq (pv 0)) cZ (λ_ _ _ _=>(ai (i:=0) (show(["_law_function"]:List Str).Nodup by decide +kernel) rfl (Or.inl rfl) (.inr rfl))) (λ_ _ _ _=>da) (λ_ _ _ _=>(aB (show cM _ (dw K) from aG) (pv 0) a6 (λ_ _=>rfl))) (by rfl)) (aC (@aK _ _ 4 _ _ _ _ jn.nd rfl (Or.inl rfl) (bT BR EN EO mN (pv 3) (a4 (pv 2) a7 rfl)) (by rfl) (by walk_at "f")) (@aE _ _ _ (@aQ _ _ _ _ (i8 (eB fE (au bI (by rfl) T.b_len bC (a4 (pv 1) a7 rfl)) a6 (aN _)) (i8 (aB aG (aB aP (pv 0) (pv 4) (λ_ _=>rfl)) a6 (λ_ _=>rfl)) (iy (eB fE (pv 4) (bT BR EN EO mN (pv 3) (a4 (aB aG (aB aG (pv 1) (bO bN a6) (λ_ _=>rfl)) a6 (λ_ _=>rfl)) a7 rfl)) (aN _))))))))),?_⟩;have l4:=hP.len;obtain⟨fa,yr,h1,h2,h3⟩:=hC.cons;obtain⟨j,f,hj,fnm,hlk,hno,hne⟩:=qe hP.ok.nd hg;obtain⟨j0,f0,hj0,fnm0,hlk0,hno0,hne0⟩:=qe hP.ok.nd hq0;have jl:=(BC.mp hj).1;have jl0:=(BC.mp hj0).1;have flat:(fs.map λf=>V.str f.nm).all cv=true:=by rw[List.all_map]; exact By.mpr λx _=>rfl
   refine⟨_,rfl,p,rfl,⟨_,hP.sq⟩,λcl hcl=>fe (xs:=fs.map λf=>V.ref f.a) (by rw[BA]; omega) (λi acc H2=>a0 H H2/\H2 cl=some (.lst acc)/\acc=((fs.take i).map λf=>V.str f.nm)) ⟨a0.new hcl,a8,rfl⟩ ?_ ?_ ?_⟩
   . rintro i acc H2 hi ⟨s2,e2,rfl⟩;exact⟨e2,by rw[BA,Bd]; omega,s2.seq hP.sq⟩
   . rintro i x acc H2 hx ⟨s2,e2,rfl⟩;obtain⟨g',hgi,hgm,rfl⟩:=cb hx;have hg2:=(hP.at_ g' hgm).mono s2;refine⟨_,rfl,g'.a,_,_,_,rfl,rfl,hg2.it,at0,e2,s2.upd hcl,a8,?_⟩;rw[Bm,hgi,BK];rfl
   . rintro acc H2 ⟨s2,e2,rfl⟩;rw[BA,Bw] at e2;refine⟨_,rfl,.inl ⟨rfl,_,aA.of e2⟩,_,rfl,cl,_,_,j,rfl,rfl,aA.of e2,rfl,flat,by omega,⟨_,by rw[BI,hj]; rfl,by rw[<- fnm]; exact beq_self_eq_true f.nm⟩,hne,?_⟩;have ln:yr.length=rest.length:=(Paired.length h3).symm;have hlen:((yr.reverse++[V.ref fa]).length:Nat)=rest.length+1:=by rw[BH,CD,ln]; rfl
     have hin:bh (fs.map Pf.fd) q0.1.1 g rest.length=(f.fo&&decide (rest.length+1<3)&&decide (j<j0)):=by
       unfold bh;rw[hlk,hno,hno0];have:decide (f.fd.fo=.bl true)=f.fo:=by show decide (V.bl f.fo=.bl true)=f.fo;cases f.fo <;> rfl
       show(decide (f.fd.fo=.bl true)&&_&&_)=_;rw[this]
     have q:=q H2 s2;rw[hin] at q;have hfA:=(hP.at_ f (BQ hj)).mono s2;refine⟨_,rfl,ca,_,rfl,.inr (s2.tup h1),_,_,rfl,rfl,_,rfl,?_⟩;rw[hlen];by_cases h:rest.length+1<3
     . refine aV (BN (by omega)) ⟨_,rfl,_,rfl,p,_,_,_,rfl,rfl,s2.seq hP.sq,bp (by rw[BI,hj]; rfl),f.a,_,_,_,rfl,rfl,hfA.it,rfl,f.fo,rfl,?_⟩;by_cases hfo:f.fo=true
       . refine aV hfo ⟨_,rfl,_,rfl,.inl ⟨rfl,_,aA.of e2⟩,_,rfl,_,rfl,ca,_,_,_,rfl,rfl,s2.tup h1,K13.at_last _ _,fa,_,_,_,rfl,rfl,s2.tup h2,at0,cl,_,_,j0,rfl,rfl,aA.of e2,rfl,flat,by omega,⟨_,by rw[BI,hj0]; rfl,by rw[<- fnm0]; exact beq_self_eq_true f0.nm⟩,hne0,_,_,rfl,rfl,?_⟩;rw[hfo,BN h] at q;have e:decide ((j:Int)<(j0:Int))=(true&&true&&decide (j<j0)):=by rw[E3,E3,EF];omega
         show Q (.bl (decide ((j:Int)<(j0:Int)))) H2;rw[e];exact q
       . refine aO hfo ?_;rw[E6.mpr hfo] at q;exact q
     . refine aO (by rw[BL]; omega) ?_;rw[BY h,Ds,Bool.false_and] at q;exact q
theorem fF:FnScope ["_law_program_here","_law_chain","_law_wait","_law_name","_law_at","_law_rows_here"] ["_law_program_here","_law_chain","_law_wait"] (aW kB):=by walk_at "s"
theorem yS (T:Txt K mg t):FnOk P w K mg base CX0 4 t.rG t.sQ ["_law_program_here","_law_chain","_law_wait"] (yB K):=by
 have G_l_rows_of:=u1 (P:=P) (w:=w) (base:=base) T;have G_l_folds:=zH (P:=P) (w:=w) (base:=base) T;have G_l_on:=Ap (P:=P) (w:=w) (base:=base) T;refine T.sy.F.ok fF (λvs H Q E h=>?_) (λcdv A outer s H vs Q E hr h=>?_)
 . obtain⟨_,_,_,_,_,_,_,_,rfl,_⟩:=h;rfl
 . obtain⟨p,ca,fs,cs,g,q0,rest,wt,rfl,hP,hC,hV,q⟩:=h;refine⟨_,(aC (dZ (aB aG (pv 1) (bO bN a6) (λ_ _=>rfl)) (eW rfl (bW (ai (i:=3) fF.nd rfl (Or.inr rfl)) (bW (ai (i:=4) fF.nd rfl (Or.inl rfl)) dm)))) (aC (@aK _ _ 5 _ _ _ _ fF.nd rfl (Or.inl rfl) (ah T.mJ G_l_rows_of (hr.mono (by decide)) (a4 (pv 0) (a4 (pv 3) a7 rfl) rfl)) (by rfl) (by walk_at "f")) (dH (aT (@PW.pt _ _ _ (cT (aL am (aB aG (aB aG (pv 5) (pv 4) (λ_ _=>rfl)) a6 (λ_ _=>rfl)) af (aN _)) (cV (dU (cu (pv 2)))))) (aC (aT (cu (ah T.t5 G_l_folds (hr.mono (by decide)) (a4 (pv 0) (a4 (pv 1) (a4 (aB aG (aB aG (pv 5) (pv 4) (λ_ _=>rfl)) a6 (λ_ _=>rfl)) a7 rfl) rfl) rfl))) (@aE _ _ _ (@aQ _ _ _ _ (bd (a4 (aS (a4 (@aM _ _ _ _ _ _ _ _ (show aj _ (binaryOp .Add) (ib K) from pR) (pv 1) (aS (a4 (aS (a4 (aB aG (aB aG (pv 5) (pv 4) (λ_ _=>rfl)) a6 (λ_ _=>rfl)) (a4 a6 a7 rfl) rfl)) a7 rfl))) (a4 bQ a7 rfl) rfl)) a7 rfl)))) aX) (@aE _ _ _ (@aQ _ _ _ _ (bd (a4 (aS (a4 (pv 1) (a4 bQ a7 rfl) rfl)) a7 rfl))))) aX) (dH (aT (aL am (aB aG (aB aG (pv 5) (pv 4) (λ_ _=>rfl)) a6 (λ_ _=>rfl)) af (aN _)) (aC (aT (aL am (au (show bo _ (.builtin "len") (gB K) from bI) (by rfl) T.b_len bC (a4 (pv 1) a7 rfl)) a6 (aN _)) (@aE _ _ _ (@aQ _ _ _ _ (bd a7))) aX) (aC (@aK _ _ 1 _ _ _ _ fF.nd rfl (Or.inr rfl) (cN (show cX _ (fV K) from eE) (pv 1) cW (cC (bO bN a6))) (by rfl) (by walk_at "f")) (aC (dZ (aB aG (pv 1) (bO bN a6) (λ_ _=>rfl)) (eW rfl (bW (ai (i:=3) fF.nd rfl (Or.inr rfl)) (bW (ai (i:=4) fF.nd rfl (Or.inl rfl)) dm)))) (@aE _ _ _ (@aK _ _ 5 _ _ _ _ fF.nd rfl (Or.inl rfl) (ah T.mJ G_l_rows_of (hr.mono (by decide)) (a4 (pv 0) (a4 (pv 3) a7 rfl) rfl)) (by rfl) (by walk_at "f")))))) aX) (@aE _ _ _ (@aQ _ _ _ _ (dL (N':=["_law_to","_law_chain","_law_name"]) (js:=[none,some 1,some 3]) (by kernel_rfl) rfl (cq (ah T.l_on G_l_on (hr.mono (by decide)) (a4 (pv 5) (a4 (pv 4) a7 rfl) rfl))) cZ (λ_ _ _ _=>(ai (i:=0) (show(["_law_to","_law_chain","_law_name"]:List Str).Nodup by decide +kernel) rfl (Or.inl rfl) (.inr rfl))) (λ_ _ _ _=>da) (λ_ _ _ _=>(aS (a4 (@aM _ _ _ _ _ _ _ _ (show aj _ (binaryOp .Add) (ib K) from pR) (cN (show cX _ (fV K) from eE) (pv 1) cW (cC (bO bN a6))) (aS (a4 (aS (a4 (pv 2) (a4 (pv 0) a7 rfl) rfl)) a7 rfl))) (a4 bQ a7 rfl) rfl)))))))))),?_⟩;obtain⟨Pg_,CelA_,FnA_⟩:=lu hP.at_ hP.ok;obtain⟨fa,yr,h1,h2,h3⟩:=hC.cons;have fnd:∀{p:SN×Nat},fX (fs.map Pf.fd) p->∃f∈fs,∃w,f.nm=p.1.1/\AtW (fs.map Pf.fd) p f.fd w/\K13.isE w.k=false:=λ{p} ⟨f',w,hW,hE⟩=>by obtain⟨f,hf,rfl⟩:=Ba.mp hW.mem;exact⟨f,hf,w,hW.nm,hW,hE⟩
   obtain⟨f,hf,w,fnm,hW,hE⟩:=fnd hV.ch.hd;have rl2:rest.length<=2:=hV.ch.len;obtain⟨r,rh,hr,hrh,hR,hk,hcall⟩:=xC (hP.at_ f hf) hW.rw_;have vj3:∀{x:Str} (e:x=f.nm),[V.ref p,V.str x]=[V.ref p,V.str f.nm]:=λe=>by rw[e]
   refine⟨_,rfl,_,rfl,ca,_,_,_,rfl,rfl,h1,K13.at_last _ _,fa,_,rfl,h2,rfl,_,_,rfl,_,_,rfl,rfl,?_⟩;refine⟨_,rfl,_,rfl,p,fs,cs,f,vj3 fnm.symm,hP,hf,λH1 s1=>?_⟩;have hP1:=hP.mono s1;have fA:=hP1.at_ f hf;have hR1:=hR.mono s1;have rowat:aY (f.rs.map V.ref) (q0.2:Int)=some (.ref r):=bp (by rw[BI,hr]; rfl);refine⟨λσ' H'=>a0 H H'/\σ'=[some (.ref p),some (.ref ca),some (.bl wt),some (.str q0.1.1),some (.int (q0.2:Nat)),some (.ref f.ra)]/\¬ (w.k="call"/\wt=false),?_,?_⟩
   . refine⟨_,rfl,_,rfl,f.ra,_,_,_,rfl,rfl,fA.rt,rowat,r,_,_,_,rfl,rfl,hR1.it,RH.item0 rh,rfl,_,rfl,ie (λh=>⟨_,rfl,wt,rfl,?_⟩) (λh=>?_)⟩
     . cases wt with
       | true=>exact aO BO ⟨s1,rfl,λz=>by cases z.2⟩
       | false =>
         have hkc:w.k="call":=hk.trans (V.str.inj h);obtain⟨x,g',pp,as,rfl,hwc⟩:=hcall hkc;subst hwc;have hW1:=hW.rw_;obtain⟨g1,hg1,hg2⟩:=Pg_.call _ hW.mem w (BQ hW1) hkc;obtain⟨g2,hg3,rfl⟩:=Ba.mp hg1;have hgm:w.c∈fs.map (·.nm):=Ba.mpr ⟨g2,hg3,hg2⟩;have hgok:PyData.strOk w.c=true:=by rw[<- hg2]; exact Pg_.ok _ hg1
         refine aV rfl ⟨_,rfl,_,rfl,_,rfl,_,rfl,f.ra,_,_,_,rfl,rfl,fA.rt,rowat,r,_,_,_,rfl,rfl,hR1.it,rfl,p,ca,fs,cs,w.c,q0,rest,rfl,hP1,hC.ts (.of s1),by omega,hgm,Ba.mpr ⟨f,hf,fnm⟩,λH2 s2=>⟨_,rfl,dY (λhi=>?_) (λhi=>?_)⟩⟩
         . have s12:=s1.trans s2;refine⟨_,rfl,_,rfl,_,rfl,f.ra,_,_,_,rfl,rfl,s2.tup fA.rt,rowat,r,_,_,_,rfl,rfl,s2.tup hR1.it,rfl,ay,λt1 ht1=>⟨bt,λt2 ht2=>?_⟩⟩;have s3:=(a0.new (o:=.tup [V.str w.c,V.int 0]) ht1).trans (a0.new (o:=.tup [V.ref t1]) ht2);have e3:a9 K (upd (upd H2 t1 (.tup [V.str w.c,V.int 0])) t2 (.tup [V.ref t1])) t1 [V.str w.c,V.int 0]:=(a0.new ht2).tup (a9.of a8);have ln:yr.length=rest.length:=(Paired.length h3).symm;refine mW ((s12.trans s3).tup h1) a8 (by simp) (CL (c8 (by rw[BH,CD,ln]; show rest.length+1+1<_; omega))) λp3 H4 s4 hp3=>⟨ay,λb hb=>⟨bt,λl hl=>?_⟩⟩
           have s5:=(a0.new (o:=.tup [V.ref p3,V.bl false]) hb).trans (a0.new (o:=.lst [V.ref b]) hl);have S:=(s12.trans s3).trans (s4.trans s5);have hl0:H l=none:=((s12.trans s3).trans (s4.trans (a0.new hb))).free hl;refine q l _ [b] S hl0 a8 ?_;rw[kE Pg_ hW hkc hi];refine .cons ⟨p3,(a0.new hl).tup (a9.of a8),bU.mk (fa:=t1) (yr:=V.ref fa :: yr) ?_ ?_ (.cons ⟨fa,rfl,S.tup h2⟩ (fm h3 S))⟩ .nil
           . rw[CH];exact s5.tup (a9.of hp3)
           . show a9 K _ t1 [V.str (az w.c).1,V.int 0];rw[gS hgok];exact(s4.trans s5).tup e3
         . refine⟨_,rfl,ay,λb hb=>⟨bt,λl hl=>?_⟩⟩;have s5:=(a0.new (o:=.tup [V.ref ca,V.bl true]) hb).trans (a0.new (o:=.lst [V.ref b]) hl);have hl0:H l=none:=((s1.trans s2).trans (a0.new hb)).free hl;refine q l _ [b] ((s1.trans s2).trans s5) hl0 a8 ?_;rw[l9 Pg_ hW hkc hi];exact .cons ⟨ca,(a0.new hl).tup (a9.of a8),hC.ts (.of ((s1.trans s2).trans s5))⟩ .nil
     . exact⟨s1,rfl,λz=>h (Bv V.str (hk.symm.trans z.1))⟩
   rintro σ2 H2 ⟨s2,rfl,nc⟩;refine⟨λσ' H'=>∃(ca2:Addr) (q2:SN×Nat) (rest2:List (SN×Nat)) (f2:Pf) (w2:Rw),σ'=[some (.ref p),some (.ref ca2),some (.bl wt),some (.str q2.1.1),some (.int (q2.2:Nat)),some (.ref f2.ra)]/\f2∈fs/\a0 H H'/\bU K H' ca2 (q2 :: rest2)/\rest2.length<=2/\AtW (fs.map Pf.fd) q2 f2.fd w2/\K13.isE w2.k=false/\¬ w2.k="back"/\bF (fs.map Pf.fd) (q0 :: rest,wt)=(bA f2.fd q2.2).map λto=>((q2.1,to) :: rest2,false),?_,?_⟩
   . have hP2:=hP.mono s2;have fA2:=hP2.at_ f hf;have hR2:=hR.mono s2;refine⟨_,rfl,_,rfl,f.ra,_,_,_,rfl,rfl,fA2.rt,rowat,r,_,_,_,rfl,rfl,hR2.it,RH.item0 rh,rfl,_,rfl,?_⟩;by_cases hb:w.k="back"
     . refine aV (BN (Bv V.str (hk.symm.trans hb))) ⟨_,rfl,ca,_,rfl,.inr (s2.tup h1),rfl,_,rfl,?_⟩;have ln:yr.length=rest.length:=(Paired.length h3).symm;cases h3 with
       | nil =>
         refine aV (by rfl) ⟨dB,λl hl=>q l _ [] (s2.trans (a0.new hl)) (s2.free hl) a8 ?_⟩;rw[jf Pg_ hW hb];exact .nil
       | @cons q1 v1 rest1 yr1 hv h3' =>
         obtain⟨fa1,rfl,hfa1⟩:=hv;obtain⟨g1,w1,hW1,hk1⟩:=hV.ch.tl q1 BU;obtain⟨f1,hf1,rfl⟩:=Ba.mp hW1.mem;refine aO (λz=>?_) ?_
         . have z:=V.int.inj (Bo z);rw[BH,CD] at z;have:((yr1.length+1+1:Nat):Int)=1:=z;omega
         refine⟨_,rfl,_,rfl,_,rfl,dv (s2.tup h1) λca2 H3 s3 hca2=>?_⟩;rw[jB,CH] at hca2;have s23:=s2.trans s3;have vj4:∀{x:Str} (e:x=f1.nm),[V.ref p,V.str x]=[V.ref p,V.str f1.nm]:=λe=>by rw[e]
         refine⟨_,rfl,_,rfl,ca2,_,_,_,rfl,rfl,hca2,K13.at_last _ _,fa1,_,rfl,s23.tup hfa1,rfl,_,_,rfl,_,_,rfl,rfl,?_⟩;refine⟨_,rfl,_,rfl,p,fs,cs,f1,vj4 hW1.nm.symm,hP.mono s23,hf1,λH4 s4=>⟨ca2,q1,rest1,f1,w1,rfl,hf1,s23.trans s4,bU.mk (fa:=fa1) (s4.tup hca2) ((s23.trans s4).tup hfa1) (fm h3' (s23.trans s4)),by rw[BV] at rl2; omega,hW1,by rw[hk1]; exact gy,by rw[hk1]; decide +kernel,?_⟩⟩;rw[lx Pg_ hW hb hW1,tU (Pg_.wf _ hW1.mem) hW1.rw_ hk1]
     . refine aO (λz=>hb (hk.trans (V.str.inj (Bo z)))) ⟨ca,q0,rest,f,w,rfl,hf,s2,hC.ts (.of s2),rl2,hW,hE,hb,ix Pg_ hW hb nc⟩
   rintro σ3 H3 ⟨ca2,q2,rest2,f2,w2,rfl,hf2,s3,hC2,rl3,hW2,hE2,hnb2,hnx⟩;have fA3:=(hP.at_ f2 hf2).mono s3;obtain⟨fb,yr2,g1,g2,g3⟩:=hC2.cons;have hkds:=lJ (hP.at_ f2 hf2);obtain⟨hD,_,_⟩:=iB (Pg_.wf _ hW2.mem) hW2.rw_ hE2;have hkd:=gU hW2.rw_;have hkl:q2.2<(F2.kds f2.fd).length:=by rw[gh]; exact(BC.mp hW2.rw_).1
   rw[hkds] at hD hkd hkl;obtain⟨i2,hi2⟩:=Bp hf2;have o2:=hP.ok.fn i2 f2 hi2;have l2:=lr f2.fd q2.2;have ln2:yr2.length=rest2.length:=(Paired.length g3).symm;refine⟨_,rfl,_,rfl,f2.ra,f2.rhs.map RH.kind,q2.2,bA f2.fd q2.2,rfl,z8 fA3,o2.wf,o2.one,by rw[BA]; have:=fA3.small; omega,hkl,by rw[hkd]; exact hnb2,hD,λlp H4 s4 hlp0 hlp=>⟨lp,rfl,⟨_,aA.of hlp⟩,λcl hcl=>?_⟩⟩;generalize hl2:bA f2.fd q2.2=l at hlp l2;refine fe (xs:=l.map λr=>V.int (r:Nat)) (by rw[BA]; omega) (λi acc H5=>a0 H4 H5/\H5 cl=some (.lst acc)/\∃bs:List Addr,acc=bs.map V.ref/\Paired (λs b=>bV K H5 b s) ((l.take i).map λto=>((q2.1,to) :: rest2,false)) bs) ⟨a0.new hcl,a8,[],rfl,.nil⟩ ?_ ?_ ?_
   . rintro i acc H5 hi ⟨s5,e5,bs,rfl,hbs⟩;refine⟨e5,?_,s5.seq (aA.of hlp)⟩;rw[BA,<- Paired.length hbs,BA,Bd];omega
   . rintro i x acc H5 hx ⟨s5,e5,bs,rfl,hbs⟩;obtain⟨to,hto,_,rfl⟩:=cb hx;have s35:=s4.trans s5;refine⟨_,rfl,_,rfl,_,rfl,dv (s35.tup g1) λqA HA sA hqA=>?_⟩;rw[jB] at hqA;refine⟨_,rfl,_,rfl,ay,λt1 ht1=>⟨bt,λt2 ht2=>?_⟩⟩;have s6:=(a0.new (o:=.tup [V.str q2.1.1,V.int (to:Nat)]) ht1).trans (a0.new (o:=.tup [V.ref t1]) ht2);have e6:a9 K (upd (upd HA t1 (.tup [V.str q2.1.1,V.int (to:Nat)])) t2 (.tup [V.ref t1])) t1 [V.str q2.1.1,V.int (to:Nat)]:=(a0.new ht2).tup (a9.of a8);refine mW (s6.tup hqA) a8 (by simp) (CL (c8 (by rw[CD,ln2]; show rest2.length+1<_; omega))) λp3 H7 s7 hp3=>⟨ay,λb hb=>?_⟩
     have s8:=a0.new (o:=.tup [V.ref p3,V.bl false]) hb;have S:=(sA.trans s6).trans (s7.trans s8);have e9:=S _ _ e5;have T9:TS (upd H7 b (.tup [V.ref p3,V.bl false])) (upd (upd H7 b (.tup [V.ref p3,V.bl false])) cl (.lst (bs.map V.ref++[V.ref b]))):=TS.lst e9;refine⟨e9,(s5.trans S).upd hcl,a8,bs++[b],by rw[BK]; rfl,?_⟩;have tT:=TS.trans (.of S) T9;rw[Bm,hto,BK];refine Paired.snoc (Paired.mapP hbs λs b z=>z.ts tT) ⟨p3,T9.tup (a9.of a8),bU.mk (fa:=t1) (yr:=yr2) ?_ ?_ ?_⟩
     . exact T9.tup (s8.tup (a9.of hp3))
     . exact T9.tup ((s7.trans s8).tup e6)
     . exact Paired.mapP g3 λp v z=>z.ts (TS.trans (.of (s35.trans S)) T9)
   . rintro acc H5 ⟨s5,e5,bs,rfl,hbs⟩;rw[BA,Bw] at hbs;refine q cl _ bs (s3.trans (s4.trans s5)) ((s3.trans s4).free hcl) e5 ?_;rw[hnx,hl2];exact hbs
theorem me:FnScope ["_law_stations","_law_station"] ["_law_stations"] (aW lm):=by walk_at "s"
theorem xH (T:Txt K mg t):FnOk P w K mg base CX0 2 t.rJ t.sS ["_law_stations"] (zO K):=by
 have G_l_whole:=we (P:=P) (w:=w) (base:=base) T;refine T.t6.F.ok me (λvs H Q E h=>?_) (λcdv A outer s H vs Q E hr h=>?_)
 . obtain⟨_,_,_,_,rfl,_⟩:=h;rfl
 . obtain⟨l,bs,fns,ss,rfl,hL,hS,hne,h200,q⟩:=h;refine⟨_,(aC (aT (@PW.pt _ _ _ (fj (dU (cu (au iu (by rfl) T.b_isinstance fJ (a4 (pv 0) (a4 (fW (v:=V.ty "list") rfl T.b_list gp rfl) a7 rfl) rfl)))) (g7 (aL am (au (show bo _ (.builtin "len") (gB K) from bI) (by rfl) T.b_len bC (a4 (pv 0) a7 rfl)) a6 (aN _))))) (@aE _ _ _ (@aQ _ _ _ _ bQ)) aX) (aC (cD PassesOwn.never rfl (cq (pv 0)) (ai (i:=1) me.nd rfl (Or.inl rfl)) (aC (aT (@PW.pt _ _ _ (fj (dU (cu (au iu (by rfl) T.b_isinstance fJ (a4 (pv 1) (a4 (fW (v:=V.ty "tuple") rfl T.b_tuple fU rfl) a7 rfl) rfl)))) (g7 (aL nv (au (show bo _ (.builtin "len") (gB K) from bI) (by rfl) T.b_len bC (a4 (pv 1) a7 rfl)) a6 (aN _))))) (@aE _ _ _ (@aQ _ _ _ _ bQ)) aX) (aC (aT (@PW.pt _ _ _ (fj (dU (cu (au iu (by rfl) T.b_isinstance fJ (a4 (aB aG (pv 1) a6 (λ_ _=>rfl)) (a4 (fW (v:=V.ty "tuple") rfl T.b_tuple fU rfl) a7 rfl) rfl)))) (g7 (dU (cu (au iu (by rfl) T.b_isinstance fJ (a4 (aB aG (pv 1) a6 (λ_ _=>rfl)) (a4 (fW (v:=V.ty "tuple") rfl T.b_tuple fU rfl) a7 rfl) rfl))))))) (@aE _ _ _ (@aQ _ _ _ _ bQ)) aX) (dH (aT (@PW.pt _ _ _ (cT (aL pV (aB aG (pv 1) a6 (λ_ _=>rfl)) bQ (aN _)) (cV (aL pV (aB aG (pv 1) a6 (λ_ _=>rfl)) bQ (aN _))))) (@aE _ _ _ (@aQ _ _ _ _ bQ)) aX) (@aE _ _ _ (aT (dU (cu (au (ua rfl) (by rfl) T.b_all AN (a4 (dL (N':=["_law_to","_law_stations"]) (js:=[none,some 0]) (by kernel_rfl) rfl (gb (aB aG (pv 1) a6 (λ_ _=>rfl))) cZ (λ_ _ _ _=>(ai (i:=0) (show(["_law_to","_law_stations"]:List Str).Nodup by decide +kernel) rfl (Or.inl rfl) (.inr rfl))) (λ_ _ _ _=>da) (λ_ _ _ _=>(i8 (ah T.tD G_l_whole (hr.mono (by decide)) (a4 (pv 0) a7 rfl)) (iy (wX Ar fE a6 (pv 0) (au (show bo _ (.builtin "len") (gB K) from bI) (by rfl) T.b_len bC (a4 (pv 1) a7 rfl))))))) a7 rfl)))) (@aE _ _ _ (@aQ _ _ _ _ bQ)) aX)))))) (@aE _ _ _ (@aQ _ _ _ _ bQ)))),?_⟩;have hlen:=Paired.length hS;have hpos:0<ss.length:=by
     cases ss with
     | nil=>exact absurd rfl hne
     | cons a b=>exact CO _
   refine⟨_,rfl,_,_,_,_,rfl,.lst hL,rfl,_,rfl,jN ⟨_,rfl,l,_,rfl,.inl hL,rfl,_,rfl,aO ?_ ?_⟩⟩
   . rw[BA,<- hlen,BL];intro z;have:=V.int.inj z;omega
   refine⟨_,rfl,l,rfl,⟨_,hL⟩,fP (xs:=bs.map V.ref) (λi σ Hx=>a0 H Hx/\∃v1,σ=[some (.ref l),v1]) ⟨a0.refl _,_,rfl⟩ ?_ ?_ ?_⟩
   . rintro i σ Hx hi ⟨sx,_⟩;exact sx.seq hL
   . rintro i x σ Hx hx ⟨sx,v1,rfl⟩;obtain⟨b,hbi,_,rfl⟩:=cb hx;obtain⟨s,hsi,ca,wa,hb0,hca0,hwa0,hmem⟩:=jU hS hbi;have hb:=sx.tup hb0;have hwa:=sx.tup hwa0;obtain⟨ys,hca0,_⟩:=hca0;have hca:=sx.tup hca0;refine⟨_,rfl,_,_,_,_,rfl,.tup hb,rfl,_,rfl,jN ⟨_,rfl,b,_,rfl,.inr hb,rfl,_,rfl,aO (show ¬ (!decide (V.int ((3:Nat):Int)=V.int 3))=true by decide) ?_⟩⟩;refine⟨_,rfl,b,_,_,_,rfl,rfl,hb,at0,_,_,_,_,rfl,.tup hca,rfl,_,rfl,jN ⟨_,rfl,b,_,_,_,rfl,rfl,hb,rfl,_,_,_,_,rfl,.tup hwa,rfl,_,rfl,jN ?_⟩⟩;refine⟨λσ' H'=>σ'=[some (.ref l),some (.ref b)]/\H'=Hx,?_,?_⟩
     . refine⟨_,rfl,b,_,_,_,rfl,rfl,hb,rfl,_,_,rfl,rfl,_,rfl,?_⟩;by_cases h2:s.2=true
       . exact aO (by rw[BN h2]; decide) (aO BO ⟨rfl,rfl⟩)
       . refine aV (by rw[BY h2]; rfl) ⟨_,rfl,b,_,_,_,rfl,rfl,hb,rfl,_,_,rfl,rfl,_,rfl,aO (by rw[BN (E6.mpr h2)]; decide) ⟨rfl,rfl⟩⟩
     rintro σ1 H1 ⟨rfl,rfl⟩;have lnm:(bE fns ss s).length<=2:=by unfold bE; rw[BA]; exact ke fns s
     have hlt:∀n∈bE fns ss s,n<ss.length:=λn hn=>by unfold bE at hn;obtain⟨t',ht,rfl⟩:=Ba.mp hn;exact Ce (hmem t' ht)
     refine⟨_,rfl,b,_,_,_,rfl,rfl,hb,rfl,wa,rfl,⟨_,hwa⟩,λcl hcl=>kI (xs:=K13.natsV (bE fns ss s)) (by unfold K13.natsV; rw[BA]; omega) (λi acc H2=>a0 H1 H2/\H2 cl=some (.lst acc)/\acc=(List.replicate i true).map V.bl) ⟨a0.new hcl,a8,rfl⟩ ?_ ?_ ?_⟩
     . rintro i acc H2 hi ⟨s2,e2,rfl⟩;exact⟨e2,by rw[BA,Cv]; exact BG i,s2.tup hwa⟩
     . rintro i x acc H2 hx ⟨s2,e2,rfl⟩;obtain⟨n,hni,hnm,rfl⟩:=cb hx;have hn:=hlt n hnm;refine⟨_,rfl,n,rfl,true,rfl,ii ⟨_,rfl,_,_,rfl,rfl,true,(show V.bl (decide ((0:Int)<=(n:Nat)))=V.bl true by rw[BN (by omega)]),ii ⟨_,rfl,l,_,rfl,.inl ((sx.trans s2).seq hL),_,_,rfl,rfl,e2,s2.upd hcl,a8,?_⟩⟩⟩;rw[List.replicate_succ',BK];show _++[V.bl (decide (((n:Nat):Int)<(((bs.map V.ref).length:Nat):Int)))]=_;rw[BN (by rw[BA,<- hlen]; omega)];rfl
     . rintro acc H2 ⟨s2,e2,rfl⟩;refine⟨cl,_,rfl,aA.of e2,_,rfl,aO ?_ ⟨sx.trans s2,_,rfl⟩⟩;have:∀m,(List.replicate m true).all id=true:=λm=>By.mpr λx hx=>(Dz.mp hx).2;rw[this];decide
   . rintro σ Hx ⟨sx,v1,rfl⟩;exact q _ sx
theorem gc:FnScope ["_law_program_here","_law_name","_law_stations","_law_known","_law_station","_law_to"] ["_law_program_here","_law_name","_law_stations"] (aW jx):=by walk_at "s"
theorem xF (T:Txt K mg t):FnOk P w K mg base CX0 5 t.rK t.sT ["_law_program_here","_law_name","_law_stations"] (vE K):=by
 have G_l_formed:=xH (P:=P) (w:=w) (base:=base) T;have G_l_due:=yS (P:=P) (w:=w) (base:=base) T;refine T.mG.F.ok gc (λvs H Q E h=>?_) (λcdv A outer s H vs Q E hr h=>?_)
 . obtain⟨_,_,_,_,_,_,_,rfl,_⟩:=h;rfl
 . obtain⟨p,l,fs,cs,f,bs,ss,rfl,hP,hf,hL,hS,hPl,q⟩:=h;refine⟨_,(aC (aT (@PW.pt _ _ _ (fj (dU (cu (ah T.t6 G_l_formed (hr.mono (by decide)) (a4 (pv 2) a7 rfl)))) (g7 (aL (pC hr.units) (cN (show cX _ (fV K) from eE) (aB aP (pv 2) a6 (λ_ _=>rfl)) cW (cC a6)) (aS (a4 (aS (a4 (aS (a4 (pv 1) (a4 a6 a7 rfl) rfl)) a7 rfl)) (a4 bQ a7 rfl) rfl)) (aN _))))) (@aE _ _ _ (@aQ _ _ _ _ bQ)) aX) (aC (aT (aL nv (au xk (by rfl) T.b_len bC (a4 (ci (xc bP rfl hr.units) (by rfl) T.b_set A8 (a4 (dL (N':=["_law_station"]) (js:=[none]) (by kernel_rfl) rfl (cq (pv 2)) cZ (λ_ _ _ _=>(ai (i:=0) (show(["_law_station"]:List Str).Nodup by decide +kernel) rfl (Or.inl rfl) (.inr rfl))) (λ_ _ _ _=>da) (λ_ _ _ _=>(cN (show cX _ (fV K) from eE) (pv 0) cW (cC a6)))) a7 rfl)) a7 rfl)) (au (show bo _ (.builtin "len") (gB K) from bI) (by rfl) T.b_len bC (a4 (pv 2) a7 rfl)) (aN _)) (@aE _ _ _ (@aQ _ _ _ _ bQ)) aX) (aC (@aK _ _ 3 _ _ _ _ gc.nd rfl (Or.inl rfl) a6 (by rfl) (by walk_at "f")) (aC (cD PassesOwn.never rfl (cq (pv 2)) (ai (i:=4) gc.nd rfl (Or.inl rfl)) (iw (aT (aL (pC hr.units) (dL (N':=["_law_to","_law_stations"]) (js:=[none,some 2]) (by kernel_rfl) rfl (gb (aB aG (pv 4) a6 (λ_ _=>rfl))) cZ (λ_ _ _ _=>(ai (i:=0) (show(["_law_to","_law_stations"]:List Str).Nodup by decide +kernel) rfl (Or.inl rfl) (.inr rfl))) (λ_ _ _ _=>da) (λ_ _ _ _=>(cN (show cX _ (fV K) from eE) (aB (show cM _ (gX K) from aP) (pv 1) (pv 0) (λ_ _=>rfl)) cW (cC a6)))) (ah T.sy G_l_due (hr.mono (by decide)) (a4 (pv 0) (a4 (aB aG (pv 4) a6 (λ_ _=>rfl)) (a4 (aB aG (pv 4) a6 (λ_ _=>rfl)) a7 rfl) rfl) rfl)) (aN _)) (@aE _ _ _ (@aQ _ _ _ _ bQ)) aX) (@aE _ _ _ (cD PassesOwn.never rfl (gb (aB aG (pv 4) a6 (λ_ _=>rfl))) (ai (i:=5) gc.nd rfl (Or.inl rfl)) (aC (aT (aL eT (pv 5) (pv 3) (aN _)) (@aE _ _ _ (@aQ _ _ _ _ bQ)) aX) (@aE _ _ _ (@aK _ _ 3 _ _ _ _ gc.nd rfl (Or.inl rfl) (au (yN rfl) (by rfl) T.b_max tZ (a4 (pv 3) (a4 (@aM _ _ _ _ _ _ _ _ cE (pv 5) a6) a7 rfl) rfl)) (by rfl) (by walk_at "f")))))))) (@aE _ _ _ (@aQ _ _ _ _ (eB am (pv 3) (au (show bo _ (.builtin "len") (gB K) from bI) (by rfl) T.b_len bC (a4 (pv 2) a7 rfl)) (aN _)))))))),?_⟩;have hlen:=Paired.length hS;have h200:=hPl.len;have hne:ss≠[]:=λz=>by have:=hPl.hd; rw[z] at this; cases this
   obtain⟨Pg_,CelA_,FnA_⟩:=lu hP.at_ hP.ok;have hfok:PyData.strOk f.nm=true:=Pg_.ok _ (Ba.mpr ⟨f,hf,rfl⟩);have sta:∀{Hx:Hp},a0 H Hx->∀{i:Nat} {b:Addr},bs[i]?=some b->∃s ca wa,ss[i]?=some s/\a9 K Hx b [.ref ca,.bl s.2,.ref wa]/\bU K Hx ca s.1/\a9 K Hx wa (K13.natsV (bE (fs.map Pf.fd) ss s)):=λ{Hx} sx {i} {b} hb=>by obtain⟨s,hs,ca,wa,h1,h2,h3,_⟩:=jU hS hb;exact⟨s,ca,wa,hs,sx.tup h1,h2.ts (.of sx),sx.tup h3⟩
   obtain⟨b0,hb0⟩:∃b0,bs[0]?=some b0:=by
     cases bs with
     | nil=>exact absurd (Dq hlen) hne
     | cons x r=>exact⟨x,rfl⟩
   refine⟨_,rfl,l,bs,fs.map Pf.fd,ss,rfl,hL,hS,hne,h200,λH1 s1=>⟨_,rfl,jN ?_⟩⟩;obtain⟨s0,ca0,wa0,hs0,hb0',hca0,_⟩:=sta s1 hb0;rw[hPl.hd] at hs0;cases hs0;refine⟨_,rfl,l,_,_,_,rfl,rfl,s1.seq hL,bp (j:=0) (by rw[BI,hb0]; rfl),_,rfl,dv hb0' λq2 H2 s2 hq2=>⟨_,rfl,ay,λt1 ht1=>⟨bt,λt2 ht2=>⟨ay,λt3 ht3=>?_⟩⟩⟩⟩;have n1:=a0.new (o:=.tup [V.str f.nm,V.int 0]) ht1;have n2:=a0.new (o:=.tup [V.ref t1]) ht2;have n3:=a0.new (o:=.tup [V.ref t2,V.bl false]) ht3;have eS:bV K (upd (upd (upd H2 t1 (.tup [V.str f.nm,V.int 0])) t2 (.tup [V.ref t1])) t3 (.tup [V.ref t2,V.bl false])) t3 ([(az f.nm,0)],false):=st0 (a1:=t1) (a2:=t2) (by show a9 K _ t1 [V.str (az f.nm).1,V.int 0]; rw[gS hfok]; exact(n2.trans n3).tup (a9.of a8)) (n3.tup (a9.of a8)) (a9.of a8);have n123:=n1.trans (n2.trans n3);generalize upd (upd (upd H2 t1 (.tup [V.str f.nm,V.int 0])) t2 (.tup [V.ref t1])) t3 (.tup [V.ref t2,V.bl false])=H3 at eS n123 ⊢;have eS2:bV K H3 q2 ([(az f.nm,0)],false):=⟨ca0,n123.tup hq2,hca0.ts (.of (s2.trans n123))⟩
   refine oa (by decide) (qU _) eS2.dat eS.dat ⟨_,rfl,aO BO ?_⟩;have s3:=s1.trans (s2.trans n123);refine⟨_,rfl,l,rfl,⟨_,s3.seq hL⟩,λcl hcl=>fe (xs:=bs.map V.ref) (by rw[BA]; omega) (λi acc H4=>a0 H3 H4/\H4 cl=some (.lst acc)/\∃qs:List Addr,acc=qs.map V.ref/\Paired (λs b=>bV K H4 b s) (ss.take i) qs) ⟨a0.new hcl,a8,[],rfl,.nil⟩ ?_ ?_ ?_⟩
   . rintro i acc H4 hi ⟨s4,e4,qs,rfl,hqs⟩;exact⟨e4,by rw[BA,<- Paired.length hqs,Bd]; omega,(s3.trans s4).seq hL⟩
   . rintro i x acc H4 hx ⟨s4,e4,qs,rfl,hqs⟩;obtain⟨b,hbi,_,rfl⟩:=cb hx;obtain⟨s,ca,wa,hs,hb,hca,_⟩:=sta (s3.trans s4) hbi;refine⟨_,rfl,_,rfl,dv hb λqA HA sA hqA=>⟨sA _ _ e4,(s4.trans sA).upd hcl,a8,qs++[qA],by rw[BK]; rfl,?_⟩⟩;have T:TS HA (upd HA cl (.lst (qs.map V.ref++[V.ref qA]))):=TS.lst (sA _ _ e4);rw[Bm,hs];exact Paired.snoc (Paired.mapP hqs λs b z=>z.ts (TS.trans (.of sA) T)) ⟨ca,T.tup hqA,hca.ts (TS.trans (.of sA) T)⟩
   . rintro acc H4 ⟨s4,e4,qs,rfl,hqs⟩;rw[BA,<- hlen,Bw] at hqs;refine⟨cl,qs,ss,rfl,aA.of e4,mZ (λs b z=>z.dat) hqs,hPl.nd,h200,λd hd=>⟨d,ss.length,rfl,a8,h200,_,rfl,l,_,rfl,.inl (((s3.trans s4).trans (a0.new hd)).seq hL),rfl,_,rfl,aO ?_ ?_⟩⟩
     . rw[BA,<- hlen];rw[BN rfl];decide
     have s5:=(s3.trans s4).trans (a0.new (o:=.ext (gC d ss.length)) hd);generalize upd H4 d (.ext (gC d ss.length))=H5 at s5 ⊢;refine⟨_,rfl,l,rfl,⟨_,s5.seq hL⟩,fP (xs:=bs.map V.ref) (λi σ H6=>a0 H H6/\∃(k:Nat) (v4 v5:Option V),σ=[some (.ref p),some (.str f.nm),some (.ref l),some (.int (k:Nat)),v4,v5]/\Kn k ((ss.drop i).flatMap (bE (fs.map Pf.fd) ss)) ss.length) ⟨s5,1,_,_,rfl,hPl.kn⟩ ?_ ?_ ?_⟩
     . rintro i σ H6 hi ⟨s6,_⟩;exact s6.seq hL
     . rintro i x σ H6 hx ⟨s6,k,v4,v5,rfl,hkn⟩;obtain⟨b,hbi,_,rfl⟩:=cb hx;obtain⟨s,ca,wa,hs,hb,hca,hwa⟩:=sta s6 hbi;have il:i<ss.length:=(BC.mp hs).1;have hsm:=BQ hs;have hvs:=hPl.vs s hsm;have hcl:=hPl.cl s hsm;have lnm:(bE (fs.map Pf.fd) ss s).length<=2:=by unfold bE; rw[BA]; exact ke _ s
       have hdrop:ss.drop i=s :: ss.drop (i+1):=by rw[D6 il];congr 1;exact(BC.mp hs).2
       rw[hdrop,List.flatMap_cons] at hkn;refine⟨λσ' H'=>a0 H H'/\∃v5,σ'=[some (.ref p),some (.str f.nm),some (.ref l),some (.int (k:Nat)),some (.ref b),v5],?_,?_⟩
       . refine⟨_,rfl,b,_,_,_,rfl,rfl,hb,rfl,wa,rfl,⟨_,hwa⟩,λcl hcl0=>kI (xs:=K13.natsV (bE (fs.map Pf.fd) ss s)) (by unfold K13.natsV; rw[BA]; omega) (λi acc H7=>a0 H6 H7/\H7 cl=some (.lst acc)/\∃qs:List Addr,acc=qs.map V.ref/\Paired (λs b=>bV K H7 b s) ((bF (fs.map Pf.fd) s).take i) qs) ⟨a0.new hcl0,a8,[],rfl,.nil⟩ ?_ ?_ ?_⟩
         . rintro j acc H7 hj ⟨s7,e7,qs,rfl,hqs⟩;exact⟨e7,by rw[BA,<- Paired.length hqs,Bd]; omega,s7.tup hwa⟩
         . rintro j x acc H7 hx ⟨s7,e7,qs,rfl,hqs⟩;obtain⟨n,hnj,_,rfl⟩:=cb hx;unfold bE at hnj;rw[BI] at hnj;obtain⟨t',ht',rfl⟩:=C7.mp hnj;have htm:=hcl t' (BQ ht');have hix:=Ce htm;obtain⟨b',hb'⟩:∃b',bs[ss.idxOf t']?=some b':=⟨_,BP (by rw[<- hlen]; exact hix)⟩
           obtain⟨s',ca',wa',hs',hbb,hcc,_⟩:=sta (s6.trans s7) hb';have:s'=t':=by have h1:=(BC.mp hs').2;rw[<- h1];exact List.getElem_idxOf hix
           subst this;refine⟨_,rfl,_,rfl,l,_,_,_,rfl,rfl,(s6.trans s7).seq hL,bp (by rw[BI,hb']; rfl),_,rfl,dv hbb λqA HA sA hqA=>⟨sA _ _ e7,(s7.trans sA).upd hcl0,a8,qs++[qA],by rw[BK]; rfl,?_⟩⟩;have T:TS HA (upd HA cl (.lst (qs.map V.ref++[V.ref qA]))):=TS.lst (sA _ _ e7);rw[Bm,ht'];exact Paired.snoc (Paired.mapP hqs λs b z=>z.ts (TS.trans (.of sA) T)) ⟨ca',T.tup hqA,hcc.ts (TS.trans (.of sA) T)⟩
         . rintro acc H7 ⟨s7,e7,qs,rfl,hqs⟩;have:(K13.natsV (bE (fs.map Pf.fd) ss s)).length=(bF (fs.map Pf.fd) s).length:=by unfold K13.natsV bE; rw[BA,BA]
           rw[this,Bw] at hqs;obtain⟨ch,wt⟩:=s;cases ch with
           | nil=>exact hvs.ch.elim
           | cons q0 rest =>
             have s67:=s6.trans s7;refine⟨_,rfl,_,rfl,b,_,_,_,rfl,rfl,s7.tup hb,at0,_,rfl,b,_,_,_,rfl,rfl,s7.tup hb,rfl,p,ca,fs,cs,az f.nm,q0,rest,wt,rfl,hP.mono s67,hca.ts (.of s7),hvs,λl2 H8 bs2 s8 _ e8 hbs2=>?_⟩;refine oa (by decide) (A0 _) (iU (aA.of (s8 _ _ e7)) (lM (Paired.mapP hqs λs b z=>z.ts (.of s8)))) (iU (aA.of e8) (lM hbs2)) ⟨_,rfl,aO BO ⟨s67.trans s8,_,rfl⟩⟩
       rintro σ7 H7 ⟨s7,v5',rfl⟩;obtain⟨s_,ca2,wa2,hs2,hb2,hca2,hwa2⟩:=sta s7 hbi;rw[hs] at hs2;cases hs2;refine⟨_,rfl,b,_,_,_,rfl,rfl,hb2,rfl,wa2,rfl,⟨_,hwa2⟩,ql (xs:=K13.natsV (bE (fs.map Pf.fd) ss s)) (λj σ H8=>a0 H7 H8/\∃(k:Nat) (v5:Option V),σ=[some (.ref p),some (.str f.nm),some (.ref l),some (.int (k:Nat)),some (.ref b),v5]/\Kn k ((bE (fs.map Pf.fd) ss s).drop j++(ss.drop (i+1)).flatMap (bE (fs.map Pf.fd) ss)) ss.length) ⟨a0.refl _,k,_,rfl,hkn⟩ ?_ ?_ ?_⟩
       . rintro j σ H8 hj ⟨s8,_⟩;exact s8.tup hwa2
       . rintro j x σ H8 hx ⟨s8,k,v5,rfl,hkn⟩;obtain⟨n,hnj,_,rfl⟩:=cb hx;have jl:j<(bE (fs.map Pf.fd) ss s).length:=(BC.mp hnj).1;have hd2:(bE (fs.map Pf.fd) ss s).drop j=n :: (bE (fs.map Pf.fd) ss s).drop (j+1):=by rw[D6 jl];congr 1;exact(BC.mp hnj).2
         rw[hd2,List.cons_append] at hkn;refine⟨_,rfl,_,rfl,_,_,rfl,rfl,_,rfl,aO (by rw[BL]; have:=hkn.1; omega) ⟨_,rfl,_,rfl,_,_,rfl,rfl,_,_,rfl,?_⟩⟩;have e:(if((n:Int)+1) > (k:Int) then((n:Int)+1) else(k:Int))=((max k (n+1):Nat):Int):=by split <;> omega
         exact⟨s8,max k (n+1),some (.int (n:Nat)),Bv (λz:Int=>([some (.ref p),some (.str f.nm),some (.ref l),some (.int z),some (.ref b),some (.int (n:Nat))]:St)) e,hkn.2⟩
       . rintro σ H8 ⟨s8,k,v5,rfl,hkn⟩;have:(K13.natsV (bE (fs.map Pf.fd) ss s)).length=(bE (fs.map Pf.fd) ss s).length:=by unfold K13.natsV; rw[BA]
         rw[this,D2,List.nil_append] at hkn;exact⟨s7.trans s8,k,_,_,rfl,hkn⟩
     . rintro σ H6 ⟨s6,k,v4,v5,rfl,hkn⟩;rw[BA,<- hlen,D2] at hkn;have hkn:ss.length=k:=hkn;refine⟨_,rfl,_,rfl,l,_,rfl,.inl (s6.seq hL),rfl,?_⟩;rw[BA,<- hlen,hkn];show Q (.bl (decide (V.int (k:Nat)=V.int (k:Nat)))) H6;rw[BN rfl];exact q _ s6
theorem i9:FnScope ["_law_script","_law_program_here","_law_kept","_law_function","_law_again"] ["_law_script"] (aW lQ):=by walk_at "s"
theorem ok_law (T:Txt K mg t):FnOk P w K mg base CX0 8 t.rV t.jO ["_law_script"] (sp_law K):=by
 have G_l_program:=x0 (P:=P) (w:=w) (base:=base) T;have G_plan:=AH (P:=P) (w:=w) (base:=base) T;have G_l_meets:=xF (P:=P) (w:=w) (base:=base) T;refine T.law.F.ok i9 (λvs H Q E h=>?_) (λcdv A outer s H vs Q E hr h=>?_)
 . obtain⟨_,_,rfl,_⟩:=h;rfl
 . obtain⟨a,ns,rfl,hS,h63,q⟩:=h;refine⟨_,(aC (@aK _ _ 1 _ _ _ _ i9.nd rfl (Or.inl rfl) (ah T.t8 G_l_program (hr.mono (by decide)) (a4 (pv 0) (a4 a6 a7 rfl) rfl)) (by rfl) (by walk_at "f")) (aC (@aK _ _ 2 _ _ _ _ i9.nd rfl (Or.inl rfl) (ci lP (by rfl) T.b_list gp (a4 (pv 1) a7 rfl)) (by rfl) (by walk_at "f")) (aC (cD PassesOwn.never rfl (cq (pv 2)) (ai (i:=3) i9.nd rfl (Or.inl rfl)) (@aE _ _ _ (aT (dU (cu (ah T.mG G_l_meets (hr.mono (by decide)) (a4 (pv 2) (a4 (aB aG (pv 3) a6 (λ_ _=>rfl)) (a4 (ah T.plan G_plan (hr.mono (by decide)) (a4 (pv 1) (a4 (aB aG (pv 3) a6 (λ_ _=>rfl)) a7 rfl) rfl)) a7 rfl) rfl) rfl)))) (@aE _ _ _ (@aQ _ _ _ _ bQ)) aX))) (aC (@aK _ _ 4 _ _ _ _ i9.nd rfl (Or.inl rfl) (ah T.plan G_plan (hr.mono (by decide)) (a4 (pv 1) (a4 (aB aG (aB aP (pv 2) (bO bN a6) (λ_ _=>rfl)) a6 (λ_ _=>rfl)) a7 rfl) rfl)) (by rfl) (by walk_at "f")) (aC (@bS _ _ _ _ (bT BR Bb Bc bi (pv 4) (a4 (aB aP (pv 4) a6 (λ_ _=>rfl)) a7 rfl)) (by rfl)) (@aE _ _ _ (@aQ _ _ _ _ (i8 (eB (yi hr.units) (pv 1) (pv 2) (aN _)) (iy (ah T.mG G_l_meets (hr.mono (by decide)) (a4 (pv 2) (a4 (aB aG (aB aP (pv 2) (bO bN a6) (λ_ _=>rfl)) a6 (λ_ _=>rfl)) (a4 (ah T.plan G_plan (hr.mono (by decide)) (a4 (pv 1) (a4 (aB aG (aB aP (pv 2) (bO bN a6) (λ_ _=>rfl)) a6 (λ_ _=>rfl)) a7 rfl) rfl)) a7 rfl) rfl) rfl))))))))))),?_⟩;refine⟨_,rfl,a,ns,rfl,hS,h63,λp H1 fs cs s1 hp0 hp hP=>⟨_,rfl,p,_,rfl,.inl hP.sq,λkp hkp=>?_⟩⟩;have n1:=a0.new (o:=.lst (fs.map λf=>V.ref f.a)) hkp;have hP2:=hP.mono n1;have hK:PgA K (upd H1 kp (.lst (fs.map λf=>V.ref f.a))) kp fs cs:=⟨aA.of a8,hP.ne,hP.len,hP2.at_,hP.ok,hP.cap⟩
   generalize upd H1 kp (.lst (fs.map λf=>V.ref f.a))=H2 at n1 hP2 hK ⊢;obtain⟨Pg_,CelA_,FnA_⟩:=lu hP2.at_ hP2.ok;have l4:=hP.len;have prA:∀{Hx:Hp},a0 H2 Hx->PrA K Hx p (fs.map Pf.fd):=λ{Hx} sx=>by refine⟨?_,λz=>hP.ne (Dr.mp z),by rw[BA]; omega,λg hg=>(FnA_ g hg).mono sx,Pg_⟩;rw[CN];exact sx.seq hP2.sq
   have bnd:∀f∈fs,(en (fs.map Pf.fd) 3 (az f.fd.name) []).length<=200:=λf hf=>by obtain⟨i,hi⟩:=Bp hf;exact Bk (Ab Pg_ CelA_ 2 i f.fd [] (by rw[BI,hi]; rfl) rfl (BG 2)) (hP.cap i (BC.mp hi).1)
   have fdm:∀f∈fs,f.fd∈fs.map Pf.fd:=λf hf=>Ba.mpr ⟨f,hf,rfl⟩;refine⟨_,rfl,kp,rfl,⟨_,hK.sq⟩,fP (xs:=fs.map λf=>V.ref f.a) (λi σ Hx=>a0 H2 Hx/\∃v3,σ=[some (.ref a),some (.ref p),some (.ref kp),v3,none]) ⟨a0.refl _,_,rfl⟩ ?_ ?_ ?_⟩
   . rintro i σ Hx hi ⟨sx,_⟩;exact sx.seq hK.sq
   . rintro i x σ Hx hx ⟨sx,v3,rfl⟩;obtain⟨f,hfi,hf,rfl⟩:=cb hx;have fA:=(hP2.at_ f hf).mono sx;exact⟨_,rfl,_,rfl,f.a,_,_,_,rfl,rfl,fA.it,at0,_,rfl,_,rfl,f.a,_,_,_,rfl,rfl,fA.it,at0,p,fs.map Pf.fd,f.fd,rfl,prA sx,fdm f hf,bnd f hf,λl H' bs ss s hl0 hl hss hpl=>⟨kp,l,fs,cs,f,bs,ss,rfl,hK.mono (sx.trans s),hf,aA.of hl,hss,hpl,λH'' s'=>⟨_,rfl,jN ⟨(sx.trans s).trans s',_,rfl⟩⟩⟩⟩
   . rintro σ Hx ⟨sx,v3,rfl⟩;have hlen:0<fs.length:=List.length_pos_iff.mpr hP.ne;have hfi:fs[fs.length - 1]?=some (fs[fs.length - 1]'(by omega)):=BP (by omega);generalize fs[fs.length - 1]'(by omega)=f at hfi;have hf:=BQ hfi;have al:aY (fs.map λf=>V.ref f.a) (-1)=some (.ref f.a):=jA (k:=1) (j:=fs.length - 1) (by rw[BI,hfi]; rfl) (by rw[BA]; omega) (by decide);have fA:=(hP2.at_ f hf).mono sx;refine⟨_,rfl,_,rfl,_,rfl,kp,_,_,_,rfl,rfl,sx.seq hK.sq,al,f.a,_,_,_,rfl,rfl,fA.it,at0,p,fs.map Pf.fd,f.fd,rfl,prA sx,fdm f hf,bnd f hf,λl H' bs ss s hl0 hl hss hpl=>?_⟩;obtain⟨b0,hb0⟩:∃b0,bs[0]?=some b0:=by
       have h1:=Paired.length hss;have h2:=hpl.hd;cases bs with
       | nil=>rw[Dq h1] at h2; cases h2
       | cons x r=>exact⟨x,rfl⟩
     have l200:bs.length<=200:=by rw[<- Paired.length hss]; exact hpl.len
     refine⟨_,rfl,.inl ⟨rfl,_,aA.of hl⟩,_,rfl,l,_,_,_,rfl,rfl,aA.of hl,bp (j:=0) (by rw[BI,hb0]; rfl),l,_,_,rfl,rfl,hl,c8 (by rw[BA]; omega),?_⟩;have s3:a0 Hx (upd H' l (.lst (bs.map V.ref++[V.ref b0]))):=s.upd hl0;generalize upd H' l (.lst (bs.map V.ref++[V.ref b0]))=H3 at s3 ⊢;have s23:=sx.trans s3;have hP3:=hP2.mono s23;have hK3:=hK.mono s23;obtain⟨ds,hly,hdd⟩:Bg.HasA K H3 4 (fs.map λf=>V.ref f.a):=Bg.HasA.of λx hx=>by obtain⟨g,hg,rfl⟩:=Ba.mp hx;obtain⟨i,hi⟩:=Bp hg;exact AO (hP3.at_ g hg) (hP3.ok.fn i g hi)
     have fA3:=hP3.at_ f hf;exact⟨_,rfl,_,rfl,yK (by decide) (av.list hly) (iU hP3.sq hdd) (iU hK3.sq hdd) ⟨true,rfl,ii ⟨_,rfl,_,rfl,_,rfl,kp,_,_,_,rfl,rfl,hK3.sq,al,f.a,_,_,_,rfl,rfl,fA3.it,at0,_,rfl,_,rfl,_,rfl,kp,_,_,_,rfl,rfl,hK3.sq,al,f.a,_,_,_,rfl,rfl,fA3.it,at0,p,fs.map Pf.fd,f.fd,rfl,prA s23,fdm f hf,bnd f hf,λl2 H4 bs2 ss2 s4 hl20 hl2 hss2 hpl2=>⟨kp,l2,fs,cs,f,bs2,ss2,rfl,hK3.mono s4,hf,aA.of hl2,hss2,hpl2,λH5 s5=>q _⟩⟩⟩⟩
end
end K51
namespace K51
open PySem L2
structure Fv where
 (oc kV dc pm cd ct:Value)
 (od an:Option Addr)
 sl:Array (Option Value)
abbrev Fv.fn (v:Fv) (n q:Str) (s:Stmt):=W.fnOf n q (c6 s) (bq s) (aW s) .none v.kV v.dc v.pm v.an v.cd v.ct
section
variable {K:W.Frag} {h:Heap} {mg:Str->Option Value} {f C:Addr} {n m q:Str} {s:Stmt} {oc kV dc pm cd ct:Value} {od an:Option Addr} {sl:Array (Option Value)} {v:Fv} {ps:List Str}
def FL (K:W.Frag) (f:Addr) (v:Fv) (n q:Str) (s:Stmt):Prop:=K.lookup f=some ⟨v.oc,v.od,.func (v.fn n q s),v.sl⟩/\W.codeIn K v.cd q=true/\W.keepIn K (.ref f)=true
def NF (K:W.Frag) (f:Addr) (v:Fv) (n:Str) (s:Stmt):Prop:=W.nsIn K mainGlobals n=some (some (.ref f))/\FL K f v n n s
def MF (K:W.Frag) (C f:Addr) (v:Fv) (m q:Str) (s:Stmt):Prop:=W.findIn K (.ref C) m=some (some (.ref f))/\W.isFn K (.ref f)=true/\FL K f v m q s
def NL (f:Str->Option (Option Value)):List Str->Prop
 | []=>True
 | n :: r=>f n=some none/\NL f r
theorem nf_mk (a:W.nsIn K mainGlobals n=some (some (.ref f))) (l:K.lookup f=some ⟨oc,od,.func (W.fnOf n n (c6 s) (bq s) (aW s) .none kV dc pm an cd ct),sl⟩) (c:W.codeIn K cd n=true) (k:W.keepIn K (.ref f)=true):NF K f ⟨oc,kV,dc,pm,cd,ct,od,an,sl⟩ n s:=⟨a,l,c,k⟩
theorem mf_mk (a:W.findIn K (.ref C) m=some (some (.ref f))) (i:W.isFn K (.ref f)=true) (l:K.lookup f=some ⟨oc,od,.func (W.fnOf m q (c6 s) (bq s) (aW s) .none kV dc pm an cd ct),sl⟩) (c:W.codeIn K cd q=true) (k:W.keepIn K (.ref f)=true):MF K C f ⟨oc,kV,dc,pm,cd,ct,od,an,sl⟩ m q s:=⟨a,i,l,c,k⟩
theorem nl_c {f:Str->Option (Option Value)} {l:List Str} (a:f n=some none) (r:NL f l):NL f (n :: l):=⟨a,r⟩
theorem bD (X:K.In h) (G:h.Ns mainGlobals mg) (e:NF K f v n s) (b:∀(kV doc pm:Value) (an:Option Addr) (cdv ct:Value) (us:List Value),us.length=ps.length->bindArgs (W.fnOf n n (c6 s) (bq s) (aW s) .none kV doc pm an cdv ct) ⟨us,[]⟩=pure (ps.zip us)):DefOk K mg n s ps f (v.fn n n s):=u3 X G e.1 e.2.1 e.2.2.1 e.2.2.2 b
theorem qi (e:MF K C f v m q s) (b:∀(kV doc pm:Value) (an:Option Addr) (cdv ct:Value) (us:List Value),us.length=ps.length->bindArgs (W.fnOf m q (c6 s) (bq s) (aW s) .none kV doc pm an cdv ct) ⟨us,[]⟩=pure (ps.zip us)):MetOk K C m q s ps f (v.fn m q s):=AE e.1 e.2.1 e.2.2.1 e.2.2.2.1 e.2.2.2.2 b
theorem wo (mk:W.makesIn K C=true) (kc:W.keepIn K (.ref C)=true) (e:MF K C f v "__init__" q s) (b:∀(kV doc pm:Value) (an:Option Addr) (cdv ct:Value) (us:List Value),us.length=ps.length->bindArgs (W.fnOf "__init__" q (c6 s) (bq s) (aW s) .none kV doc pm an cdv ct) ⟨us,[]⟩=pure (ps.zip us)):IniOk K C q s ps f (v.fn "__init__" q s):=xQ mk kc e.1 e.2.1 e.2.2.1 e.2.2.2.1 e.2.2.2.2 b
end
section
variable {p:List Value->Prop}
theorem uq0 (h:p []) (us:List Value) (hl:us.length=0):p us:=by
 cases us with
 | nil=>exact h
 | cons a r=>cases hl
theorem uq1 (h:∀a,p [a]) (us:List Value) (hl:us.length=1):p us:=by
 cases us with
 | nil=>cases hl
 | cons a r=>exact uq0 (p:=λv=>p (a :: v)) (h a) r (Nat.succ.inj hl)
theorem uq2 (h:∀a b,p [a,b]) (us:List Value) (hl:us.length=2):p us:=by
 cases us with
 | nil=>cases hl
 | cons a r=>exact uq1 (p:=λv=>p (a :: v)) (h a) r (Nat.succ.inj hl)
theorem uq3 (h:∀a b c,p [a,b,c]) (us:List Value) (hl:us.length=3):p us:=by
 cases us with
 | nil=>cases hl
 | cons a r=>exact uq2 (p:=λv=>p (a :: v)) (h a) r (Nat.succ.inj hl)
theorem uq4 (h:∀a b c d,p [a,b,c,d]) (us:List Value) (hl:us.length=4):p us:=by
 cases us with
 | nil=>cases hl
 | cons a r=>exact uq3 (p:=λv=>p (a :: v)) (h a) r (Nat.succ.inj hl)
end
local macro_rules | `(tactic| walk_at "u") => `(tactic| first | (exact λ _ _ _ _ _ _ => uq1 λ _ => rfl) | (exact λ _ _ _ _ _ _ => uq2 λ _ _ => rfl) | (exact λ _ _ _ _ _ _ => uq3 λ _ _ _ => rfl) | (exact λ _ _ _ _ _ _ => uq4 λ _ _ _ _ => rfl))
set_option maxHeartbeats 4000000 in
theorem txt_mk {K:W.Frag} {h:Heap} {mg:Str->Option Value} {C_Flows f0 f1 f2 f3 f4 f5 f6 f7 f8 f9 f10 f11 f12 f13 f14 f15 f16 f17 f18 f19 f20 f21 f22 f23 f24 f25 f26 f27 f28 f29 f30 f31 f32 f33 aT0 aD0:Addr} {y0 y1 y2 y3 y4 y5 y6 y7 y8 y9 y10 y11 y12 y13 y14 y15 y16 y17 y18 y19 y20 y21 y22 y23 y24 y25 y26 y27 y28 y29 y30 y31 y32 y33:Fv} (X:K.In h) (G:h.Ns mainGlobals mg)
   (aC_Flows:W.nsIn K mainGlobals "Flows"=some (some (.ref C_Flows))) (pg_Flows:W.plainGet K C_Flows Str.empty=true) (hd_Flows:W.hasDictIn K C_Flows=true) (po_Flows:W.plainOver K C_Flows=true) (sa_Flows:W.findIn K (.ref C_Flows) "__setattr__"=some (some (.builtin "object.__setattr__"))) (mk_Flows:W.makesIn K C_Flows=true) (kc_Flows:W.keepIn K (.ref C_Flows)=true)
   (n_Flows:NL (W.findIn K (.ref C_Flows)) ["last","number_of","folded_of","params_of","rows_of","names_in","ways_in"])
   (e0:NF K f0 y0 "names_of" lq)
   (e1:NF K f1 y1 "reads" jo)
   (e2:NF K f2 y2 "gives" l7)
   (e3:NF K f3 y3 "atoms_of" lV)
   (e4:NF K f4 y4 "each_once" m6)
   (e5:NF K f5 y5 "ways" jV)
   (e6:NF K f6 y6 "begins_of" l8)
   (e7:NF K f7 y7 "firsts_behind" jr)
   (e8:MF K C_Flows f8 y8 "__init__" "Flows.__init__" kC)
   (e9:MF K C_Flows f9 y9 "row_at" "Flows.row_at" ju)
   (e10:MF K C_Flows f10 y10 "ways_at" "Flows.ways_at" lY)
   (e11:NF K f11 y11 "moved" ko)
   (e12:NF K f12 y12 "plan" kj)
   (e13:NF K f13 y13 "plan_in" lK)
   (e14:NF K f14 y14 "stops_behind" jq)
   (e15:NF K f15 y15 "is_in_place" lD)
   (e16:NF K f16 y16 "_law_cell_at" jd)
   (e17:NF K f17 y17 "_law_names" ja)
   (e18:NF K f18 y18 "_law_digits" jm)
   (e19:NF K f19 y19 "_law_atom" kR)
   (e20:NF K f20 y20 "_law_row" kf)
   (e21:NF K f21 y21 "_law_rows" lC)
   (e22:NF K f22 y22 "_law_call" lE)
   (e23:NF K f23 y23 "_law_program" jp)
   (e24:NF K f24 y24 "_law_shut" lZ)
   (e25:NF K f25 y25 "_law_past" lH)
   (e26:NF K f26 y26 "_law_on" mB)
   (e27:NF K f27 y27 "_law_whole" kL)
   (e28:NF K f28 y28 "_law_rows_of" jT)
   (e29:NF K f29 y29 "_law_folds" ka)
   (e30:NF K f30 y30 "_law_due" kB)
   (e31:NF K f31 y31 "_law_formed" lm)
   (e32:NF K f32 y32 "_law_meets" jx)
   (e33:NF K f33 y33 "law" lQ)
   {tk0:Tok} (w0:W.nsIn K mainGlobals "MOST_STATIONS"=some (some (.int 200 tk0)))
   {tk1:Tok} (w1:W.nsIn K mainGlobals "MOST_FRAMES"=some (some (.int 3 tk1)))
   {odT0:Option Addr} {itT0:Array Value} {nT0:Nat} {slT0:Array (Option Value)} (q0:W.nsIn K mainGlobals "GIVING_KINDS"=some (some (.ref aT0))) (m0:K.lookup aT0=some ⟨.type "tuple",odT0,.seq itT0 nT0,slT0⟩) (v0:aI (K12.giving.map V.str) itT0.toList) (s0:itT0.size<=sizeLine)
   (qD0:W.nsIn K mainGlobals "ATOM_PLACES"=some (some (.ref aD0))) (mD0:PyProof.Rows.KTD.tabLook (j3 K) (λa=>K.lookup a) aD0 K12.tabl=true)
   (zz:NL (W.nsIn K mainGlobals) ["len","list","tuple","isinstance","range","enumerate","dict","str","int","bool","all","max","set"])
   : ∃t,Txt K mg t :=
 ⟨⟨C_Flows,f0,_,f1,_,f2,_,f3,_,f4,_,f5,_,f6,_,f7,_,f8,_,f9,_,f10,_,f11,_,f12,_,f13,_,f14,_,f15,_,f16,_,f17,_,f18,_,f19,_,f20,_,f21,_,f22,_,f23,_,f24,_,f25,_,f26,_,f27,_,f28,_,f29,_,f30,_,f31,_,f32,_,f33,_,aT0,aD0⟩,⟨bD X G e0 (by walk_at "u"),bD X G e1 (by walk_at "u"),bD X G e2 (by walk_at "u"),bD X G e3 (by walk_at "u"),bD X G e4 (by walk_at "u"),bD X G e5 (by walk_at "u"),bD X G e6 (by walk_at "u"),bD X G e7 (by walk_at "u"),wo mk_Flows kc_Flows e8 (by walk_at "u"),qi e9 (by walk_at "u"),qi e10 (by walk_at "u"),bD X G e11 (by walk_at "u"),bD X G e12 (by walk_at "u"),bD X G e13 (by walk_at "u"),bD X G e14 (by walk_at "u"),bD X G e15 (by walk_at "u"),bD X G e16 (by walk_at "u"),bD X G e17 (by walk_at "u"),bD X G e18 (by walk_at "u"),bD X G e19 (by walk_at "u"),bD X G e20 (by walk_at "u"),bD X G e21 (by walk_at "u"),bD X G e22 (by walk_at "u"),bD X G e23 (by walk_at "u"),bD X G e24 (by walk_at "u"),bD X G e25 (by walk_at "u"),bD X G e26 (by walk_at "u"),bD X G e27 (by walk_at "u"),bD X G e28 (by walk_at "u"),bD X G e29 (by walk_at "u"),bD X G e30 (by walk_at "u"),bD X G e31 (by walk_at "u"),bD X G e32 (by walk_at "u"),bD X G e33 (by walk_at "u"),⟨⟨pg_Flows,hd_Flows,po_Flows,sa_Flows⟩,W.mg_of X G aC_Flows⟩,n_Flows.1,n_Flows.2.1,n_Flows.2.2.1,n_Flows.2.2.2.1,n_Flows.2.2.2.2.1,n_Flows.2.2.2.2.2.1,n_Flows.2.2.2.2.2.2.1,⟨_,W.mg_of X G w0⟩,⟨_,W.mg_of X G w1⟩,W.mg_of X G q0,λH=>.inr ⟨_,itT0,nT0,m0,rfl,rfl,s0,v0⟩,W.mg_of X G qD0,zk mD0,W.mg_none_of X G zz.1,W.mg_none_of X G zz.2.1,W.mg_none_of X G zz.2.2.1,W.mg_none_of X G zz.2.2.2.1,W.mg_none_of X G zz.2.2.2.2.1,W.mg_none_of X G zz.2.2.2.2.2.1,W.mg_none_of X G zz.2.2.2.2.2.2.1,W.mg_none_of X G zz.2.2.2.2.2.2.2.1,W.mg_none_of X G zz.2.2.2.2.2.2.2.2.1,W.mg_none_of X G zz.2.2.2.2.2.2.2.2.2.1,W.mg_none_of X G zz.2.2.2.2.2.2.2.2.2.2.1,W.mg_none_of X G zz.2.2.2.2.2.2.2.2.2.2.2.1,W.mg_none_of X G zz.2.2.2.2.2.2.2.2.2.2.2.2.1,λs u=>.of_eq rfl⟩⟩
end K51
open PySem PySem.W PyProof.Rows
set_option maxRecDepth 100000 in
set_option maxHeartbeats 0 in
theorem PySem.Challenge.cw_stopglass_k51_stations_holds : PySem.Challenge.rw_stopglass_k51_stations.Holds := by
 refine Hd.pk.2 ?_
 unfold Hd.pk
 dsimp only
 k_fill
 refine L2.walk_ofK (l:=PySem.Challenge.rw_stopglass_k51_stations) (n:=63) (k:=8) (x:="_law_script") (CX:=L2.CX0) (sp:=K51.sp_law) rfl (by decide) rfl ⟨rfl,by decide,by decide⟩ (λw h Y=>PySem.W.kIn_of Y) ?F ?S ?C
 case F =>
   intro w mg fa h KX G hmg;have T:∃t,K51.Txt (L2.KOf KX) mg t:=by
     dsimp only[L2.KOf];apply K51.txt_mk KX G
     (iterate 44 (first|(apply K51.nf_mk <;> k_is)|(apply K51.mf_mk <;> k_is)|((repeat refine K51.nl_c (by k_is) ?_); exact trivial)|k_is))
     (iterate 2 k_is)
     . (repeat (first|exact .nil|refine .cons ⟨_,rfl⟩ ?_))
     . decide
     . k_is
     . kernel_rfl
     (repeat refine K51.nl_c (by k_is) ?_)
     exact trivial
   obtain⟨t,T⟩:=T;have e0:=hmg.symm.trans T.law.g;cases e0;exact⟨t.jO,T.bl,λbase kb nb=>K51.ok_law T⟩
 case S=>exact λK H a ns hl hO hS=>⟨a,ns,rfl,hS,hl,λ_=>rfl⟩
 case C=>exact λ_ _ _ _ z=>z
