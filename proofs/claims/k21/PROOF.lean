import PyProof.Rows.All
import Wide.All
import OpenK.AllK
import Wide.FinOn
import HandS.ForMost
import HandS.Evl
import HandS.Wide
import HandS.WideMore
import HandS.Gcd
import HandS.IsInst
import HandS.SortInts
import HandS.Rev
import HandS.ForExc
import HandS.ExcIs
import HandS.ExcValue
import HandS.Walk
import HandS.SortRule
import HandS.DictTup
import HandS.Conv
import KE.KDictCopyH
import KE.KDictSum
import HandS.TupLe
import HandS.Zip
import HandS.Deep
import HandS.RaiseMore
import KE.SortData
import HandS.TupSets
import HandS.SetFor
import PyProof.EqAt
import HandS.Iter
import HandS.Dict
import HandS.RevRange
import HandS.More
import PyProof.EnumMake
import PyProof.Draws
import HandS.List
import HandS.SetBool
import HandS.Strs
import PySem.Challenge.RW_rootwheel_k21_others_looked_at
set_option Elab.async false
set_option linter.all false
set_option maxRecDepth 100000
set_option maxHeartbeats 4000000
/-! What every proof of ours leans on: calls by a promise that stands for a name, rules of ours, words for the readings. -/
namespace Kp
open PySem PySem.Spec PyProof.Rows L2 Evl

/-! ### the names of Python that a text leaves as they are -/
structure Nb (mg : Str → Option Value) : Prop where
  len : mg "len" = none
  range : mg "range" = none
  max : mg "max" = none
  list : mg "list" = none
  int : mg "int" = none
  bool : mg "bool" = none
  tuple : mg "tuple" = none
  isinstance : mg "isinstance" = none
  enumerate : mg "enumerate" = none
  reversed : mg "reversed" = none
  sorted : mg "sorted" = none
  zip : mg "zip" = none
  all : mg "all" = none
  str : mg "str" = none
  min : mg "min" = none
  sum : mg "sum" = none
  any : mg "any" = none
  set : mg "set" = none
  abs : mg "abs" = none
  dict : mg "dict" = none

/-! ### a def by its name -/
/-- by the name x the module holds a def that keeps the promise sp, at the level k -/
def Cal (P : Program) (w : World) (K : PySem.W.Frag) (mg : Str → Option Value) (base : Heap) (CX : CXT) (x : Str) (k : Nat) (ps : List Str) (sp : Sp) : Prop :=
  ∃ (f : Addr) (fd : FuncData), FnOk P w K mg base CX k f fd ps sp ∧ mg x = some (.ref f) ∧ PySem.W.keepIn K (.ref f) = true ∧ Binds K fd ps []
/-- by the name x the module holds the def that st writes -/
def Dfn (K : PySem.W.Frag) (mg : Str → Option Value) (x : Str) (ps : List Str) (st : Stmt) : Prop :=
  ∃ (f : Addr) (fd : FuncData), Fun K x x st f fd ∧ mg x = some (.ref f) ∧ Binds K fd ps []
section
variable {P : Program} {w : World} {K : PySem.W.Frag} {mg : Str → Option Value} {base : Heap} {CX : CXT} {x : Str} {k : Nat} {ps N : List Str} {sp : Sp} {st : Stmt}
theorem Dfn.cal (d : Dfn K mg x ps st) (S : FnScope N ps (defScope st)) (len : ∀ vs H Q E, sp vs H Q E → vs.length = ps.length)
    (hbody : ∀ (f : Addr) (cdv : Value) (A : Around) (outer : List Env) (s : Shared) (H : Hp) (vs : List V) (Q : VK) (E : XK), Room k (A.deeper (envOfC x (defScope st) s.heap.objs.size f cdv)) → sp vs H Q E →
      ∃ t, PSs (cxOf CX0 P w K mg base N x (defScope st) f cdv A outer s H E).nox (defBody st) t ∧ t { nx := fun _ H' => Q .non H', rt := Q } (start N vs) H) : Cal P w K mg base CX0 x (k + 1) ps sp := by
  obtain ⟨f, fd, F, g, b⟩ := d
  exact ⟨f, fd, F.ok S len (hbody f), g, F.kp, b⟩
end
section
variable {X : Cx} {CX : CXT} {k : Nat} {ps : List Str} {sp : Sp} {E : XK} {x : Str} {p pos : Pos} {e : Expr} {es : List Expr} {t : TA}
theorem pe_cal (c : Cal X.prog X.w X.K X.mg X.base CX x k ps sp) (hr : Room k X.A) (hg : Gl X x) (hx : Passes CX X E)
    (ha : PA X (e :: es) t) (hdb : (x == ("__debug__" : Str)) = false := by decide) (he : starEach (e :: es) X.env = (false, eval e X.env) :: starEach es X.env := by rfl) (hpl : (backTo pos (starEach es X.env)).any (·.1) = false := by rfl) :
    PE X (.Call (.Name x p) (e :: es) [] pos) (tCall sp [] E t) := by
  obtain ⟨f, fd, F, g, kp, b⟩ := c
  exact pe_call F hr hg g kp b .nil hx ha hdb he hpl
end

/-! ### rules of ours -/
def CPowW (i j : Int) : Prop := 0 ≤ j ∧ (Builtin.Int.intBits i : Int) * j ≤ 2 ^ 27
section
variable {X : Cx}
theorem op_powW : OpR X (binaryOp .Pow) (rI CPowW fun i j => .int (i ^ j.toNat)) := opI fun _ _ _ _ _ _ _ hc q => pow_int hc.1 hc.2 q
/-- what stands at a place of a list, for o[i] op= e -/
def rGetL (K : PySem.W.Frag) : V → V → Hp → VK → Prop := fun o i H Q => ∃ p xs j v, o = .ref p ∧ i = .int ((j : Nat) : Int) ∧ SqL K H p xs ∧ xs[j]? = some v ∧ Q v H
theorem get_list : PGet X (rGetL X.K) := by
  intro pins s σ H o i ov iv Q I ro ri h
  obtain ⟨p, xs, j, z, rfl, rfl, hq, he, q⟩ := h
  cases ro
  obtain ⟨t, rfl⟩ := ri
  obtain ⟨its, r, pl, hz⟩ := I.list hq
  obtain ⟨w, ew, rw'⟩ := r.get he
  have hj : j < xs.length := (List.getElem?_eq_some_iff.mp he).1
  have hn := line63
  have hl := r.length
  exact wpAny_getItem_list pl.isList (by omega) (by omega) (by simpa using ew) ⟨z, H, I, rw', q⟩
theorem pip_of {op : Operator} {r : R2} (ho : OpR X (inplaceOp op) r) : PIp X op r := fun pins s σ H x y v u Q I rx ry h => ho pins s σ H x y v u Q I rx ry h
/-- math.isqrt -/
def rIsqrt : List V → Hp → VK → Prop := fun vs H Q => ∃ a : Int, vs = [.int a] ∧ 0 ≤ a ∧ a < 2 ^ 64 ∧ Q (.int ((Float64.isqrt a.toNat : Nat) : Int)) H
theorem cr_isqrt : CallR X (.builtin "math.isqrt") rIsqrt := by
  intro pins s σ H vs us Q I r h
  obtain ⟨a, rfl, h0, h1, q⟩ := h
  obtain ⟨u, rfl, t, rfl⟩ := vals1 r
  exact PySem.W.mg_isqrt h0 h1 ⟨.int _, H, I.tok _, ⟨_, rfl⟩, q⟩
end

/-! ### what evaluates to what, by operators -/
section
variable {K : PySem.W.Frag} {σ : L2.St} {H : Hp} {ta tb te : TE} {i j : Int}
theorem ev_add (ha : Ev ta σ H (.int i)) (hb : Ev tb σ H (.int j)) : Ev (tOp (rI0 fun i j => .int (i + j)) ta tb) σ H (.int (i + j)) := ev_op ha hb rv_I0
theorem ev_sub (ha : Ev ta σ H (.int i)) (hb : Ev tb σ H (.int j)) : Ev (tOp (rI0 fun i j => .int (i - j)) ta tb) σ H (.int (i - j)) := ev_op ha hb rv_I0
theorem ev_mul (ha : Ev ta σ H (.int i)) (hb : Ev tb σ H (.int j)) (h : CMulW i j) : Ev (tOp (rI CMulW fun i j => .int (i * j)) ta tb) σ H (.int (i * j)) := ev_op ha hb (rv_I h)
theorem ev_div (ha : Ev ta σ H (.int i)) (hb : Ev tb σ H (.int j)) (h : CDivW i j) : Ev (tOp (rI CDivW fun i j => .int (i / j)) ta tb) σ H (.int (i / j)) := ev_op ha hb (rv_I h)
theorem ev_mod (ha : Ev ta σ H (.int i)) (hb : Ev tb σ H (.int j)) (h : 0 < j) : Ev (tOp (rI (fun _ j => 0 < j) fun i j => .int (i % j)) ta tb) σ H (.int (i % j)) := ev_op ha hb (rv_I (C := fun _ j => 0 < j) h)
theorem ev_pow {c : Int} (ha : Ev ta σ H (.int i)) (hb : Ev tb σ H (.int j)) (h : CPowW i j) (hc : i ^ j.toNat = c) : Ev (tOp (rI CPowW fun i j => .int (i ^ j.toNat)) ta tb) σ H (.int c) := by
  rw [← hc]
  exact ev_op ha hb (rv_I h)
theorem ev_neg (ha : Ev ta σ H (.int i)) : Ev (tUn (rU fun i => .int (-i)) ta) σ H (.int (-i)) := ev_un ha ru_neg
theorem ev_lt (ha : Ev ta σ H (.int i)) (hb : Ev tb σ H (.int j)) : Ev (tOp (rI0 fun i j => .bl (decide (i < j))) ta tb) σ H (.bl (decide (i < j))) := ev_op ha hb rv_I0
theorem ev_le (ha : Ev ta σ H (.int i)) (hb : Ev tb σ H (.int j)) : Ev (tOp (rI0 fun i j => .bl (decide (i ≤ j))) ta tb) σ H (.bl (decide (i ≤ j))) := ev_op ha hb rv_I0
theorem ev_gt (ha : Ev ta σ H (.int i)) (hb : Ev tb σ H (.int j)) : Ev (tOp (rI0 fun i j => .bl (decide (j < i))) ta tb) σ H (.bl (decide (j < i))) := ev_op ha hb rv_I0
theorem ev_ge (ha : Ev ta σ H (.int i)) (hb : Ev tb σ H (.int j)) : Ev (tOp (rI0 fun i j => .bl (decide (j ≤ i))) ta tb) σ H (.bl (decide (j ≤ i))) := ev_op ha hb rv_I0
theorem dec_int (i j : Int) : decide (V.int i = V.int j) = decide (i = j) := decide_eq_decide.mpr ⟨V.int.inj, fun e => by rw [e]⟩
theorem ev_eqI (ha : Ev ta σ H (.int i)) (hb : Ev tb σ H (.int j)) : Ev (tOp rEq ta tb) σ H (.bl (decide (i = j))) := by
  rw [← dec_int]
  exact ev_op ha hb (rv_eq rfl)
theorem ev_neI (ha : Ev ta σ H (.int i)) (hb : Ev tb σ H (.int j)) : Ev (tOp rNe ta tb) σ H (.bl (!decide (i = j))) := by
  rw [← dec_int]
  exact ev_op ha hb (rv_ne rfl)
theorem ev_isN {v : V} (ha : Ev ta σ H v) : Ev (tOp (fun x y H Q => y = .non ∧ Q (.bl (decide (x = .non))) H) ta (tC .non)) σ H (.bl (decide (v = .non))) := ev_op ha ev_c fun H1 _ _ q => ⟨rfl, q H1 (Ex.refl H1)⟩
theorem ev_notN {v : V} (ha : Ev ta σ H v) : Ev (tOp (fun x y H Q => y = .non ∧ Q (.bl (!decide (x = .non))) H) ta (tC .non)) σ H (.bl (!decide (v = .non))) := ev_op ha ev_c fun H1 _ _ q => ⟨rfl, q H1 (Ex.refl H1)⟩
/-- numbers of some hundred bits -/
theorem mulW {i j : Int} (hi : i.natAbs < 2 ^ 300) (hj : j.natAbs < 2 ^ 300) : CMulW i j := wide_mul hi hj (by decide) (by decide) (by decide)
theorem divW {i j : Int} (h : 0 < j) (hj : j < 2 ^ 300) : CDivW i j := wide_div (b := 300) h (by omega) (by decide) (by decide)
/-- no reading is this: a goal that takes it has not been told yet which reading it speaks of -/
def tProbe : TE := fun _ _ _ => False
def tProbeT : TT := fun _ _ _ => False
def tProbeA : TA := fun _ _ _ => False
theorem probe {v : V} (h : False) : Ev tProbe σ H v := h.elim
theorem probeT {b : Bool} (h : False) : EvT tProbeT σ H b := h.elim
theorem probeA {vs : List V} (h : False) : EvA tProbeA σ H vs := h.elim
/-- a call's promise: one value -/
theorem ev_cal {sp : Sp} {vs : List V} {E : XK} {ta : TA} {z : V} (h : EvA ta σ H vs) (hs : ∀ H1, Ex H H1 → ∀ Q : VK, RetV z H1 Q → ∀ E : XK, sp vs H1 Q E) : Ev (tCall sp [] E ta) σ H z := fun H1 e Q q =>
  h H1 e _ fun H2 e2 => by
    show sp (vs ++ []) H2 Q E
    rw [List.append_nil]
    exact hs H2 (e.trans e2) Q (fun H3 e3 => q H3 (e2.trans e3)) E
/-- one new list -/
theorem el_cal {sp : Sp} {vs xs : List V} {E : XK} {ta : TA} (h : EvA ta σ H vs) (hs : ∀ H1, Ex H H1 → ∀ Q : VK, RetL xs H1 Q → ∀ E : XK, sp vs H1 Q E) : EvL (tCall sp [] E ta) σ H xs := fun H1 e Q q =>
  h H1 e _ fun H2 e2 => by
    show sp (vs ++ []) H2 Q E
    rw [List.append_nil]
    exact hs H2 (e.trans e2) Q (fun p H3 hp e3 h3 => q p H3 (fresh_back e2 hp) (e2.trans e3) h3) E
end
end Kp

/-! Data as a whole; lists of pairs; comprehensions; new lists. -/
namespace Kp
open PySem PySem.Spec PyProof.Rows L2 Evl

/-! ### == of data without truths, texts and dicts -/
mutual
def okD : PyData → Bool
  | .none => true
  | .int _ => true
  | .list xs => okA xs
  | .tuple xs => okA xs
  | .bool _ => false
  | .str _ => false
  | .dict _ => false
def okA : List PyData → Bool
  | [] => true
  | x :: xs => okD x && okA xs
end
mutual
theorem eqv_ok : ∀ d e : PyData, okD d = true → okD e = true → (PyData.eqv d e = true ↔ d = e)
  | .none, e, _, h => by cases e <;> simp_all [okD, PyData.eqv]
  | .int i, e, _, h => by cases e <;> simp_all [okD, PyData.eqv]
  | .list xs, e, h1, h => by
    cases e with
    | list ys =>
      unfold okD at h1 h
      unfold PyData.eqv
      rw [eqvA_ok xs ys h1 h]
      exact ⟨fun e => by rw [e], PyData.list.inj⟩
    | _ => simp_all [okD, PyData.eqv]
  | .tuple xs, e, h1, h => by
    cases e with
    | tuple ys =>
      unfold okD at h1 h
      unfold PyData.eqv
      rw [eqvA_ok xs ys h1 h]
      exact ⟨fun e => by rw [e], PyData.tuple.inj⟩
    | _ => simp_all [okD, PyData.eqv]
  | .bool _, _, h, _ => by simp [okD] at h
  | .str _, _, h, _ => by simp [okD] at h
  | .dict _, _, h, _ => by simp [okD] at h
theorem eqvA_ok : ∀ ds es : List PyData, okA ds = true → okA es = true → (PyData.eqvAll ds es = true ↔ ds = es)
  | [], [], _, _ => by simp [PyData.eqvAll]
  | [], _ :: _, _, _ => by simp [PyData.eqvAll]
  | _ :: _, [], _, _ => by simp [PyData.eqvAll]
  | d :: ds, e :: es, h1, h2 => by
    unfold okA at h1 h2
    rw [Bool.and_eq_true] at h1 h2
    unfold PyData.eqvAll
    rw [Bool.and_eq_true, eqv_ok d e h1.1 h2.1, eqvA_ok ds es h1.2 h2.2]
    simp
end
theorem eqv_dec {α : Type} [DecidableEq α] (enc : α → PyData) (ok : ∀ a, okD (enc a) = true) (inj : ∀ a b, enc a = enc b → a = b) (a b : α) : PyData.eqv (enc a) (enc b) = decide (a = b) := by
  have h := eqv_ok (enc a) (enc b) (ok a) (ok b)
  by_cases e : a = b
  · subst e
    rw [decide_eq_true rfl]
    exact h.mpr rfl
  · rw [decide_eq_false e]
    cases q : PyData.eqv (enc a) (enc b) with
    | false => rfl
    | true => exact absurd (inj _ _ (h.mp q)) e
theorem okA_map {α : Type} (f : α → PyData) (h : ∀ a, okD (f a) = true) : ∀ l : List α, okA (l.map f) = true
  | [] => rfl
  | a :: l => by
    rw [List.map_cons]
    unfold okA
    rw [h a, okA_map f h l]
    rfl
theorem lay_map {α : Type} (f : α → PyData) (h : ∀ a, PyData.canLay0 (f a) = true) : ∀ l : List α, PyData.canLayAll0 (l.map f) = true
  | [] => rfl
  | a :: l => by
    rw [List.map_cons]
    unfold PyData.canLayAll0
    rw [h a, lay_map f h l]
    rfl
theorem dep_map {α : Type} (f : α → PyData) (k : Nat) (h : ∀ a, PyData.depth (f a) ≤ k) : ∀ l : List α, PyData.depthAll (l.map f) ≤ k
  | [] => Nat.zero_le _
  | a :: l => by
    rw [List.map_cons]
    unfold PyData.depthAll
    exact Nat.max_le.mpr ⟨h a, dep_map f k h l⟩
theorem shaped_of {d : PyData} (h : PyData.canLay0 d = true) (k : PyData.depth d ≤ 64) : SeqAt.shaped d = true := by
  unfold SeqAt.shaped
  rw [h, decide_eq_true k]
  rfl
/-- a list of ints, a pair of ints, a list of such -/
def dI (ns : List Int) : PyData := .list (ns.map .int)
def dP (r : Int × Int) : PyData := .tuple [.int r.1, .int r.2]
def dR (rows : List (Int × Int)) : PyData := .list (rows.map dP)
theorem map_inj {α β : Type} {f : α → β} (h : ∀ a b, f a = f b → a = b) : ∀ l m : List α, l.map f = m.map f → l = m
  | [], [], _ => rfl
  | [], _ :: _, e => by simp at e
  | _ :: _, [], e => by simp at e
  | a :: l, b :: m, e => by
    rw [List.map_cons, List.map_cons] at e
    injection e with e1 e2
    rw [h _ _ e1, map_inj h l m e2]
theorem dI_sh (ns : List Int) : SeqAt.shaped (dI ns) = true := shaped_of (lay_map _ (fun _ => rfl) ns) (Nat.le_trans (Nat.succ_le_succ (dep_map PyData.int 0 (fun _ => Nat.le_refl 0) ns)) (by decide))
theorem dR_sh (rows : List (Int × Int)) : SeqAt.shaped (dR rows) = true := shaped_of (lay_map _ (fun _ => rfl) rows) (Nat.le_trans (Nat.succ_le_succ (dep_map dP 1 (fun _ => Nat.le_refl 1) rows)) (by decide))
theorem dI_eqv (ns ms : List Int) : PyData.eqv (dI ns) (dI ms) = decide (ns = ms) := eqv_dec dI (fun l => by unfold dI okD; exact okA_map _ (fun _ => rfl) l) (fun a b e => map_inj (fun _ _ q => PyData.int.inj q) a b (PyData.list.inj e)) ns ms
theorem dP_inj (a b : Int × Int) (e : dP a = dP b) : a = b := by
  obtain ⟨a1, a2⟩ := a
  obtain ⟨b1, b2⟩ := b
  simp [dP] at e
  rw [e.1, e.2]
theorem dR_eqv (rs qs : List (Int × Int)) : PyData.eqv (dR rs) (dR qs) = decide (rs = qs) := eqv_dec dR (fun l => by unfold dR okD; exact okA_map _ (fun _ => rfl) l) (fun a b e => map_inj dP_inj a b (PyData.list.inj e)) rs qs

section
variable {K : PySem.W.Frag} {σ : L2.St} {H H' : Hp} {ta tb te tl : TE} {t : TT} {x y z v : V} {D : Ends} {tz : TS} {vs : List Nat}
theorem dpa_ints (K : PySem.W.Frag) (H : Hp) : ∀ ns : List Int, DpAll K H (ns.map V.int) (ns.map PyData.int)
  | [] => .nil
  | n :: ns => .cons (.int n) (dpa_ints K H ns)
theorem dp_ints {a : Addr} {ns : List Int} (h : SqL K H a (ns.map V.int)) : Dp K H (.ref a) (dI ns) := .lst h (dpa_ints K H ns)

/-! ### lists of pairs -/
/-- each item a tuple of the pair's two ints -/
def Prs (K : PySem.W.Frag) (H : Hp) : List V → List (Int × Int) → Prop := Paired fun v r => ∃ t, v = .ref t ∧ SqT K H t [.int r.1, .int r.2]
theorem Prs.mono {xs : List V} {rows : List (Int × Int)} (e : Ex H H') (h : Prs K H xs rows) : Prs K H' xs rows := Paired.mapP h fun v r ⟨t, q, s⟩ => ⟨t, q, ex_t e s⟩
theorem sqt_upd {l t : Addr} {xs ys ts : List V} (hl : H l = some (.lst xs)) (h : SqT K H t ts) : SqT K (upd H l (.lst ys)) t ts := by
  rcases h with h | h
  · refine .inl ?_
    rcases h with h | ⟨o, h⟩
    · refine .inl ?_
      rw [upd_ne (ne_of h hl (by intro z; cases z))]
      exact h
    · refine .inr ⟨o, ?_⟩
      rw [upd_ne (ne_of h hl (by intro z; cases z))]
      exact h
  · exact .inr h
theorem Prs.upd {l : Addr} {us ys xs : List V} {rows : List (Int × Int)} (hl : H l = some (.lst us)) (h : Prs K H xs rows) : Prs K (upd H l (.lst ys)) xs rows := Paired.mapP h fun v r ⟨t, q, s⟩ => ⟨t, q, sqt_upd hl s⟩
theorem Prs.snoc {xs : List V} {rows : List (Int × Int)} {t : Addr} {a b : Int} (h : Prs K H xs rows) (ht : SqT K H t [.int a, .int b]) : Prs K H (xs ++ [.ref t]) (rows ++ [(a, b)]) := Paired.snoc h ⟨t, rfl, ht⟩
theorem prs_get : ∀ {xs : List V} {rows : List (Int × Int)} {i : Nat} {x : V}, Prs K H xs rows → xs[i]? = some x → ∃ r t, rows[i]? = some r ∧ x = .ref t ∧ SqT K H t [.int r.1, .int r.2]
  | _, _, _, _, .nil, h => by simp at h
  | _, _, 0, _, .cons (b := r) q _, h => by
    obtain ⟨t, q1, q2⟩ := q
    have e := Option.some.inj h
    exact ⟨r, t, rfl, e ▸ q1, q2⟩
  | _, _, i + 1, _, .cons _ q, h => prs_get (i := i) q h
theorem dpa_prs : ∀ {xs : List V} {rows : List (Int × Int)}, Prs K H xs rows → DpAll K H xs (rows.map dP)
  | _, _, .nil => .nil
  | _, _, .cons q r => by
    obtain ⟨t, rfl, q2⟩ := q
    exact .cons (.tup q2 (.cons (.int _) (.cons (.int _) .nil))) (dpa_prs r)
theorem dp_prs {a : Addr} {xs : List V} {rows : List (Int × Int)} (h : SqL K H a xs) (p : Prs K H xs rows) : Dp K H (.ref a) (dR rows) := .lst h (dpa_prs p)

/-! ### == and != -/
theorem rv_eqD {d e : PyData} {b : Bool} (h1 : Dp K H x d) (h2 : Dp K H y e) (m1 : ∀ H1, Ex H H1 → Dp K H1 x d) (m2 : ∀ H1, Ex H H1 → Dp K H1 y e) (s1 : SeqAt.shaped d = true) (s2 : SeqAt.shaped e = true) (hb : PyData.eqv d e = b) : RV (rEqD K) x y H (.bl b) := by
  subst hb
  exact fun H1 e1 Q q => ⟨d, e, m1 H1 e1, m2 H1 e1, s1, s2, q H1 (Ex.refl H1)⟩
theorem rv_neD {d e : PyData} {b : Bool} (m1 : ∀ H1, Ex H H1 → Dp K H1 x d) (m2 : ∀ H1, Ex H H1 → Dp K H1 y e) (s1 : SeqAt.shaped d = true) (s2 : SeqAt.shaped e = true) (hb : (!PyData.eqv d e) = b) : RV (rNeD K) x y H (.bl b) := by
  subst hb
  exact fun H1 e1 Q q => ⟨d, e, m1 H1 e1, m2 H1 e1, s1, s2, q H1 (Ex.refl H1)⟩
theorem rv_eqI {p q : Addr} {ns ms : List Int} (h1 : SqL K H p (ns.map V.int)) (h2 : SqL K H q (ms.map V.int)) : RV (rEqD K) (.ref p) (.ref q) H (.bl (decide (ns = ms))) :=
  rv_eqD (dp_ints h1) (dp_ints h2) (fun _ e => dp_ints (ex_l e h1)) (fun _ e => dp_ints (ex_l e h2)) (dI_sh _) (dI_sh _) (dI_eqv _ _)
theorem rv_neI {p q : Addr} {ns ms : List Int} (h1 : SqL K H p (ns.map V.int)) (h2 : SqL K H q (ms.map V.int)) : RV (rNeD K) (.ref p) (.ref q) H (.bl (!decide (ns = ms))) :=
  rv_neD (fun _ e => dp_ints (ex_l e h1)) (fun _ e => dp_ints (ex_l e h2)) (dI_sh _) (dI_sh _) (by rw [dI_eqv])
theorem rv_neR {p q : Addr} {xs ys : List V} {rs qs : List (Int × Int)} (h1 : SqL K H p xs) (p1 : Prs K H xs rs) (h2 : SqL K H q ys) (p2 : Prs K H ys qs) : RV (rNeD K) (.ref p) (.ref q) H (.bl (!decide (rs = qs))) :=
  rv_neD (fun _ e => dp_prs (ex_l e h1) (p1.mono e)) (fun _ e => dp_prs (ex_l e h2) (p2.mono e)) (dR_sh _) (dR_sh _) (by rw [dR_eqv])

/-! ### new lists -/
theorem el_is {xs ys : List V} (h : EvL te σ H xs) (e : xs = ys) : EvL te σ H ys := by
  rw [← e]
  exact h
theorem el_cat {xs ys : List V} (ha : EvL ta σ H xs) (hb : EvL tb σ H ys) (hz : xs.length + ys.length ≤ 100000) : EvL (tOp rCat ta tb) σ H (xs ++ ys) := fun H1 e Q q =>
  ha H1 e _ fun p H2 np e2 hp => hb H2 (e.trans e2) _ fun r H3 nr e3 hr => ⟨p, r, xs, ys, rfl, rfl, e3 p _ hp, hr, sz_of hz, fun l hl => q l _ (fresh_back (e2.trans e3) hl) ((e2.trans e3).trans (Ex.new hl)) upd_same⟩
theorem el_rep {k : Int} (ha : EvL ta σ H [x]) (hb : Ev tb σ H (.int k)) (h0 : 0 ≤ k) (hz : k ≤ 100000) : EvL (tOp rRep ta tb) σ H (List.replicate k.toNat x) := fun H1 e Q q =>
  ha H1 e _ fun p H2 np e2 hp => hb H2 (e.trans e2) _ fun H3 e3 => ⟨p, k, [x], rfl, rfl, e3 p _ hp, by omega, by omega, sz_of (by rw [List.length_singleton]; omega), fun l hl => q l _ (fresh_back (e2.trans e3) hl) ((e2.trans e3).trans (Ex.new hl)) (by
    rw [upd_same]
    congr 2
    generalize k.toNat = n
    induction n with
    | zero => rfl
    | succ n ih => rw [List.replicate_succ, List.flatten_cons, ih, List.replicate_succ]; rfl)⟩
/-- an item of a new list of ints -/
theorem ev_ixN {ns : List Int} {i : Int} (ha : EvL ta σ H (ns.map V.int)) (hb : ∀ H1, Ex H H1 → Ev tb σ H1 (.int i)) (h0 : 0 ≤ i) (h1 : i < (ns.length : Int)) : Ev (tOp (rIxL K) ta tb) σ H (.int (ns.getD i.toNat 0)) :=
  ev_opL1 ha hb fun p H1 hp _ => rv_ixL (sq_of hp) (by
    obtain ⟨j, rfl⟩ := Int.eq_ofNat_of_zero_le h0
    refine atI_nat ?_
    have hj : j < ns.length := by omega
    rw [List.getElem?_map, List.getElem?_eq_getElem hj, Int.toNat_natCast, List.getD_eq_getElem?_getD, List.getElem?_eq_getElem hj]
    rfl)
/-- an append to a new list that is thrown away -/
theorem s_appN {xs : List V} (h : EvL ta σ H xs) (hv : ∀ H1, Ex H H1 → Ev te σ H1 v) (hz : xs.length < 100000) (k : ∀ H1, Ex H H1 → D.nx σ H1) : tDrop (tBM K "list" rAppend ta (tCons te tNil)) D σ H := h H (Ex.refl H) _ fun p H1 np e1 hp =>
  ⟨Or.inl ⟨rfl, xs, sq_of hp⟩, hv H1 e1 H1 (Ex.refl _) _ fun H2 e2 => ⟨p, xs, v, rfl, rfl, e2 p _ hp, sz_lt hz, k _ (Ex.mut (e1.trans e2) np)⟩⟩
theorem q_appN {xs : List V} (h : EvL ta σ H xs) (hv : ∀ H1, Ex H H1 → Ev te σ H1 v) (hz : xs.length < 100000) (k : ∀ H1, Ex H H1 → tz D σ H1) : tSeq (tDrop (tBM K "list" rAppend ta (tCons te tNil))) tz D σ H := s_appN (D := { D with nx := tz D }) h hv hz k
theorem cut_mem {xs : List V} {lo hi : Option Int} {x : V} (h : x ∈ cutV xs lo hi) : x ∈ xs := List.mem_of_mem_drop (List.mem_of_mem_take h)
theorem int_of_mem {ns : List Int} {x : V} (h : x ∈ ns.map V.int) : ∃ i, x = .int i := by
  obtain ⟨i, _, rfl⟩ := List.mem_map.mp h
  exact ⟨i, rfl⟩

/-! ### a new list of pairs -/
def RetP (K : PySem.W.Frag) (rows : List (Int × Int)) (H : Hp) (Q : VK) : Prop := ∀ p xs H2, H p = none → Ex H H2 → H2 p = some (.lst xs) → Prs K H2 xs rows → Q (.ref p) H2
def EvP (K : PySem.W.Frag) (te : TE) (σ : L2.St) (H : Hp) (rows : List (Int × Int)) : Prop := ∀ H1, Ex H H1 → ∀ Q : VK, (∀ p xs H2, H1 p = none → Ex H1 H2 → H2 p = some (.lst xs) → Prs K H2 xs rows → Q (.ref p) H2) → te σ H1 Q
theorem ep_cal {sp : Sp} {vs : List V} {E : XK} {ta : TA} {rows : List (Int × Int)} (h : EvA ta σ H vs) (hs : ∀ H1, Ex H H1 → ∀ Q : VK, RetP K rows H1 Q → ∀ E : XK, sp vs H1 Q E) : EvP K (tCall sp [] E ta) σ H rows := fun H1 e Q q =>
  h H1 e _ fun H2 e2 => by
    show sp (vs ++ []) H2 Q E
    rw [List.append_nil]
    exact hs H2 (e.trans e2) Q (fun p xs H3 hp e3 h3 p3 => q p xs H3 (fresh_back e2 hp) (e2.trans e3) h3 p3) E
theorem q_asgP {i : Nat} {rows : List (Int × Int)} (h : EvP K te σ H rows) (k : ∀ p xs H1, H p = none → Ex H H1 → H1 p = some (.lst xs) → Prs K H1 xs rows → tz D (σ.set i (some (.ref p))) H1) : tSeq (tAsg te (gName i)) tz D σ H :=
  h H (Ex.refl H) _ fun p xs H1 hp e h1 p1 => k p xs H1 hp e h1 p1
theorem s_appNP {rows : List (Int × Int)} (h : EvP K ta σ H rows) (hv : ∀ H1, Ex H H1 → Ev te σ H1 v) (hz : rows.length < 100000) (k : ∀ H1, Ex H H1 → D.nx σ H1) : tDrop (tBM K "list" rAppend ta (tCons te tNil)) D σ H := h H (Ex.refl H) _ fun p xs H1 np e1 hp pp =>
  ⟨Or.inl ⟨rfl, xs, sq_of hp⟩, hv H1 e1 H1 (Ex.refl _) _ fun H2 e2 => ⟨p, xs, v, rfl, rfl, e2 p _ hp, sz_lt (by rw [Paired.length pp]; exact hz), k _ (Ex.mut (e1.trans e2) np)⟩⟩
theorem q_appNP {rows : List (Int × Int)} (h : EvP K ta σ H rows) (hv : ∀ H1, Ex H H1 → Ev te σ H1 v) (hz : rows.length < 100000) (k : ∀ H1, Ex H H1 → tz D σ H1) : tSeq (tDrop (tBM K "list" rAppend ta (tCons te tNil))) tz D σ H := s_appNP (D := { D with nx := tz D }) h hv hz k

/-! ### isinstance -/
theorem ev_isi {n s : String} {b : Bool} (ha : Ev ta σ H x) (ty : ∀ H1, Ex H H1 → TyX K H1 x (.type s)) (hk : kitB s n = some b) : Ev (tCB (rIsi K) (tCons ta (tCons (tC (.ty n)) tNil))) σ H (.bl b) := fun H1 e Q q =>
  ha H1 e _ fun H2 e2 => ⟨x, .ty n, .type s, .type n, b, rfl, .ty n, ty H2 (e.trans e2), kit_ty hk, q H2 e2⟩
theorem tx_int {i : Int} : ∀ H1, Ex H H1 → TyX K H1 (.int i) (.type "int") := fun _ _ => .base (.int i)
theorem tx_lst {p : Addr} {xs : List V} (h : H p = some (.lst xs)) : ∀ H1, Ex H H1 → TyX K H1 (.ref p) (.type "list") := fun _ e => .base (.lst (e p _ h))
theorem tx_tup {p : Addr} {xs : List V} (h : H p = some (.tup xs)) : ∀ H1, Ex H H1 → TyX K H1 (.ref p) (.type "tuple") := fun _ e => .base (.tup (e p _ h))

/-! ### comprehensions -/
/-- over a list of pairs, its target a pair of names -/
theorem el_lcP {a : Addr} {xs : List V} {rows : List (Int × Int)} {i j : Nat} (f : Int × Int → Bool) (w : Int × Int → V) (h : Ev tl σ H (.ref a)) (hx : SqL K H a xs) (hp : Prs K H xs rows) (hz : rows.length ≤ 40000)
    (hw : ∀ x y, wipe (((wipe σ vs).set i (some x)).set j (some y)) vs = wipe σ vs)
    (ht : ∀ r H1, Ex H H1 → r ∈ rows → EvT t (((wipe σ vs).set i (some (.int r.1))).set j (some (.int r.2))) H1 (f r)) (he : ∀ r H1, Ex H H1 → r ∈ rows → f r = true → Ev te (((wipe σ vs).set i (some (.int r.1))).set j (some (.int r.2))) H1 (w r)) :
    EvL (tLc (iList K tl) (gTup K 2 (gCons (gName i) (gCons (gName j) gNil))) t te vs) σ H ((rows.filter f).map w) := fun H0 e Q q => h H0 e _ fun H1 e1 => ⟨a, rfl, ⟨xs, ex_l (e.trans e1) hx⟩, fun Dl hD =>
  lc_list (xs := xs) (fun n H' => H1 Dl = none ∧ Ex H1 H' ∧ H' Dl = some (.lst (((rows.take n).filter f).map w))) ⟨hD, Ex.new hD, upd_same⟩ (fun n H' _ p => ex_l ((e.trans e1).trans p.2.1) hx) (fun n x H' hn p => by
    obtain ⟨p1, p2, p3⟩ := p
    obtain ⟨r, u, hr, rfl, hu⟩ := prs_get (hp.mono ((e.trans e1).trans p2)) hn
    have hm : r ∈ rows := List.mem_of_getElem? hr
    have hlen : (((rows.take n).filter f).map w).length < 100000 := by
      rw [List.length_map]
      have h1 := List.length_filter_le f (rows.take n)
      rw [List.length_take] at h1
      omega
    refine ⟨u, _, rfl, hu, rfl, .int r.1, [.int r.2], rfl, .int r.2, [], rfl, rfl, hw _ _, ?_⟩
    refine ht r H1 (e.trans e1) hm H' p2 _ fun H3 e3 => ?_
    have et : rows.take (n + 1) = rows.take n ++ [r] := by rw [List.take_add_one, hr]; rfl
    cases hf : f r with
    | true =>
      show te _ H3 _
      refine he r H1 (e.trans e1) hm hf H3 (p2.trans e3) _ fun H4 e4 => ⟨_, e4 Dl _ (e3 Dl _ p3), sz_lt hlen, p1, Ex.mut ((p2.trans e3).trans e4) p1, ?_⟩
      rw [upd_same, et, List.filter_append, List.map_append, List.filter_cons, if_pos hf]
      rfl
    | false =>
      refine ⟨p1, p2.trans e3, ?_⟩
      rw [et, List.filter_append, List.map_append, List.filter_cons, if_neg (by rw [hf]; decide)]
      show _ = some (HO.lst (_ ++ []))
      rw [List.append_nil]
      exact e3 Dl _ p3) (fun H' p => by
    have q1 := p.2.2
    rw [Paired.length hp, List.take_length] at q1
    exact q Dl H' (fresh_back e1 p.1) (e1.trans p.2.1) q1)⟩
/-- over a list of ints -/
theorem el_lcI {a : Addr} {ns : List Int} {j : Nat} (f : Int → Bool) (w : Int → V) (h : Ev tl σ H (.ref a)) (hx : SqL K H a (ns.map V.int)) (hz : ns.length ≤ 40000)
    (hw : ∀ x, wipe ((wipe σ vs).set j (some x)) vs = wipe σ vs)
    (ht : ∀ r H1, Ex H H1 → r ∈ ns → EvT t ((wipe σ vs).set j (some (.int r))) H1 (f r)) (he : ∀ r H1, Ex H H1 → r ∈ ns → f r = true → Ev te ((wipe σ vs).set j (some (.int r))) H1 (w r)) :
    EvL (tLc (iList K tl) (gName j) t te vs) σ H ((ns.filter f).map w) := fun H0 e Q q => h H0 e _ fun H1 e1 => ⟨a, rfl, ⟨_, ex_l (e.trans e1) hx⟩, fun Dl hD =>
  lc_list (xs := ns.map V.int) (fun n H' => H1 Dl = none ∧ Ex H1 H' ∧ H' Dl = some (.lst (((ns.take n).filter f).map w))) ⟨hD, Ex.new hD, upd_same⟩ (fun n H' _ p => ex_l ((e.trans e1).trans p.2.1) hx) (fun n x H' hn p => by
    obtain ⟨p1, p2, p3⟩ := p
    rw [List.getElem?_map] at hn
    obtain ⟨r, hr, rfl⟩ := Option.map_eq_some_iff.mp hn
    have hm : r ∈ ns := List.mem_of_getElem? hr
    have hlen : (((ns.take n).filter f).map w).length < 100000 := by
      rw [List.length_map]
      have h1 := List.length_filter_le f (ns.take n)
      rw [List.length_take] at h1
      omega
    refine ⟨hw _, ?_⟩
    refine ht r H1 (e.trans e1) hm H' p2 _ fun H3 e3 => ?_
    have et : ns.take (n + 1) = ns.take n ++ [r] := by rw [List.take_add_one, hr]; rfl
    cases hf : f r with
    | true =>
      show te _ H3 _
      refine he r H1 (e.trans e1) hm hf H3 (p2.trans e3) _ fun H4 e4 => ⟨_, e4 Dl _ (e3 Dl _ p3), sz_lt hlen, p1, Ex.mut ((p2.trans e3).trans e4) p1, ?_⟩
      rw [upd_same, et, List.filter_append, List.map_append, List.filter_cons, if_pos hf]
      rfl
    | false =>
      refine ⟨p1, p2.trans e3, ?_⟩
      rw [et, List.filter_append, List.map_append, List.filter_cons, if_neg (by rw [hf]; decide)]
      show _ = some (HO.lst (_ ++ []))
      rw [List.append_nil]
      exact e3 Dl _ p3) (fun H' p => by
    have q1 := p.2.2
    rw [List.length_map, List.take_length] at q1
    exact q Dl H' (fresh_back e1 p.1) (e1.trans p.2.1) q1)⟩
theorem et_yes : EvT tYes σ H true := fun H1 _ _ q => q H1 (Ex.refl H1)
theorem ev_gcd {a b : Int} (ha : Ev ta σ H (.int a)) (hb : Ev tb σ H (.int b)) : Ev (tCB rGcd (tCons ta (tCons tb tNil))) σ H (.int ((Nat.gcd a.natAbs b.natAbs : Nat) : Int)) :=
  ev_cb (ea_cons ha (ea_cons hb ea_nil)) fun H1 _ _ q => ⟨a, b, rfl, q H1 (Ex.refl H1)⟩
end
end Kp

/-! Loops over enumerate and reversed; what stands at a place of a list, changed; many new lists at once. -/
namespace Kp
open PySem PySem.Spec PyProof.Rows L2 Evl
section
variable {K : PySem.W.Frag} {σ : L2.St} {H H' : Hp} {ta tb te tl to ti : TE} {t : TT} {x y z v : V} {D : Ends} {tu tz : TS} {vs : List Nat}
/-- for i, x in enumerate(xs) -/
theorem s_forE {a : Addr} {xs : List V} {tl : TA} {j1 j2 : Nat} (h : EvA tl σ H [.ref a]) (hx : SqL K H a xs) (Pv : Nat → L2.St → Hp → Prop) (h0 : ∀ H1, Ex H H1 → Pv 0 σ H1) (hl : ∀ i σ' H', i ≤ xs.length → Pv i σ' H' → SqL K H' a xs)
    (hs : ∀ i x σ' H', xs[i]? = some x → Pv i σ' H' → ∀ H2, Ex H' H2 → tu { D with nx := Pv (i + 1), ct := Pv (i + 1), bk := D.nx } ((σ'.set j1 (some (.int (i : Nat)))).set j2 (some x)) H2) (hd : ∀ σ' H', Pv xs.length σ' H' → D.nx σ' H') :
    tFor (iEnum K tl) (gTup K 2 (gCons (gName j1) (gCons (gName j2) gNil))) tu D σ H :=
  h H (Ex.refl H) _ fun H1 e => ⟨a, xs, rfl, ex_l e hx, fun i m σ' H' => m = xs.length - i ∧ i ≤ xs.length ∧ Pv i σ' H', ⟨xs.length, rfl, Nat.zero_le _, h0 H1 e⟩, fun i m σ' H' hW => by
    obtain ⟨rfl, hi, p⟩ := hW
    have q := hl i σ' H' hi p
    by_cases hlt : i < xs.length
    · refine .inr ⟨⟨xs, xs[i], q, List.getElem?_eq_getElem hlt⟩, Pv (i + 1), fun σ2 H2 p' => ⟨xs.length - (i + 1), by omega, rfl, hlt, p'⟩, fun w H2 hy => ?_⟩
      obtain ⟨T, x, rfl, hT, rfl, fx⟩ := hy
      exact ⟨T, _, rfl, .inl (.inl upd_same), rfl, .int (i : Nat), [x], rfl, x, [], rfl, rfl, hs i x σ' H' (fx xs q) p _ (Ex.new hT)⟩
    · have e : i = xs.length := by omega
      subst e
      exact .inl ⟨⟨xs, q, Nat.le_refl _⟩, hd σ' H' p⟩⟩
theorem q_forE {a : Addr} {xs : List V} {tl : TA} {j1 j2 : Nat} (h : EvA tl σ H [.ref a]) (hx : SqL K H a xs) (Pv : Nat → L2.St → Hp → Prop) (h0 : ∀ H1, Ex H H1 → Pv 0 σ H1) (hl : ∀ i σ' H', i ≤ xs.length → Pv i σ' H' → SqL K H' a xs)
    (hs : ∀ i x σ' H', xs[i]? = some x → Pv i σ' H' → ∀ H2, Ex H' H2 → tu { D with nx := Pv (i + 1), ct := Pv (i + 1), bk := tz D } ((σ'.set j1 (some (.int (i : Nat)))).set j2 (some x)) H2) (hd : ∀ σ' H', Pv xs.length σ' H' → tz D σ' H') :
    tSeq (tFor (iEnum K tl) (gTup K 2 (gCons (gName j1) (gCons (gName j2) gNil))) tu) tz D σ H := s_forE (D := { D with nx := tz D }) h hx Pv h0 hl hs hd
/-- for x in reversed(xs) -/
theorem s_forV {a : Addr} {xs : List V} {tl : TA} {j : Nat} (h : EvA tl σ H [.ref a]) (hx : SqL K H a xs) (Pv : Nat → L2.St → Hp → Prop) (h0 : ∀ H1, Ex H H1 → Pv 0 σ H1) (hl : ∀ i σ' H', i ≤ xs.length → Pv i σ' H' → SqL K H' a xs)
    (hs : ∀ i x σ' H', i < xs.length → xs[xs.length - 1 - i]? = some x → Pv i σ' H' → tu { D with nx := Pv (i + 1), ct := Pv (i + 1), bk := D.nx } (σ'.set j (some x)) H') (hd : ∀ σ' H', Pv xs.length σ' H' → D.nx σ' H') :
    tFor (iRev K tl) (gName j) tu D σ H :=
  h H (Ex.refl H) _ fun H1 e => ⟨a, xs, rfl, ex_l e hx, fun i m σ' H' => m = xs.length - i ∧ i ≤ xs.length ∧ Pv i σ' H', ⟨xs.length, rfl, Nat.zero_le _, h0 H1 e⟩, fun i m σ' H' hW => by
    obtain ⟨rfl, hi, p⟩ := hW
    have q := hl i σ' H' hi p
    by_cases hlt : i < xs.length
    · have hlt2 : xs.length - 1 - i < xs.length := by omega
      refine .inr ⟨⟨hlt, xs, xs[xs.length - 1 - i], q, List.getElem?_eq_getElem hlt2⟩, Pv (i + 1), fun σ2 H2 p' => ⟨xs.length - (i + 1), by omega, rfl, hlt, p'⟩, fun w H2 hy => ?_⟩
      obtain ⟨rfl, fx⟩ := hy
      exact hs i w σ' H2 hlt (fx xs q) p
    · have e : i = xs.length := by omega
      subst e
      exact .inl ⟨Nat.le_refl _, hd σ' H' p⟩⟩
theorem q_forV {a : Addr} {xs : List V} {tl : TA} {j : Nat} (h : EvA tl σ H [.ref a]) (hx : SqL K H a xs) (Pv : Nat → L2.St → Hp → Prop) (h0 : ∀ H1, Ex H H1 → Pv 0 σ H1) (hl : ∀ i σ' H', i ≤ xs.length → Pv i σ' H' → SqL K H' a xs)
    (hs : ∀ i x σ' H', i < xs.length → xs[xs.length - 1 - i]? = some x → Pv i σ' H' → tu { D with nx := Pv (i + 1), ct := Pv (i + 1), bk := tz D } (σ'.set j (some x)) H') (hd : ∀ σ' H', Pv xs.length σ' H' → tz D σ' H') :
    tSeq (tFor (iRev K tl) (gName j) tu) tz D σ H := s_forV (D := { D with nx := tz D }) h hx Pv h0 hl hs hd
/-- o[i] += e, of a list of ints -/
theorem s_augL {l : Addr} {ns : List Int} {j : Nat} {f : Int → Int → Int} {a b : Int} (hl : H l = some (.lst (ns.map V.int))) (ho : Ev to σ H (.ref l)) (hi : Ev ti σ H (.int (j : Nat))) (hj : ns[j]? = some a) (he : Ev te σ H (.int b))
    (k : ∀ H1, Ex H H1 → D.nx σ (upd H1 l (.lst ((ns.set j (f a b)).map V.int)))) : tAugS to ti te (rGetL K) (ipI f) rSetL D σ H := ho H (Ex.refl H) _ fun H1 e1 => hi H1 e1 _ fun H2 e2 =>
  ⟨l, ns.map V.int, j, .int a, rfl, rfl, sq_of ((e1.trans e2) l _ hl), by rw [List.getElem?_map, hj]; rfl, he H2 (e1.trans e2) _ fun H3 e3 => ⟨a, b, rfl, rfl, l, ns.map V.int, (j : Nat), j, rfl, rfl, ((e1.trans e2).trans e3) l _ hl,
    ixN_nat (by rw [List.length_map]; exact (List.getElem?_eq_some_iff.mp hj).1), by
      have q := k H3 ((e1.trans e2).trans e3)
      rw [List.map_set] at q
      exact q⟩⟩
/-- the same with an operator that asks something of its two ints -/
theorem s_augLC {l : Addr} {ns : List Int} {j : Nat} {C : Int → Int → Prop} {f : Int → Int → Int} {a b : Int} (hl : H l = some (.lst (ns.map V.int))) (ho : Ev to σ H (.ref l)) (hi : Ev ti σ H (.int (j : Nat))) (hj : ns[j]? = some a) (he : Ev te σ H (.int b))
    (k : ∀ H1, Ex H H1 → D.nx σ (upd H1 l (.lst ((ns.set j (f a b)).map V.int)))) : tAugS to ti te (rGetL K) (rI0 fun i j => .int (f i j)) rSetL D σ H := s_augL hl ho hi hj he k
/-- o[i] = e, of a list of ints -/
theorem s_setI {l : Addr} {ns : List Int} {j : Nat} {b : Int} (hl : H l = some (.lst (ns.map V.int))) (ho : Ev to σ H (.ref l)) (hi : Ev ti σ H (.int (j : Nat))) (hj : j < ns.length) (he : Ev te σ H (.int b))
    (k : ∀ H1, Ex H H1 → D.nx σ (upd H1 l (.lst ((ns.set j b).map V.int)))) : tAsg te (gSub to ti rSetL) D σ H :=
  s_setL hl he ho hi (by rw [List.length_map]; exact hj) fun H1 e1 => by
    have q := k H1 e1
    rw [List.map_set] at q
    exact q
/-- xs[i], of a list of ints -/
theorem ev_ixI {a : Addr} {ns : List Int} {j : Nat} {b : Int} (hl : SqL K H a (ns.map V.int)) (ho : Ev ta σ H (.ref a)) (hi : Ev tb σ H (.int (j : Nat))) (hj : ns[j]? = some b) : Ev (tOp (rIxL K) ta tb) σ H (.int b) :=
  ev_op ho hi (rv_ixL hl (atI_nat (by rw [List.getElem?_map, hj]; rfl)))
/-- t[i], of a tuple -/
theorem ev_ixT {a : Addr} {xs : List V} {j : Nat} (hl : SqT K H a xs) (ho : Ev ta σ H (.ref a)) (hi : Ev tb σ H (.int (j : Nat))) (hj : xs[j]? = some v) : Ev (tOp (rIxT K) ta tb) σ H v :=
  ev_op ho hi (rv_ixT hl (atI_nat hj))
/-- xs.pop() as a statement -/
theorem s_pop {l : Addr} {xs : List V} {y : V} (hl : H l = some (.lst (xs ++ [y]))) (ha : Ev ta σ H (.ref l)) (k : ∀ H1, Ex H H1 → D.nx σ (upd H1 l (.lst xs))) : tDrop (tBM0 K "list" rPop ta) D σ H := ha H (Ex.refl H) _ fun H1 e1 =>
  ⟨Or.inl ⟨rfl, _, sq_of (e1 l _ hl)⟩, l, xs ++ [y], y, rfl, rfl, e1 l _ hl, by simp, by
    rw [List.dropLast_concat]
    exact k H1 e1⟩

/-! ### many new lists -/
def EvNs (n : Nat) (ta : TA) (σ : L2.St) (H : Hp) : Prop := ∀ H1, Ex H H1 → ∀ Q : List V → Hp → Prop, (∀ (ps : List Addr) H2, ps.length = n → Ex H1 H2 → (∀ p ∈ ps, H1 p = none ∧ ∃ xs, H2 p = some (.lst xs) ∧ xs.length < 50000) → Q (ps.map V.ref) H2) → ta σ H1 Q
theorem en_nil : EvNs 0 tNil σ H := fun H1 _ Q q => q [] H1 rfl (Ex.refl H1) fun _ h => nomatch h
theorem en_cons {tr : TA} {xs : List V} {n : Nat} (h : EvL te σ H xs) (hz : xs.length < 50000) (hr : EvNs n tr σ H) : EvNs (n + 1) (tCons te tr) σ H := fun H1 e Q q =>
  h H1 e _ fun p H2 np e2 hp => hr H2 (e.trans e2) _ fun ps H3 hl e3 hps => q (p :: ps) H3 (by rw [List.length_cons, hl]) (e2.trans e3) fun r hr' => by
    rcases List.mem_cons.mp hr' with rfl | hm
    · exact ⟨np, xs, e3 _ _ hp, hz⟩
    · obtain ⟨n1, n2⟩ := hps r hm
      exact ⟨fresh_back e2 n1, n2⟩
/-- for x in [new, new, ..]: x.append(e) -/
theorem s_forNs {tr : TA} {n j : Nat} {u : V} (h : EvNs n tr σ H) (hn : n ≤ 1000) (hj : j < σ.length) (k : ∀ σ' H1, (∃ x, σ' = σ.set j x) → Ex H H1 → D.nx σ' H1) :
    tFor (iList K (tLst tr)) (gName j) (tDrop (tBM K "list" rAppend (tVar j) (tCons (tC u) tNil))) D σ H :=
  h H (Ex.refl H) _ fun ps H2 hl e2 hps => ⟨sz_of (by rw [List.length_map]; omega), fun L nL => ⟨L, rfl, ⟨_, SqL.of upd_same⟩, for_list (xs := ps.map V.ref)
    (fun i σ' H' => (∃ x, σ' = σ.set j x) ∧ Ex H H' ∧ H' L = some (.lst (ps.map V.ref)) ∧ ∀ p ∈ ps, ∃ xs, H' p = some (.lst xs) ∧ xs.length < 50000 + i)
    ⟨⟨σ[j], (List.set_getElem_self hj).symm⟩, e2.trans (Ex.new nL), upd_same, fun p hp => by
      obtain ⟨xs, q1, q2⟩ := (hps p hp).2
      exact ⟨xs, by rw [upd_ne (ne_of_none q1 nL)]; exact q1, by omega⟩⟩
    (fun i σ' H' _ p => SqL.of p.2.2.1) (fun i x σ' H' hx p => by
      obtain ⟨⟨y, rfl⟩, p2, p3, p4⟩ := p
      rw [List.getElem?_map] at hx
      obtain ⟨r, hr, rfl⟩ := Option.map_eq_some_iff.mp hx
      have hm := List.mem_of_getElem? hr
      have hi : i < ps.length := (List.getElem?_eq_some_iff.mp hr).1
      obtain ⟨xs, q1, q2⟩ := p4 r hm
      have nLr : L ≠ r := fun e => by
        obtain ⟨zs, z1, _⟩ := (hps r hm).2
        rw [← e, nL] at z1
        cases z1
      refine s_app q1 (ev_var (by rw [List.getElem?_set_self (by rw [List.length_set]; exact hj)])) ev_c (by omega) fun H3 e3 => ⟨⟨_, List.set_set ..⟩, Ex.mut (p2.trans e3) (hps r hm).1, ?_, fun p hp => ?_⟩
      · rw [upd_ne nLr]
        exact e3 _ _ p3
      · by_cases e : p = r
        · subst e
          exact ⟨_, upd_same, by rw [List.length_append, List.length_singleton]; omega⟩
        · obtain ⟨ys, z1, z2⟩ := p4 p hp
          exact ⟨ys, by rw [upd_ne e]; exact e3 _ _ z1, by omega⟩) (fun σ' H' p => k σ' H' p.1 p.2.1)⟩⟩
theorem q_forNs {tr : TA} {n j : Nat} {u : V} (h : EvNs n tr σ H) (hn : n ≤ 1000) (hj : j < σ.length) (k : ∀ σ' H1, (∃ x, σ' = σ.set j x) → Ex H H1 → tz D σ' H1) :
    tSeq (tFor (iList K (tLst tr)) (gName j) (tDrop (tBM K "list" rAppend (tVar j) (tCons (tC u) tNil)))) tz D σ H := s_forNs (D := { D with nx := tz D }) h hn hj k
end
end Kp
namespace Kp
open PySem PySem.Spec PyProof.Rows L2 Evl
section
variable {K : PySem.W.Frag} {σ : L2.St} {H H' : Hp} {ta tb te tl to ti : TE} {t : TT} {x y z v : V} {D : Ends} {tu tz : TS} {vs : List Nat}
/-- (a new list, a new list) -/
theorem q_asgT2 {i : Nat} {xs ys : List V} (h1 : EvL ta σ H xs) (h2 : EvL tb σ H ys) (k : ∀ t p q H1, Ex H H1 → H1 t = some (.tup [.ref p, .ref q]) → H1 p = some (.lst xs) → H1 q = some (.lst ys) → tz D (σ.set i (some (.ref t))) H1) :
    tSeq (tAsg (tTup (tCons ta (tCons tb tNil))) (gName i)) tz D σ H :=
  h1 H (Ex.refl H) _ fun p H1 np e1 hp => h2 H1 e1 _ fun q H2 nq e2 hq => ⟨sz_of (show 2 ≤ 100000 by decide), fun t nt =>
    k t p q _ ((e1.trans e2).trans (Ex.new nt)) upd_same (by rw [upd_ne (ne_of_none (e2 _ _ hp) nt)]; exact e2 _ _ hp) (by rw [upd_ne (ne_of_none hq nt)]; exact hq)⟩
/-- a call upon one new list, one value back -/
theorem ev_calL1 {sp : Sp} {xs : List V} {E : XK} (h : EvL ta σ H xs) (hs : ∀ p H1, Ex H H1 → H1 p = some (.lst xs) → ∀ Q : VK, RetV z H1 Q → ∀ E : XK, sp [.ref p] H1 Q E) : Ev (tCall sp [] E (tCons ta tNil)) σ H z := fun H1 e Q q =>
  h H1 e _ fun p H2 np e2 hp => hs p H2 (e.trans e2) hp Q (fun H3 e3 => q H3 (e2.trans e3)) E
/-- a list by its name and a new one, glued -/
theorem el_cat1 {l : Addr} {xs ys : List V} (ha : Ev ta σ H (.ref l)) (hl : H l = some (.lst xs)) (hb : EvL tb σ H ys) (hz : xs.length + ys.length ≤ 100000) : EvL (tOp rCat ta tb) σ H (xs ++ ys) := fun H1 e Q q =>
  ha H1 e _ fun H2 e2 => hb H2 (e.trans e2) _ fun r H3 nr e3 hr => ⟨l, r, xs, ys, rfl, rfl, (e.trans (e2.trans e3)) _ _ hl, hr, sz_of hz, fun l hl => q l _ (fresh_back (e2.trans e3) hl) ((e2.trans e3).trans (Ex.new hl)) upd_same⟩
theorem cut_take (xs : List V) (m : Nat) : cutV xs none (some (m : Int)) = xs.take m := by
  unfold cutV
  rw [HT.sIx_none, HT.sIx_nat, Nat.sub_zero, List.drop_zero]
  by_cases h : m ≤ xs.length
  · rw [Nat.min_eq_left h]
  · rw [Nat.min_eq_right (by omega), List.take_of_length_le (Nat.le_refl _), List.take_of_length_le (by omega)]
theorem map_get {ns : List Int} {i : Nat} {x : V} (h : (ns.map V.int)[i]? = some x) : ∃ a, ns[i]? = some a ∧ x = .int a := by
  rw [List.getElem?_map] at h
  obtain ⟨a, h1, h2⟩ := Option.map_eq_some_iff.mp h
  exact ⟨a, h1, h2.symm⟩
end
end Kp

/-! More of loops, comprehensions and lists. -/
namespace Kp
open PySem PySem.Spec PyProof.Rows L2 Evl
theorem filter_yes {α : Type} (l : List α) : l.filter (fun _ => true) = l := List.filter_eq_self.mpr fun _ _ => rfl
section
variable {K : PySem.W.Frag} {σ : L2.St} {H H' : Hp} {ta tb te tl to ti : TE} {t : TT} {x y z v : V} {D : Ends} {tu tz : TS} {vs : List Nat}
/-- [e for x in range(a, b) if t] -/
theorem el_lcR2 {tg : TA} {j : Nat} {lo hi : Int} (f : Nat → Bool) (w : Nat → V) (h : EvA tg σ H [.int lo, .int hi]) (hb : 0 ≤ lo ∧ lo ≤ 40000 ∧ -40000 ≤ hi ∧ hi ≤ 40000) (hw : ∀ x, wipe ((wipe σ vs).set j (some x)) vs = wipe σ vs)
    (ht : ∀ (i : Nat) H1, Ex H H1 → lo + (i : Int) < hi → EvT t ((wipe σ vs).set j (some (.int (lo + (i : Int))))) H1 (f i)) (he : ∀ (i : Nat) H1, Ex H H1 → lo + (i : Int) < hi → f i = true → Ev te ((wipe σ vs).set j (some (.int (lo + (i : Int))))) H1 (w i)) :
    EvL (tLc (iRng2 tg) (gName j) t te vs) σ H (((List.range (hi - lo).toNat).filter f).map w) := fun H0 e Q q => h H0 e _ fun H1 e1 => ⟨lo, hi, rfl, ⟨by omega, by omega, by omega, by omega⟩, fun Dl hD =>
  lc_range (lo := lo) (n := (hi - lo).toNat) (Cw H1 f w Dl) ⟨hD, Ex.new hD, upd_same⟩ (fun i H' hi p => ⟨hw _, cw_turn p (by omega) (ht i H1 (e.trans e1) (by omega)) (fun hf => he i H1 (e.trans e1) (by omega) hf)⟩) (fun H' p => q Dl H' (fresh_back e1 p.1) (e1.trans p.2.1) p.2.2)⟩
/-- [e for x in reversed(xs) if t], xs ints -/
theorem el_lcV {tg : TA} {a : Addr} {ns : List Int} {j : Nat} (f : Int → Bool) (w : Int → V) (h : EvA tg σ H [.ref a]) (hx : SqL K H a (ns.map V.int)) (hz : ns.length ≤ 40000)
    (hw : ∀ x, wipe ((wipe σ vs).set j (some x)) vs = wipe σ vs)
    (ht : ∀ r H1, Ex H H1 → r ∈ ns → EvT t ((wipe σ vs).set j (some (.int r))) H1 (f r)) (he : ∀ r H1, Ex H H1 → r ∈ ns → f r = true → Ev te ((wipe σ vs).set j (some (.int r))) H1 (w r)) :
    EvL (tLc (iRev K tg) (gName j) t te vs) σ H ((ns.reverse.filter f).map w) := fun H0 e Q q => h H0 e _ fun H1 e1 => ⟨a, _, rfl, ex_l (e.trans e1) hx, fun Dl hD =>
  ⟨fun n m H' => m = ns.length - n ∧ n ≤ ns.length ∧ H1 Dl = none ∧ Ex H1 H' ∧ H' Dl = some (.lst (((ns.reverse.take n).filter f).map w)), ⟨ns.length, rfl, Nat.zero_le _, hD, Ex.new hD, upd_same⟩, fun n m H' hW => by
    obtain ⟨rfl, hn, p1, p2, p3⟩ := hW
    by_cases hlt : n < ns.length
    · have hlt2 : ns.length - 1 - n < ns.length := by omega
      have hlm : (ns.map V.int).length = ns.length := List.length_map _
      refine .inr ⟨⟨by rw [hlm]; exact hlt, ns.map V.int, _, ex_l ((e.trans e1).trans p2) hx, List.getElem?_eq_getElem (by rw [hlm]; omega)⟩, fun H2 => n + 1 ≤ ns.length ∧ H1 Dl = none ∧ Ex H1 H2 ∧ H2 Dl = some (.lst (((ns.reverse.take (n + 1)).filter f).map w)), fun H2 ⟨q1, q2, q3, q4⟩ => ⟨ns.length - (n + 1), by omega, rfl, q1, q2, q3, q4⟩, fun x H2 hy => ?_⟩
      obtain ⟨rfl, fx⟩ := hy
      have gx := fx _ (ex_l ((e.trans e1).trans p2) hx)
      rw [hlm] at gx
      rw [List.getElem?_map] at gx
      obtain ⟨r, hr, rfl⟩ := Option.map_eq_some_iff.mp gx
      have hm : r ∈ ns := List.mem_of_getElem? hr
      have hlen : (((ns.reverse.take n).filter f).map w).length < 100000 := by
        rw [List.length_map]
        have h1 := List.length_filter_le f (ns.reverse.take n)
        rw [List.length_take, List.length_reverse] at h1
        omega
      have et : ns.reverse.take (n + 1) = ns.reverse.take n ++ [r] := by
        rw [List.take_add_one, List.getElem?_reverse hlt, hr]
        rfl
      refine ⟨hw _, ?_⟩
      refine ht r H1 (e.trans e1) hm H2 p2 _ fun H3 e3 => ?_
      cases hf : f r with
      | true =>
        show te _ H3 _
        refine he r H1 (e.trans e1) hm hf H3 (p2.trans e3) _ fun H4 e4 => ⟨_, e4 Dl _ (e3 Dl _ p3), sz_lt hlen, hlt, p1, Ex.mut ((p2.trans e3).trans e4) p1, ?_⟩
        rw [upd_same, et, List.filter_append, List.map_append, List.filter_cons, if_pos hf]
        rfl
      | false =>
        refine ⟨hlt, p1, p2.trans e3, ?_⟩
        rw [et, List.filter_append, List.map_append, List.filter_cons, if_neg (by rw [hf]; decide)]
        show _ = some (HO.lst (_ ++ []))
        rw [List.append_nil]
        exact e3 Dl _ p3
    · have en : n = ns.length := by omega
      subst en
      rw [List.take_of_length_le (by rw [List.length_reverse]; exact Nat.le_refl _)] at p3
      exact .inl ⟨by show (ns.map V.int).length ≤ _; rw [List.length_map]; exact Nat.le_refl _, q Dl H' (fresh_back e1 p1) (e1.trans p2) p3⟩⟩⟩
/-- two lists by their names, glued -/
theorem el_cat2 {l b : Addr} {xs ys : List V} (ha : Ev ta σ H (.ref l)) (hl : H l = some (.lst xs)) (hb : Ev tb σ H (.ref b)) (hlb : H b = some (.lst ys)) (hz : xs.length + ys.length ≤ 100000) : EvL (tOp rCat ta tb) σ H (xs ++ ys) := fun H1 e Q q =>
  ha H1 e _ fun H2 e2 => hb H2 (e.trans e2) _ fun H3 e3 => ⟨l, b, xs, ys, rfl, rfl, (e.trans (e2.trans e3)) _ _ hl, (e.trans (e2.trans e3)) _ _ hlb, sz_of hz, fun l hl => q l _ (fresh_back (e2.trans e3) hl) ((e2.trans e3).trans (Ex.new hl)) upd_same⟩
/-- for i, x in enumerate(a new list) -/
theorem s_forEN {xs : List V} {j1 j2 : Nat} (h : EvL te σ H xs) (Pv : Addr → Nat → L2.St → Hp → Prop) (h0 : ∀ a H1, H a = none → Ex H H1 → H1 a = some (.lst xs) → Pv a 0 σ H1) (hl : ∀ a i σ' H', i ≤ xs.length → Pv a i σ' H' → SqL K H' a xs)
    (hs : ∀ a i x σ' H', xs[i]? = some x → Pv a i σ' H' → ∀ H2, Ex H' H2 → tu { D with nx := Pv a (i + 1), ct := Pv a (i + 1), bk := D.nx } ((σ'.set j1 (some (.int (i : Nat)))).set j2 (some x)) H2) (hd : ∀ a σ' H', Pv a xs.length σ' H' → D.nx σ' H') :
    tFor (iEnum K (tCons te tNil)) (gTup K 2 (gCons (gName j1) (gCons (gName j2) gNil))) tu D σ H :=
  h H (Ex.refl H) _ fun a H1 na e ha => ⟨a, xs, rfl, sq_of ha, fun i m σ' H' => m = xs.length - i ∧ i ≤ xs.length ∧ Pv a i σ' H', ⟨xs.length, rfl, Nat.zero_le _, h0 a H1 na e ha⟩, fun i m σ' H' hW => by
    obtain ⟨rfl, hi, p⟩ := hW
    have q := hl a i σ' H' hi p
    by_cases hlt : i < xs.length
    · refine .inr ⟨⟨xs, xs[i], q, List.getElem?_eq_getElem hlt⟩, Pv a (i + 1), fun σ2 H2 p' => ⟨xs.length - (i + 1), by omega, rfl, hlt, p'⟩, fun w H2 hy => ?_⟩
      obtain ⟨T, x, rfl, hT, rfl, fx⟩ := hy
      exact ⟨T, _, rfl, .inl (.inl upd_same), rfl, .int (i : Nat), [x], rfl, x, [], rfl, rfl, hs a i x σ' H' (fx xs q) p _ (Ex.new hT)⟩
    · have e : i = xs.length := by omega
      subst e
      exact .inl ⟨⟨xs, q, Nat.le_refl _⟩, hd a σ' H' p⟩⟩
theorem q_forEN {xs : List V} {j1 j2 : Nat} (h : EvL te σ H xs) (Pv : Addr → Nat → L2.St → Hp → Prop) (h0 : ∀ a H1, H a = none → Ex H H1 → H1 a = some (.lst xs) → Pv a 0 σ H1) (hl : ∀ a i σ' H', i ≤ xs.length → Pv a i σ' H' → SqL K H' a xs)
    (hs : ∀ a i x σ' H', xs[i]? = some x → Pv a i σ' H' → ∀ H2, Ex H' H2 → tu { D with nx := Pv a (i + 1), ct := Pv a (i + 1), bk := tz D } ((σ'.set j1 (some (.int (i : Nat)))).set j2 (some x)) H2) (hd : ∀ a σ' H', Pv a xs.length σ' H' → tz D σ' H') :
    tSeq (tFor (iEnum K (tCons te tNil)) (gTup K 2 (gCons (gName j1) (gCons (gName j2) gNil))) tu) tz D σ H := s_forEN (D := { D with nx := tz D }) h Pv h0 hl hs hd
/-- for a, b in a new list of pairs -/
theorem q_forP {rows : List (Int × Int)} {j1 j2 : Nat} (h : EvP K te σ H rows) (Pv : Hp → Nat → L2.St → Hp → Prop) (h0 : ∀ H1, Ex H H1 → Pv H1 0 σ H1) (hl : ∀ H1 i σ' H', Pv H1 i σ' H' → Ex H1 H')
    (hs : ∀ H1 i r σ' H', Ex H H1 → rows[i]? = some r → Pv H1 i σ' H' → tu { D with nx := Pv H1 (i + 1), ct := Pv H1 (i + 1), bk := tz D } ((σ'.set j1 (some (.int r.1))).set j2 (some (.int r.2))) H') (hd : ∀ H1 σ' H', Ex H H1 → Pv H1 rows.length σ' H' → tz D σ' H') :
    tSeq (tFor (iList K te) (gTup K 2 (gCons (gName j1) (gCons (gName j2) gNil))) tu) tz D σ H :=
  h H (Ex.refl H) _ fun p xs H1 np e hp pr => ⟨p, rfl, ⟨xs, sq_of hp⟩, for_list (xs := xs) (Pv H1) (h0 H1 e) (fun i σ' H' _ q => sq_of (hl _ _ _ _ q _ _ hp)) (fun i x σ' H' hx q => by
    obtain ⟨r, t, hr, rfl, ht⟩ := prs_get (pr.mono (hl _ _ _ _ q)) hx
    exact ⟨t, _, rfl, ht, rfl, .int r.1, [.int r.2], rfl, .int r.2, [], rfl, rfl, hs H1 i r σ' H' e hr q⟩) (fun σ' H' q => by
    rw [Paired.length pr] at q
    exact hd H1 σ' H' e q)⟩
/-- a list by its name, beside a new list of pairs -/
theorem ev_opLP {r : R2} {rows : List (Int × Int)} (ha : Ev ta σ H x) (hb : EvP K tb σ H rows) (hr : ∀ p xs H1, H1 p = some (.lst xs) → Prs K H1 xs rows → Ex H H1 → RV r x (.ref p) H1 z) : Ev (tOp r ta tb) σ H z := fun H1 e Q q =>
  ha H1 e _ fun H2 e2 => hb H2 (e.trans e2) _ fun p xs H3 np e3 hp pr => hr p xs H3 hp pr ((e.trans e2).trans e3) H3 (Ex.refl H3) Q fun H4 e4 => q H4 ((e2.trans e3).trans e4)
theorem inV_int (x : Int) : ∀ ns : List Int, inV (.int x) (ns.map V.int) = decide (x ∈ ns)
  | [] => rfl
  | n :: ns => by
    have ih := inV_int x ns
    show ((n == x) || inV (.int x) (ns.map V.int)) = _
    rw [ih, Bool.eq_iff_iff, Bool.or_eq_true, beq_iff_eq, decide_eq_true_iff, decide_eq_true_iff, List.mem_cons]
    constructor
    · rintro (h | h)
      · exact .inl h.symm
      · exact .inr h
    · rintro (h | h)
      · exact .inl h.symm
      · exact .inr h
theorem flat_ints : ∀ ns : List Int, (ns.map V.int).all flatV = true
  | [] => rfl
  | n :: ns => by
    rw [List.map_cons, List.all_cons, flat_ints ns]
    rfl
theorem ev_notIn {a : Addr} {x : Int} {ns : List Int} (ha : Ev ta σ H (.int x)) (hb : Ev tb σ H (.ref a)) (hl : SqL K H a (ns.map V.int)) : Ev (tOp (rIn K true) ta tb) σ H (.bl (!decide (x ∈ ns))) := by
  have := rv_niL (K := K) (x := .int x) hl rfl (flat_ints ns)
  rw [inV_int] at this
  exact ev_op ha hb this
/-- sorted(xs), ints -/
theorem el_sorted {a : Addr} {ns ms : List Int} (ha : Ev ta σ H (.ref a)) (hl : SqL K H a (ns.map V.int)) (hu : ∀ ns' : List Int, ns'.Perm ns → ns'.Pairwise (· ≤ ·) → ns' = ms) : EvL (tCB (rSortedI K) (tCons ta tNil)) σ H (ms.map V.int) := fun H1 e Q q =>
  ha H1 e _ fun H2 e2 => ⟨a, ns, rfl, ex_l (e.trans e2) hl, fun ns' p hp hs np => by
    rw [hu ns' hp hs]
    exact q p _ (fresh_back e2 np) (e2.trans (Ex.new np)) upd_same⟩
/-- list(t), t a tuple -/
theorem el_listT {p : Addr} {xs : List V} (ha : Ev ta σ H (.ref p)) (h : SqT K H p xs) : EvL (tCB (rListS K) (tCons ta tNil)) σ H xs := fun H1 e Q q =>
  ha H1 e _ fun H2 e2 => ⟨p, xs, rfl, Or.inr (ex_t (e.trans e2) h), fun l hl => q l _ (fresh_back e2 hl) (e2.trans (Ex.new hl)) upd_same⟩
theorem ev_int1b {b : Bool} (ha : Ev ta σ H (.bl b)) : Ev (tCB (fun xs H Q => (∃ i, xs = [.int i] ∧ Q (.int i) H) ∨ ∃ k, xs = [.bl k] ∧ Q (.int (if k then 1 else 0)) H) (tCons ta tNil)) σ H (.int (if b then 1 else 0)) := fun H1 e Q q =>
  ha H1 e _ fun H2 e2 => .inr ⟨b, rfl, q H2 e2⟩
theorem ev_isqrt {n : Nat} (ha : Ev ta σ H (.int (n : Nat))) (hn : n < 2 ^ 64) : Ev (tCB rIsqrt (tCons ta tNil)) σ H (.int ((Float64.isqrt n : Nat) : Int)) := fun H1 e Q q =>
  ha H1 e _ fun H2 e2 => ⟨(n : Nat), rfl, by omega, by omega, by rw [Int.toNat_natCast]; exact q H2 e2⟩
theorem tx_sqt {p : Addr} {xs : List V} (h : SqT K H p xs) : ∀ H1, Ex H H1 → TyX K H1 (.ref p) (.type "tuple") := fun H1 e => by
  rcases ex_t e h with (h | ⟨o, h⟩) | h
  · exact .base (.tup h)
  · exact .fTuple h
  · obtain ⟨o, its, n, h1, h2, _⟩ := h
    exact .kTuple h1 h2
end
end Kp

/-! Polynomials as lists: the number of each power, noughts cut off at the end, products, other powers of x, values. -/
namespace Kp
/-- the number of the m-th power -/
def coef (l : List Int) (m : Nat) : Int := l.getD m 0
theorem coef_lt {l : List Int} {m : Nat} (h : m < l.length) : coef l m = l[m] := by
  unfold coef
  rw [List.getD_eq_getElem?_getD, List.getElem?_eq_getElem h]
  rfl
theorem coef_ge {l : List Int} {m : Nat} (h : l.length ≤ m) : coef l m = 0 := by
  unfold coef
  rw [List.getD_eq_getElem?_getD, List.getElem?_eq_none h]
  rfl
theorem coef_get {l : List Int} {m : Nat} (h : m < l.length) : l[m]? = some (coef l m) := by
  rw [coef_lt h, List.getElem?_eq_getElem h]
theorem coef_of {l : List Int} {m : Nat} {x : Int} (h : l[m]? = some x) : coef l m = x := by
  unfold coef
  rw [List.getD_eq_getElem?_getD, h]
  rfl
theorem coef_nil (m : Nat) : coef [] m = 0 := coef_ge (Nat.zero_le _)
theorem ext_of {a b : List Int} (hl : a.length = b.length) (h : ∀ m, m < a.length → coef a m = coef b m) : a = b := by
  refine List.ext_getElem hl fun i h1 h2 => ?_
  have := h i h1
  rwa [coef_lt h1, coef_lt h2] at this
theorem coef_set {l : List Int} {j m : Nat} {x : Int} (hj : j < l.length) : coef (l.set j x) m = if m = j then x else coef l m := by
  unfold coef
  rw [List.getD_eq_getElem?_getD, List.getD_eq_getElem?_getD, List.getElem?_set]
  by_cases e : j = m
  · subst e
    rw [if_pos rfl, if_pos hj, if_pos rfl]
    rfl
  · rw [if_neg e, if_neg (fun q => e q.symm)]
theorem coef_app {a b : List Int} {m : Nat} : coef (a ++ b) m = if m < a.length then coef a m else coef b (m - a.length) := by
  unfold coef
  rw [List.getD_eq_getElem?_getD, List.getElem?_append]
  split <;> rw [List.getD_eq_getElem?_getD]
theorem coef_rep {n m : Nat} : coef (List.replicate n 0) m = 0 := by
  by_cases h : m < n
  · rw [coef_lt (by rw [List.length_replicate]; exact h), List.getElem_replicate]
  · exact coef_ge (by rw [List.length_replicate]; omega)
theorem coef_take {l : List Int} {n m : Nat} : coef (l.take n) m = if m < n then coef l m else 0 := by
  unfold coef
  rw [List.getD_eq_getElem?_getD, List.getElem?_take]
  split
  · rw [List.getD_eq_getElem?_getD]
  · rfl
def mkL (n : Nat) (h : Nat → Int) : List Int := (List.range n).map h
theorem mkL_len (n : Nat) (h : Nat → Int) : (mkL n h).length = n := by
  unfold mkL
  rw [List.length_map, List.length_range]
theorem coef_mkL {n m : Nat} {h : Nat → Int} : coef (mkL n h) m = if m < n then h m else 0 := by
  split
  · rename_i q
    rw [coef_lt (by rw [mkL_len]; exact q)]
    unfold mkL
    rw [List.getElem_map, List.getElem_range]
  · rename_i q
    exact coef_ge (by rw [mkL_len]; omega)
theorem mkL_of {l : List Int} {n : Nat} {h : Nat → Int} (hl : l.length = n) (e : ∀ m, m < n → coef l m = h m) : l = mkL n h := by
  refine ext_of (by rw [mkL_len, hl]) fun m hm => ?_
  rw [hl] at hm
  rw [e m hm, coef_mkL, if_pos hm]

/-! ### without a nought at the end -/
def Tr (l : List Int) : Prop := l ≠ [] → coef l (l.length - 1) ≠ 0
theorem Tr.nil : Tr [] := fun h => absurd rfl h
theorem tr_uniq {a b : List Int} (ha : Tr a) (hb : Tr b) (h : ∀ m, coef a m = coef b m) : a = b := by
  have key : ∀ {a b : List Int}, Tr b → (∀ m, coef a m = coef b m) → ¬ a.length < b.length := fun {a b} hb h q => by
    refine hb (fun e => by rw [e] at q; exact absurd q (Nat.not_lt_zero _)) ?_
    rw [← h]
    exact coef_ge (by omega)
  have h1 := key hb h
  have h2 := key ha (fun m => (h m).symm)
  exact ext_of (by omega) fun m _ => h m
/-- how many of the first n numbers stay -/
def tlen (l : List Int) : Nat → Nat
  | 0 => 0
  | n + 1 => if coef l n = 0 then tlen l n else n + 1
def trim (l : List Int) : List Int := l.take (tlen l l.length)
theorem tlen_le (l : List Int) : ∀ n, tlen l n ≤ n
  | 0 => Nat.le_refl _
  | n + 1 => by
    unfold tlen
    have := tlen_le l n
    split <;> omega
theorem tlen_zero (l : List Int) : ∀ n m, tlen l n ≤ m → m < n → coef l m = 0
  | 0, m, _, h => absurd h (Nat.not_lt_zero _)
  | n + 1, m, h1, h2 => by
    unfold tlen at h1
    split at h1
    · rename_i q
      by_cases e : m = n
      · rw [e]; exact q
      · exact tlen_zero l n m h1 (by omega)
    · omega
theorem tlen_last (l : List Int) : ∀ n, tlen l n ≠ 0 → coef l (tlen l n - 1) ≠ 0
  | 0, h => absurd rfl h
  | n + 1, h => by
    unfold tlen at h ⊢
    split
    · rename_i q
      rw [if_pos q] at h
      exact tlen_last l n h
    · rename_i q
      rw [Nat.add_sub_cancel]
      exact q
theorem trim_len (l : List Int) : (trim l).length = tlen l l.length := by
  unfold trim
  rw [List.length_take]
  have := tlen_le l l.length
  omega
theorem coef_trim (l : List Int) (m : Nat) : coef (trim l) m = coef l m := by
  unfold trim
  rw [coef_take]
  split
  · rfl
  · rename_i h
    by_cases q : m < l.length
    · exact (tlen_zero l _ m (by omega) q).symm
    · exact (coef_ge (by omega)).symm
theorem tr_trim (l : List Int) : Tr (trim l) := fun h => by
  have e := trim_len l
  have n0 : tlen l l.length ≠ 0 := fun q => h (List.eq_nil_of_length_eq_zero (by omega))
  rw [coef_trim, e]
  exact tlen_last l _ n0
theorem trim_of_tr {l : List Int} (h : Tr l) : trim l = l := tr_uniq (tr_trim l) h (coef_trim l)
theorem trim_ext {a b : List Int} (h : ∀ m, coef a m = coef b m) : trim a = trim b := tr_uniq (tr_trim a) (tr_trim b) fun m => by rw [coef_trim, coef_trim, h]
theorem trim_eq {a b : List Int} (hb : Tr b) (h : ∀ m, coef a m = coef b m) : trim a = b := tr_uniq (tr_trim a) hb fun m => by rw [coef_trim, h]

/-! ### sums -/
def addL (c : Int) (f g : List Int) : List Int := mkL (max f.length g.length) fun m => coef f m + c * coef g m
theorem coef_addL (c : Int) (f g : List Int) (m : Nat) : coef (addL c f g) m = coef f m + c * coef g m := by
  unfold addL
  rw [coef_mkL]
  split
  · rfl
  · rename_i h
    rw [coef_ge (show f.length ≤ m by omega), coef_ge (show g.length ≤ m by omega)]
    simp
def addP (c : Int) (f g : List Int) : List Int := trim (addL c f g)
theorem coef_addP (c : Int) (f g : List Int) (m : Nat) : coef (addP c f g) m = coef f m + c * coef g m := by
  unfold addP
  rw [coef_trim, coef_addL]
theorem coef_neg (g : List Int) (m : Nat) : coef (g.map fun x => -x) m = -coef g m := by
  by_cases h : m < g.length
  · rw [coef_lt (by rw [List.length_map]; exact h), coef_lt h, List.getElem_map]
  · rw [coef_ge (by rw [List.length_map]; omega), coef_ge (by omega)]
    rfl
theorem addP_neg (f g : List Int) : addP 1 f (g.map fun x => -x) = addP (0 - 1) f g := trim_ext fun m => by
  rw [coef_addL, coef_addL, coef_neg]
  omega

/-! ### products -/
/-- the number of the m-th power in the product of the first i numbers of f, and g -/
def cv (f g : List Int) : Nat → Nat → Int
  | 0, _ => 0
  | i + 1, m => cv f g i m + if i ≤ m then coef f i * coef g (m - i) else 0
theorem cv_far (f g : List Int) (m : Nat) : ∀ i, i + g.length ≤ m + 1 → cv f g i m = 0
  | 0, _ => rfl
  | i + 1, h => by
    unfold cv
    rw [cv_far f g m i (by omega), if_pos (by omega), coef_ge (show g.length ≤ m - i by omega)]
    simp
theorem cv_last {f g : List Int} (hf : f ≠ []) (hg : g ≠ []) : cv f g f.length (f.length + g.length - 2) = coef f (f.length - 1) * coef g (g.length - 1) := by
  have l1 := List.length_pos_iff.mpr hf
  have l2 := List.length_pos_iff.mpr hg
  obtain ⟨n, e⟩ : ∃ n, f.length = n + 1 := ⟨f.length - 1, by omega⟩
  rw [e]
  unfold cv
  rw [cv_far f g _ n (by omega), if_pos (by omega), Nat.add_sub_cancel, show n + 1 + g.length - 2 - n = g.length - 1 by omega]
  simp
/-- as the program multiplies, as the law does -/
def mulP (f g : List Int) : List Int := if f = [] ∨ g = [] then [] else mkL (f.length + g.length - 1) (cv f g f.length)
def mulL (f g : List Int) : List Int := trim (mkL (f.length + g.length) (cv f g f.length))
theorem coef_mulP (f g : List Int) (m : Nat) : coef (mulP f g) m = cv f g f.length m := by
  unfold mulP
  split
  · rename_i h
    rw [coef_nil]
    rcases h with h | h
    · rw [h]
      rfl
    · subst h
      symm
      have : ∀ i, cv f [] i m = 0 := fun i => by
        induction i with
        | zero => rfl
        | succ i ih =>
          unfold cv
          rw [ih, coef_nil]
          simp
      exact this _
  · rename_i h
    rw [coef_mkL]
    split
    · rfl
    · rename_i q
      exact (cv_far f g m _ (by omega)).symm
theorem coef_mulL (f g : List Int) (m : Nat) : coef (mulL f g) m = cv f g f.length m := by
  unfold mulL
  rw [coef_trim, coef_mkL]
  split
  · rfl
  · rename_i q
    exact (cv_far f g m _ (by omega)).symm
theorem tr_mulP {f g : List Int} (hf : Tr f) (hg : Tr g) : Tr (mulP f g) := by
  intro h
  unfold mulP at h ⊢
  split
  · rename_i q
    rw [if_pos q] at h
    exact absurd rfl h
  · rename_i q
    have q1 : f ≠ [] := fun e => q (.inl e)
    have q2 : g ≠ [] := fun e => q (.inr e)
    have l1 := List.length_pos_iff.mpr q1
    have l2 := List.length_pos_iff.mpr q2
    rw [mkL_len, coef_mkL, if_pos (by omega), show f.length + g.length - 1 - 1 = f.length + g.length - 2 by omega, cv_last q1 q2]
    exact Int.mul_ne_zero (hf q1) (hg q2)
theorem mul_eq {f g : List Int} (hf : Tr f) (hg : Tr g) : mulL f g = mulP f g := by
  unfold mulL
  refine trim_eq (tr_mulP hf hg) fun m => ?_
  rw [coef_mulP, ← coef_mulL]
  unfold mulL
  rw [coef_trim]

/-! ### at a power -/
def pw (f : List Int) (k m : Nat) : Int := if m % k = 0 then coef f (m / k) else 0
def atP (f : List Int) (k : Nat) : List Int := if f = [] then [] else mkL ((f.length - 1) * k + 1) (pw f k)
def wideL (k : Nat) : List Int → List Int
  | [] => []
  | x :: f => x :: List.replicate (k - 1) 0 ++ wideL k f
theorem pw_far {f : List Int} {k m : Nat} (hk : 1 ≤ k) (h : (f.length - 1) * k < m) : pw f k m = 0 := by
  unfold pw
  split
  · rename_i q
    refine coef_ge (Nat.le_of_not_lt fun r => ?_)
    have e := Nat.div_add_mod m k
    rw [q, Nat.add_zero] at e
    have : k * (m / k) ≤ k * (f.length - 1) := Nat.mul_le_mul_left k (by omega)
    rw [e, Nat.mul_comm] at this
    omega
  · rfl
theorem coef_atP {f : List Int} {k : Nat} (hk : 1 ≤ k) (m : Nat) : coef (atP f k) m = pw f k m := by
  unfold atP
  split
  · rename_i h
    subst h
    rw [coef_nil]
    unfold pw
    rw [coef_nil]
    split <;> rfl
  · rw [coef_mkL]
    split
    · rfl
    · exact (pw_far hk (by omega)).symm
theorem tr_atP {f : List Int} {k : Nat} (hk : 1 ≤ k) (hf : Tr f) : Tr (atP f k) := by
  intro h
  unfold atP at h ⊢
  split
  · rename_i q
    rw [if_pos q] at h
    exact absurd rfl h
  · rename_i q
    rw [mkL_len, Nat.add_sub_cancel, coef_mkL, if_pos (by omega)]
    unfold pw
    rw [Nat.mul_mod_left, if_pos rfl, Nat.mul_div_cancel _ (by omega)]
    exact hf q
theorem coef_wide {k : Nat} (hk : 1 ≤ k) : ∀ (f : List Int) (m : Nat), coef (wideL k f) m = pw f k m
  | [], m => by
    unfold pw
    rw [coef_nil]
    show coef [] m = _
    rw [coef_nil]
    split <;> rfl
  | x :: f, m => by
    have hl : (x :: List.replicate (k - 1) (0 : Int)).length = k := by
      rw [List.length_cons, List.length_replicate]
      omega
    show coef ((x :: List.replicate (k - 1) 0) ++ wideL k f) m = _
    rw [coef_app, hl]
    split
    · rename_i h
      unfold pw
      cases m with
      | zero =>
        rw [Nat.zero_mod, if_pos rfl, Nat.zero_div]
        rfl
      | succ m =>
        rw [Nat.mod_eq_of_lt h, if_neg (by omega)]
        show coef (List.replicate (k - 1) 0) m = 0
        exact coef_rep
    · rename_i h
      rw [coef_wide hk f (m - k)]
      unfold pw
      obtain ⟨d, rfl⟩ : ∃ d, m = k + d := ⟨m - k, by omega⟩
      rw [Nat.add_sub_cancel_left, Nat.add_mod_left, Nat.add_div_left _ (by omega)]
      rfl
theorem wide_eq {f : List Int} {k : Nat} (hk : 1 ≤ k) (hf : Tr f) : trim (wideL k f) = atP f k := trim_eq (tr_atP hk hf) fun m => by rw [coef_wide hk, coef_atP hk]
theorem wide_snoc (k : Nat) : ∀ (f : List Int) (x : Int), wideL k (f ++ [x]) = wideL k f ++ (x :: List.replicate (k - 1) 0)
  | [], x => by
    show x :: List.replicate (k - 1) 0 ++ [] = [] ++ _
    rw [List.append_nil, List.nil_append]
  | y :: f, x => by
    show y :: List.replicate (k - 1) 0 ++ wideL k (f ++ [x]) = (y :: List.replicate (k - 1) 0 ++ wideL k f) ++ _
    rw [wide_snoc k f x, List.append_assoc]
theorem wide_len {k : Nat} (hk : 1 ≤ k) : ∀ f : List Int, (wideL k f).length = f.length * k
  | [] => by
    show 0 = 0 * k
    omega
  | x :: f => by
    show (x :: List.replicate (k - 1) 0 ++ wideL k f).length = (f.length + 1) * k
    rw [List.length_append, List.length_cons, List.length_replicate, wide_len hk f, Nat.add_mul]
    omega

/-! ### values -/
def valP (x : Int) : List Int → Int
  | [] => 0
  | a :: f => a + x * valP x f
theorem val_drop {x : Int} {f : List Int} {i : Nat} {a : Int} (h : f[i]? = some a) : valP x (f.drop i) = a + x * valP x (f.drop (i + 1)) := by
  have hi := (List.getElem?_eq_some_iff.mp h).1
  rw [List.drop_eq_getElem_cons hi]
  have e : f[i] = a := (List.getElem?_eq_some_iff.mp h).2
  rw [e]
  rfl
end Kp

/-! Whole numbers: the whole root, primes, how a number is parted, its divisors. -/
namespace Kp
theorem sq_nn (a : Int) : 0 ≤ a * a := by
  rcases Int.le_total 0 a with h | h
  · exact Int.mul_nonneg h h
  · have := Int.mul_nonneg (show 0 ≤ -a by omega) (show 0 ≤ -a by omega)
    rwa [Int.neg_mul_neg] at this
theorem sq_sub (a b : Int) : (a - b) * (a - b) = a * a - 2 * (a * b) + b * b := by
  rw [Int.sub_mul, Int.mul_sub, Int.mul_sub, Int.mul_comm b a]
  omega
theorem sq_add (a b : Int) : (a + b) * (a + b) = a * a + 2 * (a * b) + b * b := by
  rw [Int.add_mul, Int.mul_add, Int.mul_add, Int.mul_comm b a]
  omega
theorem sq_lt {a b : Int} (ha : 0 ≤ a) (hb : 0 ≤ b) (h : a * a < b * b) : a < b := by
  refine Int.lt_of_not_ge fun q => ?_
  have := Int.mul_le_mul q q hb ha
  omega
/-- the whole root by one step from a whole root of a part -/
theorem newton {n x e : Int} (hx : 0 < x) (he : 1 ≤ e) (h1 : n < x * x) (h2 : (x - e) * (x - e) ≤ n) (h0 : e ≤ x) (h3 : (e * e) * (e * e) ≤ 2 * n) (hn : 0 < n) :
    n < ((x + n / x) / 2 + 1) * ((x + n / x) / 2 + 1) ∧ 0 < (x + n / x) / 2 ∧ ((x + n / x) / 2 - 1) * ((x + n / x) / 2 - 1) ≤ n := by
  have d1 := Int.mul_ediv_add_emod n x
  have d2 := Int.emod_nonneg n (show x ≠ 0 by omega)
  have d3 := Int.emod_lt_of_pos n hx
  have dq : 0 ≤ n / x := Int.ediv_nonneg (by omega) (by omega)
  generalize hq : n / x = q at *
  generalize hy : (x + q) / 2 = y at *
  have y1 : 2 * y ≤ x + q := by omega
  have y2 : x + q ≤ 2 * y + 1 := by omega
  have y0 : 0 ≤ y := by omega
  -- 2 y x <= x x + n and 2 (y + 1) x >= x x + n + 1
  have a1 : 2 * (y * x) ≤ x * x + x * q := by
    have := Int.mul_le_mul_of_nonneg_right y1 (show 0 ≤ x by omega)
    rw [Int.add_mul, Int.mul_assoc, Int.mul_comm q x] at this
    exact this
  have a2 : x * x + x * q + x ≤ 2 * ((y + 1) * x) := by
    have := Int.mul_le_mul_of_nonneg_right (show x + q + 1 ≤ 2 * (y + 1) by omega) (show 0 ≤ x by omega)
    rw [Int.add_mul, Int.add_mul, Int.mul_assoc, Int.mul_comm q x, Int.one_mul] at this
    exact this
  have up : n < (y + 1) * (y + 1) := by
    have s := sq_nn (y + 1 - x)
    rw [sq_sub] at s
    omega
  have qx : q < x := by
    refine Int.lt_of_not_ge fun r => ?_
    have := Int.mul_le_mul_of_nonneg_left r (show 0 ≤ x by omega)
    omega
  have yx : y < x := by omega
  refine ⟨up, ?_, ?_⟩
  · refine Int.lt_of_not_ge fun r => ?_
    have : y = 0 := by omega
    subst this
    rw [Int.zero_add, Int.one_mul] at up
    omega
  · refine Int.le_of_not_gt fun r => ?_
    -- z = y - 1 > root: x - z < e, its square beyond 2 x, so 2 x < e e, but e e e e <= 2 n < 4 x x
    have z0 : 0 ≤ y - 1 := by
      refine Int.le_of_not_gt fun r2 => ?_
      have : y = 0 := by omega
      subst this
      rw [Int.zero_add, Int.one_mul] at up
      omega
    have b1 : x - e < y - 1 := sq_lt (by omega) z0 (by omega)
    have b2 : x * x - 2 * (x * (y - 1)) + (y - 1) * (y - 1) > 2 * x := by
      have : x * (y - 1) = y * x - x := by rw [Int.mul_sub, Int.mul_one, Int.mul_comm]
      omega
    rw [← sq_sub] at b2
    have b3 : (x - (y - 1)) * (x - (y - 1)) ≤ e * e := Int.mul_le_mul (by omega) (by omega) (by omega) (by omega)
    have b4 : 2 * x < e * e := by omega
    have b5 : (2 * x) * (2 * x) < (e * e) * (e * e) := Int.mul_lt_mul b4 (Int.le_of_lt b4) (by omega) (by omega)
    have b6 : (2 * x) * (2 * x) = 4 * (x * x) := by
      rw [Int.mul_assoc, Int.mul_left_comm x 2 x]
      omega
    omega
open PySem.Float64 in
theorem root_ok : ∀ (L n : Nat), n.log2 ≤ L → rootByHalves L n * rootByHalves L n ≤ n ∧ n < (rootByHalves L n + 1) * (rootByHalves L n + 1) := by
  have small : ∀ n, n < 8 → rootBelow8 n * rootBelow8 n ≤ n ∧ n < (rootBelow8 n + 1) * (rootBelow8 n + 1) := by decide
  intro L
  induction L with
  | zero =>
    intro n h
    have : n < 2 := by
      by_cases h0 : n = 0
      · omega
      · exact (Nat.log2_lt h0).mp (by omega : n.log2 < 1)
    exact small n (by omega)
  | succ L ih =>
    intro n h
    unfold rootByHalves
    by_cases h8 : n < 8
    · rw [if_pos h8]
      exact small n h8
    · rw [if_neg h8]
      have l3 : 3 ≤ n.log2 := (Nat.le_log2 (by omega)).mpr (by omega)
      simp only
      generalize hk : (n.log2 + 1) / 4 = k
      have k1 : 1 ≤ k := by omega
      have p4 : 0 < 4 ^ k := Nat.pow_pos (by decide)
      have e4 : (4 : Nat) ^ k = 2 ^ k * 2 ^ k := by
        rw [← Nat.mul_pow]
      have hlog : (n / 4 ^ k).log2 ≤ L := by
        by_cases h0 : n / 4 ^ k = 0
        · rw [h0]
          exact Nat.zero_le _
        · have : (n / 4 ^ k).log2 < L + 1 := (Nat.log2_lt h0).mpr (by
            have h1 : n < 2 ^ (L + 2) := (Nat.log2_lt (by omega)).mp (by omega)
            refine Nat.div_lt_of_lt_mul ?_
            have h2 : (4 : Nat) ^ 1 ≤ 4 ^ k := Nat.pow_le_pow_right (by decide) k1
            have h3 : 2 * 2 ^ (L + 1) ≤ 4 ^ k * 2 ^ (L + 1) := Nat.mul_le_mul_right _ (by omega)
            rw [show L + 2 = (L + 1) + 1 from rfl, Nat.pow_succ] at h1
            omega)
          omega
      obtain ⟨s1, s2⟩ := ih (n / 4 ^ k) hlog
      generalize rootByHalves L (n / 4 ^ k) = s at *
      have two : 0 < 2 ^ k := Nat.pow_pos (by decide)
      -- e ^ 4 <= 2 n
      have hee : (2 ^ k * 2 ^ k) * (2 ^ k * 2 ^ k) ≤ 2 * n := by
        rw [← Nat.pow_add, ← Nat.pow_add]
        have h1 : 2 ^ n.log2 ≤ n := Nat.log2_self_le (by omega)
        have h2 : 2 ^ (k + k + (k + k)) ≤ 2 ^ (n.log2 + 1) := Nat.pow_le_pow_right (by decide) (by omega)
        rw [Nat.pow_succ] at h2
        omega
      have d1 := Nat.div_add_mod n (4 ^ k)
      have d2 := Nat.mod_lt n p4
      have hs1 : (s * 2 ^ k) * (s * 2 ^ k) ≤ n := by
        have : s * 2 ^ k * (s * 2 ^ k) = (s * s) * 4 ^ k := by
          rw [e4, Nat.mul_mul_mul_comm]
        rw [this]
        have h1 := Nat.mul_le_mul_right (4 ^ k) s1
        rw [Nat.mul_comm (n / 4 ^ k)] at h1
        omega
      have hs2 : n < ((s + 1) * 2 ^ k) * ((s + 1) * 2 ^ k) := by
        have : (s + 1) * 2 ^ k * ((s + 1) * 2 ^ k) = ((s + 1) * (s + 1)) * 4 ^ k := by
          rw [e4, Nat.mul_mul_mul_comm]
        rw [this]
        have h1 := Nat.mul_le_mul_right (4 ^ k) (show n / 4 ^ k + 1 ≤ (s + 1) * (s + 1) by omega)
        rw [Nat.add_mul, Nat.one_mul, Nat.mul_comm (n / 4 ^ k)] at h1
        omega
      generalize hx : (s + 1) * 2 ^ k = x at *
      generalize hE : 2 ^ k = e at *
      have hxe : x = s * e + e := by rw [← hx, Nat.add_mul, Nat.one_mul]
      have N := newton (n := (n : Int)) (x := (x : Int)) (e := (e : Int)) (by omega) (by omega) (by exact_mod_cast hs2) (by
        have : (x : Int) - (e : Int) = ((s * e : Nat) : Int) := by omega
        rw [this]
        exact_mod_cast hs1) (by omega) (by exact_mod_cast hee) (by omega)
      have ec : (((x + n / x) / 2 : Nat) : Int) = ((x : Int) + (n : Int) / (x : Int)) / 2 := by
        rw [Int.natCast_ediv, Int.natCast_add, Int.natCast_ediv]
        rfl
      rw [← ec] at N
      generalize (x + n / x) / 2 = y at *
      obtain ⟨N1, N2, N3⟩ := N
      have N1' : n < (y + 1) * (y + 1) := by exact_mod_cast N1
      have y1 : 1 ≤ y := by omega
      have N3' : (y - 1) * (y - 1) ≤ n := by
        have : ((y - 1 : Nat) : Int) = (y : Int) - 1 := by omega
        rw [← this] at N3
        exact_mod_cast N3
      split
      · rename_i hy
        refine ⟨N3', ?_⟩
        rw [Nat.sub_add_cancel y1]
        exact hy
      · rename_i hy
        exact ⟨Nat.le_of_not_gt hy, N1'⟩
theorem isqrt_ok (n : Nat) : PySem.Float64.isqrt n * PySem.Float64.isqrt n ≤ n ∧ n < (PySem.Float64.isqrt n + 1) * (PySem.Float64.isqrt n + 1) := root_ok n.log2 n (Nat.le_refl _)
end Kp

/-! An error of the text's own that an except suite keeps by a name, to be asked of behind the try. -/
namespace Kp
open PySem PySem.Spec PyProof.Rows L2 Evl

/-- at a stands an error of the class cls that has no dict of its own -/
def ExV (cls : Value) (a : Addr) : HO := .ext fun h => ∃ (o : Obj) (fs : Array Value), h.get? a = some o ∧ o.cls = cls ∧ o.dict = none ∧ o.data = .fields fs
section
variable {X : Cx} {pins : List (Addr × Obj)} {σ : L2.St} {H : Hp} {s : Shared}
/-- an object of ours that was pinned and not tracked is tracked from here on -/
theorem track {a : Addr} {o : Obj} {fs : Array Value} {cls : Value} (I : Inv X ((a, o) :: pins) σ H s) (n0 : X.s_0.heap.get? a = none) (nP : ∀ p ∈ X.pn ++ pins, p.1 ≠ a) (h1 : o.cls = cls) (h2 : o.dict = none) (h3 : o.data = .fields fs) :
    Inv X pins σ (upd H a (ExV cls a)) s := by
  obtain ⟨pa, pn, pl, pf, pc⟩ := I.pin (a, o) (List.mem_append_right _ (List.mem_cons_self ..))
  have old : ∀ {b : Addr} {u : Obj}, X.s_0.heap.get? b = some u → b ≠ a := fun {b u} e z => by
    subst z
    rw [n0] at e
    cases e
  have tr : ∀ {b : Addr} {u : HO}, H b = some u → b ≠ a := fun {b u} e => ne_of_none e pn
  exact {
    ok := I.ok
    os := I.os
    bare := I.bare
    base := {
      keep := I.base.keep
      slot := I.base.slot
      free := fun b u e n x => (upd_ne (old e)).trans (I.base.free b u e n x)
      there := I.base.there
      tups := fun b xs e => (upd_ne (tr (I.base.tups b xs e))).trans (I.base.tups b xs e)
      frzs := fun b u xs e => (upd_ne (tr (I.base.frzs b u xs e))).trans (I.base.frzs b u xs e)
      tbls := fun b ps e => by
        obtain ⟨m, q⟩ := I.base.tbls b ps e
        exact ⟨m, (upd_ne (tr q)).trans q⟩ }
    loc := I.loc
    cell := I.cell
    free := (upd_ne (Ne.symm pl)).trans I.free
    freeC := fun y c e => by
      have nc : c ≠ a := fun z => by
        obtain ⟨v, ⟨u, hu, du⟩⟩ := I.cell y c e
        rw [z] at hu
        have q : some u = some o := hu.symm.trans pa
        cases q
        exact pc _ du
      exact (upd_ne nc).trans (I.freeC y c e)
    pin := fun p hp => by
      have q := I.pin p (by
        rcases List.mem_append.mp hp with z | z
        · exact List.mem_append_left _ z
        · exact List.mem_append_right _ (List.mem_cons_of_mem _ z))
      exact ⟨q.1, (upd_ne (nP p hp)).trans q.2.1, q.2.2⟩
    hok := I.hok.laidN (fun _ _ e => e) pn ⟨⟨o, fs, pa, h1, h2, h3⟩, ⟨o, pa⟩, fun g g' ⟨u, us, q, r⟩ k => ⟨u, us, k u q, r⟩⟩
    len := I.len }
end

/-- what is wished of an error of the body where the suite is «y = n»: slot i is n's, slot j is y's; the clause always meets -/
def wKeep (K : PySem.W.Frag) (c : Value) (i j : Nat) (D : Ends) : WX := fun cls d σ H => PySem.W.exmOne K cls c = some true ∧ d = none ∧
  ∀ a, H a = none → D.nx (((σ.set i (some (.ref a))).set j (some (.ref a))).set i none) (upd H a (ExV cls a))
section
variable {X : Cx} {x n : Str} {c : Value} {i j : Nat} {body : List Stmt} {st : Stmt} {np pos pos' : Pos} {tb : WX → TS}
theorem keep_caught {pins : List (Addr × Obj)} {D : Ends} {u : Value} {s' : Shared} {xe : Value → Shared → Prop} (ok : X.Ok) (hs : X.stack = X.env :: X.outer) (hf : X.env.frame = some X.env.locals) (hex : X.ex = []) (hN : X.N.Nodup) (hi : X.N[i]? = some n) (hln : X.env.kindOf n = some .local) (hc : Names X x c)
    (hsu : ∀ (a : Addr) (o : Obj) (pn : List (Addr × Obj)), PSs (X.suite a ((a, o) :: pn)) [st] (tAsg (tVar i) (gName j))) (hij : i < X.N.length)
    (xx : XE (X.tr (X.pn ++ pins) xe) (wKeep X.K c i j D) u s') :
    wpAny (model X.prog X.w) X.A (noteFrame u X.env) (fun _ s₂ => wpAny (model X.prog X.w) X.A (setFlight u none) (fun _ s₃ => wpAny (model X.prog X.w) X.A (handleBy u X.env [.ExceptHandler (some (.Name x np)) (some n) [st] pos']) (SP X pins D) X.xe s₃) X.xe s₂) X.xe s' := by
  obtain ⟨a, B, sI, pins', σ', H', cls, d, rfl, JJ, nb, up, sky, na, os, ag, meets, rfl, wish⟩ := xx
  have J : Inv X pins σ' H' sI := Inv.ofTry JJ ok
  have frames : X.A.frames = some (X.env :: X.outer) := ok.frames.trans (congrArg some hs)
  have ground : B.get? a = none := by
    rcases sky with q | q | q
    · exact q.2.1
    · exact q.2.1
    · exact q.2.1
  have sky2 : Sky B (X.env :: X.outer) a (Zc cls none) X.env.locals s'.heap := hs ▸ sky
  refine Sky.land Zc.steady frames hf sky2 fun g fl upg => ?_
  -- the error is no frame's object
  obtain ⟨o, fs, ho, hz, hd⟩ := fl.there
  have noFrame : a ∉ frs (X.env :: X.outer) := fun m => by
    obtain ⟨_, o2, e2, no⟩ := fl.2.2.1.mem m
    have q := Option.some.inj (e2.symm.trans ho)
    exact no fs (q ▸ hd)
  have nL : a ≠ X.env.locals := fun z => noFrame (List.mem_filterMap.mpr ⟨X.env, List.mem_cons_self .., by rw [hf, z]⟩)
  have nF : a ∉ X.fs := fun m => by
    obtain ⟨e, he, q⟩ := List.mem_filterMap.mp m
    exact noFrame (List.mem_filterMap.mpr ⟨e, List.mem_cons_of_mem _ he, q⟩)
  have newI : sI.heap.get? a = none := by
    cases q : sI.heap.get? a with
    | none => rfl
    | some w =>
      have z := nb a w q (by
        show a ∉ frs X.stack
        rw [hs]
        exact noFrame)
      rw [ground] at z
      cases z
  have new0 : X.s_0.heap.get? a = none := by
    cases q : X.s_0.heap.get? a with
    | none => rfl
    | some w =>
      obtain ⟨w2, q2⟩ := J.base.there a w q (by
        rw [hex]
        exact fun z => nomatch z)
      rw [newI] at q2
      cases q2
  have newP : ∀ p ∈ X.pn ++ pins, p.1 ≠ a := fun p hp z => by
    have q := (J.pin p hp).1
    rw [z, newI] at q
    cases q
  have JG : Inv X pins σ' H' { s' with heap := g } := J.landed nb fl.1 (up.trans upg) os ag
  have SG := JG.suite ho hd na nL nF
  -- the clause's class is asked
  refine wpAny_handleBy_cons (codeAny_handlers_test ?_) (fun z => nomatch z)
  have kind : PySem.W.Looks (model X.prog X.w) g (typeOf (.ref a)) cls := fun A Q E t k q => wpAny_typeOf_ref (k _ _ ho) (by
    rw [hz.1]
    exact q)
  have ask := PySem.W.exm_one (M := model X.prog X.w) JG.kIn kind meets
  have named : ∀ {Q E : Value → Shared → Prop}, Q c { s' with heap := g } → wpAny (model X.prog X.w) (X.A.mark (some (.ref a))) (eval (.Name x np) X.env) Q E { s' with heap := g } := fun {Q E} q => by
    obtain ⟨g1, g2, g3⟩ := hc
    rcases g3 with m | ⟨m1, m2, m3⟩
    · exact ld_glob (X := X.suite a ((a, o) :: (X.pn ++ pins))) SG g1 m q g2
    · exact ld_blt (X := X.suite a ((a, o) :: (X.pn ++ pins))) SG g1 m1 m2 q m3 g2
  refine named (ask.here ?_)
  -- the suite
  refine codeAny_handlers_suite_as (HandSPX.lands_againZ fl fun g2 fl2 up2 => ?_)
  have J2 : Inv X pins σ' H' { s' with heap := g2 } := J.landed nb fl2.1 ((up.trans upg).trans up2) os ag
  obtain ⟨o2, fs2, ho2, hz2, hd2⟩ := fl2.there
  have S2 := J2.suite ho2 hd2 na nL nF
  refine store_ok (X := X.suite a ((a, o2) :: (X.pn ++ pins))) (v := .ref a) S2 hN hi (.inl hln) rfl (fun s5 S5 => ?_) (.inr hln)
  have len : i < σ'.length := by
    rw [J.len]
    exact hij
  have reads : tAsg (tVar i) (gName j) { nx := fun σ2 H2 => σ2 = (σ'.set i (some (.ref a))).set j (some (.ref a)) ∧ H2 = H', rt := fun _ _ => False } (σ'.set i (some (.ref a))) H' :=
    ⟨.ref a, List.getElem?_set_self len, rfl, rfl⟩
  refine wpAny_mono ((hsu a o2 (X.pn ++ pins)).run [] s5 _ H' _ S5 reads) (fun f s6 q => ?_) (fun _ _ z => z.elim)
  cases f with
  | next =>
    obtain ⟨σ6, H6, S6, rfl, rfl⟩ := q
    obtain ⟨t1, t2, t3, t4, t5⟩ := S6.pin (a, o2) (List.mem_append_left _ (List.mem_cons_self ..))
    have U6 : Inv X pins _ _ s6 := S6.unsuite ok
    have P6 : Inv X ((a, o2) :: pins) _ _ s6 := U6.pins_of fun p hp => by
      rcases List.mem_cons.mp hp with rfl | m
      · exact ⟨t1, t2, t3, t4, t5⟩
      · exact U6.pin p (List.mem_append_right _ m)
    exact gone_ok P6 hN hi hln fun s7 J7 => ⟨_, _, track J7 new0 newP hz2.1 hz2.2 hd2, wish a na⟩
  | brk =>
    obtain ⟨_, _, _, z⟩ := q
    exact z.elim
  | cont =>
    obtain ⟨_, _, _, z⟩ := q
    exact z.elim
  | ret v =>
    obtain ⟨_, _, _, _, _, z⟩ := q
    exact z.elim
theorem ps_try_keep (hs : X.stack = X.env :: X.outer) (hf : X.env.frame = some X.env.locals) (hex : X.ex = []) (hN : X.N.Nodup) (hi : X.N[i]? = some n) (hln : X.env.kindOf n = some .local) (hc : Names X x c) (hij : i < X.N.length)
    (hb : ∀ (W : WX) (pn : List (Addr × Obj)) (xe : Value → Shared → Prop), Takes (X.tr pn xe) W → PassesOwn (model X.prog X.w) X.A X.env xe → PSs (X.tr pn xe) body (tb W))
    (hsu : ∀ (a : Addr) (o : Obj) (pn : List (Addr × Obj)), PSs (X.suite a ((a, o) :: pn)) [st] (tAsg (tVar i) (gName j))) :
    PS X (.Try body [.ExceptHandler (some (.Name x np)) (some n) [st] pos'] [] [] pos) (fun D σ H => tb (wKeep X.K c i j D) D σ H) := by
  refine ⟨fun pins s σ H D I h => wpAny_Try_except ?_⟩
  have ok := I.ok
  have run := (hb (wKeep X.K c i j D) (X.pn ++ pins) _ (fun u s' xx => keep_caught (np := np) (pos' := pos') ok hs hf hex hN hi hln hc hsu hij xx) PassesOwn.looking).run [] s σ H D (I.toTry _) h
  refine wpAny_mono run (fun f s1 q => ?_) (fun _ _ z => z)
  cases f with
  | next =>
    obtain ⟨σ1, H1, J, z⟩ := q
    exact wpAny_execs_nil ⟨σ1, H1, J.ofTry ok, z⟩
  | brk =>
    obtain ⟨σ1, H1, J, z⟩ := q
    exact ⟨σ1, H1, J.ofTry ok, z⟩
  | cont =>
    obtain ⟨σ1, H1, J, z⟩ := q
    exact ⟨σ1, H1, J.ofTry ok, z⟩
  | ret v =>
    obtain ⟨v1, σ1, H1, J, r, z⟩ := q
    exact ⟨v1, σ1, H1, J.ofTry ok, r, z⟩
end

/-! ### isinstance of such an error -/
section
variable {X : Cx}
/-- isinstance(e, c); isinstance(e, (c1, c2, ..)) -/
def rIsX (K : PySem.W.Frag) (C : Addr) : List V → Hp → VK → Prop := fun xs H Q => ∃ (a : Addr) (c : V) (u : Value) (b : Bool), xs = [.ref a, c] ∧ H a = some (ExV (.ref C) a) ∧ ClsV c u ∧ PySem.W.kitOne K (.ref C) u = some b ∧ Q (.bl b) H
def rIsXT (K : PySem.W.Frag) (C : Addr) : List V → Hp → VK → Prop := fun xs H Q => ∃ (a tp : Addr) (cs : List V) (us : List Value) (b : Bool), xs = [.ref a, .ref tp] ∧ H a = some (ExV (.ref C) a) ∧ H tp = some (.tup cs) ∧ Paired ClsV cs us ∧ PySem.W.kitAny K (.ref C) us = some b ∧ Q (.bl b) H
theorem inst_of {pins : List (Addr × Obj)} {σ : L2.St} {H : Hp} {s : Shared} {a C : Addr} (I : Inv X pins σ H s) (h : H a = some (ExV (.ref C) a)) : ∃ o, PySem.W.InstAt s.heap a o C none := by
  obtain ⟨⟨o, fs, h1, h2, h3, h4⟩, _⟩ := I.hok a _ h
  obtain ⟨oc, od, dt, sl⟩ := o
  dsimp only at h2 h3 h4
  subst h2 h3 h4
  exact ⟨_, h1, rfl, rfl, trivial⟩
theorem call_isX {C : Addr} (T : ExcC X.K C) : CallR X (.builtin "isinstance") (rIsX X.K C) := by
  intro pins s σ H xs us Q I r h
  obtain ⟨a, c, u, b, rfl, ha, k, e, q⟩ := h
  obtain ⟨u1, u2, rfl, r1, r2⟩ := vals2 r
  obtain rfl := k.eq r2
  cases (show u1 = Value.ref a from r1)
  obtain ⟨o, J⟩ := inst_of I ha
  exact PySem.W.kia_one (PySem.W.handS_kitx_exc T.hg T.hk T.hs T.hd T.ha T.hn T.ht T.hm) I.kIn J e (fun z => nomatch z) fun tk => ⟨.bl b, H, I.tok tk, rfl, q⟩
theorem call_isXT {C : Addr} (T : ExcC X.K C) : CallR X (.builtin "isinstance") (rIsXT X.K C) := by
  intro pins s σ H xs us Q I r h
  obtain ⟨a, tp, cs, ws, b, rfl, ha, hT, k, e, q⟩ := h
  obtain ⟨u1, u2, rfl, r1, r2⟩ := vals2 r
  cases (show u1 = Value.ref a from r1)
  cases (show u2 = Value.ref tp from r2)
  obtain ⟨o, J⟩ := inst_of I ha
  obtain ⟨_, its, rv, ot, h1, h2, n, h3⟩ := I.hok tp _ hT
  obtain rfl := ClsV.all k rv
  obtain ⟨oc, od, dt, sl⟩ := ot
  dsimp only at h2 h3
  subst h2 h3
  exact PySem.W.kia_tup (PySem.W.handS_kitx_exc T.hg T.hk T.hs T.hd T.ha T.hn T.ht T.hm) I.kIn J h1 e (fun z => nomatch z) fun tk => ⟨.bl b, H, I.tok tk, rfl, q⟩
variable {K : PySem.W.Frag} {σ : L2.St} {H : Hp} {ta tb : TE} {C a : Addr}
theorem ev_isX {c : V} {u : Value} {b : Bool} (ha : Ev ta σ H (.ref a)) (hb : Ev tb σ H c) (h : H a = some (ExV (.ref C) a)) (k : ClsV c u) (e : PySem.W.kitOne K (.ref C) u = some b) : Ev (tCB (rIsX K C) (tCons ta (tCons tb tNil))) σ H (.bl b) := fun H1 e1 Q q =>
  ha H1 e1 _ fun H2 e2 => hb H2 (e1.trans e2) _ fun H3 e3 => ⟨a, c, u, b, rfl, (e1.trans (e2.trans e3)) _ _ h, k, e, q H3 (e2.trans e3)⟩
theorem ev_isXT {cs : List V} {us : List Value} {b : Bool} (ha : Ev ta σ H (.ref a)) (hb : EvU tb σ H cs) (h : H a = some (ExV (.ref C) a)) (k : Paired ClsV cs us) (e : PySem.W.kitAny K (.ref C) us = some b) : Ev (tCB (rIsXT K C) (tCons ta (tCons tb tNil))) σ H (.bl b) := fun H1 e1 Q q =>
  ha H1 e1 _ fun H2 e2 => hb H2 (e1.trans e2) _ fun p H3 np e3 hp => ⟨a, p, cs, us, b, rfl, (e1.trans (e2.trans e3)) _ _ h, hp, k, e, q H3 (e2.trans e3)⟩
end
end Kp

/-! Defs that raise; calls to them in a try; more of lists; one polynomial parted by another. -/
namespace Kp
open PySem PySem.Spec PyProof.Rows L2 Evl
/-- the class C, by the name x, straight under WheelError -/
structure OwnX (K : PySem.W.Frag) (mg : Str → Option Value) (x : Str) (C : Addr) : Prop where
  g : mg x = some (.ref C)
  kp : PySem.W.keepIn K (.ref C) = true
  xi : PySem.W.excIn K C [.type "ValueError", .type "Exception", .type "BaseException", .type "object"] "ValueError.__new__" = true
  ty : PySem.W.typeIn K (.ref C) = some (.type "type")
  e : ExcC K C
section
variable {P : Program} {w : World} {K : PySem.W.Frag} {mg : Str → Option Value} {base : Heap} {x : Str} {k : Nat} {ps N : List Str} {sp : Sp} {st : Stmt}
theorem Dfn.calX (d : Dfn K mg x ps st) (S : FnScope N ps (defScope st)) (len : ∀ vs H Q E, sp vs H Q E → vs.length = ps.length)
    (hbody : ∀ (f : Addr) (cdv : Value) (A : Around) (outer : List Env) (s : Shared) (H : Hp) (vs : List V) (Q : VK) (E : XK), Room k (A.deeper (envOfC x (defScope st) s.heap.objs.size f cdv)) → sp vs H Q E →
      ∃ t, PSs (cxOf (L2.CX P w) P w K mg base N x (defScope st) f cdv A outer s H E) (defBody st) t ∧ t { nx := fun _ H' => Q .non H', rt := Q } (start N vs) H) : Cal P w K mg base (L2.CX P w) x (k + 1) ps sp := by
  obtain ⟨f, fd, F, g, b⟩ := d
  exact ⟨f, fd, F.okX S len (hbody f), g, F.kp, b⟩
end
section
variable {X : Cx} {k : Nat} {ps : List Str} {sp : Sp} {W : WX} {x : Str} {p pos : Pos} {e : Expr} {es : List Expr} {t : TA}
theorem pe_calS (c : Cal X.prog X.w X.K X.mg X.base (L2.CX X.prog X.w) x k ps sp) (hr : Room k X.A) (hg : Gl X x) (tk : Takes X W)
    (ha : PA X (e :: es) t) (hdb : (x == ("__debug__" : Str)) = false := by decide) (he : starEach (e :: es) X.env = (false, eval e X.env) :: starEach es X.env := by rfl) (hpl : (backTo pos (starEach es X.env)).any (·.1) = false := by rfl) :
    PE X (.Call (.Name x p) (e :: es) [] pos) (tCallS sp (WE W) t) := by
  obtain ⟨f, fd, F, g, kp, b⟩ := c
  exact pe_callS F hr hg g kp b (fun σ => passAt tk σ) ha hdb he hpl
theorem pe_cls {C : Addr} (hg : Gl X x) (hm : X.mg x = some (.ref C)) (hd : (x == ("__debug__" : Str)) = false := by decide) : PE X (.Name x pos) (tC (.ref C)) := pe_glob hg hm rfl hd
theorem pmk_of {C : Addr} {m : Str} {j : Nat} {p2 : Pos} (T : OwnX X.K X.mg x C) (hg : Gl X x) (hdb : (x == ("__debug__" : Str)) = false := by decide) : PMk X (.Call (.Name x p) [.Constant (.str m) j p2] [] pos) (fun _ H Q => Q (.ref C) none H) :=
  pmk_own PySem.F.excBase_ValueError T.xi T.g T.kp (raises_own T.e.hs T.ty) hg hdb
end

/-! ### the class is asked -/
theorem exm_own {K : PySem.W.Frag} {mg : Str → Option Value} {x : Str} {B C : Addr} {b : Bool} (T : OwnX K mg x B) (h : PySem.W.subIn K (.ref C) (.ref B) = some b) : PySem.W.exmOne K (.ref C) (.ref B) = some b := PySem.W.exm_ref T.e.hs T.e.hd T.ty h

/-- by the name x the class D -/
structure GlX (mg : Str → Option Value) (x : Str) (D : Addr) : Prop where
  g : mg x = some (.ref D)
theorem kit_ref {K : PySem.W.Frag} {C D : Addr} {b : Bool} (hd : PySem.W.hasDictIn K D = true) (ht : PySem.W.typeIn K (.ref D) = some (.type "type")) (ne : C ≠ D) (h : PySem.W.subIn K (.ref C) (.ref D) = some b) : PySem.W.kitOne K (.ref C) (.ref D) = some b := by
  obtain ⟨cd, hc, _⟩ := PySem.W.any_some hd
  have e2 : ((PySem.W.clsIn K D).isSome && PySem.W.typeIn K (.ref D) == some (.type "type")) = true := by rw [hc, ht] <;> rfl
  unfold PySem.W.kitOne
  rw [if_neg (by simpa using ne)]
  show (if ((PySem.W.clsIn K D).isSome && PySem.W.typeIn K (.ref D) == some (.type "type")) = true then PySem.W.subIn K (.ref C) (.ref D) else none) = some b
  rw [if_pos e2]
  exact h
theorem kit_VE {K : PySem.W.Frag} {C : Addr} {b : Bool} (h : PySem.W.subIn K (.ref C) (.type "ValueError") = some b) : PySem.W.kitOne K (.ref C) (.type "ValueError") = some b := by
  unfold PySem.W.kitOne
  rw [if_neg (by simp)]
  show (if PySem.W.kitMeta "ValueError" = true then PySem.W.subIn K (.ref C) (.type "ValueError") else none) = some b
  rw [if_pos (by decide +kernel)]
  exact h
theorem cls_ne {K : PySem.W.Frag} {C D : Addr} (h1 : PySem.W.subIn K (.ref C) (.ref C) = some true) (h2 : PySem.W.subIn K (.ref C) (.ref D) = some false) : C ≠ D := fun e => by
  subst e
  rw [h1] at h2
  exact nomatch h2

/-! ### lists once more -/
section
variable {K : PySem.W.Frag} {D : Ends} {σ : L2.St} {H : Hp} {ta : TA} {tz : TS} {i : Nat}
theorem q_asgPop {te : TE} {l : Addr} {xs : List V} {y : V} (hl : H l = some (.lst (xs ++ [y]))) (ha : Ev te σ H (.ref l)) (k : ∀ H1, Ex H H1 → tz D (σ.set i (some y)) (upd H1 l (.lst xs))) :
    tSeq (tAsg (tBM0 K "list" rPop te) (gName i)) tz D σ H := ha H (Ex.refl H) _ fun H1 e1 =>
  ⟨Or.inl ⟨rfl, _, sq_of (e1 l _ hl)⟩, l, xs ++ [y], y, rfl, rfl, e1 l _ hl, by simp, by
    rw [List.dropLast_concat]
    exact k H1 e1⟩
theorem q_rev {te : TE} {l : Addr} {xs : List V} (hl : H l = some (.lst xs)) (ha : Ev te σ H (.ref l)) (k : ∀ H1, Ex H H1 → tz D σ (upd H1 l (.lst xs.reverse))) :
    tSeq (tDrop (tBM0 K "list" rReverse te)) tz D σ H := ha H (Ex.refl H) _ fun H1 e1 =>
  ⟨Or.inl ⟨rfl, _, sq_of (e1 l _ hl)⟩, l, xs, rfl, rfl, e1 l _ hl, k H1 e1⟩
theorem atI_last {α : Type} {xs : List α} {v : α} (h : xs[xs.length - 1]? = some v) : atI xs (-1) = some v := by
  have hj := (List.getElem?_eq_some_iff.mp h).1
  unfold atI ixN
  rw [if_neg (by omega), if_pos (by omega)]
  show xs[((-1 : Int) + (xs.length : Int)).toNat]? = some v
  rw [show ((-1 : Int) + (xs.length : Int)).toNat = xs.length - 1 by omega]
  exact h
theorem cut_init (xs : List V) : cutV xs none (some (-1)) = xs.take (xs.length - 1) := by
  unfold cutV
  rw [HT.sIx_none]
  show List.take ((if (-1 : Int) < 0 then ((-1 : Int) + (xs.length : Int)).toNat else min (-1 : Int).toNat xs.length) - 0) (xs.drop 0) = _
  rw [if_pos (by decide), Nat.sub_zero, List.drop_zero, show ((-1 : Int) + (xs.length : Int)).toNat = xs.length - 1 by omega]
end


section
variable {K : PySem.W.Frag} {D : Ends} {σ : L2.St} {H : Hp}
theorem ev_lenT {te : TE} {p : Addr} {xs : List V} (ha : Ev te σ H (.ref p)) (h : SqT K H p xs) : Ev (tCB (rLenS K) (tCons te tNil)) σ H (.int (xs.length : Int)) := fun H1 e Q q =>
  ha H1 e _ fun H2 e2 => ⟨p, xs, rfl, Or.inr (ex_t (e.trans e2) h), q H2 e2⟩
/-- a call whose first argument is a new list -/
theorem el_calL {sp : Sp} {t1 : TE} {ta : TA} {xs ys vs : List V} {E : XK} (h : EvL t1 σ H xs) (h2 : EvA ta σ H vs) (hs : ∀ p H1, Ex H H1 → H1 p = some (.lst xs) → ∀ Q : VK, RetL ys H1 Q → ∀ E : XK, sp (.ref p :: vs) H1 Q E) : EvL (tCall sp [] E (tCons t1 ta)) σ H ys := fun H1 e Q q =>
  h H1 e _ fun p H2 np e2 hp => h2 H2 (e.trans e2) _ fun H3 e3 => by
    show sp ((.ref p :: vs) ++ []) H3 Q E
    rw [List.append_nil]
    exact hs p H3 ((e.trans e2).trans e3) (e3 _ _ hp) Q (fun p' H4 hp' e4 h4 => q p' H4 (fresh_back (e2.trans e3) hp') ((e2.trans e3).trans e4) h4) E
theorem s_retVL {ta tb : TE} {v : V} {ys : List V} (h1 : Ev ta σ H v) (h2 : EvL tb σ H ys) (k : ∀ t q H1, H t = none → H q = none → Ex H H1 → H1 t = some (.tup [v, .ref q]) → H1 q = some (.lst ys) → D.rt (.ref t) H1) : tRet (tTup (tCons ta (tCons tb tNil))) D σ H :=
  h1 H (Ex.refl H) _ fun H1 e1 => h2 H1 e1 _ fun q H2 nq e2 hq => ⟨sz_of (show 2 ≤ 100000 by decide), fun t nt =>
    k t q _ (fresh_back (e1.trans e2) nt) (fresh_back e1 nq) ((e1.trans e2).trans (Ex.new nt)) upd_same (by rw [upd_ne (ne_of_none hq nt)]; exact hq)⟩
end

/-! ### parting -/
theorem cv_congr {a b g : List Int} {m : Nat} : ∀ i, (∀ j, j < i → coef a j = coef b j) → cv a g i m = cv b g i m
  | 0, _ => rfl
  | i + 1, h => by
    unfold cv
    rw [cv_congr i fun j hj => h j (by omega), h i (by omega)]
theorem cv_set {a b g : List Int} {m s : Nat} {x : Int} (h0 : coef a s = 0) (hs : coef b s = x) (h : ∀ j, j ≠ s → coef b j = coef a j) : ∀ i, s < i → cv b g i m = cv a g i m + if s ≤ m then x * coef g (m - s) else 0
  | 0, q => absurd q (Nat.not_lt_zero _)
  | i + 1, q => by
    unfold cv
    by_cases e : s = i
    · subst e
      rw [cv_congr s fun j hj => h j (by omega), hs, h0]
      split <;> simp
    · rw [cv_set h0 hs h i (by omega), h i (by omega)]
      omega
theorem cv_none {a g : List Int} {m : Nat} : ∀ i, (∀ j, j < i → coef a j = 0) → cv a g i m = 0
  | 0, _ => rfl
  | i + 1, h => by
    unfold cv
    rw [cv_none i fun j hj => h j (by omega), h i (by omega)]
    split <;> simp
end Kp

/-! Sums round n as lists: products by places, turned, spread. -/
namespace Kp
theorem addmod {i j n : Nat} (hi : i < n) (hj : j < n) : (i + j) % n = if i + j < n then i + j else i + j - n := by
  split
  · rename_i h
    exact Nat.mod_eq_of_lt h
  · rename_i h
    rw [Nat.mod_eq_sub_mod (by omega), Nat.mod_eq_of_lt (by omega)]
theorem submod {m i n : Nat} (hm : m < n) (hi : i < n) : (m + n - i) % n = if i ≤ m then m - i else m + n - i := by
  split
  · rename_i h
    rw [Nat.mod_eq_sub_mod (by omega), show m + n - i - n = m - i by omega, Nat.mod_eq_of_lt (by omega)]
  · rename_i h
    exact Nat.mod_eq_of_lt (by omega)
theorem addmod_eq {i j m n : Nat} (hi : i < n) (hj : j < n) (hm : m < n) : m = (i + j) % n ↔ (m + n - i) % n = j := by
  rw [addmod hi hj, submod hm hi]
  split <;> split <;> omega
/-- the number at the place m of the product of the first i numbers of f, and g -/
def cs (f g : List Int) (n : Nat) : Nat → Nat → Int
  | 0, _ => 0
  | i + 1, m => cs f g n i m + coef f i * coef g ((m + n - i) % n)
def mulS (f g : List Int) : List Int := mkL f.length (cs f g f.length f.length)
def addS (f g : List Int) : List Int := List.zipWith (· + ·) f g
theorem addS_len {f g : List Int} (h : f.length = g.length) : (addS f g).length = f.length := by
  unfold addS
  rw [List.length_zipWith]
  omega
theorem coef_addS {f g : List Int} (h : f.length = g.length) (m : Nat) : coef (addS f g) m = coef f m + coef g m := by
  by_cases q : m < f.length
  · rw [coef_lt (by rw [addS_len h]; exact q), coef_lt q, coef_lt (by omega)]
    unfold addS
    rw [List.getElem_zipWith]
  · rw [coef_ge (by rw [addS_len h]; omega), coef_ge (by omega), coef_ge (by omega)]
    rfl
theorem mulS_len (f g : List Int) : (mulS f g).length = f.length := mkL_len _ _
def turnS (f : List Int) (j : Int) : List Int := mkL f.length fun m => coef f (((m : Int) - j) % (f.length : Int)).toNat
theorem turn_eq {a m n : Nat} {j : Int} (ha : a < n) (hm : m < n) : (m : Int) = ((a : Int) + j) % (n : Int) ↔ (((m : Int) - j) % (n : Int)).toNat = a := by
  have e1 := Int.emod_add_mul_ediv ((a : Int) + j) n
  have e2 := Int.emod_add_mul_ediv ((m : Int) - j) n
  have b2 := Int.emod_nonneg ((m : Int) - j) (show (n : Int) ≠ 0 by omega)
  constructor
  · intro h
    rw [← h] at e1
    have : (m : Int) - j = (a : Int) + (n : Int) * (-(((a : Int) + j) / (n : Int))) := by
      rw [Int.mul_neg]
      omega
    rw [this, Int.add_mul_emod_self_left, Int.emod_eq_of_lt (by omega) (by omega)]
    omega
  · intro h
    have h2 : ((m : Int) - j) % (n : Int) = (a : Int) := by omega
    rw [h2] at e2
    have : (a : Int) + j = (m : Int) + (n : Int) * (-(((m : Int) - j) / (n : Int))) := by
      rw [Int.mul_neg]
      omega
    rw [this, Int.add_mul_emod_self_left, Int.emod_eq_of_lt (by omega) (by omega)]
def spreadS (f : List Int) (k : Nat) : List Int := mkL (k * f.length) (pw f k)
theorem spread_eq {a m k : Nat} (hk : 1 ≤ k) : m = k * a ↔ m % k = 0 ∧ m / k = a := by
  constructor
  · rintro rfl
    exact ⟨Nat.mul_mod_right _ _, Nat.mul_div_cancel_left _ (by omega)⟩
  · rintro ⟨h1, h2⟩
    have := Nat.div_add_mod m k
    rw [h1, h2] at this
    omega
theorem spread_lt {a k n : Nat} (hk : 1 ≤ k) (ha : a < n) : k * a < k * n := (Nat.mul_lt_mul_left (by omega)).mpr ha
theorem pw_lt {f : List Int} {k m : Nat} (hk : 1 ≤ k) : pw f k m = if m % k = 0 ∧ m / k < f.length then coef f (m / k) else 0 := by
  unfold pw
  by_cases h : m % k = 0
  · rw [if_pos h]
    by_cases q : m / k < f.length
    · rw [if_pos ⟨h, q⟩]
    · rw [if_neg (fun z => q z.2), coef_ge (by omega)]
  · rw [if_neg h, if_neg (fun z => h z.1)]
end Kp

/-! Comprehensions over zip; lists of new lists; == of lists of lists. -/
namespace Kp
open PySem PySem.Spec PyProof.Rows L2 Evl
section
variable {K : PySem.W.Frag} {σ : L2.St} {H H' : Hp} {ta tb te tl to ti : TE} {t : TT} {x y z v : V} {D : Ends} {tu tz : TS} {vs : List Nat}
/-- two arguments, lists of ints, either by its name or new -/
def EvAZ (K : PySem.W.Frag) (tg : TA) (σ : L2.St) (H : Hp) (ns ms : List Int) : Prop := ∀ H1, Ex H H1 → ∀ Q : List V → Hp → Prop, (∀ a b H2, Ex H1 H2 → SqL K H2 a (ns.map V.int) → SqL K H2 b (ms.map V.int) → Q [.ref a, .ref b] H2) → tg σ H1 Q
theorem az_vv {a b : Addr} {ns ms : List Int} (ha : Ev ta σ H (.ref a)) (hb : Ev tb σ H (.ref b)) (hx : SqL K H a (ns.map V.int)) (hy : SqL K H b (ms.map V.int)) : EvAZ K (tCons ta (tCons tb tNil)) σ H ns ms := fun H1 e Q q =>
  ha H1 e _ fun H2 e2 => hb H2 (e.trans e2) _ fun H3 e3 => q a b H3 (e2.trans e3) (ex_l ((e.trans e2).trans e3) hx) (ex_l ((e.trans e2).trans e3) hy)
theorem az_vn {a : Addr} {ns ms : List Int} (ha : Ev ta σ H (.ref a)) (hx : SqL K H a (ns.map V.int)) (hb : EvL tb σ H (ms.map V.int)) : EvAZ K (tCons ta (tCons tb tNil)) σ H ns ms := fun H1 e Q q =>
  ha H1 e _ fun H2 e2 => hb H2 (e.trans e2) _ fun b H3 nb e3 h3 => q a b H3 (e2.trans e3) (ex_l ((e.trans e2).trans e3) hx) (sq_of h3)
theorem az_nn {ns ms : List Int} (ha : EvL ta σ H (ns.map V.int)) (hb : EvL tb σ H (ms.map V.int)) : EvAZ K (tCons ta (tCons tb tNil)) σ H ns ms := fun H1 e Q q =>
  ha H1 e _ fun a H2 na e2 h2 => hb H2 (e.trans e2) _ fun b H3 nb e3 h3 => q a b H3 (e2.trans e3) (sq_of (e3 _ _ h2)) (sq_of h3)
/-- [e for x, y in zip(a, b)] -/
theorem el_lcZ {tg : TA} {ns ms : List Int} {i j : Nat} (w : Int → Int → V) (h : EvAZ K tg σ H ns ms) (hl : ns.length = ms.length) (hz : ns.length ≤ 40000) (hw : ∀ x y, wipe (((wipe σ vs).set i (some x)).set j (some y)) vs = wipe σ vs)
    (he : ∀ x y H1, Ex H H1 → x ∈ ns → y ∈ ms → Ev te (((wipe σ vs).set i (some (.int x))).set j (some (.int y))) H1 (w x y)) :
    EvL (tLc (iZip K tg) (gTup K 2 (gCons (gName i) (gCons (gName j) gNil))) tYes te vs) σ H (List.zipWith w ns ms) := fun H0 e Q q => h H0 e _ fun a b H1 e1 ha hb => ⟨a, b, _, _, rfl, ha, hb, fun Dl hD =>
  lc_it (n := ns.length) (walk_zip (by rw [List.length_map, List.length_map]; omega)) (fun n H' => H1 Dl = none ∧ Ex H1 H' ∧ H' Dl = some (.lst ((List.zipWith w ns ms).take n))) ⟨hD, Ex.new hD, upd_same⟩ (fun n H' _ p => ⟨ex_l p.2.1 ha, ex_l p.2.1 hb⟩) (fun n v H' H'' hn p y => by
    obtain ⟨p1, p2, p3⟩ := p
    obtain ⟨T, x, y, rfl, hT, rfl, hx, hy⟩ := y
    obtain ⟨r, hr, rfl⟩ := map_get hx
    obtain ⟨s, hs, rfl⟩ := map_get hy
    have e2 : Ex H' (upd H' T (.tup [V.int r, V.int s])) := Ex.new hT
    refine ⟨T, _, rfl, .inl (.inl upd_same), rfl, .int r, [.int s], rfl, .int s, [], rfl, rfl, hw _ _, ?_⟩
    refine et_yes (H := H') _ e2 _ fun H3 e3 => ?_
    show te _ H3 _
    refine he r s H1 (e.trans e1) (List.mem_of_getElem? hr) (List.mem_of_getElem? hs) H3 (p2.trans (e2.trans e3)) _ fun H4 e4 => ⟨_, e4 Dl _ (e3 Dl _ (e2 Dl _ p3)), ?_, p1, Ex.mut (((p2.trans e2).trans e3).trans e4) p1, ?_⟩
    · refine sz_lt ?_
      rw [List.length_take, List.length_zipWith]
      omega
    · rw [upd_same, List.take_add_one, List.getElem?_zipWith, hr, hs]
      rfl) (fun H' p => by
    have q1 := p.2.2
    rw [List.take_of_length_le (by rw [List.length_zipWith]; omega)] at q1
    exact q Dl H' (fresh_back e1 p.1) (e1.trans p.2.1) q1)⟩

/-! ### many new lists, each known -/
def NewL (H H' : Hp) (ps : List Addr) (xss : List (List V)) : Prop := Paired (fun p xs => H p = none ∧ H' p = some (.lst xs)) ps xss ∧ ps.Nodup
theorem NewL.fresh : ∀ {ps : List Addr} {xss : List (List V)}, Paired (fun p xs => H p = none ∧ H' p = some (.lst xs)) ps xss → ∀ p ∈ ps, H p = none
  | _, _, .nil, p, h => nomatch h
  | _, _, .cons a r, p, h => by
    rcases List.mem_cons.mp h with rfl | h
    · exact a.1
    · exact NewL.fresh r p h
theorem NewL.got : ∀ {ps : List Addr} {xss : List (List V)}, Paired (fun p xs => H p = none ∧ H' p = some (.lst xs)) ps xss → ∀ p ∈ ps, ∃ xs, H' p = some (.lst xs)
  | _, _, .nil, p, h => nomatch h
  | _, _, .cons a r, p, h => by
    rcases List.mem_cons.mp h with rfl | h
    · exact ⟨_, a.2⟩
    · exact NewL.got r p h
theorem NewL.mono {H'' : Hp} {ps : List Addr} {xss : List (List V)} (e : Ex H' H'') (h : NewL H H' ps xss) : NewL H H'' ps xss := ⟨Paired.mapP h.1 fun _ _ ⟨q1, q2⟩ => ⟨q1, e _ _ q2⟩, h.2⟩
theorem NewL.back {H0 : Hp} {ps : List Addr} {xss : List (List V)} (e : Ex H0 H) (h : NewL H H' ps xss) : NewL H0 H' ps xss := ⟨Paired.mapP h.1 fun _ _ ⟨q1, q2⟩ => ⟨fresh_back e q1, q2⟩, h.2⟩
theorem NewL.nil : NewL H H' [] [] := ⟨.nil, List.nodup_nil⟩
theorem paired_app {α β : Type} {F : α → β → Prop} : ∀ {l1 : List α} {m1 : List β} {l2 : List α} {m2 : List β}, Paired F l1 m1 → Paired F l2 m2 → Paired F (l1 ++ l2) (m1 ++ m2)
  | _, _, _, _, .nil, h => h
  | _, _, _, _, .cons a r, h => .cons a (paired_app r h)
theorem NewL.app {H1 H2 : Hp} {ps qs : List Addr} {xss yss : List (List V)} (h1 : NewL H H1 ps xss) (e : Ex H H1) (h2 : NewL H1 H2 qs yss) (e2 : Ex H1 H2) : NewL H H2 (ps ++ qs) (xss ++ yss) := by
  refine ⟨paired_app (h1.mono e2).1 (h2.back e).1, List.nodup_append.mpr ⟨h1.2, h2.2, fun a ha b hb he => ?_⟩⟩
  subst he
  obtain ⟨xs, g⟩ := NewL.got h1.1 a ha
  have := NewL.fresh h2.1 a hb
  rw [g] at this
  cases this
def EvNL (ta : TA) (σ : L2.St) (H : Hp) (xss : List (List V)) : Prop := ∀ H1, Ex H H1 → ∀ Q : List V → Hp → Prop, (∀ (ps : List Addr) H2, Ex H1 H2 → NewL H1 H2 ps xss → Q (ps.map V.ref) H2) → ta σ H1 Q
theorem enl_nil : EvNL tNil σ H [] := fun H1 _ Q q => q [] H1 (Ex.refl H1) NewL.nil
theorem enl_cons {tr : TA} {xs : List V} {xss : List (List V)} (h : EvL te σ H xs) (hr : EvNL tr σ H xss) : EvNL (tCons te tr) σ H (xs :: xss) := fun H1 e Q q =>
  h H1 e _ fun p H2 np e2 hp => hr H2 (e.trans e2) _ fun ps H3 e3 N => q (p :: ps) H3 (e2.trans e3) ⟨.cons ⟨np, e3 _ _ hp⟩ (N.back e2).1, List.nodup_cons.mpr ⟨fun hm => absurd (hp.symm.trans (NewL.fresh N.1 p hm)) (fun z => nomatch z), N.2⟩⟩
theorem NewL.len {ps : List Addr} {xss : List (List V)} (h : NewL H H' ps xss) : ps.length = xss.length := Paired.length h.1
theorem NewL.out {p : Addr} {o : HO} {ps : List Addr} {xss : List (List V)} (h : NewL H H' ps xss) (hp : H' p = none) : NewL H (upd H' p o) ps xss ∧ p ∉ ps := by
  have hn : p ∉ ps := fun hm => by
    obtain ⟨xs, g⟩ := NewL.got h.1 p hm
    rw [hp] at g
    cases g
  exact ⟨h.mono (Ex.new hp), hn⟩
/-- x = [new, new, ..] -/
theorem q_asgNL {tr : TA} {xss : List (List V)} {i : Nat} (h : EvNL tr σ H xss) (hz : xss.length ≤ 100000) (k : ∀ L ps H1, H L = none → Ex H H1 → H1 L = some (.lst (ps.map V.ref)) → NewL H H1 ps xss → L ∉ ps → tz D (σ.set i (some (.ref L))) H1) :
    tSeq (tAsg (tLst tr) (gName i)) tz D σ H := h H (Ex.refl H) _ fun ps H1 e1 N => ⟨sz_of (by rw [List.length_map, N.len]; exact hz), fun L nL => by
  obtain ⟨N2, nm⟩ := N.out (o := .lst (ps.map V.ref)) nL
  exact k L ps _ (fresh_back e1 nL) (e1.trans (Ex.new nL)) upd_same N2 nm⟩
/-- x = x + [new, new, ..], what x held new too -/
theorem q_catNL {H0 : Hp} {tr : TA} {xss yss : List (List V)} {i j : Nat} {l : Addr} {ps : List Addr} (N : NewL H0 H ps xss) (e0 : Ex H0 H) (hv : σ[j]? = some (some (.ref l))) (hl : H l = some (.lst (ps.map V.ref))) (h : EvNL tr σ H yss) (hz : xss.length + yss.length ≤ 100000)
    (k : ∀ L qs H1, H L = none → Ex H H1 → H1 L = some (.lst (qs.map V.ref)) → NewL H0 H1 qs (xss ++ yss) → L ∉ qs → tz D (σ.set i (some (.ref L))) H1) :
    tSeq (tAsg (tOp rCat (tVar j) (tLst tr)) (gName i)) tz D σ H := ⟨_, hv, h H (Ex.refl H) _ fun qs H1 e1 M => ⟨sz_of (by rw [List.length_map, M.len]; omega), fun r nr => by
  obtain ⟨M2, nm⟩ := M.out (o := .lst (qs.map V.ref)) nr
  have e2 : Ex H (upd H1 r (.lst (qs.map V.ref))) := e1.trans (Ex.new nr)
  have hz2 : (ps.map V.ref).length + (qs.map V.ref).length ≤ 100000 := by
    rw [List.length_map, List.length_map, N.len, M.len]
    exact hz
  refine ⟨l, r, _, _, rfl, rfl, e2 _ _ hl, upd_same, sz_of hz2, fun L nL => ?_⟩
  obtain ⟨A, na⟩ := (N.app e0 M2 e2).out (o := .lst (ps.map V.ref ++ qs.map V.ref)) nL
  refine k L (ps ++ qs) _ (fresh_back e2 nL) (e2.trans (Ex.new nL)) (by rw [upd_same, List.map_append]) A na⟩⟩
theorem paired_get {α β : Type} {F : α → β → Prop} : ∀ {l : List α} {m : List β} {i : Nat} {a : α}, Paired F l m → l[i]? = some a → ∃ b, m[i]? = some b ∧ F a b
  | _, _, _, _, .nil, h => by simp at h
  | _, _, 0, _, .cons (b := b) q _, h => ⟨b, rfl, by
    have e := Option.some.inj h
    exact e ▸ q⟩
  | _, _, i + 1, _, .cons _ q, h => paired_get (i := i) q h
/-- for row in xs: .., what stands in xs new and each turn changing its own row alone -/
theorem s_forRows {H0 : Hp} {L : Addr} {ps : List Addr} {xss : List (List V)} {j : Nat} (hv : Ev tl σ H (.ref L)) (hL : H L = some (.lst (ps.map V.ref))) (N : NewL H0 H ps xss) (e0 : Ex H0 H) (nL : L ∉ ps) (hj : j < σ.length)
    (hs : ∀ p xs H' (D' : Ends), xs ∈ xss → H' p = some (.lst xs) → Ex H0 H' → D'.rt = D.rt → (∀ H3 o, Ex H' H3 → D'.nx (σ.set j (some (.ref p))) (upd H3 p o)) → tu D' (σ.set j (some (.ref p))) H')
    (hd : ∀ y H', Ex H0 H' → D.nx (σ.set j y) H') :
    tFor (iList K tl) (gName j) tu D σ H := by
  refine s_forLn (xs := ps.map V.ref) hv (SqL.of hL) (fun i σ' H' => (∃ y, σ' = σ.set j y) ∧ Ex H0 H' ∧ H' L = some (.lst (ps.map V.ref)) ∧ ∀ k p xs, i ≤ k → ps[k]? = some p → xss[k]? = some xs → H' p = some (.lst xs))
    (fun H1 e1 => ⟨⟨σ[j], (List.set_getElem_self hj).symm⟩, e0.trans e1, e1 _ _ hL, fun k p xs _ hp hx => ?_⟩) (fun i σ' H' _ hp => SqL.of hp.2.2.1) (fun i x σ' H' hx hp => ?_) (fun σ' H' hp => ?_)
  · obtain ⟨b, hb, hF⟩ := paired_get N.1 hp
    rw [hx] at hb
    cases hb
    exact e1 _ _ hF.2
  · obtain ⟨⟨y, rfl⟩, p2, p3, p4⟩ := hp
    rw [List.getElem?_map] at hx
    obtain ⟨p, hp, rfl⟩ := Option.map_eq_some_iff.mp hx
    obtain ⟨xs, hxs, hF⟩ := paired_get N.1 hp
    have hLp : L ≠ p := fun e => nL (e ▸ List.mem_of_getElem? hp)
    rw [List.set_set]
    refine hs p xs H' _ (List.mem_of_getElem? hxs) (p4 i p xs (Nat.le_refl i) hp hxs) p2 rfl fun H3 o e3 => ⟨⟨_, rfl⟩, Ex.mut (p2.trans e3) hF.1, ?_, fun k p' xs' hk hp' hx' => ?_⟩
    · rw [upd_ne hLp]
      exact e3 _ _ p3
    · have ne : p' ≠ p := fun e => by
        subst e
        obtain ⟨h1, g1⟩ := List.getElem?_eq_some_iff.mp hp
        obtain ⟨h2, g2⟩ := List.getElem?_eq_some_iff.mp hp'
        exact List.pairwise_iff_getElem.mp N.2 i k h1 h2 (by omega) (g1.trans g2.symm)
      rw [upd_ne ne]
      exact e3 _ _ (p4 k p' xs' (by omega) hp' hx')
  · obtain ⟨⟨y, rfl⟩, p2, _, _⟩ := hp
    exact hd y H' p2

/-! ### == of lists of lists of ints -/
def dLL (nss : List (List Int)) : PyData := .list (nss.map dI)
theorem dI_inj (a b : List Int) (e : dI a = dI b) : a = b := map_inj (fun _ _ q => PyData.int.inj q) a b (PyData.list.inj e)
theorem dI_ok (a : List Int) : okD (dI a) = true := by
  unfold dI okD
  exact okA_map _ (fun _ => rfl) a
theorem dI_dep (a : List Int) : (dI a).depth ≤ 1 := Nat.succ_le_succ (dep_map PyData.int 0 (fun _ => Nat.le_refl 0) a)
theorem dI_lay (a : List Int) : PyData.canLay0 (dI a) = true := lay_map _ (fun _ => rfl) a
theorem dLL_sh (nss : List (List Int)) : SeqAt.shaped (dLL nss) = true := shaped_of (lay_map _ dI_lay nss) (Nat.le_trans (Nat.succ_le_succ (dep_map dI 1 dI_dep nss)) (by decide))
theorem dLL_eqv (nss mss : List (List Int)) : PyData.eqv (dLL nss) (dLL mss) = decide (nss = mss) := eqv_dec dLL (fun l => by unfold dLL okD; exact okA_map _ dI_ok l) (fun a b e => map_inj dI_inj a b (PyData.list.inj e)) nss mss
theorem dpa_lists : ∀ {ps : List Addr} {nss : List (List Int)}, Paired (fun p ns => SqL K H p (ns.map V.int)) ps nss → DpAll K H (ps.map V.ref) (nss.map dI)
  | _, _, .nil => .nil
  | _, _, .cons q r => .cons (dp_ints q) (dpa_lists r)
theorem dp_lists {a : Addr} {ps : List Addr} {nss : List (List Int)} (h : SqL K H a (ps.map V.ref)) (p : Paired (fun p ns => SqL K H p (ns.map V.int)) ps nss) : Dp K H (.ref a) (dLL nss) := .lst h (dpa_lists p)
theorem paired_map {α β γ : Type} {F : α → β → Prop} {f : γ → β} : ∀ {l : List α} {m : List γ}, Paired F l (m.map f) → Paired (fun a c => F a (f c)) l m
  | [], [], .nil => .nil
  | _ :: _, _ :: _, .cons a r => .cons a (paired_map r)
theorem NewL.sq {ps : List Addr} {nss : List (List Int)} (h : NewL H H' ps (nss.map fun ns => ns.map V.int)) : Paired (fun p ns => SqL K H' p (ns.map V.int)) ps nss := Paired.mapP (paired_map h.1) fun _ _ q => sq_of q.2
theorem rv_neLL {p q : Addr} {ps qs : List Addr} {nss mss : List (List Int)} (h1 : SqL K H p (ps.map V.ref)) (p1 : Paired (fun p ns => SqL K H p (ns.map V.int)) ps nss) (h2 : SqL K H q (qs.map V.ref)) (p2 : Paired (fun p ns => SqL K H p (ns.map V.int)) qs mss) : RV (rNeD K) (.ref p) (.ref q) H (.bl (!decide (nss = mss))) :=
  rv_neD (fun _ e => dp_lists (ex_l e h1) (Paired.mapP p1 fun _ _ z => ex_l e z)) (fun _ e => dp_lists (ex_l e h2) (Paired.mapP p2 fun _ _ z => ex_l e z)) (dLL_sh _) (dLL_sh _) (by rw [dLL_eqv])
/-! tuples of lists of ints -/
def dTL (nss : List (List Int)) : PyData := .tuple (nss.map dI)
theorem dTL_sh (nss : List (List Int)) : SeqAt.shaped (dTL nss) = true := shaped_of (lay_map _ dI_lay nss) (Nat.le_trans (Nat.succ_le_succ (dep_map dI 1 dI_dep nss)) (by decide))
theorem dTL_eqv (nss mss : List (List Int)) : PyData.eqv (dTL nss) (dTL mss) = decide (nss = mss) := eqv_dec dTL (fun l => by unfold dTL okD; exact okA_map _ dI_ok l) (fun a b e => map_inj dI_inj a b (PyData.tuple.inj e)) nss mss
theorem dp_tlists {a : Addr} {ps : List Addr} {nss : List (List Int)} (h : SqT K H a (ps.map V.ref)) (p : Paired (fun p ns => SqL K H p (ns.map V.int)) ps nss) : Dp K H (.ref a) (dTL nss) := .tup h (dpa_lists p)
theorem rv_neTL {p q : Addr} {ps qs : List Addr} {nss mss : List (List Int)} (h1 : SqT K H p (ps.map V.ref)) (p1 : Paired (fun p ns => SqL K H p (ns.map V.int)) ps nss) (h2 : SqT K H q (qs.map V.ref)) (p2 : Paired (fun p ns => SqL K H p (ns.map V.int)) qs mss) : RV (rNeD K) (.ref p) (.ref q) H (.bl (!decide (nss = mss))) :=
  rv_neD (fun _ e => dp_tlists (ex_t e h1) (Paired.mapP p1 fun _ _ z => ex_l e z)) (fun _ e => dp_tlists (ex_t e h2) (Paired.mapP p2 fun _ _ z => ex_l e z)) (dTL_sh _) (dTL_sh _) (by rw [dTL_eqv])
end
end Kp
namespace Kp
open PySem PySem.Spec PyProof.Rows L2 Evl
section
variable {K : PySem.W.Frag} {σ : L2.St} {H H' : Hp} {ta tb tc td : TE} {y z : V} {D : Ends} {tz : TS}
/-- x = [new, new, told, told] -/
theorem q_asgL4 {i : Nat} {xs ys : List V} (h1 : EvL ta σ H xs) (h2 : EvL tb σ H ys) (h3 : Ev tc σ H y) (h4 : Ev td σ H z) (k : ∀ L p q H1, Ex H H1 → H L = none → H1 L = some (.lst [.ref p, .ref q, y, z]) → H1 p = some (.lst xs) → H1 q = some (.lst ys) → tz D (σ.set i (some (.ref L))) H1) :
    tSeq (tAsg (tLst (tCons ta (tCons tb (tCons tc (tCons td tNil))))) (gName i)) tz D σ H :=
  h1 H (Ex.refl H) _ fun p H1 np e1 hp => h2 H1 e1 _ fun q H2 nq e2 hq => h3 H2 (e1.trans e2) _ fun H3 e3 => h4 H3 ((e1.trans e2).trans e3) _ fun H4 e4 => ⟨sz_of (show 4 ≤ 100000 by decide), fun L nL => by
    have e34 := e3.trans e4
    have e04 := (e1.trans e2).trans e34
    have eN : Ex H4 (upd H4 L (.lst [.ref p, .ref q, y, z])) := Ex.new nL
    exact k L p q _ (e04.trans eN) (fresh_back e04 nL) upd_same (eN _ _ (e34 _ _ (e2 _ _ hp))) (eN _ _ (e34 _ _ hq))⟩
/-- o[i] = e, of a list of ints, and on -/
theorem q_setI {te to ti : TE} {l : Addr} {ns : List Int} {j : Nat} {b : Int} (hl : H l = some (.lst (ns.map V.int))) (ho : Ev to σ H (.ref l)) (hi : Ev ti σ H (.int (j : Nat))) (hj : j < ns.length) (he : Ev te σ H (.int b))
    (k : ∀ H1, Ex H H1 → tz D σ (upd H1 l (.lst ((ns.set j b).map V.int)))) : tSeq (tAsg te (gSub to ti rSetL)) tz D σ H := s_setI (D := { D with nx := tz D }) hl ho hi hj he k
end
end Kp

/-! Products of polynomials told by their value at one great number. -/
namespace Kp
def addK : List Int → List Int → List Int
  | [], g => g
  | a :: f, [] => a :: f
  | a :: f, b :: g => (a + b) :: addK f g
def mulK : List Int → List Int → List Int
  | [], _ => []
  | a :: f, g => addK (g.map fun x => a * x) (0 :: mulK f g)
def l1 : List Int → Nat
  | [] => 0
  | a :: f => a.natAbs + l1 f
theorem coef_cons (a : Int) (f : List Int) (m : Nat) : coef (a :: f) (m + 1) = coef f m := rfl
theorem coef_cons0 (a : Int) (f : List Int) : coef (a :: f) 0 = a := rfl
theorem coef_addK : ∀ (f g : List Int) (m : Nat), coef (addK f g) m = coef f m + coef g m
  | [], g, m => by
    show coef g m = _
    rw [coef_nil, Int.zero_add]
  | a :: f, [], m => by
    show coef (a :: f) m = _
    rw [coef_nil, Int.add_zero]
  | a :: f, b :: g, 0 => rfl
  | a :: f, b :: g, m + 1 => coef_addK f g m
theorem coef_scale (a : Int) (g : List Int) (m : Nat) : coef (g.map fun x => a * x) m = a * coef g m := by
  by_cases h : m < g.length
  · rw [coef_lt (by rw [List.length_map]; exact h), coef_lt h, List.getElem_map]
  · rw [coef_ge (by rw [List.length_map]; omega), coef_ge (by omega), Int.mul_zero]
theorem cv_cons (a : Int) (f g : List Int) : ∀ (i m : Nat), cv (a :: f) g (i + 1) m = a * coef g m + if 1 ≤ m then cv f g i (m - 1) else 0
  | 0, m => by
    show 0 + (if 0 ≤ m then a * coef g (m - 0) else 0) = a * coef g m + if 1 ≤ m then 0 else 0
    rw [if_pos (Nat.zero_le m), Nat.sub_zero]
    split <;> omega
  | i + 1, m => by
    rw [cv, cv_cons a f g i m, cv]
    by_cases h1 : 1 ≤ m
    · rw [if_pos h1, if_pos h1, coef_cons]
      by_cases h2 : i + 1 ≤ m
      · rw [if_pos h2, if_pos (show i ≤ m - 1 by omega), show m - 1 - i = m - (i + 1) by omega]
        omega
      · rw [if_neg h2, if_neg (show ¬ i ≤ m - 1 by omega)]
        omega
    · rw [if_neg h1, if_neg h1, if_neg (by omega)]
      omega
theorem cv_nil (g : List Int) (m : Nat) : cv [] g 0 m = 0 := rfl
theorem coef_mulK : ∀ (f g : List Int) (m : Nat), coef (mulK f g) m = cv f g f.length m
  | [], g, m => coef_nil m
  | a :: f, g, m => by
    show coef (addK (g.map fun x => a * x) (0 :: mulK f g)) m = cv (a :: f) g (f.length + 1) m
    rw [coef_addK, coef_scale, cv_cons]
    cases m with
    | zero => rfl
    | succ m =>
      rw [coef_cons, coef_mulK f g m, if_pos (by omega)]
      rfl
theorem val_addK (x : Int) : ∀ f g : List Int, valP x (addK f g) = valP x f + valP x g
  | [], g => by
    show valP x g = 0 + _
    omega
  | a :: f, [] => by
    show valP x (a :: f) = _ + 0
    omega
  | a :: f, b :: g => by
    show (a + b) + x * valP x (addK f g) = (a + x * valP x f) + (b + x * valP x g)
    rw [val_addK x f g, Int.mul_add]
    omega
theorem val_scale (x a : Int) : ∀ g : List Int, valP x (g.map fun y => a * y) = a * valP x g
  | [] => by
    show 0 = a * 0
    omega
  | b :: g => by
    show a * b + x * valP x (g.map fun y => a * y) = a * (b + x * valP x g)
    rw [val_scale x a g, Int.mul_add, Int.mul_left_comm]
theorem val_mulK (x : Int) : ∀ f g : List Int, valP x (mulK f g) = valP x f * valP x g
  | [], g => by
    show 0 = 0 * _
    omega
  | a :: f, g => by
    show valP x (addK (g.map fun y => a * y) (0 :: mulK f g)) = (a + x * valP x f) * valP x g
    rw [val_addK, val_scale]
    show a * valP x g + (0 + x * valP x (mulK f g)) = _
    rw [val_mulK x f g, Int.add_mul, Int.zero_add, Int.mul_assoc]
theorem l1_addK : ∀ f g : List Int, l1 (addK f g) ≤ l1 f + l1 g
  | [], g => by
    show l1 g ≤ 0 + l1 g
    omega
  | a :: f, [] => by
    show l1 (a :: f) ≤ _
    omega
  | a :: f, b :: g => by
    show (a + b).natAbs + l1 (addK f g) ≤ (a.natAbs + l1 f) + (b.natAbs + l1 g)
    have := l1_addK f g
    have := Int.natAbs_add_le a b
    omega
theorem l1_scale (a : Int) : ∀ g : List Int, l1 (g.map fun y => a * y) = a.natAbs * l1 g
  | [] => rfl
  | b :: g => by
    show (a * b).natAbs + l1 (g.map fun y => a * y) = a.natAbs * (b.natAbs + l1 g)
    rw [l1_scale a g, Int.natAbs_mul, Nat.mul_add]
theorem l1_mulK : ∀ f g : List Int, l1 (mulK f g) ≤ l1 f * l1 g
  | [], g => by
    show 0 ≤ 0 * _
    omega
  | a :: f, g => by
    show l1 (addK (g.map fun y => a * y) (0 :: mulK f g)) ≤ (a.natAbs + l1 f) * l1 g
    have h1 := l1_addK (g.map fun y => a * y) (0 :: mulK f g)
    have h2 : l1 (0 :: mulK f g) = l1 (mulK f g) := by
      show (0 : Int).natAbs + _ = _
      rw [Int.natAbs_zero, Nat.zero_add]
    have h3 := l1_mulK f g
    rw [l1_scale, h2] at h1
    rw [Nat.add_mul]
    omega
theorem coef_l1 : ∀ (f : List Int) (m : Nat), (coef f m).natAbs ≤ l1 f
  | [], m => by
    rw [coef_nil]
    exact Nat.le_refl 0
  | a :: f, 0 => by
    rw [coef_cons0]
    exact Nat.le_add_right _ _
  | a :: f, m + 1 => by
    rw [coef_cons]
    exact Nat.le_trans (coef_l1 f m) (Nat.le_add_left _ _)
theorem len_addK : ∀ f g : List Int, (addK f g).length = max f.length g.length
  | [], g => by
    show g.length = max 0 g.length
    omega
  | a :: f, [] => by
    show (a :: f).length = max (f.length + 1) 0
    rw [List.length_cons]
    omega
  | a :: f, b :: g => by
    show (addK f g).length + 1 = max (f.length + 1) (g.length + 1)
    rw [len_addK f g]
    omega
theorem len_mulK : ∀ f g : List Int, f ≠ [] → g ≠ [] → (mulK f g).length = f.length + g.length - 1
  | [], g, h, _ => absurd rfl h
  | [a], g, _, hg => by
    show (addK (g.map fun x => a * x) [0]).length = 1 + g.length - 1
    have := List.length_pos_iff.mpr hg
    rw [len_addK, List.length_map, List.length_singleton]
    omega
  | a :: b :: f, g, _, hg => by
    show (addK (g.map fun x => a * x) (0 :: mulK (b :: f) g)).length = (f.length + 1 + 1) + g.length - 1
    rw [len_addK, List.length_map, List.length_cons, len_mulK (b :: f) g (fun h => nomatch h) hg, List.length_cons]
    omega
/-- who agrees at a great number agrees -/
theorem lift {B : Nat} : ∀ P Q : List Int, l1 P + l1 Q < B → valP (B : Int) P = valP (B : Int) Q → ∀ m, coef P m = coef Q m := by
  intro P
  induction P with
  | nil =>
    intro Q
    induction Q with
    | nil => exact fun _ _ _ => rfl
    | cons b Q ih =>
      intro h e m
      have h2 : l1 [] + l1 (b :: Q) = b.natAbs + l1 Q := by
        show 0 + (b.natAbs + l1 Q) = _
        omega
      have e2 : (0 : Int) = b + (B : Int) * valP (B : Int) Q := e
      have hb : b = 0 := by
        refine Int.natAbs_eq_zero.mp (Nat.eq_zero_of_dvd_of_lt ?_ (show b.natAbs < B by omega))
        have : b = (B : Int) * (-valP (B : Int) Q) := by
          rw [Int.mul_neg]
          omega
        rw [this, Int.natAbs_mul]
        exact Nat.dvd_mul_right _ _
      subst hb
      have B0 : (B : Int) ≠ 0 := by omega
      have e3 : valP (B : Int) [] = valP (B : Int) Q := by
        show 0 = _
        have : (B : Int) * valP (B : Int) Q = 0 := by omega
        rcases Int.mul_eq_zero.mp this with h | h
        · exact absurd h B0
        · exact h.symm
      cases m with
      | zero => rfl
      | succ m =>
        rw [coef_cons, coef_nil, ← ih (by show 0 + l1 Q < B; omega) e3 m, coef_nil]
  | cons a P ih =>
    intro Q h e m
    cases Q with
    | nil =>
      have h2 : l1 (a :: P) + l1 [] = a.natAbs + l1 P := rfl
      have e2 : a + (B : Int) * valP (B : Int) P = 0 := e
      have ha : a = 0 := by
        refine Int.natAbs_eq_zero.mp (Nat.eq_zero_of_dvd_of_lt ?_ (show a.natAbs < B by omega))
        have : a = (B : Int) * (-valP (B : Int) P) := by
          rw [Int.mul_neg]
          omega
        rw [this, Int.natAbs_mul]
        exact Nat.dvd_mul_right _ _
      subst ha
      have B0 : (B : Int) ≠ 0 := by omega
      have e3 : valP (B : Int) P = valP (B : Int) [] := by
        show _ = 0
        have : (B : Int) * valP (B : Int) P = 0 := by omega
        rcases Int.mul_eq_zero.mp this with h | h
        · exact absurd h B0
        · exact h
      cases m with
      | zero => rfl
      | succ m =>
        rw [coef_cons, coef_nil, ih [] (by show l1 P + 0 < B; omega) e3 m, coef_nil]
    | cons b Q =>
      have h2 : l1 (a :: P) + l1 (b :: Q) = a.natAbs + l1 P + (b.natAbs + l1 Q) := rfl
      have e2 : a + (B : Int) * valP (B : Int) P = b + (B : Int) * valP (B : Int) Q := e
      have hab : a - b = 0 := by
        refine Int.natAbs_eq_zero.mp (Nat.eq_zero_of_dvd_of_lt ?_ (show (a - b).natAbs < B by omega))
        have : a - b = (B : Int) * (valP (B : Int) Q - valP (B : Int) P) := by
          rw [Int.mul_sub]
          omega
        rw [this, Int.natAbs_mul]
        exact Nat.dvd_mul_right _ _
      have B0 : (B : Int) ≠ 0 := by omega
      have e3 : valP (B : Int) P = valP (B : Int) Q := by
        have : (B : Int) * (valP (B : Int) P - valP (B : Int) Q) = 0 := by
          rw [Int.mul_sub]
          omega
        rcases Int.mul_eq_zero.mp this with h | h
        · exact absurd h B0
        · omega
      cases m with
      | zero =>
        rw [coef_cons0, coef_cons0]
        omega
      | succ m =>
        rw [coef_cons, coef_cons]
        exact ih Q (by omega) e3 m
theorem val_wide (x : Int) {k : Nat} (hk : 1 ≤ k) : ∀ f : List Int, valP x (wideL k f) = valP (x ^ k) f := by
  have rep : ∀ (n : Nat) (g : List Int), valP x (List.replicate n 0 ++ g) = x ^ n * valP x g := by
    intro n g
    induction n with
    | zero => rw [Int.pow_zero, Int.one_mul]; rfl
    | succ n ih =>
      show 0 + x * valP x (List.replicate n 0 ++ g) = _
      rw [ih, Int.pow_succ, Int.zero_add, ← Int.mul_assoc, Int.mul_comm x]
  intro f
  induction f with
  | nil => rfl
  | cons a f ih =>
    show a + x * valP x (List.replicate (k - 1) 0 ++ wideL k f) = a + x ^ k * valP (x ^ k) f
    rw [rep, ih, ← Int.mul_assoc, show x * x ^ (k - 1) = x ^ k by rw [Int.mul_comm, ← Int.pow_succ, Nat.succ_eq_add_one, Nat.sub_add_cancel hk]]
theorem l1_wide (k : Nat) : ∀ f : List Int, l1 (wideL k f) = l1 f := by
  have rep : ∀ (n : Nat) (g : List Int), l1 (List.replicate n 0 ++ g) = l1 g := by
    intro n g
    induction n with
    | zero => rfl
    | succ n ih =>
      show (0 : Int).natAbs + l1 (List.replicate n 0 ++ g) = _
      rw [ih, Int.natAbs_zero, Nat.zero_add]
  intro f
  induction f with
  | nil => rfl
  | cons a f ih =>
    show a.natAbs + l1 (List.replicate (k - 1) 0 ++ wideL k f) = a.natAbs + l1 f
    rw [rep, ih]
/-- f times g is h at k, all told by values -/
theorem times_at {B : Nat} {f g h : List Int} {k : Nat} (hk : 1 ≤ k) (hf : f ≠ []) (hg : g ≠ []) (hh : h ≠ []) (hl : f.length + g.length = (h.length - 1) * k + 2) (hb : l1 f * l1 g + l1 h < B) (e : valP (B : Int) f * valP (B : Int) g = valP ((B : Int) ^ k) h) : mulK f g = atP h k := by
  have key := lift (B := B) (mulK f g) (wideL k h) (by have := l1_mulK f g; rw [l1_wide]; omega) (by rw [val_mulK, val_wide _ hk, e])
  refine ext_of ?_ fun m _ => ?_
  · rw [len_mulK f g hf hg]
    unfold atP
    rw [if_neg hh, mkL_len]
    omega
  · rw [key, coef_wide hk, coef_atP hk]

/-! ### many factors -/
def prodR : List (List Int) → List Int
  | [] => [1]
  | g :: r => mulK (prodR r) g
def valR (x : Int) : List (List Int) → Int
  | [] => 1
  | g :: r => valR x r * valP x g
def l1R : List (List Int) → Nat
  | [] => 1
  | g :: r => l1R r * l1 g
def lenR : List (List Int) → Nat
  | [] => 0
  | g :: r => lenR r + (g.length - 1)
theorem prodR_val (x : Int) : ∀ l, valP x (prodR l) = valR x l
  | [] => by
    show 1 + x * 0 = 1
    omega
  | g :: r => by
    show valP x (mulK (prodR r) g) = valR x r * valP x g
    rw [val_mulK, prodR_val x r]
theorem prodR_l1 : ∀ l, l1 (prodR l) ≤ l1R l
  | [] => Nat.le_refl 1
  | g :: r => by
    show l1 (mulK (prodR r) g) ≤ l1R r * l1 g
    exact Nat.le_trans (l1_mulK _ _) (Nat.mul_le_mul_right _ (prodR_l1 r))
theorem prodR_len : ∀ l : List (List Int), (∀ g ∈ l, g ≠ []) → prodR l ≠ [] ∧ (prodR l).length = lenR l + 1
  | [], _ => ⟨(fun h => nomatch h), rfl⟩
  | g :: r, h => by
    obtain ⟨i1, i2⟩ := prodR_len r fun z hz => h z (List.mem_cons_of_mem _ hz)
    have hg := h g (List.mem_cons_self ..)
    have e : (prodR (g :: r)).length = lenR (g :: r) + 1 := by
      show (mulK (prodR r) g).length = lenR r + (g.length - 1) + 1
      have := List.length_pos_iff.mpr hg
      rw [len_mulK _ _ i1 hg, i2]
      omega
    exact ⟨fun z => absurd (z ▸ e : ([] : List Int).length = lenR (g :: r) + 1) (by simp), e⟩
theorem prodR_one {g : List Int} (h : g ≠ []) : prodR [g] = g := by
  show addK (g.map fun x => 1 * x) [0] = g
  refine ext_of ?_ fun m _ => ?_
  · have := List.length_pos_iff.mpr h
    rw [len_addK, List.length_map, List.length_singleton]
    omega
  · rw [coef_addK, coef_scale]
    cases m with
    | zero =>
      rw [coef_cons0]
      omega
    | succ m =>
      rw [coef_cons, coef_nil]
      omega
/-- x to the d, less 1 -/
def xd1 (d : Nat) : List Int := [-1] ++ List.replicate (d - 1) 0 ++ [1]
theorem xd1_len {d : Nat} (h : 1 ≤ d) : (xd1 d).length = d + 1 := by
  unfold xd1
  rw [List.length_append, List.length_append, List.length_replicate, List.length_singleton, List.length_singleton]
  omega
theorem xd1_wide {d : Nat} (h : 1 ≤ d) (m : Nat) : coef (xd1 d) m = coef (wideL d [-1, 1]) m := by
  have e : wideL d [-1, 1] = xd1 d ++ List.replicate (d - 1) 0 := by
    show -1 :: List.replicate (d - 1) 0 ++ (1 :: List.replicate (d - 1) 0 ++ []) = _
    unfold xd1
    simp
  rw [e, coef_app]
  split
  · rfl
  · rename_i q
    rw [coef_rep, coef_ge (by omega)]
theorem prod_xd1 {B d : Nat} {l : List (List Int)} (hd : 1 ≤ d) (hl : ∀ g ∈ l, g ≠ []) (hn : lenR l = d) (hb : l1R l + 2 < B) (e : valR (B : Int) l = (B : Int) ^ d - 1) : prodR l = xd1 d := by
  have key := lift (B := B) (prodR l) (wideL d [-1, 1]) (by
    have := prodR_l1 l
    rw [l1_wide]
    show l1 (prodR l) + 2 < B
    omega) (by
    rw [prodR_val, val_wide _ hd, e]
    show _ = -1 + (B : Int) ^ d * (1 + (B : Int) ^ d * 0)
    rw [Int.mul_zero, Int.add_zero, Int.mul_one]
    omega)
  refine ext_of ?_ fun m _ => ?_
  · rw [(prodR_len l hl).2, xd1_len hd, hn]
  · rw [key, xd1_wide hd]
/-- the numbers of a great one, by 2 to the 32, the least first -/
def dec : Nat → Int → List Int
  | 0, _ => []
  | k + 1, N => ((N + 2147483648) % 4294967296 - 2147483648) :: dec k ((N - ((N + 2147483648) % 4294967296 - 2147483648)) / 4294967296)
theorem dec_len : ∀ (k : Nat) (N : Int), (dec k N).length = k
  | 0, _ => rfl
  | k + 1, N => by
    show (dec k _).length + 1 = k + 1
    rw [dec_len k]
/-- f at p, through f -/
def stepF (f : List Int) (p : Nat) : List Int := dec ((f.length - 1) * (p - 1) + 1) (valP ((4294967296 : Int) ^ p) f / valP 4294967296 f)
end Kp

/-! How a number is parted, as the program does; the root polynomials up to 420, told by their values at one great number. -/
namespace Kp
/-! ### how often p divides, and what is left -/
def strip (p : Int) : Nat → Int → Int → Int × Int
  | 0, l, t => (l, t)
  | m + 1, l, t => if l % p = 0 then strip p m (l / p) (t + 1) else (l, t)
theorem strip_stop {p l t : Int} {m : Nat} (h : ¬ l % p = 0) : strip p m l t = (l, t) := by
  cases m with
  | zero => rfl
  | succ m =>
    unfold strip
    rw [if_neg h]
theorem strip_go {p l t : Int} {m : Nat} (h : l % p = 0) : strip p (m + 1) l t = strip p m (l / p) (t + 1) := by
  rw [strip, if_pos h]
theorem half_lt {p l : Int} {m : Nat} (hp : 2 ≤ p) (h0 : 0 < l) (h : l < 2 ^ (m + 1)) (hd : l % p = 0) : 0 < l / p ∧ l / p < 2 ^ m ∧ l / p ≤ l := by
  have e : p * (l / p) + l % p = l := Int.mul_ediv_add_emod l p
  have e2 : p * (l / p) = l := by omega
  have p0 : 0 < l / p := by
    refine Int.lt_of_not_ge fun q => ?_
    have := Int.mul_nonneg (show 0 ≤ p by omega) (show 0 ≤ -(l / p) by omega)
    rw [Int.mul_neg] at this
    omega
  have e3 : 2 * (l / p) ≤ p * (l / p) := Int.mul_le_mul_of_nonneg_right hp (Int.le_of_lt p0)
  rw [Int.pow_succ] at h
  generalize (2 : Int) ^ m = M at *
  omega
def pLoop : Nat → Int → Int → List (Int × Int) → Int × List (Int × Int)
  | 0, _, l, rows => (l, rows)
  | m + 1, p, l, rows => if p * p ≤ l then pLoop m (p + 1) (strip p 64 l 0).1 (if 0 < (strip p 64 l 0).2 then rows ++ [(p, (strip p 64 l 0).2)] else rows) else (l, rows)
/-- the rows of n's primes, as the program makes them -/
def partedF (n : Int) : List (Int × Int) := if 1 < (pLoop n.toNat 2 n []).1 then (pLoop n.toNat 2 n []).2 ++ [((pLoop n.toNat 2 n []).1, 1)] else (pLoop n.toNat 2 n []).2
theorem pLoop_stop {p l : Int} {rows : List (Int × Int)} {m : Nat} (h : ¬ p * p ≤ l) : pLoop m p l rows = (l, rows) := by
  cases m with
  | zero => rfl
  | succ m =>
    unfold pLoop
    rw [if_neg h]
theorem pLoop_go {p l : Int} {rows : List (Int × Int)} {m : Nat} (h : p * p ≤ l) : pLoop (m + 1) p l rows = pLoop m (p + 1) (strip p 64 l 0).1 (if 0 < (strip p 64 l 0).2 then rows ++ [(p, (strip p 64 l 0).2)] else rows) := by
  rw [pLoop, if_pos h]
theorem sq_le {p l : Int} (h : p * p ≤ l) (hl : l ≤ 1000000000) : p ≤ 31622 := by
  refine Int.le_of_not_gt fun q => ?_
  have := Int.mul_le_mul (show 31623 ≤ p by omega) (show 31623 ≤ p by omega) (by decide) (by omega)
  omega

def GF (n : Nat) : List Int := (partedF n).foldl (fun f r => stepF f r.1.toNat) [-1, 1]
def LF (n : Nat) : Nat := (partedF n).foldl (fun l r => l / r.1.toNat) n
def BB : Nat := 2 ^ 256
def chkA : List (Int × Int) → List Int → Bool
  | [], _ => true
  | r :: ps, f => decide (1 ≤ r.1) && (decide ((f.length - 1) * r.1.toNat ≤ 420) && (decide (valP BB (stepF f r.1.toNat) * valP BB f = valP ((BB : Int) ^ r.1.toNat) f) && (decide (l1 (stepF f r.1.toNat) * l1 f + l1 f < BB) && chkA ps (stepF f r.1.toNat))))
def eval1 (n : Nat) : Int × Nat × Nat := (valP ((BB : Int) ^ LF n) (GF n), l1 (GF n), ((GF n).length - 1) * LF n)
def eT : List (Int × Nat × Nat) := (List.range 420).map fun i => eval1 (i + 1)
def dvs (d : Nat) : List Nat := (List.range d).filter fun i => decide (d % (i + 1) = 0)
def vR3 : List (Int × Nat × Nat) → Int × Nat × Nat
  | [] => (1, 1, 0)
  | t :: r => ((vR3 r).1 * t.1, (vR3 r).2.1 * t.2.1, (vR3 r).2.2 + t.2.2)
def chkD (d : Nat) : Bool := decide ((vR3 ((dvs d).map fun i => eT.getD i (0, 0, 0))).1 = (BB : Int) ^ d - 1) && (decide ((vR3 ((dvs d).map fun i => eT.getD i (0, 0, 0))).2.1 + 2 < BB) && (decide ((vR3 ((dvs d).map fun i => eT.getD i (0, 0, 0))).2.2 = d) && decide (1 ≤ LF d)))
end Kp

namespace Kp
theorem all_A : ((List.range 420).all fun i => chkA (partedF (i + 1 : Nat)) [-1, 1]) = true := by decide +kernel
theorem all_D : ((List.range 420).all fun i => chkD (i + 1)) = true := by decide +kernel
end Kp

/-! Calls that are known not to raise; lists of new pairs of a number and a new list; loops over zip. -/
namespace Kp
open PySem PySem.Spec PyProof.Rows L2 Evl
section
variable {P : Program} {w : World} {K : PySem.W.Frag} {mg : Str → Option Value} {base : Heap} {x : Str} {k : Nat} {ps : List Str} {sp : Sp}
/-- a def that may raise, where nothing is wanted of what it raises -/
theorem Cal.calm (c : Cal P w K mg base (L2.CX P w) x k ps sp) : Cal P w K mg base CX0 x k ps (fun vs H Q _ => sp vs H Q (fun _ _ _ => False)) := by
  obtain ⟨f, fd, F, g, kp, b⟩ := c
  refine ⟨f, fd, ⟨fun vs H Q E h => F.len vs H Q _ h, fun A outer s H args us vs Q E hr e hb hv hs => ?_⟩, g, kp, b⟩
  refine codeAny_mono (F.run A outer s H args us vs Q (fun _ _ _ => False) hr e hb hv hs) fun r s' hq => ?_
  cases r with
  | error e =>
    obtain ⟨_, _, _, _, _, _, _, _, _, _, _, _, z⟩ := hq
    exact z.elim
  | ok fl =>
    cases fl with
    | ret u => exact hq
    | next => exact hq
    | brk => exact hq
    | cont => exact hq
theorem Cal.imp {CX : CXT} {sp' : Sp} (c : Cal P w K mg base CX x k ps sp) (h : ∀ vs H Q E, sp' vs H Q E → sp vs H Q E) : Cal P w K mg base CX x k ps sp' := by
  obtain ⟨f, fd, F, g, kp, b⟩ := c
  exact ⟨f, fd, F.imp h, g, kp, b⟩
end
section
variable {K : PySem.W.Frag} {σ : L2.St} {H H' : Hp} {ta tb te tl to ti : TE} {t : TT} {x y z v : V} {D : Ends} {tu tz : TS} {vs : List Nat}
/-- tuples of a number and a list, all new, no list the one at p -/
def RwsN (p : Addr) (H0 H : Hp) : List Addr → List (Int × List Int) → Prop := Paired (fun t r => ∃ q, q ≠ p ∧ H0 t = none ∧ H0 q = none ∧ H t = some (.tup [.int r.1, .ref q]) ∧ H q = some (.lst (r.2.map V.int)))
/-- the same, whoever made them -/
def Rws (K : PySem.W.Frag) (H : Hp) : List Addr → List (Int × List Int) → Prop := Paired (fun t r => ∃ q, SqT K H t [.int r.1, .ref q] ∧ SqL K H q (r.2.map V.int))
theorem RwsN.rws {p : Addr} {H0 : Hp} {ts : List Addr} {rows : List (Int × List Int)} (h : RwsN p H0 H ts rows) : Rws K H ts rows := Paired.mapP h fun _ _ ⟨q, _, _, _, h1, h2⟩ => ⟨q, SqT.of h1, SqL.of h2⟩
theorem Rws.mono {ts : List Addr} {rows : List (Int × List Int)} (e : Ex H H') (h : Rws K H ts rows) : Rws K H' ts rows := Paired.mapP h fun _ _ ⟨q, h1, h2⟩ => ⟨q, ex_t e h1, ex_l e h2⟩
theorem RwsN.mono {p : Addr} {H0 : Hp} {ts : List Addr} {rows : List (Int × List Int)} (e : Ex H H') (h : RwsN p H0 H ts rows) : RwsN p H0 H' ts rows := Paired.mapP h fun _ _ ⟨q, a, b, c, h1, h2⟩ => ⟨q, a, b, c, e _ _ h1, e _ _ h2⟩
theorem RwsN.back {p : Addr} {H0 H1 : Hp} {ts : List Addr} {rows : List (Int × List Int)} (e : Ex H0 H1) (h : RwsN p H1 H ts rows) : RwsN p H0 H ts rows := Paired.mapP h fun _ _ ⟨q, a, b, c, h1, h2⟩ => ⟨q, a, fresh_back e b, fresh_back e c, h1, h2⟩
def RetRws (rows : List (Int × List Int)) (H : Hp) (Q : VK) : Prop := ∀ p ts H2, H p = none → Ex H H2 → H2 p = some (.lst (ts.map V.ref)) → RwsN p H H2 ts rows → Q (.ref p) H2
theorem RetRws.go {rows : List (Int × List Int)} {Q : VK} (q : RetRws rows H Q) {H1 : Hp} (e : Ex H H1) {p : Addr} {ts : List Addr} {H2 : Hp} (np : H1 p = none) (e2 : Ex H1 H2) (h : H2 p = some (.lst (ts.map V.ref))) (r : RwsN p H1 H2 ts rows) : Q (.ref p) H2 :=
  q p ts H2 (fresh_back e np) (e.trans e2) h (r.back e)
def EvR (te : TE) (σ : L2.St) (H : Hp) (rows : List (Int × List Int)) : Prop := ∀ H1, Ex H H1 → ∀ Q : VK, RetRws rows H1 Q → te σ H1 Q
theorem evR_cal {sp : Sp} {vs : List V} {E : XK} {ta : TA} {rows : List (Int × List Int)} (h : EvA ta σ H vs) (hs : ∀ H1, Ex H H1 → ∀ Q : VK, RetRws rows H1 Q → ∀ E : XK, sp vs H1 Q E) : EvR (tCall sp [] E ta) σ H rows := fun H1 e Q q =>
  h H1 e _ fun H2 e2 => by
    show sp (vs ++ []) H2 Q E
    rw [List.append_nil]
    exact hs H2 (e.trans e2) Q (fun p ts H3 np e3 h3 r => q p ts H3 (fresh_back e2 np) (e2.trans e3) h3 (r.back e2)) E
theorem q_asgR {i : Nat} {rows : List (Int × List Int)} (h : EvR te σ H rows) (k : ∀ p ts H1, H p = none → Ex H H1 → H1 p = some (.lst (ts.map V.ref)) → RwsN p H H1 ts rows → tz D (σ.set i (some (.ref p))) H1) : tSeq (tAsg te (gName i)) tz D σ H :=
  h H (Ex.refl H) _ fun p ts H1 np e h1 r => k p ts H1 np e h1 r
theorem q_appR {rows : List (Int × List Int)} (h : EvR ta σ H rows) (hv : ∀ H1, Ex H H1 → Ev te σ H1 v) (hz : rows.length < 100000) (k : ∀ H1, Ex H H1 → tz D σ H1) : tSeq (tDrop (tBM K "list" rAppend ta (tCons te tNil))) tz D σ H := h H (Ex.refl H) _ fun p ts H1 np e1 hp r =>
  ⟨Or.inl ⟨rfl, _, sq_of hp⟩, hv H1 e1 H1 (Ex.refl _) _ fun H2 e2 => ⟨p, _, v, rfl, rfl, e2 p _ hp, sz_lt (by rw [List.length_map, Paired.length r]; exact hz), k _ (Ex.mut (e1.trans e2) np)⟩⟩
/-- [(d, a new list) for d in a new list of ints] -/
theorem evR_lc {ns : List Int} {j : Nat} {t1 t2 : TE} (w : Int → List Int) (h : EvL tl σ H (ns.map V.int)) (hz : ns.length ≤ 40000) (hw : ∀ x, wipe ((wipe σ vs).set j (some x)) vs = wipe σ vs)
    (he : ∀ r H1, Ex H H1 → r ∈ ns → Ev t1 ((wipe σ vs).set j (some (.int r))) H1 (.int r) ∧ EvL t2 ((wipe σ vs).set j (some (.int r))) H1 ((w r).map V.int)) :
    EvR (tLc (iList K tl) (gName j) tYes (tTup (tCons t1 (tCons t2 tNil))) vs) σ H (ns.map fun r => (r, w r)) := fun H0 e Q q => h H0 e _ fun a H1 na e1 ha => ⟨a, rfl, ⟨_, sq_of ha⟩, fun Dl hD =>
  lc_list (xs := ns.map V.int) (fun n H' => H1 Dl = none ∧ Ex H1 H' ∧ ∃ ts, H' Dl = some (.lst (ts.map V.ref)) ∧ RwsN Dl H1 H' ts ((ns.take n).map fun r => (r, w r))) ⟨hD, Ex.new hD, [], upd_same, .nil⟩ (fun n H' _ p => sq_of (p.2.1 _ _ ha)) (fun n x H' hn p => by
    obtain ⟨p1, p2, ts, p3, p4⟩ := p
    obtain ⟨r, hr, rfl⟩ := map_get hn
    have hm : r ∈ ns := List.mem_of_getElem? hr
    obtain ⟨g1, g2⟩ := he r H1 (e.trans e1) hm
    refine ⟨hw _, ?_⟩
    refine et_yes (H := H') _ (Ex.refl _) _ fun H3 e3 => ?_
    rw [if_pos rfl]
    refine g1 H3 (p2.trans e3) _ fun H4 e4 => g2 H4 ((p2.trans e3).trans e4) _ fun q H5 nq e5 hq => ⟨sz_of (show 2 ≤ 100000 by decide), fun T nT => ?_⟩
    have e35 : Ex H' H5 := (e3.trans e4).trans e5
    have e36 : Ex H' (upd H5 T (.tup [.int r, .ref q])) := e35.trans (Ex.new nT)
    have hDl := e36 _ _ p3
    have nq1 : H1 q = none := fresh_back ((p2.trans e3).trans e4) nq
    have nT1 : H1 T = none := fresh_back (p2.trans e35) nT
    have qD : q ≠ Dl := fun z => by
      have := (e3.trans e4) _ _ p3
      rw [← z, nq] at this
      cases this
    have TD : T ≠ Dl := fun z => by
      have := e35 _ _ p3
      rw [← z, nT] at this
      cases this
    have qT : q ≠ T := fun z => by
      rw [z, nT] at hq
      cases hq
    refine ⟨_, hDl, ?_, p1, Ex.mut (p2.trans e36) p1, ts ++ [T], by rw [upd_same, List.map_append]; rfl, ?_⟩
    · refine sz_lt ?_
      rw [List.length_map, Paired.length p4, List.length_map, List.length_take]
      omega
    · have et : ns.take (n + 1) = ns.take n ++ [r] := by rw [List.take_add_one, hr]; rfl
      rw [et, List.map_append]
      refine Paired.snoc (Paired.mapP p4 fun t r' ⟨q', z1, z2, z3, z4, z5⟩ => ⟨q', z1, z2, z3, ?_, ?_⟩) ⟨q, qD, nT1, nq1, ?_, ?_⟩
      · rw [upd_ne (ne_of (e36 _ _ z4) hDl (by intro z; cases z))]
        exact e36 _ _ z4
      · rw [upd_ne z1]
        exact e36 _ _ z5
      · rw [upd_ne TD, upd_same]
      · rw [upd_ne qD, upd_ne qT]
        exact hq) (fun H' p => by
    obtain ⟨p1, p2, ts, p3, p4⟩ := p
    rw [List.length_map, List.take_length] at p4
    exact q Dl ts H' (fresh_back e1 p1) (e1.trans p2) p3 (p4.back e1))⟩
/-- for d, f in what is told: f.append(..) -/
theorem q_forRwApp {rows : List (Int × List Int)} {j1 j2 : Nat} {u : V} (h : EvR te σ H rows) (hz : rows.length ≤ 1000) (hl : ∀ r ∈ rows, r.2.length < 50000) (hj : j1 < σ.length) (hj2 : j2 < σ.length) (hne : j1 ≠ j2) (k : ∀ x y H1, Ex H H1 → tz D ((σ.set j1 x).set j2 y) H1) :
    tSeq (tFor (iList K te) (gTup K 2 (gCons (gName j1) (gCons (gName j2) gNil))) (tDrop (tBM K "list" rAppend (tVar j2) (tCons (tC u) tNil)))) tz D σ H :=
  h H (Ex.refl H) _ fun p ts H1 np e1 hp R => ⟨p, rfl, ⟨_, sq_of hp⟩, for_list (xs := ts.map V.ref)
    (fun i σ' H' => (∃ x y, σ' = (σ.set j1 x).set j2 y) ∧ Ex H H' ∧ H' p = some (.lst (ts.map V.ref)) ∧ ∀ t ∈ ts, ∃ d q xs, q ≠ p ∧ H q = none ∧ H' t = some (.tup [.int d, .ref q]) ∧ H' q = some (.lst xs) ∧ xs.length < 50000 + i)
    ⟨⟨σ[j1], σ[j2], by
      rw [List.set_getElem_self hj, List.set_getElem_self hj2]⟩, e1, hp, fun t ht => by
      obtain ⟨n, hn⟩ := List.mem_iff_getElem?.mp ht
      obtain ⟨r, hr, q, z1, z2, z3, z4, z5⟩ := paired_get R hn
      exact ⟨r.1, q, _, z1, z3, z4, z5, by rw [List.length_map]; have := hl r (List.mem_of_getElem? hr); omega⟩⟩
    (fun i σ' H' _ p => sq_of p.2.2.1) (fun i x σ' H' hx hp => by
      obtain ⟨⟨y1, y2, rfl⟩, p2, p3, p4⟩ := hp
      rw [List.getElem?_map] at hx
      obtain ⟨t, ht, rfl⟩ := Option.map_eq_some_iff.mp hx
      have hm := List.mem_of_getElem? ht
      have hi : i < ts.length := (List.getElem?_eq_some_iff.mp ht).1
      have hlen := Paired.length R
      obtain ⟨d, q, xs, qp, nq, h1, h2, h3⟩ := p4 t hm
      refine ⟨t, _, rfl, .inl (.inl h1), rfl, .int d, [.ref q], rfl, .ref q, [], rfl, rfl, ?_⟩
      refine s_app h2 (ev_var ?_) ev_c (by omega) fun H3 e3 => ⟨⟨some (.int d), some (.ref q), ?_⟩, Ex.mut (p2.trans e3) nq, ?_, fun t' ht' => ?_⟩
      · rw [List.getElem?_set_self (by rw [List.length_set, List.length_set, List.length_set]; exact hj2)]
      · rw [List.set_comm _ _ hne.symm, List.set_set, List.set_set]
      · rw [upd_ne qp.symm]
        exact e3 _ _ p3
      · obtain ⟨d', q', ys, z1, z2, z3, z4, z5⟩ := p4 t' ht'
        have nt : t' ≠ q := ne_of z3 h2 (by intro z; cases z)
        by_cases e : q' = q
        · subst e
          rw [h2] at z4
          cases z4
          exact ⟨d', q', _, z1, z2, by rw [upd_ne nt]; exact e3 _ _ z3, upd_same, by rw [List.length_append, List.length_singleton]; omega⟩
        · exact ⟨d', q', ys, z1, z2, by rw [upd_ne nt]; exact e3 _ _ z3, by rw [upd_ne e]; exact e3 _ _ z4, by omega⟩) (fun σ' H' p => by
      obtain ⟨⟨y1, y2, rfl⟩, p2, _⟩ := p
      exact k y1 y2 H' p2)⟩
/-- for x, y in zip(a, b) -/
theorem s_forZ {a b : Addr} {xs ys : List V} {tl : TA} {j1 j2 : Nat} (h : EvA tl σ H [.ref a, .ref b]) (hx : SqL K H a xs) (hy : SqL K H b ys) (hl : xs.length = ys.length) (Pv : Nat → L2.St → Hp → Prop) (h0 : ∀ H1, Ex H H1 → Pv 0 σ H1) (hq : ∀ i σ' H', Pv i σ' H' → SqL K H' a xs ∧ SqL K H' b ys)
    (hs : ∀ i x y σ' H', xs[i]? = some x → ys[i]? = some y → Pv i σ' H' → ∀ H2, Ex H' H2 → tu { D with nx := Pv (i + 1), ct := Pv (i + 1), bk := D.nx } ((σ'.set j1 (some x)).set j2 (some y)) H2) (hd : ∀ σ' H', Pv xs.length σ' H' → D.nx σ' H') :
    tFor (iZip K tl) (gTup K 2 (gCons (gName j1) (gCons (gName j2) gNil))) tu D σ H :=
  h H (Ex.refl H) _ fun H1 e => ⟨a, b, xs, ys, rfl, ex_l e hx, ex_l e hy, for_it (n := xs.length) (walk_zip (by omega)) Pv (h0 H1 e) (fun i σ' H' _ p => hq i σ' H' p) (fun i v σ' H' H'' hi p y => by
    obtain ⟨T, x, y, rfl, hT, rfl, hx, hy⟩ := y
    exact ⟨T, _, rfl, .inl (.inl upd_same), rfl, x, [y], rfl, y, [], rfl, rfl, hs i x y σ' H' hx hy p _ (Ex.new hT)⟩) hd⟩
theorem q_forZ {a b : Addr} {xs ys : List V} {tl : TA} {j1 j2 : Nat} (h : EvA tl σ H [.ref a, .ref b]) (hx : SqL K H a xs) (hy : SqL K H b ys) (hl : xs.length = ys.length) (Pv : Nat → L2.St → Hp → Prop) (h0 : ∀ H1, Ex H H1 → Pv 0 σ H1) (hq : ∀ i σ' H', Pv i σ' H' → SqL K H' a xs ∧ SqL K H' b ys)
    (hs : ∀ i x y σ' H', xs[i]? = some x → ys[i]? = some y → Pv i σ' H' → ∀ H2, Ex H' H2 → tu { D with nx := Pv (i + 1), ct := Pv (i + 1), bk := tz D } ((σ'.set j1 (some x)).set j2 (some y)) H2) (hd : ∀ σ' H', Pv xs.length σ' H' → tz D σ' H') :
    tSeq (tFor (iZip K tl) (gTup K 2 (gCons (gName j1) (gCons (gName j2) gNil))) tu) tz D σ H := s_forZ (D := { D with nx := tz D }) h hx hy hl Pv h0 hq hs hd
/-! == of a pair of a number and a list -/
def dNL (r : Int × List Int) : PyData := .tuple [.int r.1, dI r.2]
theorem dNL_ok (r : Int × List Int) : okD (dNL r) = true := by
  show (true && (okD (dI r.2) && true)) = true
  rw [dI_ok]
  rfl
theorem dNL_lay (r : Int × List Int) : PyData.canLay0 (dNL r) = true := by
  show PyData.canLayAll0 [.int r.1, dI r.2] = true
  unfold PyData.canLayAll0 PyData.canLayAll0 PyData.canLayAll0
  rw [dI_lay]
  rfl
theorem dNL_dep (r : Int × List Int) : (dNL r).depth ≤ 2 := by
  show PyData.depthAll [.int r.1, dI r.2] + 1 ≤ 2
  unfold PyData.depthAll PyData.depthAll PyData.depthAll
  have := dI_dep r.2
  simp only [PyData.depth]
  omega
theorem dNL_sh (r : Int × List Int) : SeqAt.shaped (dNL r) = true := shaped_of (dNL_lay r) (Nat.le_trans (dNL_dep r) (by decide))
theorem dNL_inj (a b : Int × List Int) (e : dNL a = dNL b) : a = b := by
  obtain ⟨a1, a2⟩ := a
  obtain ⟨b1, b2⟩ := b
  simp only [dNL, PyData.tuple.injEq, List.cons.injEq, PyData.int.injEq, and_true] at e
  rw [e.1, dI_inj _ _ e.2]
theorem dNL_eqv (a b : Int × List Int) : PyData.eqv (dNL a) (dNL b) = decide (a = b) := eqv_dec dNL dNL_ok dNL_inj a b
theorem dp_NL {t q : Addr} {r : Int × List Int} (h : SqT K H t [.int r.1, .ref q]) (g : SqL K H q (r.2.map V.int)) : Dp K H (.ref t) (dNL r) := .tup h (.cons (.int _) (.cons (dp_ints g) .nil))
theorem rv_neNL {t u q p : Addr} {r s : Int × List Int} (h1 : SqT K H t [.int r.1, .ref q]) (g1 : SqL K H q (r.2.map V.int)) (h2 : SqT K H u [.int s.1, .ref p]) (g2 : SqL K H p (s.2.map V.int)) : RV (rNeD K) (.ref t) (.ref u) H (.bl (!decide (r = s))) :=
  rv_neD (fun _ e => dp_NL (ex_t e h1) (ex_l e g1)) (fun _ e => dp_NL (ex_t e h2) (ex_l e g2)) (dNL_sh _) (dNL_sh _) (by rw [dNL_eqv])
end
/-- two rising lists of the same numbers -/
theorem rise_uniq : ∀ {a b : List Nat}, a.Pairwise (· < ·) → b.Pairwise (· < ·) → (∀ x, x ∈ a ↔ x ∈ b) → a = b
  | [], [], _, _, _ => rfl
  | [], y :: b, _, _, h => absurd ((h y).mpr (List.mem_cons_self ..)) (by simp)
  | x :: a, [], _, _, h => absurd ((h x).mp (List.mem_cons_self ..)) (by simp)
  | x :: a, y :: b, ha, hb, h => by
    have a1 := List.pairwise_cons.mp ha
    have b1 := List.pairwise_cons.mp hb
    have e : x = y := by
      rcases List.mem_cons.mp ((h x).mp (List.mem_cons_self ..)) with e | e
      · exact e
      · rcases List.mem_cons.mp ((h y).mpr (List.mem_cons_self ..)) with f | f
        · exact f.symm
        · have := a1.1 y f
          have := b1.1 x e
          omega
    subst e
    congr 1
    refine rise_uniq a1.2 b1.2 fun z => ⟨fun hz => ?_, fun hz => ?_⟩
    · rcases List.mem_cons.mp ((h z).mp (List.mem_cons_of_mem _ hz)) with e | e
      · have := a1.1 z hz
        omega
      · exact e
    · rcases List.mem_cons.mp ((h z).mpr (List.mem_cons_of_mem _ hz)) with e | e
      · have := b1.1 z hz
        omega
      · exact e
end Kp

/-! The root polynomials up to 420: their steps, their products. -/
namespace Kp
def phi (n : Nat) : List Int := atP (GF n) (LF n)
/-- one of the last number 1, of two numbers or more -/
structure Mon (f : List Int) : Prop where
  two : 2 ≤ f.length
  one : coef f (f.length - 1) = 1
theorem Mon.ne {f : List Int} (h : Mon f) : f ≠ [] := fun e => by
  have := h.two
  rw [e] at this
  exact absurd this (by decide)
theorem Mon.tr {f : List Int} (h : Mon f) : Tr f := fun _ => by
  rw [h.one]
  decide
theorem Mon.l1 {f : List Int} (h : Mon f) : 1 ≤ l1 f := by
  have := coef_l1 f (f.length - 1)
  rw [h.one] at this
  exact this
theorem atP_len {f : List Int} {k : Nat} (h : f ≠ []) : (atP f k).length = (f.length - 1) * k + 1 := by
  unfold atP
  rw [if_neg h, mkL_len]
theorem atP_last {f : List Int} {k : Nat} (h : f ≠ []) (hk : 1 ≤ k) : coef (atP f k) ((atP f k).length - 1) = coef f (f.length - 1) := by
  rw [atP_len h, Nat.add_sub_cancel, coef_atP hk]
  unfold pw
  rw [Nat.mul_mod_left, if_pos rfl, Nat.mul_div_cancel _ (by omega)]
theorem Mon.atP {f : List Int} {k : Nat} (h : Mon f) (hk : 1 ≤ k) : Mon (atP f k) := by
  refine ⟨?_, by rw [atP_last h.ne hk, h.one]⟩
  rw [atP_len h.ne]
  have := h.two
  have := Nat.mul_le_mul (show 1 ≤ f.length - 1 by omega) hk
  omega
theorem trim_l1 (f : List Int) : Kp.l1 (trim f) ≤ Kp.l1 f := by
  have key : ∀ (n : Nat) (f : List Int), Kp.l1 (f.take n) ≤ Kp.l1 f := by
    intro n
    induction n with
    | zero =>
      intro f
      rw [List.take_zero]
      exact Nat.zero_le _
    | succ n ih =>
      intro f
      cases f with
      | nil => exact Nat.le_refl _
      | cons a f =>
        show a.natAbs + Kp.l1 (f.take n) ≤ a.natAbs + Kp.l1 f
        have := ih f
        omega
  exact key _ f
theorem atP_l1 {f : List Int} {k : Nat} (hk : 1 ≤ k) (t : Tr f) : Kp.l1 (Kp.atP f k) ≤ Kp.l1 f := by
  rw [← wide_eq hk t, ← l1_wide k f]
  exact trim_l1 _
theorem atP_val {f : List Int} {k : Nat} (x : Int) (hk : 1 ≤ k) (t : Tr f) : valP x (Kp.atP f k) = valP (x ^ k) f := by
  rw [← val_wide x hk, ← wide_eq hk t]
  -- the value doesn't see noughts at the end
  have key : ∀ (g h : List Int), (∀ m, coef g m = coef h m) → valP x g = valP x h := by
    intro g
    induction g with
    | nil =>
      intro h
      induction h with
      | nil => exact fun _ => rfl
      | cons b h ih =>
        intro e
        have e0 := e 0
        have := ih fun m => by
          have := e (m + 1)
          rw [coef_cons, coef_nil] at this
          rw [coef_nil]
          exact this
        rw [coef_nil, coef_cons0] at e0
        show (0 : Int) = b + x * valP x h
        rw [← this, ← e0]
        show (0 : Int) = 0 + x * 0
        omega
    | cons a g ih =>
      intro h e
      cases h with
      | nil =>
        have e0 := e 0
        have := ih [] fun m => by
          have := e (m + 1)
          rw [coef_cons, coef_nil] at this
          rw [coef_nil]
          exact this
        rw [coef_nil, coef_cons0] at e0
        show a + x * valP x g = 0
        rw [this, e0]
        show (0 : Int) + x * 0 = 0
        omega
      | cons b h =>
        have e0 := e 0
        rw [coef_cons0, coef_cons0] at e0
        have := ih h fun m => by
          have := e (m + 1)
          rwa [coef_cons, coef_cons] at this
        show a + x * valP x g = b + x * valP x h
        rw [this, e0]
  exact key _ _ (coef_trim _)
theorem stepF_len (f : List Int) (p : Nat) : (stepF f p).length = (f.length - 1) * (p - 1) + 1 := dec_len _ _
/-- behind one prime -/
theorem chk_step {r : Int × Int} {ps : List (Int × Int)} {f : List Int} (hc : chkA (r :: ps) f = true) (hf : Mon f) : 1 ≤ r.1 ∧ (f.length - 1) * r.1.toNat ≤ 420 ∧ mulK (stepF f r.1.toNat) f = atP f r.1.toNat ∧ l1 (stepF f r.1.toNat) < BB ∧ chkA ps (stepF f r.1.toNat) = true ∧
    (stepF f r.1.toNat) ≠ [] ∧ coef (stepF f r.1.toNat) ((stepF f r.1.toNat).length - 1) = 1 := by
  unfold chkA at hc
  rw [Bool.and_eq_true, Bool.and_eq_true, Bool.and_eq_true, Bool.and_eq_true, decide_eq_true_iff, decide_eq_true_iff, decide_eq_true_iff, decide_eq_true_iff] at hc
  obtain ⟨c1, c2, c3, c4, c5⟩ := hc
  have hp : 1 ≤ r.1.toNat := by omega
  have f2 := hf.two
  have fl := hf.l1
  generalize r.1.toNat = p at *
  have sl := stepF_len f p
  have sn : stepF f p ≠ [] := fun e => by
    rw [e] at sl
    exact absurd sl (by simp)
  have hm : mulK (stepF f p) f = atP f p := times_at (B := BB) hp sn hf.ne hf.ne (by
    rw [sl]
    have : (f.length - 1) * p = (f.length - 1) * (p - 1) + (f.length - 1) := by
      obtain ⟨q, rfl⟩ : ∃ q, p = q + 1 := ⟨p - 1, by omega⟩
      rw [Nat.add_sub_cancel, Nat.mul_succ]
    omega) c4 c3
  refine ⟨c1, c2, hm, ?_, c5, sn, ?_⟩
  · have := Nat.mul_le_mul_left (l1 (stepF f p)) fl
    omega
  · have l2 := List.length_pos_iff.mpr sn
    have e1 := cv_last sn hf.ne
    rw [← coef_mulK, hm, hf.one, Int.mul_one] at e1
    have e2 := atP_last hf.ne hp
    rw [hf.one, atP_len hf.ne, Nat.add_sub_cancel] at e2
    rw [← e1, ← e2]
    congr 1
    obtain ⟨q, rfl⟩ : ∃ q, p = q + 1 := ⟨p - 1, by omega⟩
    rw [sl, Nat.add_sub_cancel, Nat.mul_succ]
    omega
theorem all_P : ((List.range 420).all fun i => (partedF (i + 1 : Nat)).all fun r => decide (2 ≤ r.1) && decide (r.1 ≤ 420)) = true := by decide +kernel
theorem rows_bd {n : Nat} (h1 : 1 ≤ n) (h2 : n ≤ 420) {r : Int × Int} (hr : r ∈ partedF n) : 2 ≤ r.1 ∧ r.1 ≤ 420 := by
  have h := List.all_eq_true.mp all_P (n - 1) (List.mem_range.mpr (by omega))
  rw [show n - 1 + 1 = n by omega] at h
  have := List.all_eq_true.mp h r hr
  rw [Bool.and_eq_true, decide_eq_true_iff, decide_eq_true_iff] at this
  exact this
theorem chkA_at {n : Nat} (h1 : 1 ≤ n) (h2 : n ≤ 420) : chkA (partedF n) [-1, 1] = true := by
  have h := List.all_eq_true.mp all_A (n - 1) (List.mem_range.mpr (by omega))
  rwa [show n - 1 + 1 = n by omega] at h
/-- the polynomial behind the primes so far -/
def fAt (rows : List (Int × Int)) : List Int := rows.foldl (fun f r => stepF f r.1.toNat) [-1, 1]
structure StP (rest : List (Int × Int)) (f : List Int) : Prop where
  mon : Mon f
  len : f.length ≤ 421
  bd : l1 f < BB
  chk : chkA rest f = true
theorem StP.step {r : Int × Int} {ps : List (Int × Int)} {f : List Int} (s : StP (r :: ps) f) (hr : 2 ≤ r.1) : StP ps (stepF f r.1.toNat) := by
  obtain ⟨c1, c2, c3, c4, c5, c6, c7⟩ := chk_step s.chk s.mon
  have f2 := s.mon.two
  have hp : 2 ≤ r.1.toNat := by omega
  refine ⟨⟨?_, c7⟩, ?_, c4, c5⟩
  · rw [stepF_len]
    have := Nat.mul_le_mul (show 1 ≤ f.length - 1 by omega) (show 1 ≤ r.1.toNat - 1 by omega)
    omega
  · rw [stepF_len]
    have : (f.length - 1) * (r.1.toNat - 1) ≤ (f.length - 1) * r.1.toNat := Nat.mul_le_mul_left _ (by omega)
    omega
theorem stP0 {n : Nat} (h1 : 1 ≤ n) (h2 : n ≤ 420) : StP (partedF n) [-1, 1] := ⟨⟨by decide, by decide⟩, by decide, by decide +kernel, chkA_at h1 h2⟩
theorem stP_end : ∀ (rows : List (Int × Int)) (f : List Int), (∀ r ∈ rows, 2 ≤ r.1) → StP rows f → StP [] (rows.foldl (fun f r => stepF f r.1.toNat) f)
  | [], f, _, s => s
  | r :: rows, f, h, s => stP_end rows (stepF f r.1.toNat) (fun z hz => h z (List.mem_cons_of_mem _ hz)) (s.step (h r (List.mem_cons_self ..)))
theorem GF_ok {n : Nat} (h1 : 1 ≤ n) (h2 : n ≤ 420) : StP [] (GF n) := stP_end _ _ (fun r hr => (rows_bd h1 h2 hr).1) (stP0 h1 h2)
theorem LF_le (n : Nat) : LF n ≤ n := by
  have key : ∀ (rows : List (Int × Int)) (m : Nat), rows.foldl (fun l r => l / r.1.toNat) m ≤ m := by
    intro rows
    induction rows with
    | nil => exact fun m => Nat.le_refl m
    | cons r rows ih => exact fun m => Nat.le_trans (ih _) (Nat.div_le_self _ _)
  exact key _ n

/-! ### all divisors' products -/
def rowOf (i : Nat) : Int × Nat × Nat := eT.getD i (0, 0, 0)
theorem eT_at {i : Nat} (h : i < 420) : eT.getD i (0, 0, 0) = eval1 (i + 1) := by
  unfold eT
  rw [List.getD_eq_getElem?_getD, List.getElem?_map, List.getElem?_range h]
  rfl
theorem chkD_at {d : Nat} (h1 : 1 ≤ d) (h2 : d ≤ 420) : chkD d = true := by
  have h := List.all_eq_true.mp all_D (d - 1) (List.mem_range.mpr (by omega))
  rwa [show d - 1 + 1 = d by omega] at h
theorem LF_pos {d : Nat} (h1 : 1 ≤ d) (h2 : d ≤ 420) : 1 ≤ LF d := by
  have h := chkD_at h1 h2
  unfold chkD at h
  rw [Bool.and_eq_true, Bool.and_eq_true, Bool.and_eq_true, decide_eq_true_iff, decide_eq_true_iff, decide_eq_true_iff, decide_eq_true_iff] at h
  exact h.2.2.2
theorem phi_mon {d : Nat} (h1 : 1 ≤ d) (h2 : d ≤ 420) : Mon (phi d) := (GF_ok h1 h2).mon.atP (LF_pos h1 h2)
theorem phi_l1 {d : Nat} (h1 : 1 ≤ d) (h2 : d ≤ 420) : l1 (phi d) ≤ l1 (GF d) := atP_l1 (LF_pos h1 h2) (GF_ok h1 h2).mon.tr
theorem phi_val {d : Nat} (h1 : 1 ≤ d) (h2 : d ≤ 420) (x : Int) : valP x (phi d) = valP (x ^ LF d) (GF d) := atP_val x (LF_pos h1 h2) (GF_ok h1 h2).mon.tr
theorem phi_len {d : Nat} (h1 : 1 ≤ d) (h2 : d ≤ 420) : (phi d).length - 1 = ((GF d).length - 1) * LF d := by
  unfold phi
  rw [atP_len (GF_ok h1 h2).mon.ne, Nat.add_sub_cancel]
theorem vR3_of : ∀ (l : List Nat), (∀ i ∈ l, i < 420) → (vR3 (l.map fun i => eT.getD i (0, 0, 0))).1 = valR BB (l.map fun i => phi (i + 1)) ∧ l1R (l.map fun i => phi (i + 1)) ≤ (vR3 (l.map fun i => eT.getD i (0, 0, 0))).2.1 ∧ (vR3 (l.map fun i => eT.getD i (0, 0, 0))).2.2 = lenR (l.map fun i => phi (i + 1))
  | [], _ => ⟨rfl, Nat.le_refl _, rfl⟩
  | i :: l, h => by
    obtain ⟨a, b, c⟩ := vR3_of l fun j hj => h j (List.mem_cons_of_mem _ hj)
    have hi := h i (List.mem_cons_self ..)
    rw [List.map_cons, List.map_cons, eT_at hi]
    refine ⟨?_, ?_, ?_⟩
    · show (vR3 _).1 * valP _ (GF (i + 1)) = valR BB _ * valP BB (phi (i + 1))
      rw [a, phi_val (by omega) (by omega)]
    · show l1R _ * l1 (phi (i + 1)) ≤ (vR3 _).2.1 * l1 (GF (i + 1))
      exact Nat.mul_le_mul b (phi_l1 (by omega) (by omega))
    · show (vR3 _).2.2 + ((GF (i + 1)).length - 1) * LF (i + 1) = lenR _ + ((phi (i + 1)).length - 1)
      rw [c, phi_len (by omega) (by omega)]
theorem dvs_lt {d i : Nat} (h : i ∈ dvs d) : i < d := List.mem_range.mp (List.mem_filter.mp h).1
/-- the product of all divisors' polynomials -/
theorem phi_prod {d : Nat} (h1 : 1 ≤ d) (h2 : d ≤ 420) : prodR ((dvs d).map fun i => phi (i + 1)) = xd1 d ∧ l1R ((dvs d).map fun i => phi (i + 1)) < BB := by
  have h := chkD_at h1 h2
  unfold chkD at h
  rw [Bool.and_eq_true, Bool.and_eq_true, Bool.and_eq_true, decide_eq_true_iff, decide_eq_true_iff, decide_eq_true_iff, decide_eq_true_iff] at h
  obtain ⟨c1, c2, c3, _⟩ := h
  have hlt : ∀ i ∈ dvs d, i < 420 := fun i hi => by have := dvs_lt hi; omega
  obtain ⟨a, b, c⟩ := vR3_of (dvs d) hlt
  refine ⟨prod_xd1 (B := BB) h1 (fun g hg => ?_) (by rw [← c, c3]) (by omega) (by rw [← a, c1]), by omega⟩
  obtain ⟨i, hi, rfl⟩ := List.mem_map.mp hg
  have := hlt i hi
  exact (phi_mon (by omega) (by omega)).ne
theorem l1R_drop {l : List (List Int)} (h : ∀ g ∈ l, 1 ≤ l1 g) : ∀ k, l1R (l.drop k) ≤ l1R l := by
  induction l with
  | nil =>
    intro k
    rw [List.drop_nil]
    exact Nat.le_refl _
  | cons g r ih =>
    intro k
    cases k with
    | zero => exact Nat.le_refl _
    | succ k =>
      have := ih (fun z hz => h z (List.mem_cons_of_mem _ hz)) k
      have h2 := Nat.mul_le_mul_left (l1R r) (h g (List.mem_cons_self ..))
      show l1R (r.drop k) ≤ l1R r * l1 g
      omega
/-- n's divisors, rising -/
def dvL (n : Nat) : List Nat := (dvs n).map fun i => i + 1
theorem dvL_rise (n : Nat) : (dvL n).Pairwise (· < ·) := by
  unfold dvL dvs
  rw [List.pairwise_map]
  exact (List.Pairwise.filter _ List.pairwise_lt_range).imp fun h => by omega
theorem dvL_mem {n x : Nat} (h : 1 ≤ n) : x ∈ dvL n ↔ x ∣ n := by
  unfold dvL dvs
  rw [List.mem_map]
  constructor
  · rintro ⟨i, hi, rfl⟩
    rw [List.mem_filter, decide_eq_true_iff] at hi
    exact Nat.dvd_of_mod_eq_zero hi.2
  · intro hx
    have := Nat.le_of_dvd (by omega) hx
    have x0 : 0 < x := Nat.pos_of_dvd_of_pos hx (by omega)
    refine ⟨x - 1, ?_, by omega⟩
    rw [List.mem_filter, decide_eq_true_iff, List.mem_range, Nat.sub_add_cancel x0]
    exact ⟨by omega, Nat.mod_eq_zero_of_dvd hx⟩
/-- those of n's divisors to the i-th that divide the i-th are all its divisors -/
theorem dvL_below {n i d : Nat} (hn : 1 ≤ n) (hi : (dvL n)[i]? = some d) : ((dvL n).take (i + 1)).filter (fun e => decide (d % e = 0)) = dvL d := by
  have hd := (dvL_mem hn).mp (List.mem_of_getElem? hi)
  have d1 : 1 ≤ d := Nat.pos_of_dvd_of_pos hd (by omega)
  obtain ⟨h1, h2⟩ := List.getElem?_eq_some_iff.mp hi
  refine rise_uniq (List.Pairwise.filter _ ((dvL_rise n).sublist (List.take_sublist _ _))) (dvL_rise d) fun x => ?_
  rw [dvL_mem d1, List.mem_filter, decide_eq_true_iff]
  constructor
  · exact fun h => Nat.dvd_of_mod_eq_zero h.2
  · intro hx
    refine ⟨?_, Nat.mod_eq_zero_of_dvd hx⟩
    obtain ⟨k, hk, e⟩ := List.mem_iff_getElem.mp ((dvL_mem hn).mpr (Nat.dvd_trans hx hd))
    have hle := Nat.le_of_dvd (by omega) hx
    have hki : k ≤ i := by
      refine Nat.le_of_not_lt fun q => ?_
      have := List.pairwise_iff_getElem.mp (dvL_rise n) i k h1 hk q
      omega
    rw [List.mem_iff_getElem]
    exact ⟨k, by rw [List.length_take]; omega, by rw [List.getElem_take]; exact e⟩
theorem lenR_mem {g : List Int} : ∀ {l : List (List Int)}, g ∈ l → g.length - 1 ≤ lenR l
  | a :: l, h => by
    show _ ≤ lenR l + (a.length - 1)
    rcases List.mem_cons.mp h with rfl | h
    · omega
    · have := lenR_mem h
      omega
theorem phi_le {d : Nat} (h1 : 1 ≤ d) (h2 : d ≤ 420) : (phi d).length ≤ d + 1 := by
  have h := chkD_at h1 h2
  unfold chkD at h
  rw [Bool.and_eq_true, Bool.and_eq_true, Bool.and_eq_true, decide_eq_true_iff, decide_eq_true_iff, decide_eq_true_iff, decide_eq_true_iff] at h
  obtain ⟨_, _, c3, _⟩ := h
  have hlt : ∀ i ∈ dvs d, i < 420 := fun i hi => by have := dvs_lt hi; omega
  obtain ⟨_, _, c⟩ := vR3_of (dvs d) hlt
  have hm : d - 1 ∈ dvs d := by
    unfold dvs
    rw [List.mem_filter, List.mem_range, decide_eq_true_iff, Nat.sub_add_cancel h1]
    exact ⟨by omega, Nat.mod_self d⟩
  have := lenR_mem (List.mem_map_of_mem (f := fun i => phi (i + 1)) hm)
  rw [← c, c3] at this
  rw [show d - 1 + 1 = d by omega] at this
  omega
theorem phi_bd {d : Nat} (h1 : 1 ≤ d) (h2 : d ≤ 420) : l1 (phi d) < BB := Nat.lt_of_le_of_lt (phi_l1 h1 h2) (GF_ok h1 h2).bd
end Kp

/-! d.keys() of a dict whose keys are pairs of ints, and sorted(d.keys()). -/
namespace Kp
open PySem PySem.Spec PyProof.Rows L2
/-- the view that d.keys() gives -/
def keysO (p d : Addr) : HO := .ext fun h => PySem.W.KdlKeysView h p d
theorem keysO_ok {P : Program} {w : World} {H : Hp} {h : Heap} {p d : Addr} (e : h.get? p = some { cls := .type "dict_keys", data := .fields #[.ref d] }) : ObjOk P w H h p (keysO p d) := by
  refine ⟨⟨_, e, rfl, rfl⟩, ⟨_, e⟩, fun h1 h2 x k => ?_⟩
  obtain ⟨o, ho, r⟩ := x
  exact ⟨o, k o ho, r⟩
theorem keys_meets {prog : Program} {w : World} {d : Addr} {es : Array DictEntry} {ep : Nat} (hd : (d == sysModules) = false) :
    MeetsIn prog w (Builtin.«dict.keys» ⟨[.ref d], []⟩) (fun _ R s => s.heap.DictRaw d es ep ∧ R (.ok (.ret (.ref s.heap.objs.size))) { s with heap := s.heap.push { cls := .type "dict_keys", data := .fields #[.ref d] } }) := by
  refine .of_wp fun A R s hmh => ?_
  obtain ⟨hm, h⟩ := hmh
  unfold Builtin.«dict.keys»
  refine wpAny_bind ?_; unfold Builtin.Dict.noArgs
  refine wpAny_bind (wpAny_notOrdered_dict hm.typeIs ?_); show wpAny _ _ (pure d) _ _ s
  refine wpAny_pure ?_; show wpAny _ _ (Builtin.Dict.showsAll d >>= _) _ _ s
  unfold Builtin.Dict.showsAll; rw [if_neg (by rw [hd]; exact Bool.false_ne_true)]
  refine wpAny_bind (wpAny_pure ?_); exact wpAny_bind (wpAny_newObj_type (wpAny_pure ⟨_, rfl, h⟩))
section
variable {X : Cx}
def rKeysT : V → List V → Hp → VK → Prop := fun x xs H Q => ∃ (a : Addr) (kvs : List (List L2.Key × V)), x = .ref a ∧ xs = [] ∧ H a = some (.dT kvs) ∧ ∀ p, H p = none → Q (.ref p) (upd H p (keysO p a))
theorem mt_keysT : MtR X "dict.keys" rKeysT := by
  intro pins s σ H x xs v us Q I rx rxs h
  obtain ⟨a, kvs, rfl, rfl, ha, q⟩ := h
  cases rx; cases rxs
  obtain ⟨z, hd, xs', rel, o, es, ep, ho, hx, hdat, _⟩ := L2.dt_of I.hok ha
  have hm : s.heap.DictRaw a es ep := ⟨o, ho, hx, hdat⟩
  refine PySem.call_meetsIn PySem.F.slot_dict_keys hm.typeIs PySem.F.entry_dict_keys (PySem.F.args_dict_keys_1 _) (keys_meets (es := es) (ep := ep) hd) ⟨hm, ?_⟩
  exact ⟨.ref s.heap.objs.size, upd H s.heap.objs.size (keysO s.heap.objs.size a), I.laid (t' := s.toks) (fun b u e => Heap.get?_push_of_some _ e) (Nat.le_refl _) (keysO_ok (Heap.get?_push_size _ rfl)), rfl, q _ (I.hok.fresh (Nat.le_refl _))⟩
end

/-! ### sorted of that -/
section
open SrtO
variable {prog : Program} {w : World} {A : Around} {E : Value → Shared → Prop} {s : Shared} {r d : Addr} {es : Array DictEntry} {ep : Nat} {k : Value → Int × Int}
/-- what is collected out of the view, laid behind all that stood -/
theorem view_collect {R : List Value → Shared → Prop} (hh : A.handled = none) (hv : PySem.W.KdlKeysView s.heap r d) (hm : s.heap.DictRaw d es ep) (hn : es.size ≤ sizeLine)
    (h : ∀ (h' : Heap) (tk : Nat) (acc : Array Value), (∀ b o, s.heap.get? b = some o → h'.get? b = some o) → s.heap.objs.size ≤ h'.objs.size → PySem.ItemsOf (fun i v => ∃ hi : i < es.size, v = es[i].key) acc es.size → R acc.toList { s with heap := h', toks := tk }) :
    wpAny (model prog w) A (collect (.ref r)) R E s := by
  have src := PySem.KdlSrc.rawKeys (prog := prog) (w := w) (r := r) (d := d) (es := es) (ep := ep)
  have there := src.there _ ⟨hv, hm⟩
  unfold collect; refine wpAny_bind (wpAny_runValue (codeAny_builtin entry_proto_collect' ?_)); rw [Around.under_plainId PySem.F.plain_proto_collect _]
  generalize hS : s.heap.objs.size = S
  show wpAny _ A.in1 (newList [] >>= fun l => again (.builtin "list.__iadd__" ⟨[l, .ref r], []⟩)) _ _ s; refine wpAny_bind (wpAny_newObj_type ?_)
  rw [hS]; refine wpAny_pure ⟨plainId_quiet PySem.F.plain_list_iadd _, codeAny_builtin entry_list_iadd' ?_⟩; rw [Around.under_plainId PySem.F.plain_list_iadd _]
  show wpAny _ A.in1 (Builtin.List.listExtendWith (.ref S) (.ref r) (.ref S)) _ _ _
  have hL : (s.heap.push (seqObj "list" #[] 0)).get? S = some { cls := .type "list", data := .seq #[] 0 } := by
    rw [← hS]
    exact Heap.get?_push_size _ rfl
  have key := PySem.W.kdl_extend (A := A) (s := { s with heap := s.heap.push (seqObj "list" #[] 0) })
    (R := fun (q : Result) (s2 : Shared) => ∃ (h2 : Heap) (t2 : Nat) (ac : Array Value) (c2 : Nat), q = .ok (.ret (.ref S)) ∧ s2 = { s with heap := h2, toks := t2 } ∧ (∀ b o, s.heap.get? b = some o → h2.get? b = some o) ∧ h2.get? S = some (seqObj "list" ac c2) ∧ PySem.ItemsOf (fun i v => ∃ hi : i < es.size, v = es[i].key) ac es.size)
    src hh (src.keep _ _ ⟨hv, hm⟩ fun b _ o e => Heap.get?_push_of_some _ e) S (Nat.ne_of_gt (show r < S from hS ▸ there.1)) (Nat.ne_of_gt (show d < S from hS ▸ there.2)) (.ref S) 0 hL
    (fun h2 t2 ac c2 k2 g2 i2 => ⟨h2, t2, ac, c2, rfl, rfl, fun b o e => k2 b o (Nat.ne_of_lt (show b < S from hS ▸ Heap.lt_size e)) (Heap.get?_push_of_some _ e), g2, i2⟩) hn
  have fin : ∀ (h2 : Heap) (t2 : Nat) (ac : Array Value) (c2 : Nat), (∀ b o, s.heap.get? b = some o → h2.get? b = some o) → h2.get? S = some (seqObj "list" ac c2) → PySem.ItemsOf (fun i v => ∃ hi : i < es.size, v = es[i].key) ac es.size → R ac.toList { s with heap := h2, toks := t2 } := fun h2 t2 ac c2 k2 g2 i2 =>
    h h2 t2 ac k2 (Nat.le_of_lt (hS ▸ Heap.lt_size g2)) i2
  refine wpAny_mono key (fun f s2 x => ?_) fun e s2 x => ?_
  · cases f with
    | done f =>
      obtain ⟨h2, t2, ac, c2, e, rfl, k2, g2, i2⟩ := x
      cases e
      show wpAny _ A (load S >>= _) _ _ _
      exact wpAny_bind (wpAny_load g2 (wpAny_pure (fin h2 t2 ac c2 k2 g2 i2)))
    | again c =>
      refine ⟨x.1, codeAny_mono x.2 fun q s3 y => ?_⟩
      obtain ⟨h2, t2, ac, c2, rfl, rfl, k2, g2, i2⟩ := y
      show wpAny _ A (load S >>= _) _ _ _
      exact wpAny_bind (wpAny_load g2 (wpAny_pure (fin h2 t2 ac c2 k2 g2 i2)))
  · obtain ⟨_, _, _, _, z, _⟩ := x
    cases z
theorem sorted_view {Q : Value → Shared → Prop} (hh : A.handled = none) (hv : PySem.W.KdlKeysView s.heap r d) (hm : s.heap.DictRaw d es ep) (hn : es.size ≤ sizeLine) (hp : ∀ v ∈ es.toList.map (·.key), Srt.IsPair s.heap v (k v).1 (k v).2)
    (h : ∀ (h' : Heap) (tk : Nat) (dd : Addr) (out : List Value), Srtd (fun v u => lexB (k v) (k u)) out → Stb (fun v u => lexB (k v) (k u)) out (es.toList.map (·.key)) → (∀ b o, s.heap.get? b = some o → h'.get? b = some o) → s.heap.objs.size ≤ dd → (∃ n, h'.get? dd = some (seqObj "list" out.toArray n)) → Q (.ref dd) { s with heap := h', toks := tk }) :
    wpAny (model prog w) A (call (.builtin "sorted") [.ref r]) Q E s := by
  refine PySem.Calls.call_function_entry kind_sorted plain_sorted entry_sorted (args_sorted1 _) ?_
  unfold Builtin.«sorted»; refine wpAny_bind (m := checkCount "sorted" 1 1 _) (wpAny_pure ?_)
  refine wpAny_bind (view_collect hh hv hm hn fun h' tk acc hk szs hacc => ?_)
  have ev : acc.toList = es.toList.map (·.key) := by
    refine List.ext_getElem? fun j => ?_
    rw [List.getElem?_map]
    cases hj : acc.toList[j]? with
    | none =>
      have h1 := List.getElem?_eq_none_iff.mp hj
      have h2 : acc.toList.length = es.size := by rw [Array.length_toList]; exact hacc.1
      rw [List.getElem?_eq_none (by rw [Array.length_toList]; omega)]
      rfl
    | some v =>
      obtain ⟨hi, hv⟩ := hacc.2 j v (by rw [← Array.getElem?_toList]; exact hj)
      rw [Array.getElem?_toList, Array.getElem?_eq_getElem hi, hv]
      rfl
  rw [ev]
  generalize es.toList.map (·.key) = vs at *
  have hz : vs.length ≤ sizeLine := by
    rw [← ev, Array.length_toList, hacc.1]
    exact hn
  refine wpAny_bind (wpAny_newList ?_ hz)
  have hoL : (h'.push (seqObj "list" vs.toArray 0)).get? h'.objs.size = some (seqObj "list" vs.toArray 0) := Heap.get?_push_size _ rfl
  have old : ∀ b o, s.heap.get? b = some o → b ≠ h'.objs.size ∧ (h'.push (seqObj "list" vs.toArray 0)).get? b = some o := fun b o e => ⟨Nat.ne_of_lt (Heap.lt_size (hk b o e)), Heap.get?_push_of_some _ (hk b o e)⟩
  refine wpAny_bind (wpAny_holding (wpAny_call_entry slot_list_sort ⟨_, hoL, rfl⟩ entry_list_sort (list_sort_ord (s := { s with heap := h'.push (seqObj "list" vs.toArray 0), toks := tk }) (swo_lex k) hoL hz (fun h2 => ?_) fun out hs hb => ⟨_, rfl, ?_⟩) (args_list_sort _)))
  · refine pairs_sortableO (by omega) (fun v hm => (hp v hm).keeps fun b o e _ => (old b o e).2) fun o e => ?_
    have e' : some o = some (seqObj "list" vs.toArray 0) := e.symm.trans hoL
    cases e'
    exact fun c => absurd (Value.type.inj c) (by decide)
  · refine wpAny_pure ⟨_, rfl, h _ _ _ out hs hb (fun b o e => ?_) szs (sortedHeap_at hoL)⟩
    obtain ⟨q1, q2⟩ := old b o e
    rw [← q2]
    exact sortedHeap_old q1 (Heap.lt_size q2)
end

/-! ### as a rule: keys pairs of ints -/
abbrev kP (e : Int × Int) : List L2.Key := [Sum.inl e.1, Sum.inl e.2]
/-- sorted(d.keys()): the keys' own tuples, by their ints -/
def rSortKeys : List V → Hp → VK → Prop := fun vs H Q => ∃ (p a : Addr) (ks : List ((Int × Int) × V)), vs = [.ref p] ∧ H p = some (keysO p a) ∧ H a = some (.dT (ks.map fun e => (kP e.1, e.2))) ∧
  ∀ (zs : List (Addr × Int × Int)) (l : Addr), (zs.map (·.2)).Perm (ks.map (·.1)) → (zs.map (·.2)).Pairwise (fun x y => SrtO.lexB y x = false) → (∀ z ∈ zs, H z.1 = some (.tup [.int z.2.1, .int z.2.2])) → H l = none → Q (.ref l) (upd H l (.lst (zs.map fun z => V.ref z.1)))
/-- the pair that stands at v -/
def pairOf (H : Hp) (v : Value) : Int × Int := match v with
  | .ref a => match H a with
    | some (.tup [.int i, .int j]) => (i, j)
    | _ => (0, 0)
  | _ => (0, 0)
theorem pairOf_at {H : Hp} {a : Addr} {i j : Int} (h : H a = some (.tup [.int i, .int j])) : pairOf H (.ref a) = (i, j) := by
  unfold pairOf
  simp only [h]
theorem map_of_paired {α β γ : Type} {F : α → β → Prop} {f : α → γ} {g : β → γ} (h : ∀ a b, F a b → f a = g b) : ∀ {l : List α} {m : List β}, Paired F l m → l.map f = m.map g
  | _, _, .nil => rfl
  | _, _, .cons a r => by rw [List.map_cons, List.map_cons, h _ _ a, map_of_paired h r]
theorem refs_of : ∀ {out : List Value}, (∀ v ∈ out, ∃ a, v = Value.ref a) → ∃ as : List Addr, out = as.map Value.ref
  | [], _ => ⟨[], rfl⟩
  | v :: out, h => by
    obtain ⟨a, rfl⟩ := h v (List.mem_cons_self ..)
    obtain ⟨as, rfl⟩ := refs_of (out := out) fun z hz => h z (List.mem_cons_of_mem _ hz)
    exact ⟨a :: as, rfl⟩
theorem vals_refsK : ∀ as : List Addr, Vals (as.map V.ref) (as.map Value.ref)
  | [] => .nil
  | _ :: r => .cons rfl (vals_refsK r)
section
variable {X : Cx}
theorem cr_sortedKeys (hc : X.calm = true) : CallR X (.builtin "sorted") rSortKeys := by
  intro pins s σ H vs us Q I r h
  obtain ⟨p, a, ks, rfl, hp, ha, q⟩ := h
  obtain ⟨u, rfl, ru⟩ := vals1 r
  obtain rfl : u = Value.ref p := ru
  have view : PySem.W.KdlKeysView s.heap p a := (show ObjOk X.prog X.w H s.heap p (keysO p a) from I.hok p _ hp).1
  obtain ⟨z, hd, xs', rel, o, es, ep, ho, hx, hdat, hes, his, hn⟩ := L2.dt_of I.hok ha
  have hm : s.heap.DictRaw a es ep := ⟨o, ho, hx, hdat⟩
  have l1 := Paired.length rel
  have l2 : es.size = xs'.length := size_of_entries hes
  rw [List.length_map] at l1 z
  have ekeys : es.toList.map (·.key) = (xs'.map fun x => x.2.1).map Value.ref := by
    rw [hes, List.map_map, List.map_map]
    rfl
  -- each key's tuple
  have tup : ∀ b ∈ xs'.map (fun x => x.2.1), ∃ e ∈ ks, H b = some (.tup [.int e.1.1, .int e.1.2]) := fun b hb => by
    obtain ⟨x, hxm, rfl⟩ := List.mem_map.mp hb
    obtain ⟨j, hj⟩ := List.mem_iff_getElem?.mp hxm
    obtain ⟨e0, he0, r1, r2, r3⟩ := L2.DX.pget rel hj
    rw [List.getElem?_map] at he0
    obtain ⟨e, he, rfl⟩ := Option.map_eq_some_iff.mp he0
    exact ⟨e, List.mem_of_getElem? he, r2⟩
  have keyl : ((xs'.map fun x => x.2.1).map Value.ref).map (pairOf H) = ks.map (·.1) := by
    rw [List.map_map, List.map_map]
    refine (List.ext_getElem? fun j => ?_)
    rw [List.getElem?_map, List.getElem?_map]
    cases hj : xs'[j]? with
    | none =>
      rw [List.getElem?_eq_none (by have := List.getElem?_eq_none_iff.mp hj; omega)]
      rfl
    | some x =>
      obtain ⟨e0, he0, r1, r2, r3⟩ := L2.DX.pget rel hj
      rw [List.getElem?_map] at he0
      obtain ⟨e, he, rfl⟩ := Option.map_eq_some_iff.mp he0
      rw [he]
      exact congrArg some (pairOf_at r2)
  refine sorted_view (k := pairOf H) (I.ok.hd hc) view hm (by rw [l2, ← l1]; exact z) (fun v hv => ?_) fun h' tk dd out h1 h2 kp hdd hout => ?_
  · rw [ekeys] at hv
    obtain ⟨b, hb, rfl⟩ := List.mem_map.mp hv
    obtain ⟨e, _, hb2⟩ := tup b hb
    obtain ⟨_, its2, r2, o2, ho2, hc2, n2, hd2⟩ := I.hok _ _ hb2
    obtain ⟨u1, u2, rfl, ri, rj⟩ := vals2 r2
    obtain ⟨t1, rfl⟩ := ri
    obtain ⟨t2, rfl⟩ := rj
    rw [pairOf_at hb2]
    exact ⟨b, o2, t1, t2, n2, rfl, ho2, hc2, hd2⟩
  · rw [ekeys] at h2
    obtain ⟨as, rfl⟩ := refs_of (out := out) fun v hv => by
      obtain ⟨b, _, e⟩ := List.mem_map.mp (h2.perm.mem_iff.mp hv)
      exact ⟨b, e.symm⟩
    have mem : ∀ b ∈ as, ∃ e ∈ ks, H b = some (.tup [.int e.1.1, .int e.1.2]) := fun b hb => by
      obtain ⟨c, hcm, e⟩ := List.mem_map.mp (h2.perm.mem_iff.mp (List.mem_map_of_mem hb))
      cases e
      exact tup _ hcm
    have e2 : (as.map fun b => (b, pairOf H (.ref b))).map (·.2) = (as.map Value.ref).map (pairOf H) := by
      rw [List.map_map, List.map_map]
      rfl
    have e1 : (as.map fun b => (b, pairOf H (.ref b))).map (fun z => V.ref z.1) = as.map V.ref := by
      rw [List.map_map]
      rfl
    obtain ⟨n, hn2⟩ := hout
    have hln : (as.map V.ref).length ≤ sizeLine := by
      have := h2.perm.length_eq
      rw [List.length_map, List.length_map, List.length_map] at this
      rw [List.length_map, this, ← l1]
      exact z
    refine ⟨.ref dd, upd H dd (.lst (as.map V.ref)), I.laid (t' := tk) kp hdd ⟨hln, as.map Value.ref, n, vals_refsK as, hn2⟩, rfl, ?_⟩
    rw [← e1]
    refine q _ dd ?_ ?_ (fun y hy => ?_) (I.hok.fresh hdd)
    · rw [e2, ← keyl]
      exact h2.perm.map _
    · rw [e2, List.pairwise_map]
      exact h1
    · obtain ⟨b, hb, rfl⟩ := List.mem_map.mp hy
      obtain ⟨e, _, hb2⟩ := mem b hb
      rw [pairOf_at hb2]
      exact hb2
end
end Kp

/-! Lists of triples of ints; a dict with pairs as keys. -/
namespace Kp
open PySem PySem.Spec PyProof.Rows L2 Evl
abbrev I3 := Int × Int × Int
section
variable {K : PySem.W.Frag} {σ : L2.St} {H H' : Hp} {ta tb te tl to ti : TE} {t : TT} {x y z v : V} {D : Ends} {tu tz : TS} {vs : List Nat}
def Trs (K : PySem.W.Frag) (H : Hp) : List V → List I3 → Prop := Paired fun v r => ∃ t, v = .ref t ∧ SqT K H t [.int r.1, .int r.2.1, .int r.2.2]
theorem Trs.mono {xs : List V} {rows : List I3} (e : Ex H H') (h : Trs K H xs rows) : Trs K H' xs rows := Paired.mapP h fun v r ⟨t, q, s⟩ => ⟨t, q, ex_t e s⟩
theorem Trs.upd {l : Addr} {us ys xs : List V} {rows : List I3} (hl : H l = some (.lst us)) (h : Trs K H xs rows) : Trs K (upd H l (.lst ys)) xs rows := Paired.mapP h fun v r ⟨t, q, s⟩ => ⟨t, q, sqt_upd hl s⟩
theorem Trs.snoc {xs : List V} {rows : List I3} {t : Addr} {a b c : Int} (h : Trs K H xs rows) (ht : SqT K H t [.int a, .int b, .int c]) : Trs K H (xs ++ [.ref t]) (rows ++ [(a, b, c)]) := Paired.snoc h ⟨t, rfl, ht⟩
theorem trs_get : ∀ {xs : List V} {rows : List I3} {i : Nat} {x : V}, Trs K H xs rows → xs[i]? = some x → ∃ r t, rows[i]? = some r ∧ x = .ref t ∧ SqT K H t [.int r.1, .int r.2.1, .int r.2.2]
  | _, _, _, _, .nil, h => by simp at h
  | _, _, 0, _, .cons (b := r) q _, h => by
    obtain ⟨t, q1, q2⟩ := q
    have e := Option.some.inj h
    exact ⟨r, t, rfl, e ▸ q1, q2⟩
  | _, _, i + 1, _, .cons _ q, h => trs_get (i := i) q h
def RetT (K : PySem.W.Frag) (rows : List I3) (H : Hp) (Q : VK) : Prop := ∀ p xs H2, H p = none → Ex H H2 → H2 p = some (.lst xs) → Trs K H2 xs rows → Q (.ref p) H2
def EvT3 (K : PySem.W.Frag) (te : TE) (σ : L2.St) (H : Hp) (rows : List I3) : Prop := ∀ H1, Ex H H1 → ∀ Q : VK, RetT K rows H1 Q → te σ H1 Q
theorem RetT.go {rows : List I3} {Q : VK} (q : RetT K rows H Q) {H1 : Hp} (e : Ex H H1) {p : Addr} {xs : List V} {H2 : Hp} (np : H1 p = none) (e2 : Ex H1 H2) (h : H2 p = some (.lst xs)) (r : Trs K H2 xs rows) : Q (.ref p) H2 := q p xs H2 (fresh_back e np) (e.trans e2) h r
theorem et3_cal {sp : Sp} {vs : List V} {E : XK} {ta : TA} {rows : List I3} (h : EvA ta σ H vs) (hs : ∀ H1, Ex H H1 → ∀ Q : VK, RetT K rows H1 Q → ∀ E : XK, sp vs H1 Q E) : EvT3 K (tCall sp [] E ta) σ H rows := fun H1 e Q q =>
  h H1 e _ fun H2 e2 => by
    show sp (vs ++ []) H2 Q E
    rw [List.append_nil]
    exact hs H2 (e.trans e2) Q (fun p xs H3 hp e3 h3 p3 => q p xs H3 (fresh_back e2 hp) (e2.trans e3) h3 p3) E
theorem q_asgT3 {i : Nat} {rows : List I3} (h : EvT3 K te σ H rows) (k : ∀ p xs H1, H p = none → Ex H H1 → H1 p = some (.lst xs) → Trs K H1 xs rows → tz D (σ.set i (some (.ref p))) H1) : tSeq (tAsg te (gName i)) tz D σ H :=
  h H (Ex.refl H) _ fun p xs H1 np e h1 r => k p xs H1 np e h1 r
/-- [(a, b, c)] -/
theorem et3_one {tr : TA} {a b c : Int} (h : EvA tr σ H [.int a, .int b, .int c]) : EvT3 K (tLst (tCons (tTup tr) tNil)) σ H [(a, b, c)] := fun H1 e Q q => by
  have key := h H1 e (fun vs H2 => vs.length ≤ sizeLine ∧ ∀ t, H2 t = none → [V.ref t].length ≤ sizeLine ∧ ∀ l, (upd H2 t (.tup vs)) l = none → Q (.ref l) (upd (upd H2 t (.tup vs)) l (.lst [.ref t]))) fun H2 e2 => ⟨sz_of (show 3 ≤ 100000 by decide), fun t nt => ⟨sz_of (show 1 ≤ 100000 by decide), fun l nl => by
    have eN : Ex (upd H2 t (.tup [.int a, .int b, .int c])) (upd (upd H2 t (.tup [.int a, .int b, .int c])) l (.lst [.ref t])) := Ex.new nl
    exact q l [.ref t] _ (fresh_back (e2.trans (Ex.new nt)) nl) ((e2.trans (Ex.new nt)).trans eN) upd_same (.cons ⟨t, rfl, SqT.of (eN _ _ upd_same)⟩ .nil)⟩⟩
  exact key
/-- for a, b, c in xs, by its name -/
theorem s_forT3 {a : Addr} {xs : List V} {rows : List I3} {j1 j2 j3 : Nat} (h : Ev tl σ H (.ref a)) (Pv : Nat → L2.St → Hp → Prop) (h0 : ∀ H1, Ex H H1 → Pv 0 σ H1) (hl : ∀ i σ' H', Pv i σ' H' → SqL K H' a xs ∧ Trs K H' xs rows)
    (hs : ∀ i r σ' H', rows[i]? = some r → Pv i σ' H' → tu { D with nx := Pv (i + 1), ct := Pv (i + 1), bk := D.nx } (((σ'.set j1 (some (.int r.1))).set j2 (some (.int r.2.1))).set j3 (some (.int r.2.2))) H') (hd : ∀ σ' H', Pv rows.length σ' H' → D.nx σ' H') :
    tFor (iList K tl) (gTup K 3 (gCons (gName j1) (gCons (gName j2) (gCons (gName j3) gNil)))) tu D σ H :=
  h H (Ex.refl H) _ fun H1 e => ⟨a, rfl, ⟨xs, (hl _ _ _ (h0 H1 e)).1⟩, for_list (xs := xs) Pv (h0 H1 e) (fun i σ' H' _ q => (hl _ _ _ q).1) (fun i x σ' H' hx q => by
    obtain ⟨r, t, hr, rfl, ht⟩ := trs_get (hl _ _ _ q).2 hx
    exact ⟨t, _, rfl, ht, rfl, .int r.1, [.int r.2.1, .int r.2.2], rfl, .int r.2.1, [.int r.2.2], rfl, .int r.2.2, [], rfl, rfl, hs i r σ' H' hr q⟩) (fun σ' H' q => by
    rw [Paired.length (hl _ _ _ (h0 H1 e)).2] at q
    exact hd σ' H' q)⟩
theorem q_forT3 {a : Addr} {xs : List V} {rows : List I3} {j1 j2 j3 : Nat} (h : Ev tl σ H (.ref a)) (Pv : Nat → L2.St → Hp → Prop) (h0 : ∀ H1, Ex H H1 → Pv 0 σ H1) (hl : ∀ i σ' H', Pv i σ' H' → SqL K H' a xs ∧ Trs K H' xs rows)
    (hs : ∀ i r σ' H', rows[i]? = some r → Pv i σ' H' → tu { D with nx := Pv (i + 1), ct := Pv (i + 1), bk := tz D } (((σ'.set j1 (some (.int r.1))).set j2 (some (.int r.2.1))).set j3 (some (.int r.2.2))) H') (hd : ∀ σ' H', Pv rows.length σ' H' → tz D σ' H') :
    tSeq (tFor (iList K tl) (gTup K 3 (gCons (gName j1) (gCons (gName j2) (gCons (gName j3) gNil)))) tu) tz D σ H := s_forT3 (D := { D with nx := tz D }) h Pv h0 hl hs hd
/-- over a new list of triples -/
theorem q_forT3N {rows : List I3} {j1 j2 j3 : Nat} (h : EvT3 K te σ H rows) (Pv : Addr → List V → Nat → L2.St → Hp → Prop) (h0 : ∀ p xs H1, H p = none → Ex H H1 → H1 p = some (.lst xs) → Trs K H1 xs rows → Pv p xs 0 σ H1) (hl : ∀ p xs i σ' H', Pv p xs i σ' H' → SqL K H' p xs ∧ Trs K H' xs rows)
    (hs : ∀ p xs i r σ' H', rows[i]? = some r → Pv p xs i σ' H' → tu { D with nx := Pv p xs (i + 1), ct := Pv p xs (i + 1), bk := tz D } (((σ'.set j1 (some (.int r.1))).set j2 (some (.int r.2.1))).set j3 (some (.int r.2.2))) H') (hd : ∀ p xs σ' H', Pv p xs rows.length σ' H' → tz D σ' H') :
    tSeq (tFor (iList K te) (gTup K 3 (gCons (gName j1) (gCons (gName j2) (gCons (gName j3) gNil)))) tu) tz D σ H :=
  h H (Ex.refl H) _ fun p xs H1 np e hp R => ⟨p, rfl, ⟨xs, sq_of hp⟩, for_list (xs := xs) (Pv p xs) (h0 p xs H1 np e hp R) (fun i σ' H' _ q => (hl _ _ _ _ _ q).1) (fun i x σ' H' hx q => by
    obtain ⟨r, t, hr, rfl, ht⟩ := trs_get (hl _ _ _ _ _ q).2 hx
    exact ⟨t, _, rfl, ht, rfl, .int r.1, [.int r.2.1, .int r.2.2], rfl, .int r.2.1, [.int r.2.2], rfl, .int r.2.2, [], rfl, rfl, hs p xs i r σ' H' hr q⟩) (fun σ' H' q => by
    rw [Paired.length R] at q
    exact hd p xs σ' H' q)⟩
/-- over a new list of pairs, what stood before free to change -/
theorem q_forP2 {rows : List (Int × Int)} {j1 j2 : Nat} (h : EvP K te σ H rows) (Pv : Addr → List V → Nat → L2.St → Hp → Prop) (h0 : ∀ p xs H1, H p = none → Ex H H1 → H1 p = some (.lst xs) → Prs K H1 xs rows → Pv p xs 0 σ H1) (hl : ∀ p xs i σ' H', Pv p xs i σ' H' → SqL K H' p xs ∧ Prs K H' xs rows)
    (hs : ∀ p xs i r σ' H', rows[i]? = some r → Pv p xs i σ' H' → tu { D with nx := Pv p xs (i + 1), ct := Pv p xs (i + 1), bk := tz D } ((σ'.set j1 (some (.int r.1))).set j2 (some (.int r.2))) H') (hd : ∀ p xs σ' H', Pv p xs rows.length σ' H' → tz D σ' H') :
    tSeq (tFor (iList K te) (gTup K 2 (gCons (gName j1) (gCons (gName j2) gNil))) tu) tz D σ H :=
  h H (Ex.refl H) _ fun p xs H1 np e hp R => ⟨p, rfl, ⟨xs, sq_of hp⟩, for_list (xs := xs) (Pv p xs) (h0 p xs H1 np e hp R) (fun i σ' H' _ q => (hl _ _ _ _ _ q).1) (fun i x σ' H' hx q => by
    obtain ⟨r, t, hr, rfl, ht⟩ := prs_get (hl _ _ _ _ _ q).2 hx
    exact ⟨t, _, rfl, ht, rfl, .int r.1, [.int r.2], rfl, .int r.2, [], rfl, rfl, hs p xs i r σ' H' hr q⟩) (fun σ' H' q => by
    rw [Paired.length R] at q
    exact hd p xs σ' H' q)⟩
/-- over a list of triples, a comprehension; its target three names -/
theorem el_lcT3 {a : Addr} {xs : List V} {rows : List I3} {j1 j2 j3 : Nat} (w : I3 → V) (h : Ev tl σ H (.ref a)) (hx : SqL K H a xs) (hp : Trs K H xs rows) (hz : rows.length ≤ 40000)
    (hw : ∀ x y z, wipe ((((wipe σ vs).set j1 (some x)).set j2 (some y)).set j3 (some z)) vs = wipe σ vs)
    (he : ∀ r H1, Ex H H1 → r ∈ rows → Ev te ((((wipe σ vs).set j1 (some (.int r.1))).set j2 (some (.int r.2.1))).set j3 (some (.int r.2.2))) H1 (w r)) :
    EvL (tLc (iList K tl) (gTup K 3 (gCons (gName j1) (gCons (gName j2) (gCons (gName j3) gNil)))) tYes te vs) σ H (rows.map w) := fun H0 e Q q => h H0 e _ fun H1 e1 => ⟨a, rfl, ⟨xs, ex_l (e.trans e1) hx⟩, fun Dl hD =>
  lc_list (xs := xs) (fun n H' => H1 Dl = none ∧ Ex H1 H' ∧ H' Dl = some (.lst ((rows.take n).map w))) ⟨hD, Ex.new hD, upd_same⟩ (fun n H' _ p => ex_l ((e.trans e1).trans p.2.1) hx) (fun n x H' hn p => by
    obtain ⟨p1, p2, p3⟩ := p
    obtain ⟨r, u, hr, rfl, hu⟩ := trs_get (hp.mono ((e.trans e1).trans p2)) hn
    have hm : r ∈ rows := List.mem_of_getElem? hr
    refine ⟨u, _, rfl, hu, rfl, .int r.1, [.int r.2.1, .int r.2.2], rfl, .int r.2.1, [.int r.2.2], rfl, .int r.2.2, [], rfl, rfl, hw _ _ _, ?_⟩
    refine et_yes (H := H') _ (Ex.refl _) _ fun H3 e3 => ?_
    rw [if_pos rfl]
    refine he r H1 (e.trans e1) hm H3 (p2.trans e3) _ fun H4 e4 => ⟨_, e4 Dl _ (e3 Dl _ p3), sz_lt (by rw [List.length_map, List.length_take]; omega), p1, Ex.mut ((p2.trans e3).trans e4) p1, ?_⟩
    rw [upd_same, List.take_add_one, hr, List.map_append]
    rfl) (fun H' p => by
    have q1 := p.2.2
    rw [Paired.length hp, List.take_length] at q1
    exact q Dl H' (fresh_back e1 p.1) (e1.trans p.2.1) q1)⟩
/-- all(a new list of truths) -/
theorem ev_all {bs : List Bool} (h : EvL ta σ H (bs.map V.bl)) : Ev (tCB (rAll K) (tCons ta tNil)) σ H (.bl (bs.all id)) := fun H1 e Q q =>
  h H1 e _ fun p H2 np e2 hp => ⟨p, bs, rfl, sq_of hp, q H2 e2⟩
theorem ev_int1n {b : Bool} {n : Int} (ha : Ev ta σ H (.bl b)) (hn : (if b then 1 else 0) = n) : Ev (tCB (fun xs H Q => (∃ i, xs = [.int i] ∧ Q (.int i) H) ∨ ∃ k, xs = [.bl k] ∧ Q (.int (if k then 1 else 0)) H) (tCons ta tNil)) σ H (.int n) := hn ▸ ev_int1b ha

/-! ### a dict whose keys are pairs -/
abbrev encD (e : (Int × Int) × Int) : List L2.Key × V := (kP e.1, V.int e.2)
def putI (ks : List ((Int × Int) × Int)) (k : Int × Int) (c : Int) : List ((Int × Int) × Int) := if (ks.any fun e => decide (e.1 = k)) = true then ks.map (fun e => if e.1 = k then (e.1, c) else e) else ks ++ [(k, c)]
theorem kP_eq (a b : Int × Int) : kP a = kP b ↔ a = b := by
  constructor
  · intro h
    simp only [kP, List.cons.injEq, Sum.inl.injEq, and_true] at h
    exact Prod.ext h.1 h.2
  · exact fun h => by rw [h]
theorem put_enc (ks : List ((Int × Int) × Int)) (k : Int × Int) (c : Int) : putK (ks.map encD) (kP k) (.int c) = (putI ks k c).map encD := by
  have ha : ((ks.map encD).any fun kv => decide (kv.1 = kP k)) = ks.any fun e => decide (e.1 = k) := by
    rw [List.any_map]
    congr 1
    funext e
    exact decide_eq_decide.mpr (kP_eq e.1 k)
  unfold putK putI
  rw [ha]
  split
  · rw [List.map_map, List.map_map]
    refine List.map_congr_left fun e _ => ?_
    show (if (encD e).1 = kP k then ((encD e).1, V.int c) else encD e) = encD (if e.1 = k then (e.1, c) else e)
    by_cases h : e.1 = k
    · rw [if_pos h, if_pos ((kP_eq _ _).mpr h)]
    · rw [if_neg h, if_neg fun q => h ((kP_eq _ _).mp q)]
  · rw [List.map_append]
    rfl
theorem val_enc : ∀ {ks : List ((Int × Int) × Int)} {k : Int × Int} {c : Int}, (ks.map (·.1)).Nodup → (k, c) ∈ ks → valV (ks.map encD) (kP k) = some (.int c)
  | e :: ks, k, c, hn, hm => by
    rw [List.map_cons, List.nodup_cons] at hn
    rcases List.mem_cons.mp hm with rfl | hm
    · exact valV_pos rfl
    · have ne : e.1 ≠ k := fun z => hn.1 (by rw [z]; exact List.mem_map.mpr ⟨(k, c), hm, rfl⟩)
      rw [List.map_cons, valV_neg fun z => ne ((kP_eq _ _).mp z)]
      exact val_enc hn.2 hm
theorem put_keys (ks : List ((Int × Int) × Int)) (k : Int × Int) (c : Int) (h : (ks.map (·.1)).Nodup) : ((putI ks k c).map (·.1)).Nodup ∧ ∀ e ∈ putI ks k c, e ∈ ks ∨ e = (k, c) := by
  unfold putI
  split
  · have e1 : (ks.map fun e => if e.1 = k then (e.1, c) else e).map (·.1) = ks.map (·.1) := by
      rw [List.map_map]
      refine List.map_congr_left fun e _ => ?_
      show (if e.1 = k then (e.1, c) else e).1 = e.1
      split <;> rfl
    refine ⟨by rw [e1]; exact h, fun e he => ?_⟩
    obtain ⟨f, hf, rfl⟩ := List.mem_map.mp he
    split
    · rename_i q
      rw [q]
      exact .inr rfl
    · exact .inl hf
  · rename_i q
    refine ⟨?_, fun e he => ?_⟩
    · rw [List.map_append]
      refine List.nodup_append.mpr ⟨h, by simp, fun a ha b hb e => q ?_⟩
      obtain ⟨f, hf, rfl⟩ := List.mem_map.mp ha
      have hb : b = k := by simpa using hb
      rw [List.any_eq_true]
      exact ⟨f, hf, decide_eq_true (e.trans hb)⟩
    · rcases List.mem_append.mp he with he | he
      · exact .inl he
      · exact .inr (by simpa using he)
theorem put_len (ks : List ((Int × Int) × Int)) (k : Int × Int) (c : Int) : (putI ks k c).length ≤ ks.length + 1 := by
  unfold putI
  split
  · rw [List.length_map]
    omega
  · rw [List.length_append, List.length_singleton]
    omega
/-- d[a, b] = c -/
theorem s_dput {td t1 t2 tv : TE} {d : Addr} {ks : List ((Int × Int) × Int)} {a b c : Int} (hd : H d = some (.dT (ks.map encD))) (ho : Ev td σ H (.ref d)) (hk : EvA (tCons t1 (tCons t2 tNil)) σ H [.int a, .int b]) (hv : Ev tv σ H (.int c)) (hl : ks.length < 100000)
    (k : ∀ H1, Ex H H1 → D.nx σ (upd H1 d (.dT ((putI ks (a, b) c).map encD)))) : sDPut td (tTup (tCons t1 (tCons t2 tNil))) tv D σ H :=
  hv H (Ex.refl H) _ fun H1 e1 => ho H1 e1 _ fun H2 e2 => hk H2 (e1.trans e2) _ fun H3 e3 => ⟨sz_of (show 2 ≤ 100000 by decide), fun q nq => by
    have e4 : Ex H (upd H3 q (.tup [.int a, .int b])) := ((e1.trans e2).trans e3).trans (Ex.new nq)
    have p := DPut.t (k := kP (a, b)) (v := .int c) (e4 _ _ hd) (b := q) upd_same (by rw [List.length_map]; exact sz_lt hl)
    rw [put_enc] at p
    exact ⟨d, _, rfl, p, k _ e4⟩⟩
/-- d[a, b] -/
theorem ev_dget {td t1 t2 : TE} {d : Addr} {ks : List ((Int × Int) × Int)} {a b c : Int} (hd : H d = some (.dT (ks.map encD))) (hn : (ks.map (·.1)).Nodup) (hm : ((a, b), c) ∈ ks) (ho : Ev td σ H (.ref d)) (hk : EvA (tCons t1 (tCons t2 tNil)) σ H [.int a, .int b]) : Ev (tDGet td (tTup (tCons t1 (tCons t2 tNil)))) σ H (.int c) := fun H1 e Q q =>
  ho H1 e _ fun H2 e2 => hk H2 (e.trans e2) _ fun H3 e3 => ⟨sz_of (show 2 ≤ 100000 by decide), fun t nt => by
    have e4 : Ex H (upd H3 t (.tup [.int a, .int b])) := ((e.trans e2).trans e3).trans (Ex.new nt)
    have g := DGet.t (k := kP (a, b)) (e4 _ _ hd) (b := t) upd_same
    rw [val_enc hn hm] at g
    exact ⟨d, .int c, rfl, g, q _ ((e2.trans e3).trans (Ex.new nt))⟩⟩
/-- the rows that sorted(d.keys()) and d[..] make -/
structure SortedRows (ks : List ((Int × Int) × Int)) (rows : List I3) : Prop where
  perm : (rows.map fun r => ((r.1, r.2.1), r.2.2)).Perm ks
  rise : rows.Pairwise fun x y => x.1 < y.1 ∨ x.1 = y.1 ∧ x.2.1 < y.2.1
/-- [(a, b, d[a, b]) for a, b in sorted(d.keys())] -/
theorem et3_keys {td t3 : TE} {ta1 : TE} {ta2 : TE} {d : Addr} {ks : List ((Int × Int) × Int)} {j1 j2 : Nat} (hd : H d = some (.dT (ks.map encD))) (hn : (ks.map (·.1)).Nodup) (hz : ks.length ≤ 40000) (ho : Ev td σ H (.ref d)) (hw : ∀ x y, wipe (((wipe σ vs).set j1 (some x)).set j2 (some y)) vs = wipe σ vs)
    (he : ∀ a b c H1, Ex H H1 → ((a, b), c) ∈ ks → Ev ta1 (((wipe σ vs).set j1 (some (.int a))).set j2 (some (.int b))) H1 (.int a) ∧ Ev ta2 (((wipe σ vs).set j1 (some (.int a))).set j2 (some (.int b))) H1 (.int b) ∧ Ev t3 (((wipe σ vs).set j1 (some (.int a))).set j2 (some (.int b))) H1 (.int c))
    (Q : VK) (q : ∀ rows, SortedRows ks rows → RetT K rows H Q) :
    tLc (iList K (tCB rSortKeys (tCons (tBM0 K "dict" rKeysT td) tNil))) (gTup K 2 (gCons (gName j1) (gCons (gName j2) gNil))) tYes (tTup (tCons ta1 (tCons ta2 (tCons t3 tNil)))) vs σ H Q :=
  ho H (Ex.refl H) _ fun H1 e1 => ⟨.inr (.inr (.inl ⟨rfl, .inr ⟨_, e1 _ _ hd⟩⟩)), d, _, rfl, rfl, e1 _ _ hd, fun p np => by
    have ep : Ex H1 (upd H1 p (keysO p d)) := Ex.new np
    refine ⟨p, d, ks.map fun e => (e.1, V.int e.2), rfl, upd_same, ?_, fun zs l hperm hsort hz1 nl => ?_⟩
    · rw [List.map_map]
      exact ep _ _ (e1 _ _ hd)
    rw [List.map_map] at hperm
    -- the values
    have hex : ∀ z ∈ zs, ∃ c, (z.2, c) ∈ ks := fun z hz => by
      have h1 : z.2 ∈ ks.map (·.1) := hperm.mem_iff.mp (List.mem_map_of_mem (f := (·.2)) hz)
      obtain ⟨e, he, h2⟩ := List.mem_map.mp h1
      exact ⟨e.2, by rw [← h2]; exact he⟩
    let val (k : Int × Int) : Int := ((ks.find? fun e => decide (e.1 = k)).map (·.2)).getD 0
    have hval : ∀ {k c}, (k, c) ∈ ks → val k = c := by
      intro k c hm
      have := val_enc hn hm
      have key : ∀ {ks : List ((Int × Int) × Int)}, (ks.map (·.1)).Nodup → (k, c) ∈ ks → ks.find? (fun e => decide (e.1 = k)) = some (k, c) := by
        intro ks
        induction ks with
        | nil => exact fun _ h => nomatch h
        | cons e ks ih =>
          intro hn hm
          rw [List.map_cons, List.nodup_cons] at hn
          rw [List.find?_cons]
          rcases List.mem_cons.mp hm with rfl | hm
          · rw [decide_eq_true rfl]
          · have ne : e.1 ≠ k := fun z => hn.1 (by rw [z]; exact List.mem_map.mpr ⟨(k, c), hm, rfl⟩)
            rw [decide_eq_false ne]
            exact ih hn.2 hm
      show ((ks.find? fun e => decide (e.1 = k)).map (·.2)).getD 0 = c
      rw [key hn hm]
      rfl
    have hvm : ∀ z ∈ zs, ((z.2.1, z.2.2), val z.2) ∈ ks := fun z hz => by
      obtain ⟨c, hc⟩ := hex z hz
      rw [hval hc]
      exact hc
    have hlen : zs.length = ks.length := by
      have := hperm.length_eq
      rwa [List.length_map, List.length_map] at this
    have e2 : Ex H1 (upd (upd H1 p (keysO p d)) l (.lst (zs.map fun z => V.ref z.1))) := ep.trans (Ex.new nl)
    generalize hH2 : upd (upd H1 p (keysO p d)) l (.lst (zs.map fun z => V.ref z.1)) = H2 at e2
    have hl2 : H2 l = some (.lst (zs.map fun z => V.ref z.1)) := by rw [← hH2, upd_same]
    have hz2 : ∀ z ∈ zs, H2 z.1 = some (.tup [.int z.2.1, .int z.2.2]) := fun z hz => by
      rw [← hH2]
      exact Ex.new nl _ _ (hz1 z hz)
    refine ⟨l, rfl, ⟨_, sq_of hl2⟩, fun Dl hD => ?_⟩
    refine lc_list (xs := zs.map fun z => V.ref z.1) (fun n H' => H2 Dl = none ∧ Ex H2 H' ∧ ∃ xs, H' Dl = some (.lst xs) ∧ Trs K H' xs ((zs.take n).map fun z => (z.2.1, z.2.2, val z.2))) ⟨hD, Ex.new hD, [], upd_same, .nil⟩ (fun n H' _ p => sq_of (p.2.1 _ _ hl2)) (fun n x H' hx p => ?_) (fun H' p => ?_)
    · obtain ⟨p1, p2, xs, p3, p4⟩ := p
      rw [List.getElem?_map] at hx
      obtain ⟨z, hzn, rfl⟩ := Option.map_eq_some_iff.mp hx
      have hm := List.mem_of_getElem? hzn
      have hzt := p2 _ _ (hz2 z hm)
      refine ⟨z.1, _, rfl, SqT.of hzt, rfl, .int z.2.1, [.int z.2.2], rfl, .int z.2.2, [], rfl, rfl, hw _ _, ?_⟩
      refine et_yes (H := H') _ (Ex.refl _) _ fun H3 e3 => ?_
      rw [if_pos rfl]
      have e03 : Ex H H3 := (e1.trans e2).trans (p2.trans e3)
      obtain ⟨g1, g2, g3⟩ := he z.2.1 z.2.2 (val z.2) H3 e03 (hvm z hm)
      refine g1 H3 (Ex.refl _) _ fun H4 e4 => g2 H4 e4 _ fun H5 e5 => g3 H5 (e4.trans e5) _ fun H6 e6 => ⟨sz_of (show 3 ≤ 100000 by decide), fun T nT => ?_⟩
      have e37 : Ex H' (upd H6 T (.tup [.int z.2.1, .int z.2.2, .int (val z.2)])) := (e3.trans (e4.trans (e5.trans e6))).trans (Ex.new nT)
      have hDl := e37 _ _ p3
      refine ⟨_, hDl, ?_, p1, Ex.mut (p2.trans e37) p1, xs ++ [.ref T], upd_same, ?_⟩
      · refine sz_lt ?_
        rw [Paired.length p4, List.length_map, List.length_take]
        omega
      · have et : zs.take (n + 1) = zs.take n ++ [z] := by rw [List.take_add_one, hzn]; rfl
        rw [et, List.map_append]
        exact ((p4.mono e37).upd hDl).snoc (sqt_upd hDl (SqT.of upd_same))
    · obtain ⟨p1, p2, xs, p3, p4⟩ := p
      rw [List.length_map, List.take_length] at p4
      refine q _ ⟨?_, ?_⟩ Dl xs H' (fresh_back (e1.trans e2) p1) ((e1.trans e2).trans p2) p3 p4
      · rw [List.map_map]
        have e3 : zs.map ((fun r : I3 => ((r.1, r.2.1), r.2.2)) ∘ fun z => (z.2.1, z.2.2, val z.2)) = (zs.map (·.2)).map fun k => (k, val k) := by
          rw [List.map_map]
          rfl
        rw [e3]
        have e4 : ks = (ks.map (·.1)).map fun k => (k, val k) := by
          rw [List.map_map]
          conv => lhs; rw [← List.map_id ks]
          refine List.map_congr_left fun e he => ?_
          show e = (e.1, val e.1)
          rw [hval (k := e.1) (c := e.2) he]
        have hp2 : (zs.map (·.2)).Perm (ks.map (·.1)) := hperm
        have := hp2.map fun k => (k, val k)
        rwa [← e4] at this
      · rw [List.pairwise_map]
        have hnd : (zs.map (·.2)).Nodup := by
          have hp2 : (zs.map (·.2)).Perm (ks.map (·.1)) := hperm
          exact hp2.nodup_iff.mpr hn
        have h3 := List.pairwise_map.mp hsort
        have h4 := List.pairwise_map.mp hnd
        refine (List.Pairwise.and h3 h4).imp fun {x y} h => ?_
        have h5 := SrtO.lexB_no.mp h.1
        have h6 : ¬ (x.2.1 = y.2.1 ∧ x.2.2 = y.2.2) := fun z => h.2 (Prod.ext z.1 z.2)
        show x.2.1 < y.2.1 ∨ x.2.1 = y.2.1 ∧ x.2.2 < y.2.2
        omega⟩
end
end Kp
namespace Kp
open PySem PySem.Spec PyProof.Rows L2 Evl
theorem fits_small {x : Int} (h0 : -100000 ≤ x) (h1 : x ≤ 100000) : PySem.Builtin.Range.rangeFitsLong x = true := by
  unfold PySem.Builtin.Range.rangeFitsLong
  simp only [Bool.and_eq_true, decide_eq_true_eq]
  omega
/-- range(j, n, s), n so many times s as p says -/
theorem rgC_up {j n s p : Int} (h0 : 0 ≤ j) (h1 : j < s) (hn : n = s * p) (hp : 1 ≤ p) (hb : n ≤ 50000) : RgC j n s p.toNat := by
  have hs : 1 ≤ s := by omega
  have sp : s ≤ s * p := by
    have := Int.mul_le_mul_of_nonneg_left hp (show 0 ≤ s by omega)
    omega
  have hp2 : p ≤ s * p := by
    have := Int.mul_le_mul_of_nonneg_right hs (show 0 ≤ p by omega)
    omega
  have hz : PySem.Builtin.Range.rangeSize j n s = p := by
    unfold PySem.Builtin.Range.rangeSize
    rw [if_pos (by omega), if_pos (by omega)]
    have e : n - j - 1 = (s - j - 1) + s * (p - 1) := by
      rw [Int.mul_sub, Int.mul_one]
      omega
    rw [e, Int.add_mul_ediv_left _ _ (by omega), Int.ediv_eq_zero_of_lt (by omega) (by omega)]
    omega
  refine ⟨by omega, by omega, ?_, by rw [hz]; omega⟩
  unfold PySem.Builtin.Range.small
  rw [hz, fits_small (by omega) (by omega), fits_small (by omega) (by omega), fits_small (by omega) (by omega), fits_small (by omega) (by omega), if_pos (by omega), fits_small (by omega) (by omega)]
  simp
section
variable {K : PySem.W.Frag} {σ : L2.St} {H H' : Hp} {ta tb te tl to ti : TE} {x y z v : V} {D : Ends} {tu tz : TS} {vs : List Nat}
/-- for x in range(j, n, s) -/
theorem s_forR3 {tr : TA} {i0 : Nat} {j n s : Int} {m : Nat} (h : EvA tr σ H [.int j, .int n, .int s]) (hr : RgC j n s m) (Pv : Nat → L2.St → Hp → Prop) (h0 : ∀ H1, Ex H H1 → Pv 0 σ H1)
    (hs : ∀ i σ' H', i < m → Pv i σ' H' → tu { D with nx := Pv (i + 1), ct := Pv (i + 1), bk := D.nx } (σ'.set i0 (some (.int (j + (i : Nat) * s)))) H') (hd : ∀ σ' H', Pv m σ' H' → D.nx σ' H') : tFor (iRng3 tr) (gName i0) tu D σ H :=
  h H (Ex.refl H) _ fun H1 e => ⟨j, n, s, m, rfl, hr, for_rangeC Pv (h0 H1 e) (fun i σ' H' hi p => hs i σ' H' hi p) hd⟩
/-- over a new list of pairs, a comprehension -/
theorem el_lcPN {te0 : TE} {rows : List (Int × Int)} {i j : Nat} (w : Int × Int → V) (h : EvP K te0 σ H rows) (hz : rows.length ≤ 40000)
    (hw : ∀ x y, wipe (((wipe σ vs).set i (some x)).set j (some y)) vs = wipe σ vs)
    (he : ∀ r H1, Ex H H1 → r ∈ rows → Ev te (((wipe σ vs).set i (some (.int r.1))).set j (some (.int r.2))) H1 (w r)) :
    EvL (tLc (iList K te0) (gTup K 2 (gCons (gName i) (gCons (gName j) gNil))) tYes te vs) σ H (rows.map w) := fun H0 e Q q => h H0 e _ fun a xs H1 na e1 ha pr => ⟨a, rfl, ⟨xs, sq_of ha⟩, fun Dl hD =>
  lc_list (xs := xs) (fun n H' => H1 Dl = none ∧ Ex H1 H' ∧ H' Dl = some (.lst ((rows.take n).map w))) ⟨hD, Ex.new hD, upd_same⟩ (fun n H' _ p => sq_of (p.2.1 _ _ ha)) (fun n x H' hn p => by
    obtain ⟨p1, p2, p3⟩ := p
    obtain ⟨r, u, hr, rfl, hu⟩ := prs_get (pr.mono p2) hn
    have hm : r ∈ rows := List.mem_of_getElem? hr
    refine ⟨u, _, rfl, hu, rfl, .int r.1, [.int r.2], rfl, .int r.2, [], rfl, rfl, hw _ _, ?_⟩
    refine et_yes (H := H') _ (Ex.refl _) _ fun H3 e3 => ?_
    rw [if_pos rfl]
    refine he r H1 (e.trans e1) hm H3 (p2.trans e3) _ fun H4 e4 => ⟨_, e4 Dl _ (e3 Dl _ p3), sz_lt (by rw [List.length_map, List.length_take]; omega), p1, Ex.mut ((p2.trans e3).trans e4) p1, ?_⟩
    rw [upd_same, List.take_add_one, hr, List.map_append]
    rfl) (fun H' p => by
    have q1 := p.2.2
    rw [Paired.length pr, List.take_length] at q1
    exact q Dl H' (fresh_back e1 p.1) (e1.trans p.2.1) q1)⟩
/-- x = {} -/
theorem q_asgD {i : Nat} (k : ∀ d, H d = none → tz D (σ.set i (some (.ref d))) (upd H d (.dT []))) : tSeq (tAsg tDNewT (gName i)) tz D σ H := fun d nd => k d nd
/-! == of lists of triples -/
def d3 (r : I3) : PyData := .tuple [.int r.1, .int r.2.1, .int r.2.2]
def d3L (rows : List I3) : PyData := .list (rows.map d3)
theorem d3_inj (a b : I3) (e : d3 a = d3 b) : a = b := by
  obtain ⟨a1, a2, a3⟩ := a
  obtain ⟨b1, b2, b3⟩ := b
  simp only [d3, PyData.tuple.injEq, List.cons.injEq, PyData.int.injEq, and_true] at e
  rw [e.1, e.2.1, e.2.2]
theorem d3L_sh (rows : List I3) : SeqAt.shaped (d3L rows) = true := shaped_of (lay_map _ (fun _ => rfl) rows) (Nat.le_trans (Nat.succ_le_succ (dep_map d3 1 (fun _ => Nat.le_refl 1) rows)) (by decide))
theorem d3L_eqv (rs qs : List I3) : PyData.eqv (d3L rs) (d3L qs) = decide (rs = qs) := eqv_dec d3L (fun l => by unfold d3L okD; exact okA_map _ (fun _ => rfl) l) (fun a b e => map_inj d3_inj a b (PyData.list.inj e)) rs qs
theorem dpa_trs : ∀ {xs : List V} {rows : List I3}, Trs K H xs rows → DpAll K H xs (rows.map d3)
  | _, _, .nil => .nil
  | _, _, .cons q r => by
    obtain ⟨t, rfl, q2⟩ := q
    exact .cons (.tup q2 (.cons (.int _) (.cons (.int _) (.cons (.int _) .nil)))) (dpa_trs r)
theorem dp_trs {a : Addr} {xs : List V} {rows : List I3} (h : SqL K H a xs) (p : Trs K H xs rows) : Dp K H (.ref a) (d3L rows) := .lst h (dpa_trs p)
theorem rv_ne3 {p q : Addr} {xs ys : List V} {rs qs : List I3} (h1 : SqL K H p xs) (p1 : Trs K H xs rs) (h2 : SqL K H q ys) (p2 : Trs K H ys qs) : RV (rNeD K) (.ref p) (.ref q) H (.bl (!decide (rs = qs))) :=
  rv_neD (fun _ e => dp_trs (ex_l e h1) (p1.mono e)) (fun _ e => dp_trs (ex_l e h2) (p2.mono e)) (d3L_sh _) (d3L_sh _) (by rw [d3L_eqv])
theorem sql_upd {l a : Addr} {xs : List V} {o : HO} (ne : a ≠ l) (h : SqL K H a xs) : SqL K (upd H l o) a xs := by
  rcases h with (h | ⟨o', h⟩) | h
  · exact .inl (.inl (by rw [upd_ne ne]; exact h))
  · exact .inl (.inr ⟨o', by rw [upd_ne ne]; exact h⟩)
  · exact .inr h
/-- a call upon a value and a new list of triples -/
theorem el_calVT {sp : Sp} {t0 te : TE} {v : V} {rows : List I3} {ys : List V} {E : XK} (h0 : Ev t0 σ H v) (h : EvT3 K te σ H rows) (hs : ∀ l xs H1, Ex H H1 → H1 l = some (.lst xs) → Trs K H1 xs rows → ∀ Q : VK, RetL ys H1 Q → ∀ E : XK, sp [v, .ref l] H1 Q E) : EvL (tCall sp [] E (tCons t0 (tCons te tNil))) σ H ys := fun H1 e Q q =>
  h0 H1 e _ fun H2 e2 => h H2 (e.trans e2) _ fun l xs H3 nl e3 hl R => by
    show sp ([v, .ref l] ++ []) H3 Q E
    rw [List.append_nil]
    exact hs l xs H3 ((e.trans e2).trans e3) hl R Q (fun p H4 np e4 h4 => q p H4 (fresh_back (e2.trans e3) np) ((e2.trans e3).trans e4) h4) E
/-- x = f(..), f telling some list of triples of which Pr holds -/
theorem q_asgT3any {sp : Sp} {vs : List V} {E : XK} {tr : TA} {i : Nat} {Pr : List I3 → Prop} (h : EvA tr σ H vs) (hs : ∀ H1, Ex H H1 → ∀ Q : VK, (∀ rows, Pr rows → RetT K rows H1 Q) → ∀ E : XK, sp vs H1 Q E)
    (k : ∀ rows p xs H1, Pr rows → H p = none → Ex H H1 → H1 p = some (.lst xs) → Trs K H1 xs rows → tz D (σ.set i (some (.ref p))) H1) : tSeq (tAsg (tCall sp [] E tr) (gName i)) tz D σ H :=
  h H (Ex.refl H) _ fun H1 e1 => by
    show sp (vs ++ []) H1 _ E
    rw [List.append_nil]
    exact hs H1 e1 _ (fun rows hr p xs H2 np e2 h2 R => k rows p xs H2 hr (fresh_back e1 np) (e1.trans e2) h2 R) E
/-- x = f(..), f telling some list of n ints -/
theorem q_asgAnyL {sp : Sp} {vs : List V} {E : XK} {tr : TA} {i n : Nat} (h : EvA tr σ H vs) (hs : ∀ H1, Ex H H1 → ∀ Q : VK, (∀ f : List Int, f.length = n → RetL (f.map V.int) H1 Q) → ∀ E : XK, sp vs H1 Q E)
    (k : ∀ (f : List Int) (p : Addr) (H1 : Hp), f.length = n → H p = none → Ex H H1 → H1 p = some (.lst (f.map V.int)) → tz D (σ.set i (some (.ref p))) H1) : tSeq (tAsg (tCall sp [] E tr) (gName i)) tz D σ H :=
  h H (Ex.refl H) _ fun H1 e1 => by
    show sp (vs ++ []) H1 _ E
    rw [List.append_nil]
    exact hs H1 e1 _ (fun f hf p H2 np e2 h2 => k f p H2 hf (fresh_back e1 np) (e1.trans e2) h2) E
theorem zip_add : ∀ f g : List Int, List.zipWith (fun x y => V.int (x + y)) f g = (addS f g).map V.int
  | [], _ => rfl
  | _ :: _, [] => rfl
  | x :: f, y :: g => by
    show V.int (x + y) :: List.zipWith _ f g = V.int (x + y) :: (addS f g).map V.int
    rw [zip_add f g]
end
end Kp

/-! Wheels round n: what they come to, the ground; how the law parts n. -/
namespace Kp
def lpS (n : Int) : Nat → Int × List (Int × Int)
  | 0 => (n, [])
  | i + 1 => ((strip (2 + i) 64 (lpS n i).1 0).1, if 0 < (strip (2 + i) 64 (lpS n i).1 0).2 then (lpS n i).2 ++ [((2 + i : Int), (strip (2 + i) 64 (lpS n i).1 0).2)] else (lpS n i).2)
/-- the rows of n's primes, as the law makes them -/
def lpF (n : Int) : List (Int × Int) := (lpS n (n - 1).toNat).2
theorem lpS_len (n : Int) : ∀ i, (lpS n i).2.length ≤ i
  | 0 => Nat.le_refl _
  | i + 1 => by
    have := lpS_len n i
    show (if _ then _ else _ : List (Int × Int)).length ≤ i + 1
    split
    · rw [List.length_append, List.length_singleton]
      omega
    · omega
theorem lpS_pos (n : Int) : ∀ i, ∀ r ∈ (lpS n i).2, 2 ≤ r.1
  | 0, r, h => nomatch h
  | i + 1, r, h => by
    have ih := lpS_pos n i
    have h2 : r ∈ (if 0 < (strip (2 + i) 64 (lpS n i).1 0).2 then (lpS n i).2 ++ [((2 + i : Int), (strip (2 + i) 64 (lpS n i).1 0).2)] else (lpS n i).2) := h
    split at h2
    · rcases List.mem_append.mp h2 with q | q
      · exact ih r q
      · rw [List.mem_singleton.mp q]
        show (2 : Int) ≤ 2 + (i : Int)
        omega
    · exact ih r h2

abbrev J3 := Int × Int × Int
/-! ### what wheels come to -/
/-- what a wheel gives at m -/
def wh (n : Int) (r : J3) (m : Nat) : Int := if (m : Int) % (n / r.1) = r.2.1 then r.2.2 else 0
def cmAt (n : Int) : List J3 → Nat → Int
  | [], _ => 0
  | r :: rs, m => wh n r m + cmAt n rs m
theorem cmAt_snoc (n : Int) (r : J3) (m : Nat) : ∀ rs : List J3, cmAt n (rs ++ [r]) m = cmAt n rs m + wh n r m
  | [] => by
    show wh n r m + 0 = 0 + wh n r m
    omega
  | a :: rs => by
    show wh n a m + cmAt n (rs ++ [r]) m = wh n a m + cmAt n rs m + wh n r m
    rw [cmAt_snoc n r m rs]
    omega
def cmS (n : Nat) (rows : List J3) : List Int := mkL n (cmAt n rows)
/-- a row of a wheel round n -/
structure Whl (n : Int) (r : J3) : Prop where
  two : 2 ≤ r.1
  dvd : n % r.1 = 0
  lo : 0 ≤ r.2.1
  hi : r.2.1 < n / r.1
theorem Whl.mul {n : Int} {r : J3} (h : Whl n r) : n = (n / r.1) * r.1 := by
  have := Int.mul_ediv_add_emod n r.1
  rw [h.dvd, Int.mul_comm] at this
  omega
theorem Whl.step {n : Int} {r : J3} (h : Whl n r) : 1 ≤ n / r.1 := by
  have := h.lo
  have := h.hi
  omega
/-- the k-th place of a wheel -/
theorem whl_at {n : Int} {r : J3} (h : Whl n r) {k : Nat} (hk : (k : Int) < r.1) : 0 ≤ r.2.1 + (k : Int) * (n / r.1) ∧ r.2.1 + (k : Int) * (n / r.1) < n := by
  have h1 := h.step
  have h2 := h.mul
  have h3 := h.lo
  have h4 := h.hi
  have h5 : (k : Int) * (n / r.1) ≤ (r.1 - 1) * (n / r.1) := Int.mul_le_mul_of_nonneg_right (by omega) (by omega)
  have h6 : 0 ≤ (k : Int) * (n / r.1) := Int.mul_nonneg (by omega) (by omega)
  rw [Int.sub_mul, Int.one_mul, Int.mul_comm r.1] at h5
  generalize n / r.1 = s at *
  generalize (k : Int) * s = ks at *
  omega
theorem whl_eq {n : Int} {r : J3} (h : Whl n r) {k m : Nat} : (m : Int) = r.2.1 + (k : Int) * (n / r.1) ↔ (m : Int) % (n / r.1) = r.2.1 ∧ (m : Int) / (n / r.1) = k := by
  have h1 := h.step
  have h3 := h.lo
  have h4 := h.hi
  have e := Int.mul_ediv_add_emod (m : Int) (n / r.1)
  generalize n / r.1 = s at *
  constructor
  · intro q
    rw [q, Int.add_mul_emod_self_right, Int.emod_eq_of_lt h3 h4, Int.add_mul_ediv_right _ _ (by omega), Int.ediv_eq_zero_of_lt h3 h4]
    exact ⟨rfl, by omega⟩
  · rintro ⟨q1, q2⟩
    rw [q1, q2, Int.mul_comm] at e
    omega
theorem whl_all {n : Int} {r : J3} (h : Whl n r) {m : Nat} (hm : (m : Int) < n) : (m : Int) / (n / r.1) < r.1 := by
  have h1 := h.step
  have h2 := h.mul
  refine Int.ediv_lt_of_lt_mul (by omega) ?_
  rw [Int.mul_comm, ← h2]
  exact hm
/-- behind k places of a wheel -/
def whK (n : Int) (r : J3) (k : Nat) (m : Nat) : Int := if (m : Int) % (n / r.1) = r.2.1 ∧ (m : Int) / (n / r.1) < k then r.2.2 else 0
theorem whK_zero {n : Int} {r : J3} (h : Whl n r) (m : Nat) : whK n r 0 m = 0 := by
  unfold whK
  rw [if_neg]
  rintro ⟨_, q⟩
  have := Int.ediv_nonneg (show 0 ≤ (m : Int) by omega) (show 0 ≤ n / r.1 by have := h.step; omega)
  omega
theorem whK_all {n : Int} {r : J3} (h : Whl n r) {m : Nat} (hm : (m : Int) < n) : whK n r r.1.toNat m = wh n r m := by
  have := whl_all h hm
  have := h.two
  unfold whK wh
  by_cases q : (m : Int) % (n / r.1) = r.2.1
  · rw [if_pos ⟨q, by omega⟩, if_pos q]
  · rw [if_neg fun z => q z.1, if_neg q]
theorem whK_step {n : Int} {r : J3} (h : Whl n r) {k m p : Nat} (hp : (p : Int) = r.2.1 + (k : Int) * (n / r.1)) : whK n r (k + 1) m = whK n r k m + if m = p then r.2.2 else 0 := by
  have key := whl_eq h (k := k) (m := m)
  unfold whK
  by_cases e : m = p
  · subst e
    have q := key.mp hp
    rw [if_pos ⟨q.1, by omega⟩, if_neg (by omega), if_pos rfl]
    omega
  · rw [if_neg e]
    have ne : ¬ ((m : Int) % (n / r.1) = r.2.1 ∧ (m : Int) / (n / r.1) = k) := fun z => e (by have := key.mpr z; omega)
    by_cases q : (m : Int) % (n / r.1) = r.2.1
    · by_cases g : (m : Int) / (n / r.1) < k
      · rw [if_pos ⟨q, by omega⟩, if_pos ⟨q, g⟩]
        omega
      · rw [if_neg (by omega), if_neg (by omega)]
        omega
    · rw [if_neg fun z => q z.1, if_neg fun z => q z.1]
      omega

/-! ### the ground -/
def hiF (n p : Int) : Nat → Int → Int
  | 0, h => h
  | k + 1, h => if n % (h * p) = 0 then hiF n p k (h * p) else h
def pwF (n : Int) : List J3 := (partedF n).map fun r => (r.1, hiF n r.1 n.toNat r.1, hiF n r.1 n.toNat r.1 / r.1)
def gP (n : Int) (j : Nat) : Bool := (pwF n).all fun r => decide ((j : Int) % r.2.1 < r.2.1 - r.2.2)
def lowP (p : Int) : Nat → Int
  | 0 => 1
  | k + 1 => lowP p k * p
def gL (n : Int) (j : Nat) : Bool := (lpF n).all fun r => decide ((j : Int) % (lowP r.1 (r.2 - 1).toNat * r.1) < (r.1 - 1) * lowP r.1 (r.2 - 1).toNat)
/-- what is asked of all n to 61 -/
def chkN (n : Int) : Bool := ((List.range n.toNat).all fun j => gP n j == gL n j) && ((pwF n).all fun r => decide (1 ≤ r.2.1) && decide (r.2.1 ≤ 61) && decide (2 ≤ r.1) && decide (n % r.1 = 0) && decide (r.1 ≤ 61) && decide (n % r.2.1 = 0) && decide (r.2.1 = r.2.2 * r.1)) && ((lpF n).all fun r => decide (2 ≤ r.1) && decide (n % r.1 = 0) && decide (1 ≤ r.2) && decide (r.2 ≤ 6) && decide (r.1 ≤ 61)) && decide ((lpF n).length ≤ 4) && decide ((lpF n) = partedF n)
theorem all_N : ((List.range 61).all fun i => chkN ((i + 1 : Nat) : Int)) = true := by decide +kernel
theorem chkN_at {n : Int} (h1 : 1 ≤ n) (h2 : n ≤ 61) : chkN n = true := by
  have h := List.all_eq_true.mp all_N (n - 1).toNat (List.mem_range.mpr (by omega))
  rwa [show (((n - 1).toNat + 1 : Nat) : Int) = n by omega] at h
structure Nok (n : Int) : Prop where
  g : ∀ j : Nat, (j : Int) < n → gP n j = gL n j
  pw : ∀ r ∈ pwF n, 1 ≤ r.2.1 ∧ r.2.1 ≤ 61 ∧ 2 ≤ r.1 ∧ n % r.1 = 0 ∧ r.1 ≤ 61 ∧ n % r.2.1 = 0 ∧ r.2.1 = r.2.2 * r.1
  lp : ∀ r ∈ lpF n, 2 ≤ r.1 ∧ n % r.1 = 0 ∧ 1 ≤ r.2 ∧ r.2 ≤ 6 ∧ r.1 ≤ 61
  len : (lpF n).length ≤ 4
  same : lpF n = partedF n
theorem nok {n : Int} (h1 : 1 ≤ n) (h2 : n ≤ 61) : Nok n := by
  have h := chkN_at h1 h2
  unfold chkN at h
  simp only [Bool.and_eq_true, List.all_eq_true, decide_eq_true_eq, beq_iff_eq, List.mem_range] at h
  obtain ⟨⟨⟨⟨c1, c2⟩, c3⟩, c4⟩, c5⟩ := h
  exact ⟨fun j hj => c1 j (by omega), fun r hr => by have := c2 r hr; simp only [and_assoc] at this; exact this, fun r hr => by have := c3 r hr; simp only [and_assoc] at this; exact this, c4, c5⟩
end Kp

/-! A sum brought to the ground: prime by prime each wheel's barred place is emptied. -/
namespace Kp
/-- the barred place of the wheel through m: the k-th, from k on -/
def bFind (s : Int) (r : J3) (j : Int) : Nat → Int → Int
  | 0, k => j + k * s
  | t + 1, k => if r.2.1 - r.2.2 ≤ (j + k * s) % r.2.1 then j + k * s else bFind s r j t (k + 1)
/-- r: a prime, its power in n, that over the prime -/
def bP (n : Int) (r : J3) (m : Nat) : Nat := (bFind (n / r.1) r ((m : Int) % (n / r.1)) r.1.toNat 0).toNat
def barB (r : J3) (m : Nat) : Bool := decide (r.2.1 - r.2.2 ≤ (m : Int) % r.2.1)
/-- one prime's turn -/
def gStep (n : Int) (r : J3) (f : List Int) : List Int := mkL n.toNat fun m => coef f m - coef f (bP n r m)
def grF (n : Int) (f : List Int) : List Int := (pwF n).foldl (fun f r => gStep n r f) f
/-- the wheels that are taken away, of the first places -/
def wlsK (n : Int) (r : J3) (f : List Int) : Nat → List J3
  | 0 => []
  | j + 1 => wlsK n r f j ++ if coef f (bP n r j) = 0 then [] else [(r.1, (j : Int), coef f (bP n r j))]
def wlF (n : Int) : List J3 → List Int → List J3
  | [], _ => []
  | r :: rs, f => wlsK n r f (n / r.1).toNat ++ wlF n rs (gStep n r f)
def chkG (n : Int) : Bool := (pwF n == (lpF n).map fun r => (r.1, lowP r.1 (r.2 - 1).toNat * r.1, lowP r.1 (r.2 - 1).toNat)) && ((pwF n).all fun r => (List.range n.toNat).all fun m => decide ((bP n r m : Int) < n) && decide ((bP n r m : Int) % (n / r.1) = (m : Int) % (n / r.1)) && barB r (bP n r m) && (!barB r m || decide (bP n r m = m)))
  && ((pwF n).map (·.1)).Pairwise (· < ·)
theorem all_G : ((List.range 61).all fun i => chkG ((i + 1 : Nat) : Int)) = true := by decide +kernel
theorem chkG_at {n : Int} (h1 : 1 ≤ n) (h2 : n ≤ 61) : chkG n = true := by
  have h := List.all_eq_true.mp all_G (n - 1).toNat (List.mem_range.mpr (by omega))
  rwa [show (((n - 1).toNat + 1 : Nat) : Int) = n by omega] at h
/-- what is known of one prime's turn -/
structure Gok (n : Int) (r : J3) : Prop where
  lt : ∀ m : Nat, (m : Int) < n → (bP n r m : Int) < n
  on : ∀ m : Nat, (m : Int) < n → (bP n r m : Int) % (n / r.1) = (m : Int) % (n / r.1)
  bar : ∀ m : Nat, (m : Int) < n → barB r (bP n r m) = true
  fix : ∀ m : Nat, (m : Int) < n → barB r m = true → bP n r m = m
  two : 2 ≤ r.1
  dvd : n % r.1 = 0
  le : r.1 ≤ 61
  hi1 : 1 ≤ r.2.1
structure GokA (n : Int) : Prop where
  all : ∀ r ∈ pwF n, Gok n r
  same : pwF n = (lpF n).map fun r => (r.1, lowP r.1 (r.2 - 1).toNat * r.1, lowP r.1 (r.2 - 1).toNat)
  rise : ((pwF n).map (·.1)).Pairwise (· < ·)
theorem gok {n : Int} (h1 : 1 ≤ n) (h2 : n ≤ 61) : GokA n := by
  have h := chkG_at h1 h2
  have N := nok h1 h2
  unfold chkG at h
  simp only [Bool.and_eq_true, List.all_eq_true, decide_eq_true_eq, beq_iff_eq, List.mem_range, Bool.or_eq_true, Bool.not_eq_true', and_assoc] at h
  obtain ⟨c1, c2, c3⟩ := h
  refine ⟨fun r hr => ?_, c1, c3⟩
  have hm := fun m (hm : ((m : Nat) : Int) < n) => c2 r hr m (by omega)
  obtain ⟨b1, b2, b3, b4, b5, b6, b7⟩ := N.pw r hr
  refine ⟨fun m h => (hm m h).1, fun m h => (hm m h).2.1, fun m h => (hm m h).2.2.1, fun m h hb => ?_, b3, b4, b5, b1⟩
  rcases (hm m h).2.2.2 with q | q
  · rw [hb] at q
    exact absurd q (by decide)
  · exact q
theorem Gok.step {n : Int} {r : J3} (g : Gok n r) (h1 : 1 ≤ n) : 1 ≤ n / r.1 ∧ n / r.1 ≤ n ∧ n = (n / r.1) * r.1 := by
  have hq : n / r.1 * r.1 = n := by
    have := Int.mul_ediv_add_emod n r.1
    rw [g.dvd, Int.mul_comm] at this
    omega
  have := g.two
  refine ⟨Int.le_of_not_gt fun q => ?_, Int.ediv_le_self _ (by omega), hq.symm⟩
  have h0 := Int.ediv_nonneg (show 0 ≤ n by omega) (show 0 ≤ r.1 by omega)
  have : n / r.1 = 0 := by omega
  rw [this] at hq
  omega
/-- places of one wheel have one barred place -/
theorem bP_same {n : Int} {r : J3} {m i : Nat} (h : (m : Int) % (n / r.1) = (i : Int) % (n / r.1)) : bP n r m = bP n r i := by
  unfold bP
  rw [h]
theorem Gok.at {n : Int} {r : J3} (g : Gok n r) {m i : Nat} (hm : (m : Int) < n) (hi : (i : Int) < n) (hb : barB r i = true) : bP n r m = i ↔ (m : Int) % (n / r.1) = (i : Int) % (n / r.1) := by
  constructor
  · intro e
    rw [← e]
    exact (g.on m hm).symm
  · intro e
    rw [bP_same e, g.fix i hi hb]
theorem gStep_len (n : Int) (r : J3) (f : List Int) : (gStep n r f).length = n.toNat := mkL_len _ _
theorem coef_gStep {n : Int} {r : J3} {f : List Int} {m : Nat} (h : (m : Int) < n) : coef (gStep n r f) m = coef f m - coef f (bP n r m) := by
  unfold gStep
  rw [coef_mkL, if_pos (by omega)]
/-- the first j wheels of one prime come to this -/
theorem wlsK_cm {n : Int} {r : J3} {f : List Int} (g : Gok n r) (h1 : 1 ≤ n) {m : Nat} (hm : (m : Int) < n) : ∀ j : Nat, (j : Int) ≤ n / r.1 → cmAt n (wlsK n r f j) m = if (m : Int) % (n / r.1) < j then coef f (bP n r m) else 0
  | 0, _ => by
    have := Int.emod_nonneg (m : Int) (show n / r.1 ≠ 0 by have := (g.step h1).1; omega)
    rw [if_neg (by omega)]
    rfl
  | j + 1, hj => by
    have ih := wlsK_cm g h1 hm (f := f) j (by omega)
    have s1 := (g.step h1).1
    have hjm : (j : Int) % (n / r.1) = j := Int.emod_eq_of_lt (by omega) (by omega)
    have key : cmAt n (wlsK n r f (j + 1)) m = cmAt n (wlsK n r f j) m + if (m : Int) % (n / r.1) = j then coef f (bP n r j) else 0 := by
      show cmAt n (wlsK n r f j ++ if coef f (bP n r j) = 0 then [] else [(r.1, (j : Int), coef f (bP n r j))]) m = _
      by_cases z : coef f (bP n r j) = 0
      · rw [if_pos z, List.append_nil, z]
        split <;> omega
      · rw [if_neg z, cmAt_snoc]
        rfl
    rw [key, ih]
    by_cases e : (m : Int) % (n / r.1) = j
    · have : bP n r m = bP n r j := bP_same (by rw [e, hjm])
      rw [if_neg (by omega), if_pos e, if_pos (by omega), this]
      omega
    · rw [if_neg e]
      split <;> split <;> omega
theorem cmAt_app (n : Int) (m : Nat) : ∀ a b : List J3, cmAt n (a ++ b) m = cmAt n a m + cmAt n b m
  | [], b => by
    show cmAt n b m = 0 + _
    omega
  | r :: a, b => by
    show wh n r m + cmAt n (a ++ b) m = wh n r m + cmAt n a m + cmAt n b m
    rw [cmAt_app n m a b]
    omega
/-- rest and wheels make the sum -/
theorem gr_makes {n : Int} (h1 : 1 ≤ n) : ∀ (rs : List J3) (f : List Int), (∀ r ∈ rs, Gok n r) → ∀ m : Nat, (m : Int) < n → coef (rs.foldl (fun f r => gStep n r f) f) m + cmAt n (wlF n rs f) m = coef f m
  | [], f, _, m, _ => by
    show coef f m + 0 = coef f m
    omega
  | r :: rs, f, h, m, hm => by
    have g := h r (List.mem_cons_self ..)
    have ih := gr_makes h1 rs (gStep n r f) (fun z hz => h z (List.mem_cons_of_mem _ hz)) m hm
    have s1 := (g.step h1).1
    have hlt := Int.emod_lt_of_pos (m : Int) (show 0 < n / r.1 by omega)
    show coef (rs.foldl (fun f r => gStep n r f) (gStep n r f)) m + cmAt n (wlsK n r f (n / r.1).toNat ++ wlF n rs (gStep n r f)) m = coef f m
    rw [cmAt_app, wlsK_cm g h1 hm _ (by omega), if_pos (by omega)]
    rw [coef_gStep hm] at ih
    omega
/-- the wheels' rows stand in order -/
theorem wlsK_mem {n : Int} {r : J3} {f : List Int} : ∀ {j : Nat} {x : J3}, x ∈ wlsK n r f j → x.1 = r.1 ∧ 0 ≤ x.2.1 ∧ x.2.1 < j ∧ x.2.2 ≠ 0
  | j + 1, x, h => by
    rcases List.mem_append.mp (show x ∈ wlsK n r f j ++ _ from h) with h | h
    · obtain ⟨a, b, c, d⟩ := wlsK_mem h
      exact ⟨a, b, by omega, d⟩
    · split at h
      · exact nomatch h
      · rename_i z
        rw [List.mem_singleton.mp h]
        refine ⟨rfl, ?_, ?_, z⟩
        · show (0 : Int) ≤ j
          omega
        · show (j : Int) < ((j + 1 : Nat) : Int)
          omega
abbrev lt3 (x y : J3) : Prop := x.1 < y.1 ∨ x.1 = y.1 ∧ x.2.1 < y.2.1
theorem wlsK_rise {n : Int} {r : J3} {f : List Int} : ∀ j : Nat, (wlsK n r f j).Pairwise lt3
  | 0 => List.Pairwise.nil
  | j + 1 => by
    refine List.pairwise_append.mpr ⟨wlsK_rise j, ?_, fun x hx y hy => ?_⟩
    · split
      · exact List.Pairwise.nil
      · exact List.pairwise_singleton _ _
    · obtain ⟨a, b, c, _⟩ := wlsK_mem hx
      split at hy
      · exact nomatch hy
      · rw [List.mem_singleton.mp hy]
        exact .inr ⟨a, c⟩
theorem wlF_mem {n : Int} : ∀ {rs : List J3} {f : List Int} {x : J3}, x ∈ wlF n rs f → ∃ r ∈ rs, x.1 = r.1 ∧ 0 ≤ x.2.1 ∧ x.2.1 < ((n / r.1).toNat : Nat) ∧ x.2.2 ≠ 0
  | r :: rs, f, x, h => by
    rcases List.mem_append.mp (show x ∈ wlsK n r f (n / r.1).toNat ++ wlF n rs (gStep n r f) from h) with h | h
    · exact ⟨r, List.mem_cons_self .., wlsK_mem h⟩
    · obtain ⟨z, hz, q⟩ := wlF_mem h
      exact ⟨z, List.mem_cons_of_mem _ hz, q⟩
theorem wlF_rise {n : Int} : ∀ {rs : List J3} {f : List Int}, (rs.map (·.1)).Pairwise (· < ·) → (wlF n rs f).Pairwise lt3
  | [], _, _ => List.Pairwise.nil
  | r :: rs, f, h => by
    rw [List.map_cons, List.pairwise_cons] at h
    refine List.pairwise_append.mpr ⟨wlsK_rise _, wlF_rise h.2, fun x hx y hy => ?_⟩
    obtain ⟨a, _⟩ := wlsK_mem hx
    obtain ⟨z, hz, b, _⟩ := wlF_mem hy
    have := h.1 z.1 (List.mem_map_of_mem hz)
    exact .inl (by omega)
/-- rows that stand in a row -/
structure InRow (n : Int) (rows : List J3) : Prop where
  whl : ∀ r ∈ rows, Whl n r
  prm : ∀ r ∈ rows, ∃ o, (r.1, o) ∈ lpF n
  num : ∀ r ∈ rows, r.2.2 ≠ 0
  rise : rows.Pairwise lt3
theorem gr_row {n : Int} (h1 : 1 ≤ n) (h2 : n ≤ 61) (f : List Int) : InRow n (wlF n (pwF n) f) := by
  have G := gok h1 h2
  refine ⟨fun x hx => ?_, fun x hx => ?_, fun x hx => ?_, wlF_rise G.rise⟩
  · obtain ⟨r, hr, a, b, c, d⟩ := wlF_mem hx
    have g := G.all r hr
    have s1 := (g.step h1).1
    refine ⟨by rw [a]; exact g.two, by rw [a]; exact g.dvd, b, ?_⟩
    rw [a]
    omega
  · obtain ⟨r, hr, a, _⟩ := wlF_mem hx
    rw [G.same] at hr
    obtain ⟨z, hz, rfl⟩ := List.mem_map.mp hr
    exact ⟨z.2, by rw [a]; exact hz⟩
  · obtain ⟨r, hr, a, b, c, d⟩ := wlF_mem hx
    exact d
theorem grF_len {n : Int} {f : List Int} (hf : (f.length : Int) = n) : ((grF n f).length : Int) = n := by
  have key : ∀ (rs : List J3) (f : List Int), (f.length : Int) = n → ((rs.foldl (fun f r => gStep n r f) f).length : Int) = n := by
    intro rs
    induction rs with
    | nil => exact fun f h => h
    | cons r rs ih =>
      intro f h
      exact ih _ (by rw [gStep_len]; omega)
  exact key _ f hf
theorem wlsK_len {n : Int} {r : J3} {f : List Int} : ∀ j : Nat, (wlsK n r f j).length ≤ j
  | 0 => Nat.le_refl _
  | j + 1 => by
    have := wlsK_len (n := n) (r := r) (f := f) j
    show (wlsK n r f j ++ _).length ≤ j + 1
    rw [List.length_append]
    split
    · show _ + 0 ≤ _
      omega
    · show _ + 1 ≤ _
      omega
end Kp

/-! Slices with a step, of lists; truths told from one another by is; zip over lists or tuples in a comprehension. -/
namespace Kp
open PySem PySem.Spec PyProof.Rows L2 Evl
/-- the items of xs[::k] -/
def pickV {α : Type} (xs : List α) (k : Int) : List α := (sliceRange (sliceBounds none none (some k) xs.length).1 (sliceBounds none none (some k) xs.length).2.1 (sliceBounds none none (some k) xs.length).2.2).filterMap (xs[·]?)
theorem pickV_map {α β : Type} (f : α → β) (xs : List α) (k : Int) : pickV (xs.map f) k = (pickV xs k).map f := by
  unfold pickV
  rw [List.length_map, List.map_filterMap]
  congr 1
  funext i
  rw [List.getElem?_map]
theorem vals_at : ∀ {xs : List V} {us : List Value}, Vals xs us → ∀ i : Nat, (xs[i]? = none ∧ us[i]? = none) ∨ ∃ x u, xs[i]? = some x ∧ us[i]? = some u ∧ RelV x u
  | _, _, .nil, i => .inl ⟨rfl, rfl⟩
  | _, _, .cons r rr, 0 => .inr ⟨_, _, rfl, rfl, r⟩
  | _, _, .cons r rr, i + 1 => vals_at rr i
theorem vals_pick {xs : List V} {us : List Value} (r : Vals xs us) : ∀ l : List Nat, Vals (l.filterMap (xs[·]?)) (l.filterMap (us[·]?))
  | [] => .nil
  | i :: l => by
    rcases vals_at r i with ⟨h1, h2⟩ | ⟨x, u, h1, h2, h3⟩
    · rw [List.filterMap_cons_none h1, List.filterMap_cons_none h2]
      exact vals_pick r l
    · rw [List.filterMap_cons_some h1, List.filterMap_cons_some h2]
      exact .cons h3 (vals_pick r l)
def tSlS (K : PySem.W.Frag) (te ts : TE) : TE := fun σ H Q => te σ H fun x H1 => ts σ H1 fun o H2 => ∃ (a : Addr) (xs : List V) (k : Int), x = .ref a ∧ o = .int k ∧ SqL K H2 a xs ∧ k ≠ 0 ∧ ∀ p, H2 p = none → Q (.ref p) (upd H2 p (.lst (pickV xs k)))
theorem pe_sliceS {X : Cx} {e es : Expr} {te ts : TE} {p2 pos : Pos} (he : PE X e te) (hs : PE X es ts) : PE X (.Subscript e (.Slice none none (some es) p2) pos) (tSlS X.K te ts) := by
  refine ⟨fun pins s σ H Q I h => ?_⟩
  refine Subscript_ (thn (he.run pins s σ H _ I h) fun v s1 ⟨x, H1, I1, r1, q1⟩ => ?_)
  refine wpAny_Slice ?_
  rw [evalPart_none]
  refine wpAny_pure ?_
  refine wpAny_pure ?_
  rw [evalPart_some]
  refine thn (hs.run pins s1 σ H1 _ I1 q1) fun u s2 ⟨o, H2, I2, r2, q2⟩ => ?_
  obtain ⟨a, xs, k, rfl, rfl, hx, k0, q⟩ := q2
  obtain ⟨t, rfl⟩ := r2
  have I4 : Inv X pins σ H2 { s2 with heap := s2.heap.push { cls := .type "slice", data := .fields #[.none, .none, .int k t] } } := I2.kept (t' := s2.toks) fun b ob q => Heap.get?_push_of_some _ q
  cases r1
  obtain ⟨its, r, ht, hz⟩ := I4.list hx
  have hlen := r.length
  show wpAny (model X.prog X.w) X.A (subscriptTail e (.Slice none none (some es) p2) (.ref a) (.ref s2.heap.objs.size)) (EP X pins σ Q) X.xe { s2 with heap := s2.heap.push { cls := .type "slice", data := .fields #[.none, .none, .int k t] } }
  refine tail_any (ops := [.ref a, .ref s2.heap.objs.size]) ht.isList.typeIs slot_list_getitem.lookup ?_ (by with_unfolding_all rfl)
  refine wpAny_getItem_list_slice ht.isList (Heap.IsSliceOf.new ..) .none .none (.int k t) (by simpa using k0) ?_ (by rw [List.size_toArray] <;> omega)
  have I5 := I4
  generalize hS : ({ s2 with heap := s2.heap.push { cls := .type "slice", data := .fields #[.none, .none, .int k t] } } : Shared) = s4 at *
  refine ⟨.ref s4.heap.objs.size, _, I5.laid (t' := s4.toks) (o := .lst (pickV xs k)) (fun b ob q => Heap.get?_push_of_some _ q) (Nat.le_refl _) ?_, rfl, q _ (I5.hok.fresh (Nat.le_refl _))⟩
  have hp : slicePick its.toArray none none (some k) = (pickV its k).toArray := by
    unfold slicePick pickV
    rw [List.size_toArray]
    exact congrArg List.toArray (congrArg (fun f : Nat → Option Value => List.filterMap f _) (funext fun i => by simp))
  have hv : Vals (pickV xs k) (pickV its k) := by
    unfold pickV
    rw [hlen]
    exact vals_pick r _
  have hl : (pickV xs k).length ≤ xs.length := by
    have := slicePick_size_le its.toArray none none (some k)
    rw [hp, List.size_toArray, List.size_toArray] at this
    have := hv.length
    omega
  rw [hp]
  exact ⟨Nat.le_trans hl hz, _, 0, hv, Heap.get?_push_size _ rfl⟩
section
variable {K : PySem.W.Frag} {σ : L2.St} {H : Hp} {te ts : TE}
theorem el_slS {a : Addr} {xs : List V} {k : Int} (h : Ev te σ H (.ref a)) (hs : Ev ts σ H (.int k)) (hx : SqL K H a xs) (k0 : k ≠ 0) : EvL (tSlS K te ts) σ H (pickV xs k) := fun H1 e Q q =>
  h H1 e _ fun H2 e2 => hs H2 (e.trans e2) _ fun H3 e3 => ⟨a, xs, k, rfl, rfl, ex_l ((e.trans e2).trans e3) hx, k0, fun p np => q p _ (fresh_back (e2.trans e3) np) ((e2.trans e3).trans (Ex.new np)) upd_same⟩
end
end Kp

/-! Things of any kind, told from one another part by part. -/
namespace Kp
open PySem PySem.Spec PyProof.Rows L2 Evl RZ
/- a thing made of lists, tuples and flat values that all stand as they were made -/
mutual
inductive Dq (H : Hp) : V → PyData → Prop
  | non : Dq H .non .none
  | bl (b : Bool) : Dq H (.bl b) (.bool b)
  | int (i : Int) : Dq H (.int i) (.int i)
  | str (x : Str) : Dq H (.str x) (.str x)
  | lst {a : Addr} {xs : List V} {ds : List PyData} : H a = some (.lst xs) → DqAll H xs ds → Dq H (.ref a) (.list ds)
  | tup {a : Addr} {xs : List V} {ds : List PyData} : H a = some (.tup xs) → DqAll H xs ds → Dq H (.ref a) (.tuple ds)
inductive DqAll (H : Hp) : List V → List PyData → Prop
  | nil : DqAll H [] []
  | cons {v : V} {vs : List V} {d : PyData} {ds : List PyData} : Dq H v d → DqAll H vs ds → DqAll H (v :: vs) (d :: ds)
end
mutual
theorem Dq.mono {H H' : Hp} (e : Ex H H') : ∀ {v : V} {d : PyData}, Dq H v d → Dq H' v d
  | _, _, .non => .non
  | _, _, .bl b => .bl b
  | _, _, .int i => .int i
  | _, _, .str x => .str x
  | _, _, .lst h hs => .lst (e _ _ h) (DqAll.mono e hs)
  | _, _, .tup h hs => .tup (e _ _ h) (DqAll.mono e hs)
theorem DqAll.mono {H H' : Hp} (e : Ex H H') : ∀ {vs : List V} {ds : List PyData}, DqAll H vs ds → DqAll H' vs ds
  | _, _, .nil => .nil
  | _, _, .cons h hs => .cons (h.mono e) (hs.mono e)
end
theorem DqAll.len {H : Hp} : ∀ {vs : List V} {ds : List PyData}, DqAll H vs ds → vs.length = ds.length
  | _, _, .nil => rfl
  | _, _, .cons _ hs => congrArg Nat.succ hs.len
theorem DqAll.at {H : Hp} : ∀ {vs : List V} {ds : List PyData} {i : Nat} {v : V}, DqAll H vs ds → vs[i]? = some v → ∃ d, ds[i]? = some d ∧ Dq H v d
  | _, _, 0, _, .cons h _, e => ⟨_, rfl, by cases e; exact h⟩
  | _, _, i + 1, _, .cons _ hs, e => hs.at (i := i) e
theorem dqa_ints (H : Hp) : ∀ ns : List Int, DqAll H (ns.map V.int) (ns.map PyData.int)
  | [] => .nil
  | n :: ns => .cons (.int n) (dqa_ints H ns)
theorem dq_ints {H : Hp} {a : Addr} {ns : List Int} (h : H a = some (.lst (ns.map V.int))) : Dq H (.ref a) (dI ns) := .lst h (dqa_ints H ns)
/- alike, by their data -/
mutual
def alkF : PyData → PyData → Bool
  | .list xs, .list ys => alkA xs ys
  | .tuple xs, .tuple ys => alkA xs ys
  | .int i, .int j => decide (i = j)
  | _, _ => false
def alkA : List PyData → List PyData → Bool
  | [], [] => true
  | x :: xs, y :: ys => alkF x y && alkA xs ys
  | _, _ => false
end
/- what is told: lists, tuples and whole numbers, so deep -/
mutual
def toldD : Nat → PyData → Bool
  | _, .int _ => true
  | k + 1, .list ds => toldA k ds && decide (ds.length ≤ 40000)
  | k + 1, .tuple ds => toldA k ds && decide (ds.length ≤ 40000)
  | _, _ => false
def toldA : Nat → List PyData → Bool
  | _, [] => true
  | k, d :: ds => toldD k d && toldA k ds
end
mutual
theorem alk_refl : ∀ (k : Nat) (d : PyData), toldD k d = true → alkF d d = true
  | _, .int i, _ => decide_eq_true rfl
  | k + 1, .list ds, h => by
    unfold toldD at h
    rw [Bool.and_eq_true] at h
    unfold alkF
    exact alka_refl k ds h.1
  | k + 1, .tuple ds, h => by
    unfold toldD at h
    rw [Bool.and_eq_true] at h
    unfold alkF
    exact alka_refl k ds h.1
  | 0, .list ds, h => by unfold toldD at h; exact nomatch h
  | 0, .tuple ds, h => by unfold toldD at h; exact nomatch h
  | k, .none, h => by unfold toldD at h; exact nomatch h
  | k, .bool b, h => by unfold toldD at h; exact nomatch h
  | k, .str s, h => by unfold toldD at h; exact nomatch h
theorem alka_refl : ∀ (k : Nat) (ds : List PyData), toldA k ds = true → alkA ds ds = true
  | _, [], _ => rfl
  | k, d :: ds, h => by
    unfold toldA at h
    rw [Bool.and_eq_true] at h
    unfold alkA
    rw [Bool.and_eq_true]
    exact ⟨alk_refl k d h.1, alka_refl k ds h.2⟩
end
theorem walk_zipT {K : PySem.W.Frag} {a b : Addr} {xs ys : List V} {n : Nat} (hn : n = min xs.length ys.length) : Walk (ItzT K a b) n (fun H => SqT K H a xs ∧ SqT K H b ys) (YPair (fun i => xs[i]?) (fun i => ys[i]?)) := by
  subst hn
  refine ⟨fun i _ hi q => ?_, fun _ q => ⟨xs, ys, q.1, q.2, by omega⟩, fun i H v H' _ q y => ?_⟩
  · have h1 : i < xs.length := by omega
    have h2 : i < ys.length := by omega
    exact ⟨xs, ys, xs[i], ys[i], q.1, q.2, by simp [h1], by simp [h2]⟩
  · obtain ⟨T, x, z, h1, h2, h3, h4, h5⟩ := y
    exact ⟨T, x, z, h1, h2, h3, h4 xs q.1, h5 ys q.2⟩
section
variable {K : PySem.W.Frag} {σ : L2.St} {H : Hp} {te : TE} {vs : List Nat}
/-- [e for x, y in zip(a, b)], two lists or two tuples -/
theorem el_lcZA {tg : TA} {a b : Addr} {xs ys : List V} {i j : Nat} (w : Nat → V) (h : EvA tg σ H [.ref a, .ref b]) (hab : (H a = some (.lst xs) ∧ H b = some (.lst ys)) ∨ (H a = some (.tup xs) ∧ H b = some (.tup ys))) (hl : xs.length = ys.length) (hz : xs.length ≤ 40000)
    (hw : ∀ x y, wipe (((wipe σ vs).set i (some x)).set j (some y)) vs = wipe σ vs)
    (he : ∀ n x y H1, Ex H H1 → xs[n]? = some x → ys[n]? = some y → Ev te (((wipe σ vs).set i (some x)).set j (some y)) H1 (w n)) :
    EvL (tLc (iZipA K tg) (gTup K 2 (gCons (gName i) (gCons (gName j) gNil))) tYes te vs) σ H ((List.range xs.length).map w) := fun H0 e Q q => h H0 e _ fun H1 e1 => by
  have go : ∀ {I : It} {S : Hp → Prop}, Walk I xs.length S (YPair (fun i => xs[i]?) (fun i => ys[i]?)) → (∀ H', Ex H1 H' → S H') → ∀ Dl, H1 Dl = none → ∃ W : Nat → Nat → Hp → Prop, (∃ m, W 0 m (upd H1 Dl (.lst []))) ∧ ∀ n m H', W n m H' →
      (I.stop n H' ∧ Q (.ref Dl) H') ∨ (I.go n H' ∧ ∃ N : Hp → Prop, (∀ H'', N H'' → ∃ m', m' < m ∧ W (n + 1) m' H'') ∧ ∀ v H'', I.yld n H' v H'' → (gTup K 2 (gCons (gName i) (gCons (gName j) gNil))) v (wipe σ vs) H'' fun σ' H3 => wipe σ' vs = wipe σ vs ∧ tYes σ' H3 fun b H4 => if b = true then te σ' H4 fun v' H5 => ∃ acc, H5 Dl = some (.lst acc) ∧ acc.length < sizeLine ∧ N (upd H5 Dl (.lst (acc ++ [v']))) else N H4) := fun {I S} wk hS Dl hD =>
    lc_it (n := xs.length) wk (fun n H' => H1 Dl = none ∧ Ex H1 H' ∧ H' Dl = some (.lst ((List.range n).map w))) ⟨hD, Ex.new hD, upd_same⟩ (fun n H' _ p => hS H' p.2.1) (fun n v H' H'' hn p y => by
      obtain ⟨p1, p2, p3⟩ := p
      obtain ⟨T, x, y, rfl, hT, rfl, hx, hy⟩ := y
      have e2 : Ex H' (upd H' T (.tup [x, y])) := Ex.new hT
      refine ⟨T, _, rfl, .inl (.inl upd_same), rfl, x, [y], rfl, y, [], rfl, rfl, hw _ _, ?_⟩
      refine et_yes (H := H') _ e2 _ fun H3 e3 => ?_
      show te _ H3 _
      refine he n x y H1 (e.trans e1) hx hy H3 (p2.trans (e2.trans e3)) _ fun H4 e4 => ⟨_, e4 Dl _ (e3 Dl _ (e2 Dl _ p3)), ?_, p1, Ex.mut (((p2.trans e2).trans e3).trans e4) p1, ?_⟩
      · refine sz_lt ?_
        rw [List.length_map, List.length_range]
        omega
      · rw [upd_same, List.range_succ, List.map_append]
        rfl) (fun H' p => q Dl H' (fresh_back e1 p.1) (e1.trans p.2.1) p.2.2)
  rcases hab with ⟨ha, hb⟩ | ⟨ha, hb⟩
  · exact ⟨a, b, xs, ys, rfl, .inl ⟨SqL.of ((e.trans e1) _ _ ha), SqL.of ((e.trans e1) _ _ hb), fun Dl hD => go (walk_zip (K := K) (a := a) (b := b) (xs := xs) (ys := ys) (by omega)) (fun H' e' => ⟨SqL.of (((e.trans e1).trans e') _ _ ha), SqL.of (((e.trans e1).trans e') _ _ hb)⟩) Dl hD⟩⟩
  · exact ⟨a, b, xs, ys, rfl, .inr ⟨SqT.of ((e.trans e1) _ _ ha), SqT.of ((e.trans e1) _ _ hb), fun Dl hD => go (walk_zipT (K := K) (a := a) (b := b) (xs := xs) (ys := ys) (by omega)) (fun H' e' => ⟨SqT.of (((e.trans e1).trans e') _ _ ha), SqT.of (((e.trans e1).trans e') _ _ hb)⟩) Dl hD⟩⟩
/-- len, of a list or a tuple -/
theorem ev_lenA {te : TE} {a : Addr} {xs : List V} (ha : Ev te σ H (.ref a)) (h : H a = some (.lst xs) ∨ H a = some (.tup xs)) : Ev (tCB (rLenS K) (tCons te tNil)) σ H (.int (xs.length : Int)) := fun H1 e Q q =>
  ha H1 e _ fun H2 e2 => ⟨a, xs, rfl, by
    rcases h with h | h
    · exact Or.inl (SqL.of ((e.trans e2) _ _ h))
    · exact Or.inr (SqT.of ((e.trans e2) _ _ h)), q H2 e2⟩
/-- the kind of a thing -/
def kindS : PyData → String
  | .none => "NoneType"
  | .bool _ => "bool"
  | .int _ => "int"
  | .str _ => "str"
  | .list _ => "list"
  | .tuple _ => "tuple"
  | .dict _ => "dict"
theorem dq_ty {x : V} {d : PyData} (h : Dq H x d) : ∀ H1, Ex H H1 → TyX K H1 x (.type (kindS d)) := fun H1 e => by
  cases h with
  | non => exact .base .non
  | bl b => exact .base (.bl b)
  | int i => exact .base (.int i)
  | str y => exact .base (.str y)
  | lst h _ => exact .base (.lst (e _ _ h))
  | tup h _ => exact .base (.tup (e _ _ h))
def isK (n : String) (d : PyData) : Bool := (kitB (kindS d) n).getD false
theorem kit_some (d : PyData) (n : String) (hn : n = "list" ∨ n = "tuple" ∨ n = "int" ∨ n = "bool") : kitB (kindS d) n = some (isK n d) := by
  rcases hn with rfl | rfl | rfl | rfl <;> cases d <;> (simp only [isK, kindS]; decide +kernel)
theorem ev_isD {ta : TE} {x : V} {d : PyData} {n : String} (ha : Ev ta σ H x) (h : Dq H x d) (hn : n = "list" ∨ n = "tuple" ∨ n = "int" ∨ n = "bool") : Ev (tCB (rIsi K) (tCons ta (tCons (tC (.ty n)) tNil))) σ H (.bl (isK n d)) :=
  ev_isi (b := isK n d) ha (dq_ty h) (kit_some d n hn)
end
end Kp

namespace Kp
open PySem PySem.Spec PyProof.Rows L2 Evl
/-! ### lists of new lists of numbers, without doubles -/
def RetNL (xss : List (List V)) (H : Hp) (Q : VK) : Prop := ∀ L ps H1, H L = none → Ex H H1 → H1 L = some (.lst (ps.map V.ref)) → NewL H H1 ps xss → L ∉ ps → Q (.ref L) H1
def insR (rs : List (List Int)) (x : List Int) : List (List Int) := if x ∈ rs then rs else rs ++ [x]
def ddp (l : List (List Int)) : List (List Int) := l.foldl insR []
theorem ddp_snoc (l : List (List Int)) (x : List Int) : ddp (l ++ [x]) = insR (ddp l) x := by
  unfold ddp
  rw [List.foldl_append]
  rfl
theorem ddp_len : ∀ l : List (List Int), (ddp l.reverse).length ≤ l.length
  | [] => Nat.le_refl 0
  | x :: l => by
    rw [List.reverse_cons, ddp_snoc]
    have := ddp_len l
    unfold insR
    split
    · exact Nat.le_succ_of_le this
    · rw [List.length_append]
      exact Nat.succ_le_succ this
theorem ddp_le (l : List (List Int)) : (ddp l).length ≤ l.length := by
  have := ddp_len l.reverse
  rw [List.reverse_reverse, List.length_reverse] at this
  exact this
theorem any_dI (rs : List (List Int)) (x : List Int) : (rs.map dI).any (fun z => PyData.eqv z (dI x)) = decide (x ∈ rs) := by
  induction rs with
  | nil => rfl
  | cons r rs ih =>
    rw [List.map_cons, List.any_cons, ih, dI_eqv]
    refine Bool.eq_iff_iff.mpr ?_
    rw [Bool.or_eq_true, decide_eq_true_iff, decide_eq_true_iff, decide_eq_true_iff, List.mem_cons]
    exact or_congr ⟨Eq.symm, Eq.symm⟩ Iff.rfl
section
variable {K : PySem.W.Frag} {H H' : Hp}
theorem rv_notLL {p L : Addr} {x : List Int} {ps : List Addr} {rs : List (List Int)} (h : SqL K H p (x.map V.int)) (hL : SqL K H L (ps.map V.ref)) (R : Paired (fun p ns => SqL K H p (ns.map V.int)) ps rs) : RV (rNotInD K) (.ref p) (.ref L) H (.bl (!decide (x ∈ rs))) := fun H1 e Q q =>
  ⟨dI x, rs.map dI, dp_ints (ex_l e h), dp_lists (ex_l e hL) (Paired.mapP R fun _ _ z => ex_l e z), dI_sh x, dLL_sh rs, by rw [any_dI]; exact q H1 (Ex.refl H1)⟩
theorem paired_upd {q : Addr} {o : HO} : ∀ {ps : List Addr} {xss : List (List V)}, Paired (fun p xs => H p = none ∧ H' p = some (.lst xs)) ps xss → q ∉ ps → Paired (fun p xs => H p = none ∧ upd H' q o p = some (.lst xs)) ps xss
  | _, _, .nil, _ => .nil
  | _, _, .cons a r, h => .cons ⟨a.1, by rw [upd_ne (fun e => h (by rw [← e]; exact List.mem_cons_self))]; exact a.2⟩ (paired_upd r fun m => h (List.mem_cons_of_mem _ m))
theorem NewL.upd {q : Addr} {o : HO} {ps : List Addr} {xss : List (List V)} (N : NewL H H' ps xss) (h : q ∉ ps) : NewL H (upd H' q o) ps xss := ⟨paired_upd N.1 h, N.2⟩
theorem NewL.one {p : Addr} {xs : List V} (n : H p = none) (h : H' p = some (.lst xs)) : NewL H H' [p] [xs] := ⟨.cons ⟨n, h⟩ .nil, List.nodup_cons.mpr ⟨List.not_mem_nil, List.nodup_nil⟩⟩
end
/-- walked either way: what is read tells which -/
theorem pi_or {X : Cx} {tg it : Expr} {w1 w2 : TI} (h1 : PI X tg it w1) (h2 : PI X tg it w2) : PI X tg it (fun σ H R => w1 σ H R ∨ w2 σ H R) := ⟨fun pins s σ H R I h => h.elim (h1.run pins s σ H R I) (h2.run pins s σ H R I)⟩
theorem pe_or2 {X : Cx} {e : Expr} {t1 t2 : TE} (h1 : PE X e t1) (h2 : PE X e t2) : PE X e (fun σ H Q => t1 σ H Q ∨ t2 σ H Q) := ⟨fun pins s σ H Q I h => h.elim (h1.run pins s σ H Q I) (h2.run pins s σ H Q I)⟩
section
variable {σ : L2.St} {H : Hp} {w1 w2 : TI} {g : TG} {t : TT} {te : TE} {vs : List Nat} {xs : List V}
theorem el_or1 (h : EvL (tLc w1 g t te vs) σ H xs) : EvL (tLc (fun σ H R => w1 σ H R ∨ w2 σ H R) g t te vs) σ H xs := fun H1 e Q q => .inl (h H1 e Q q)
theorem el_or2 (h : EvL (tLc w2 g t te vs) σ H xs) : EvL (tLc (fun σ H R => w1 σ H R ∨ w2 σ H R) g t te vs) σ H xs := fun H1 e Q q => .inr (h H1 e Q q)
end
theorem room65 {k : Nat} {A : Around} (r : Room k A) : A.units + 65 < cLine := by
  have := r.un
  omega
end Kp

/-! str() of things of any kind: calls where it is known that nothing is being shown. -/
namespace Kp
open PySem PySem.Spec PyProof.Rows L2 Evl RZ

/-! ### defs that are called where nothing is being shown -/
structure FnG (P : Program) (w : World) (K : PySem.W.Frag) (mg : Str → Option Value) (base : Heap) (k : Nat) (f : Addr) (fd : FuncData) (ps : List Str) (sp : Sp) : Prop where
  wid : ∀ xs h q e, sp xs h q e → xs.length = ps.length
  go : ∀ (B : Around) (fr : List Env) (st : Shared) (h : Hp) (as : Args) (zs : List Value) (xs : List V) (q : VK) (e : XK), B.guards = some [] → Room k B → Env0 P w K mg base B fr st h → BindsTo st fd as (ps.zip zs) → Vals xs zs → sp xs h q e → codeAny (model P w) B (.call (.ref f) as) (CR CX0 fr P w h st q e) st
section
variable {P : Program} {w : World} {K : PySem.W.Frag} {mg : Str → Option Value} {base : Heap} {k : Nat} {x : Str} {N ps : List Str} {sp : Sp} {st : Stmt}
theorem Fun.okG {qual : Str} {f : Addr} {fd : FuncData} (F : Fun K x qual st f fd) (S : FnScope N ps (defScope st)) (wid : ∀ xs h q e, sp xs h q e → xs.length = ps.length)
    (body : ∀ (cdv : Value) (B : Around) (fr : List Env) (s : Shared) (h : Hp) (xs : List V) (q : VK) (e : XK), Room k (B.deeper (envOfC qual (defScope st) s.heap.objs.size f cdv)) → B.guards = some [] → sp xs h q e →
      ∃ t, PSs (cxOf CX0 P w K mg base N qual (defScope st) f cdv B fr s h e).nox (defBody st) t ∧ t { nx := fun _ h' => q .non h', rt := q } (start N xs) h) : FnG P w K mg base (k + 1) f fd ps sp := by
  obtain ⟨oc, od, kV, doc, pm, an, cdv, ct, osl, rfl, lk, hcd⟩ := F.ex
  refine ⟨wid, fun B fr s h as zs xs q e g room e0 hb rel hsp => ?_⟩
  have wl : xs.length = ps.length := wid _ _ _ _ hsp
  have old : ∀ b o, base.get? b = some o → s.heap.get? b = some o := fun b o z => (e0.bs b o z).1
  have KS : K.In s.heap := e0.mod.kin.keeps old
  have kinds : ∀ y ∈ ps.zip zs, (defScope st).names.lookup y.1 = some .local ∨ ((defScope st).names.lookup y.1 = some .cell ∧ ((cellsFrom (s.heap.objs.size + 1) (defScope st).names []).lookup y.1).isSome = true) := by
    rintro ⟨y, v⟩ hy
    exact (S.par y (List.of_mem_zip hy).1).imp id fun z => ⟨z, PySem.W.cellsFrom_some _ _ _ (.inl z)⟩
  obtain ⟨t, ht, hq⟩ := body cdv B fr s h xs q e (room.deeper _) g hsp
  refine codeAny_call_function room.depth (KS _ _ lk) rfl S.co S.gen rfl (PySem.W.codeRec_of KS hcd) (hb _ _ _ _ (wpAny_newFunctionEnv_cells S.kind kinds ?_))
  intro env he s1 inc
  subst he
  refine ⟨(e0.mod.nolimit.keeps old).keeps inc.toInCall.keep, codeAny_func (wpAny_mono (ht.nox.run [] s1 (start N xs) h _ (inv_start S room.hd e0 wl rel inc) hq) (fun fl s' z => ?_) fun _ _ z => z)⟩
  have ends : ∀ {σ' : L2.St} {h' : Hp} {v : V} {u : Value}, Inv (cxOf CX0 P w K mg base N qual (defScope st) f cdv B fr s h e) [] σ' h' s' → RelV v u → q v h' → CE fr P w h s q u s' := by
    intro σ' h' v u J rv z
    exact ⟨v, h', J.os, J.bare, J.base, J.hok, rv, z⟩
  match fl, z with
  | .ret u, z =>
    obtain ⟨v, σ', h', J, rv, z⟩ := z
    exact ends J rv z
  | .next, z =>
    obtain ⟨σ', h', J, z⟩ := z
    exact ends (v := V.non) (u := Value.none) J rfl z
  | .brk, z =>
    obtain ⟨_, _, _, z⟩ := z
    exact z.elim
  | .cont, z =>
    obtain ⟨_, _, _, z⟩ := z
    exact z.elim
/-- by the name x the module holds a def that keeps the promise where nothing is being shown -/
def CalG (P : Program) (w : World) (K : PySem.W.Frag) (mg : Str → Option Value) (base : Heap) (x : Str) (k : Nat) (ps : List Str) (sp : Sp) : Prop :=
  ∃ (f : Addr) (fd : FuncData), FnG P w K mg base k f fd ps sp ∧ mg x = some (.ref f) ∧ PySem.W.keepIn K (.ref f) = true ∧ Binds K fd ps []
theorem Dfn.calG (d : Dfn K mg x ps st) (S : FnScope N ps (defScope st)) (wid : ∀ xs h q e, sp xs h q e → xs.length = ps.length)
    (body : ∀ (f : Addr) (cdv : Value) (B : Around) (fr : List Env) (s : Shared) (h : Hp) (xs : List V) (q : VK) (e : XK), Room k (B.deeper (envOfC x (defScope st) s.heap.objs.size f cdv)) → B.guards = some [] → sp xs h q e →
      ∃ t, PSs (cxOf CX0 P w K mg base N x (defScope st) f cdv B fr s h e).nox (defBody st) t ∧ t { nx := fun _ h' => q .non h', rt := q } (start N xs) h) : CalG P w K mg base x (k + 1) ps sp := by
  obtain ⟨f, fd, F, g, b⟩ := d
  exact ⟨f, fd, Fun.okG F S wid (body f), g, F.kp, b⟩
end
section
variable {X : Cx} {k : Nat} {ps : List Str} {sp : Sp} {E : XK} {x : Str} {p pos : Pos} {e : Expr} {es : List Expr} {t : TA}
theorem pe_calG (c : CalG X.prog X.w X.K X.mg X.base x k ps sp) (hr : Room k X.A) (g : X.A.guards = some []) (hg : Gl X x) (hx : Passes CX0 X E)
    (ha : PA X (e :: es) t) (hdb : (x == ("__debug__" : Str)) = false := by decide) (he : starEach (e :: es) X.env = (false, eval e X.env) :: starEach es X.env := by rfl) (hpl : (backTo pos (starEach es X.env)).any (·.1) = false := by rfl) :
    PE X (.Call (.Name x p) (e :: es) [] pos) (tCall sp [] E t) := by
  obtain ⟨f, fd, F, hm, kp, b⟩ := c
  refine ⟨fun pins s σ H Q I h => wpAny_Call_Name_kw (ld_glob I hg hm ?_ hdb)⟩
  refine PySem.W.callWith_K (h₀ := X.base) I.ok.mod.kin kp (thn (ha.run pos pins s σ H _ I h) fun us s1 hv => ?_) he hpl
  obtain ⟨vs, H1, J, r, q⟩ := hv
  have q : sp (vs ++ []) H1 Q E := q
  rw [List.append_nil] at q
  have hl : us.length = ps.length := r.length.symm.trans (F.wid _ _ _ _ q)
  have hb := b s1 us J.kIn (by rw [List.append_nil]; exact hl)
  rw [List.append_nil] at hb
  refine ⟨J.kIn, wpAny_call (codeAny_mono (F.go X.A X.stack s1 H1 ⟨us, []⟩ us vs Q E g hr J.env0 hb r q) fun rs s2 z => ?_)⟩
  match rs, z with
  | .error er, z => exact hx pins σ H1 s1 er s2 J z
  | .ok (.ret u), z => exact J.after z
  | .ok .next, z => exact z.elim
  | .ok .brk, z => exact z.elim
  | .ok .cont, z => exact z.elim
end

/-! ### str of a thing -/
section
variable {X : Cx} {pins : List (Addr × Obj)} {σ : L2.St} {H : Hp} {s : Shared}
mutual
theorem dq_reads (I : Inv X pins σ H s) : ∀ {v : V} {d : PyData} {u : Value}, Dq H v d → RelV v u → ∃ as, Reads s.heap u d as
  | _, _, _, .non, r => by
    cases r
    exact ⟨_, .none⟩
  | _, _, _, .bl b, r => by
    cases r
    exact ⟨_, .bool b⟩
  | _, _, _, .int i, r => by
    obtain ⟨t, rfl⟩ := r
    exact ⟨_, .int i t⟩
  | _, _, _, .str y, r => by
    obtain ⟨t, rfl⟩ := r
    exact ⟨_, .str y t⟩
  | _, _, _, .lst h hs, r => by
    cases r
    obtain ⟨its, rv, ⟨o, n, g, hc, _, hd⟩, _⟩ := I.list (SqL.of h)
    obtain ⟨as, R⟩ := dqa_reads I hs rv
    exact ⟨_, .list g hc hd (by rw [List.toList_toArray]; exact R)⟩
  | _, _, _, .tup h hs, r => by
    cases r
    obtain ⟨its, rv, ⟨o, g, hc, n, hd⟩, _⟩ := I.tuple (SqT.of h)
    obtain ⟨as, R⟩ := dqa_reads I hs rv
    exact ⟨_, .tuple g hc hd (by rw [List.toList_toArray]; exact R)⟩
theorem dqa_reads (I : Inv X pins σ H s) : ∀ {vs : List V} {ds : List PyData} {us : List Value}, DqAll H vs ds → Vals vs us → ∃ as, ReadsAll s.heap us ds as
  | _, _, _, .nil, r => by
    cases r
    exact ⟨_, .nil⟩
  | _, _, _, .cons h hs, r => by
    cases r with
    | cons r1 r2 =>
      obtain ⟨as, R⟩ := dq_reads I h r1
      obtain ⟨bs, R2⟩ := dqa_reads I hs r2
      exact ⟨_, .cons R R2⟩
end
end
mutual
/-- a thing without dicts -/
def noD : PyData → Bool
  | .list ds => noDA ds
  | .tuple ds => noDA ds
  | .dict _ => false
  | _ => true
def noDA : List PyData → Bool
  | [] => true
  | d :: ds => noD d && noDA ds
end
mutual
theorem dq_noD {H : Hp} : ∀ {v : V} {d : PyData}, Dq H v d → d.hasDict = false
  | _, _, .non => by simp only [PyData.hasDict]
  | _, _, .bl b => by simp only [PyData.hasDict]
  | _, _, .int i => by simp only [PyData.hasDict]
  | _, _, .str y => by simp only [PyData.hasDict]
  | _, _, .lst h hs => by
    simp only [PyData.hasDict]
    exact dqa_noD hs
  | _, _, .tup h hs => by
    simp only [PyData.hasDict]
    exact dqa_noD hs
theorem dqa_noD {H : Hp} : ∀ {vs : List V} {ds : List PyData}, DqAll H vs ds → PyData.hasDictAll ds = false
  | _, _, .nil => by simp only [PyData.hasDictAll]
  | _, _, .cons h hs => by
    simp only [PyData.hasDictAll]
    rw [dq_noD h, dqa_noD hs]
    rfl
end
mutual
/-- a bound of how long its text is -/
def shB : PyData → Nat
  | .none => 4
  | .bool _ => 5
  | .int _ => 1921
  | .str x => 10 * x.length + 2
  | .list ds => shBA ds + 3
  | .tuple ds => shBA ds + 3
  | .dict _ => 0
def shBA : List PyData → Nat
  | [] => 0
  | d :: ds => shB d + 2 + shBA ds
end
mutual
/-- a thing that may be shown: numbers of at most some hundred figures, plain signs -/
def shO : PyData → Bool
  | .int i => decide (i.natAbs.log2 < 1920)
  | .str x => x.cps.toList.all fun c => decide (c < 16 ^ 8)
  | .list ds => shOA ds
  | .tuple ds => shOA ds
  | .dict _ => false
  | _ => true
def shOA : List PyData → Bool
  | [] => true
  | d :: ds => shO d && shOA ds
end
mutual
theorem shO_able : ∀ d : PyData, shO d = true → d.showable = true
  | .none, _ => by simp only [PyData.showable]
  | .bool _, _ => by simp only [PyData.showable]
  | .int i, h => by
    simp only [PyData.showable]
    simpa only [shO] using h
  | .str _, _ => by simp only [PyData.showable]
  | .list ds, h => by
    simp only [PyData.showable]
    exact shOA_able ds (by simpa only [shO] using h)
  | .tuple ds, h => by
    simp only [PyData.showable]
    exact shOA_able ds (by simpa only [shO] using h)
  | .dict _, h => by simp only [shO] at h; exact nomatch h
theorem shOA_able : ∀ ds : List PyData, shOA ds = true → PyData.showableAll ds = true
  | [], _ => by simp only [PyData.showableAll]
  | d :: ds, h => by
    simp only [shOA, Bool.and_eq_true] at h
    simp only [PyData.showableAll]
    rw [shO_able d h.1, shOA_able ds h.2]
    rfl
end
theorem sum_two : ∀ ts : List Str, (ts.map fun t => t.length).sum + 2 * ts.length = (ts.map fun t => t.length + 2).sum
  | [] => rfl
  | t :: ts => by
    have := sum_two ts
    simp only [List.map_cons, List.sum_cons, List.length_cons]
    omega
mutual
theorem shB_len : ∀ d : PyData, shO d = true → d.shown.length ≤ shB d
  | .none, _ => by
    simp only [PyData.shown, shB]
    decide +kernel
  | .bool b, _ => by
    simp only [PyData.shown, shB]
    cases b <;> decide +kernel
  | .int i, h => by
    simp only [PyData.shown, shB]
    exact int_text_len_1921 (of_decide_eq_true (by simpa only [shO] using h))
  | .str x, h => by
    simp only [PyData.shown, shB]
    simp only [shO] at h
    exact StrLaws.reprText_len x fun c hc => of_decide_eq_true (List.all_eq_true.mp h c hc)
  | .list ds, h => by
    simp only [PyData.shown, shB]
    have h1 := listText_len_le (PyData.shownAll ds)
    have h2 := shBA_len ds (by simpa only [shO] using h)
    have h3 := sum_two (PyData.shownAll ds)
    have e : (List.map (·.length) (PyData.shownAll ds)).sum = ((PyData.shownAll ds).map fun t => t.length).sum := rfl
    omega
  | .tuple ds, h => by
    simp only [PyData.shown, shB]
    have h1 := tupleText_len_le (PyData.shownAll ds)
    have h2 := shBA_len ds (by simpa only [shO] using h)
    have h3 := sum_two (PyData.shownAll ds)
    have e : (List.map (·.length) (PyData.shownAll ds)).sum = ((PyData.shownAll ds).map fun t => t.length).sum := rfl
    omega
  | .dict _, h => by simp only [shO] at h; exact nomatch h
theorem shBA_len : ∀ ds : List PyData, shOA ds = true → ((PyData.shownAll ds).map fun t => t.length + 2).sum ≤ shBA ds
  | [], _ => by
    simp only [PyData.shownAll, shBA]
    exact Nat.le_refl _
  | d :: ds, h => by
    simp only [shOA, Bool.and_eq_true] at h
    simp only [PyData.shownAll, shBA, List.map_cons, List.sum_cons]
    have h1 := shB_len d h.1
    have h2 := shBA_len ds h.2
    omega
end
section
variable {X : Cx}
theorem room110 {k : Nat} {A : Around} (r : Room k A) : A.units + 110 < cLine := by
  have := r.un
  omega
/-- the text that str() gives -/
def strD : PyData → Str
  | .str x => x
  | d => PyData.shown d
/-- str(x): the text of the thing's data -/
def rStrD : List V → Hp → VK → Prop := fun vs H Q => ∃ (x : V) (d : PyData), vs = [x] ∧ Dq H x d ∧ shO d = true ∧ shB d ≤ 16000000 ∧ d.depth ≤ 100 ∧ Q (.str (strD d)) H
theorem cr_strD (g : X.A.guards = some []) (hu : X.A.units + 110 < cLine) : CallR X (.type "str") rStrD := by
  intro pins s σ H vs us Q I r h
  obtain ⟨x, d, rfl, hd, ok, sz, dp, q⟩ := h
  obtain ⟨u, rfl, r1⟩ := vals1 r
  have hlen := shB_len d ok
  have hz : (16000000 : Nat) ≤ sizeLine := by decide
  cases hd with
  | non =>
    cases r1
    exact P.str_of_none ⟨.str _, H, I.tok _, ⟨_, rfl⟩, q⟩
  | bl b =>
    cases r1
    refine P.str_of_bool ⟨.str _, H, I.tok _, ⟨_, rfl⟩, ?_⟩
    cases b <;> exact q
  | int i =>
    obtain ⟨t, rfl⟩ := r1
    exact P.str_of_int (of_decide_eq_true (by simpa only [shO] using ok)) ⟨.str _, H, I.tok _, ⟨_, rfl⟩, q⟩
  | str y =>
    obtain ⟨t, rfl⟩ := r1
    exact P.str_of_str ⟨.str y, H, I, ⟨t, rfl⟩, q⟩
  | lst h hs =>
    obtain ⟨as, R⟩ := dq_reads I (Dq.lst h hs) r1
    cases r1
    exact str_of_reads R (shO_able _ ok) (PyData.noDict_hsm (dq_noD (Dq.lst h hs))) g (by omega) (fun _ _ e => e) (fun h' t tk hk => ⟨.str _, H, I.kept hk, ⟨t, rfl⟩, q⟩) (by omega)
  | tup h hs =>
    obtain ⟨as, R⟩ := dq_reads I (Dq.tup h hs) r1
    cases r1
    exact str_of_reads R (shO_able _ ok) (PyData.noDict_hsm (dq_noD (Dq.tup h hs))) g (by omega) (fun _ _ e => e) (fun h' t tk hk => ⟨.str _, H, I.kept hk, ⟨t, rfl⟩, q⟩) (by omega)
end

/-! ### the end of a law whose defs show things -/
section
variable {P : Program} {w : World} {K : PySem.W.Frag} {mg mb : Str → Option Value} {k : Nat} {fa a : Addr} {fd : FuncData} {x : Str} {sp : Sp} {st : Shared} {vs : List Value} {ns : List Int}
/-- the script, tracked unless it is the module's own -/
def scrH (K : PySem.W.Frag) (a : Addr) (vs : List Value) (ns : List Int) : Hp := fun b => if b = a ∧ K.lookup a = none then some (.frz { cls := .type "list", data := .seq vs.toArray } (.lst (ns.map V.int))) else none
theorem scr_some {b : Addr} {o : HO} (h : scrH K a vs ns b = some o) : b = a ∧ K.lookup a = none ∧ o = .frz { cls := .type "list", data := .seq vs.toArray } (.lst (ns.map V.int)) := by
  unfold scrH at h
  split at h
  · next c => exact ⟨c.1, c.2, (Option.some.inj h).symm⟩
  · cases h
theorem law_G (inK : K.In st.heap) (nsM : st.heap.Ns mainGlobals mg) (nsB : st.heap.Ns builtinsNs mb) (bb : ∀ y : Str, y ≠ "__name__" → mb y = bootBuiltins y) (lim : st.heap.NoLimit) (gens : st.gens = #[])
    (scr : st.heap.get? a = some { cls := .type "list", data := .seq vs.toArray }) (its : IntsAre vs ns) (short : ns.length ≤ sizeLine) (room : Room k callerA)
    (F : ∀ base : Heap, K.In base → base.Ns mainGlobals mg → FnG P w K mg base k fa fd [x] sp) (hb : ∀ (s : Shared) (u : Value), BindsTo s fd ⟨[u], []⟩ [(x, u)])
    (hsp : ∀ H : Hp, SqL K H a (ns.map V.int) → sp [.ref a] H (fun v _ => v = .bl true) fun _ _ _ => False) :
    codeAny (model P w) callerA (.call (.ref fa) ⟨[.ref a], []⟩) (fun r s' => r = .ok (.ret (.bool true)) ∧ OldK st.heap s'.heap ∧ s'.os = st.os ∧ AllBare s'.gens) st := by
  have rel : Vals (ns.map V.int) vs := vals_ints its
  have many := its.length
  let H := scrH K a vs ns
  have free : ∀ {b : Addr} {o : Obj}, K.lookup b = some o → H b = none := by
    intro b o lb
    cases q : H b with
    | none => rfl
    | some u =>
      obtain ⟨rfl, no, _⟩ := scr_some q
      rw [no] at lb
      cases lb
  have nodict : ∀ {b : Addr} {o : Obj} {es : Array DictEntry} {ep : Nat}, st.heap.get? b = some o → o.data = .dict es ep → H b = none := by
    intro b o es ep g d
    cases q : H b with
    | none => rfl
    | some u =>
      obtain ⟨rfl, _, _⟩ := scr_some q
      rw [scr] at g
      cases g
      cases d
  have nsOf : ∀ {b : Addr} {m : Str → Option Value}, st.heap.Ns b m → (hidT st.heap H).Ns b m := by
    rintro b m ⟨o, es, ep, g, d, r⟩
    exact ⟨o, es, ep, hidT_get g (nodict g d), d, r⟩
  have inB : K.In (hidT st.heap H) := fun b o lb => hidT_get (inK b o lb) (free lb)
  have hok : HOk P w H st.heap := by
    intro b o q
    obtain ⟨rfl, _, rfl⟩ := scr_some q
    exact ⟨scr, by rw [List.length_map]; exact short, vs, _, rel, scr⟩
  have env : Env0 P w K mg (hidT st.heap H) callerA [] st H := by
    obtain ⟨mc, l1, l2⟩ := lim
    exact ⟨rfl, ⟨inB, nsOf nsM, ⟨mb, nsOf nsB, bb⟩, mc, nsOf l1, l2⟩, fun b o g => of_hidT g, Nat.le_of_eq (hidT_size _ _), trivial, fun b z => (List.not_mem_nil z).elim, hok, .of_eq gens⟩
  have sq : SqL K H a (ns.map V.int) := by
    cases lk : K.lookup a with
    | none => exact .inl (.inr ⟨_, if_pos ⟨rfl, lk⟩⟩)
    | some o =>
      have g := inK a o lk
      rw [scr] at g
      cases g
      exact .inr ⟨_, vs.toArray, _, lk, rfl, rfl, rfl, by rw [List.size_toArray, many]; exact short, by rw [List.toList_toArray]; exact rel⟩
  refine codeAny_mono ((F _ inB (nsOf nsM)).go callerA [] st H ⟨[.ref a], []⟩ [.ref a] [.ref a] _ _ rfl room env (hb st (.ref a)) (.cons rfl .nil) (hsp H sq)) fun r s' z => ?_
  match r, z with
  | .error e, z => exact z.elim
  | .ok .next, z => exact z.elim
  | .ok .brk, z => exact z.elim
  | .ok .cont, z => exact z.elim
  | .ok (.ret u), z =>
    obtain ⟨v, H', os, bare, un, hok', r', z⟩ := z
    have z : v = .bl true := z
    subst z
    have r' : u = Value.bool true := r'
    subst r'
    refine ⟨rfl, OldK.of_keep fun b o g => ?_, os, bare⟩
    cases q : H b with
    | none => exact un.keep b o g q (fun m => (List.not_mem_nil m).elim) List.not_mem_nil
    | some u =>
      obtain ⟨rfl, _, rfl⟩ := scr_some q
      obtain ⟨g2, _⟩ := hok' _ _ (un.frzs _ _ _ q)
      rw [scr] at g
      cases g
      exact g2
theorem walk_ofG {l : PySem.W.OpenLaw} {n : Nat} {q : Program} {loose : List Str} {XP : (Str → Option Value) → Heap → Prop} {YP : World → Heap → Prop} {d : DefRec} {KW : Params → PySem.W.Frag} {spw : World → Sp}
    (hn : l.most = some n) (hn2 : n ≤ sizeLine) (hdf : d.params.defaults = []) (room : Room k callerA) (hY : ∀ (w : World) (h : Heap), YP w h → (KW w.params).In h)
    (F : ∀ (w : World) (mg : Str → Option Value) (fa : Addr) (h : Heap), (KW w.params).In h → h.Ns mainGlobals mg → mg d.name = some (.ref fa) → ∃ fd : FuncData, (∀ (s : Shared) (u : Value), BindsTo s fd ⟨[u], []⟩ [(x, u)]) ∧ ∀ base : Heap, (KW w.params).In base → base.Ns mainGlobals mg → FnG l.prog w (KW w.params) mg base k fa fd [x] (spw w))
    (hsp : ∀ (w : World) (H : Hp) (a : Addr) (ns : List Int), ns.length ≤ n → SqL (KW w.params) H a (ns.map V.int) → spw w [.ref a] H (fun v _ => v = .bl true) fun _ _ _ => False) :
    PySem.W.WalkO q loose XP YP l.row.toRowW d [] (fun f vs => PySem.call f vs) := by
  refine Att.attach_call hn hdf ?_
  intro w s0 st mg mb fa o pm cd doc a vs ns G Y _ _ _ hm scr its short gens
  obtain ⟨fd, hb, hF⟩ := F w mg fa _ (hY w _ Y) G.T.g hm
  exact law_G (hY w _ Y) G.T.g G.T.b G.T.builtins G.T.nolimit gens scr its (Nat.le_trans short hn2) room hF hb fun H sq => hsp w H a ns short sq
end
end Kp

/-! Things of any kind that are made and changed: what they are made of, how long their text may be. -/
namespace Kp
open PySem PySem.Spec PyProof.Rows L2 Evl RZ

/-- the heap without these places -/
def hid (A : List Addr) (H : Hp) : Hp := fun a => if a ∈ A then none else H a
/-- these places are taken -/
def Tkn (A : List Addr) (H : Hp) : Prop := ∀ a ∈ A, H a ≠ none
section
variable {A B : List Addr} {H H' : Hp}
theorem hid_nil : hid [] H = H := funext fun a => if_neg (List.not_mem_nil)
theorem hid_ex (e : Ex H H') : Ex (hid A H) (hid A H') := fun a o h => by
  unfold hid at *
  split at h
  · cases h
  · next c =>
    rw [if_neg c]
    exact e a o h
theorem hid_out {a : Addr} (h : a ∉ A) : hid A H a = H a := if_neg h
theorem hid_upd {p : Addr} {o : HO} (h : p ∈ A) : hid A (upd H p o) = hid A H := funext fun a => by
  unfold hid
  split
  · rfl
  · next c =>
    rw [upd_ne]
    exact fun e => c (e ▸ h)
theorem hid_sub (h : ∀ a ∈ B, a ∈ A) : Ex (hid A H) (hid B H) := fun a o q => by
  unfold hid at *
  split at q
  · cases q
  · next c => rw [if_neg fun m => c (h a m)]; exact q
theorem hid_all (h : ∀ a ∈ A, H a = none) : hid A H = H := funext fun a => by
  unfold hid
  split
  · next c => rw [h a c]
  · rfl
theorem tkn_ex (e : Ex H H') (t : Tkn A H) : Tkn A H' := fun a ha => by
  have := t a ha
  cases q : H a with
  | none => exact absurd q this
  | some o => rw [e a o q]; exact fun z => nomatch z
theorem tkn_not {p : Addr} (t : Tkn A H) (h : H p = none) : p ∉ A := fun m => t p m h
theorem tkn_one {a : Addr} {o : HO} (h : H a = some o) : Tkn [a] H := fun b hb => by
  rw [List.mem_singleton.mp hb, h]
  exact fun z => nomatch z
theorem tkn_two {a b : Addr} {o q : HO} (h : H a = some o) (g : H b = some q) : Tkn [a, b] H := fun c hc => by
  rcases List.mem_cons.mp hc with e | hc
  · rw [e, h]
    exact fun z => nomatch z
  · rw [List.mem_singleton.mp hc, g]
    exact fun z => nomatch z
theorem dq_un {x : V} {d : PyData} (h : Dq (hid A H) x d) : Dq H x d := by
  have := h.mono (hid_sub (A := A) (B := []) (H := H) fun a m => (List.not_mem_nil m).elim)
  rwa [hid_nil] at this
/-- what stood before these places were taken doesn't lead to them -/
theorem dq_old {x : V} {d : PyData} (h : Dq H x d) (n : ∀ a ∈ A, H a = none) (e : Ex H H') : Dq (hid A H') x d := by
  rw [← hid_all n] at h
  exact h.mono (hid_ex e)
end
/-- its text at most b long, at most k deep -/
structure Sz (b k : Nat) (d : PyData) : Prop where
  ok : shO d = true
  len : shB d ≤ b
  dep : d.depth ≤ k
structure SzA (b k : Nat) (ds : List PyData) : Prop where
  ok : shOA ds = true
  len : shBA ds ≤ b
  dep : PyData.depthAll ds ≤ k
theorem Sz.mono {b b' k k' : Nat} {d : PyData} (h : Sz b k d) (hb : b ≤ b') (hk : k ≤ k') : Sz b' k' d := ⟨h.ok, Nat.le_trans h.len hb, Nat.le_trans h.dep hk⟩
theorem SzA.mono {b b' k k' : Nat} {d : List PyData} (h : SzA b k d) (hb : b ≤ b') (hk : k ≤ k') : SzA b' k' d := ⟨h.ok, Nat.le_trans h.len hb, Nat.le_trans h.dep hk⟩
theorem Sz.lst {b k : Nat} {ds : List PyData} (h : SzA b k ds) : Sz (b + 3) (k + 1) (.list ds) := ⟨by simpa only [shO] using h.ok, by simp only [shB]; have := h.len; omega, by simp only [PyData.depth]; have := h.dep; omega⟩
theorem Sz.tup {b k : Nat} {ds : List PyData} (h : SzA b k ds) : Sz (b + 3) (k + 1) (.tuple ds) := ⟨by simpa only [shO] using h.ok, by simp only [shB]; have := h.len; omega, by simp only [PyData.depth]; have := h.dep; omega⟩
theorem SzA.nil : SzA 0 0 [] := ⟨by simp only [shOA], by simp only [shBA]; exact Nat.le_refl _, by simp only [PyData.depthAll]; exact Nat.le_refl _⟩
theorem SzA.cons {b1 b2 k : Nat} {d : PyData} {ds : List PyData} (h : Sz b1 k d) (g : SzA b2 k ds) : SzA (b1 + 2 + b2) k (d :: ds) := ⟨by simp only [shOA, h.ok, g.ok, Bool.and_self], by simp only [shBA]; have := h.len; have := g.len; omega, by simp only [PyData.depthAll]; exact Nat.max_le.mpr ⟨h.dep, g.dep⟩⟩
theorem SzA.app {b1 b2 k : Nat} : ∀ {ds es : List PyData}, SzA b1 k ds → SzA b2 k es → SzA (b1 + b2) k (ds ++ es)
  | [], es, _, g => g.mono (by omega) (Nat.le_refl _)
  | d :: ds, es, h, g => by
    have h1 := h.ok
    have h2 := h.len
    have h3 := h.dep
    simp only [shOA, Bool.and_eq_true] at h1
    simp only [shBA] at h2
    simp only [PyData.depthAll] at h3
    have ih := SzA.app (b1 := shBA ds) (k := k) ⟨h1.2, Nat.le_refl _, (Nat.max_le.mp h3).2⟩ g
    exact (SzA.cons (b1 := shB d) ⟨h1.1, Nat.le_refl _, (Nat.max_le.mp h3).1⟩ ih).mono (by omega) (Nat.le_refl _)
theorem SzA.at {b k : Nat} : ∀ {ds : List PyData} {i : Nat} {d : PyData}, SzA b k ds → ds[i]? = some d → Sz b k d
  | d :: ds, 0, _, h, e => by
    cases e
    have h1 := h.ok
    have h2 := h.len
    have h3 := h.dep
    simp only [shOA, Bool.and_eq_true] at h1
    simp only [shBA] at h2
    simp only [PyData.depthAll] at h3
    exact ⟨h1.1, by omega, (Nat.max_le.mp h3).1⟩
  | d :: ds, i + 1, _, h, e => by
    have h1 := h.ok
    have h2 := h.len
    have h3 := h.dep
    simp only [shOA, Bool.and_eq_true] at h1
    simp only [shBA] at h2
    simp only [PyData.depthAll] at h3
    exact SzA.at (ds := ds) (i := i) ⟨h1.2, by omega, (Nat.max_le.mp h3).2⟩ e
theorem SzA.set {b c k : Nat} {d : PyData} (h : Sz c k d) : ∀ {ds : List PyData} {i : Nat}, SzA b k ds → SzA (b + c + 2) k (ds.set i d)
  | [], i, g => g.mono (by omega) (Nat.le_refl _)
  | e :: ds, 0, g => by
    have h1 := g.ok
    have h2 := g.len
    have h3 := g.dep
    simp only [shOA, Bool.and_eq_true] at h1
    simp only [shBA] at h2
    simp only [PyData.depthAll] at h3
    exact (SzA.cons h (b2 := shBA ds) ⟨h1.2, Nat.le_refl _, (Nat.max_le.mp h3).2⟩).mono (by omega) (Nat.le_refl _)
  | e :: ds, i + 1, g => by
    have h1 := g.ok
    have h2 := g.len
    have h3 := g.dep
    simp only [shOA, Bool.and_eq_true] at h1
    simp only [shBA] at h2
    simp only [PyData.depthAll] at h3
    have ih := SzA.set h (ds := ds) (i := i) (b := shBA ds) ⟨h1.2, Nat.le_refl _, (Nat.max_le.mp h3).2⟩
    exact (SzA.cons (b1 := shB e) ⟨h1.1, Nat.le_refl _, (Nat.max_le.mp h3).1⟩ ih).mono (by omega) (Nat.le_refl _)
theorem SzA.erase {b k : Nat} : ∀ {ds : List PyData} {i : Nat}, SzA b k ds → SzA b k (ds.eraseIdx i)
  | [], i, g => g
  | e :: ds, 0, g => by
    have h1 := g.ok
    have h2 := g.len
    have h3 := g.dep
    simp only [shOA, Bool.and_eq_true] at h1
    simp only [shBA] at h2
    simp only [PyData.depthAll] at h3
    exact ⟨h1.2, by show shBA ds ≤ b; omega, (Nat.max_le.mp h3).2⟩
  | e :: ds, i + 1, g => by
    have h1 := g.ok
    have h2 := g.len
    have h3 := g.dep
    simp only [shOA, Bool.and_eq_true] at h1
    simp only [shBA] at h2
    simp only [PyData.depthAll] at h3
    have ih := SzA.erase (ds := ds) (i := i) (b := shBA ds) (k := k) ⟨h1.2, Nat.le_refl _, (Nat.max_le.mp h3).2⟩
    exact (SzA.cons (b1 := shB e) ⟨h1.1, Nat.le_refl _, (Nat.max_le.mp h3).1⟩ ih).mono (by omega) (Nat.le_refl _)
theorem SzA.take {b k : Nat} : ∀ {ds : List PyData} {m : Nat}, SzA b k ds → SzA b k (ds.take m)
  | ds, 0, g => by
    rw [List.take_zero]
    exact SzA.nil.mono (Nat.zero_le _) (Nat.zero_le _)
  | [], m + 1, g => g
  | e :: ds, m + 1, g => by
    have h1 := g.ok
    have h2 := g.len
    have h3 := g.dep
    simp only [shOA, Bool.and_eq_true] at h1
    simp only [shBA] at h2
    simp only [PyData.depthAll] at h3
    have ih := SzA.take (ds := ds) (m := m) (b := shBA ds) (k := k) ⟨h1.2, Nat.le_refl _, (Nat.max_le.mp h3).2⟩
    exact (SzA.cons (b1 := shB e) ⟨h1.1, Nat.le_refl _, (Nat.max_le.mp h3).1⟩ ih).mono (by omega) (Nat.le_refl _)
theorem sz_int {i : Int} (h : i.natAbs < 2 ^ 1900) : Sz 1921 0 (.int i) := ⟨by
  simp only [shO]
  refine decide_eq_true ?_
  by_cases z : i.natAbs = 0
  · rw [z]
    decide
  · have := (Nat.log2_lt z (k := 1900)).mpr h
    omega, by simp only [shB]; exact Nat.le_refl _, by simp only [PyData.depth]; exact Nat.le_refl _⟩
theorem sz_non : Sz 4 0 .none := ⟨by simp only [shO], by simp only [shB]; exact Nat.le_refl _, by simp only [PyData.depth]; exact Nat.le_refl _⟩
theorem sz_bl (b : Bool) : Sz 5 0 (.bool b) := ⟨by simp only [shO], by simp only [shB]; exact Nat.le_refl _, by simp only [PyData.depth]; exact Nat.le_refl _⟩
theorem sz_str {x : Str} {b : Nat} (h : (x.cps.toList.all fun c => decide (c < 16 ^ 8)) = true) (hb : 10 * x.length + 2 ≤ b) : Sz b 0 (.str x) := ⟨by simp only [shO]; exact h, by simp only [shB]; exact hb, by simp only [PyData.depth]; exact Nat.le_refl _⟩
theorem sza_ints : ∀ {ns : List Int}, (∀ i ∈ ns, i.natAbs < 2 ^ 1900) → SzA (1923 * ns.length) 0 (ns.map PyData.int)
  | [], _ => SzA.nil
  | i :: ns, h => (SzA.cons (sz_int (h i List.mem_cons_self)) (sza_ints fun j hj => h j (List.mem_cons_of_mem _ hj))).mono (by rw [List.length_cons]; omega) (Nat.le_refl _)
theorem DqAll.app {H : Hp} : ∀ {xs ys : List V} {ds es : List PyData}, DqAll H xs ds → DqAll H ys es → DqAll H (xs ++ ys) (ds ++ es)
  | _, _, _, _, .nil, h => h
  | _, _, _, _, .cons a b, h => .cons a (b.app h)
theorem DqAll.take {H : Hp} : ∀ {xs : List V} {ds : List PyData} {m : Nat}, DqAll H xs ds → DqAll H (xs.take m) (ds.take m)
  | _, _, 0, _ => by
    rw [List.take_zero, List.take_zero]
    exact .nil
  | _, _, _ + 1, .nil => .nil
  | _, _, m + 1, .cons a b => .cons a (b.take (m := m))
theorem DqAll.set {H : Hp} {x : V} {d : PyData} (h : Dq H x d) : ∀ {xs : List V} {ds : List PyData} {i : Nat}, DqAll H xs ds → DqAll H (xs.set i x) (ds.set i d)
  | _, _, _, .nil => .nil
  | _, _, 0, .cons _ b => .cons h b
  | _, _, i + 1, .cons a b => .cons a (DqAll.set h (i := i) b)
theorem DqAll.erase {H : Hp} : ∀ {xs : List V} {ds : List PyData} {i : Nat}, DqAll H xs ds → DqAll H (xs.eraseIdx i) (ds.eraseIdx i)
  | _, _, _, .nil => .nil
  | _, _, 0, .cons _ b => b
  | _, _, i + 1, .cons a b => .cons a (b.erase (i := i))
section
variable {K : PySem.W.Frag} {σ : L2.St} {H : Hp} {A : List Addr} {te ta tb to ti : TE} {tr : TA} {b b2 k m n : Nat} {D : Ends} {tz : TS} {x : V} {d : PyData}
/-- it tells some thing that doesn't lead to A, so long, so deep -/
def EvS (A : List Addr) (te : TE) (σ : L2.St) (H : Hp) (b k : Nat) : Prop := ∀ H1, Ex H H1 → ∀ Q : VK, (∀ x d H2, Ex H1 H2 → Dq (hid A H2) x d → Sz b k d → Q x H2) → te σ H1 Q
def EvSA (A : List Addr) (tr : TA) (σ : L2.St) (H : Hp) (n b k : Nat) : Prop := ∀ H1, Ex H H1 → ∀ Q : List V → Hp → Prop, (∀ xs ds H2, Ex H1 H2 → DqAll (hid A H2) xs ds → SzA b k ds → xs.length = n → Q xs H2) → tr σ H1 Q
theorem EvS.mono {b' k' : Nat} (h : EvS A te σ H b k) (hb : b ≤ b') (hk : k ≤ k') : EvS A te σ H b' k' := fun H1 e Q q => h H1 e Q fun x d H2 e2 g s => q x d H2 e2 g (s.mono hb hk)
theorem EvS.ex {H1 : Hp} (h : EvS A te σ H b k) (e : Ex H H1) : EvS A te σ H1 b k := fun H2 e2 => h H2 (e.trans e2)
theorem es_val (h : Ev te σ H x) (g : ∀ H1, Ex H H1 → Dq (hid A H1) x d) (s : Sz b k d) : EvS A te σ H b k := fun H1 e Q q => h H1 e _ fun H2 e2 => q x d H2 e2 (g H2 (e.trans e2)) s
theorem es_dq (h : Ev te σ H x) (g : Dq (hid A H) x d) (s : Sz b k d) : EvS A te σ H b k := es_val h (fun H1 e => g.mono (hid_ex e)) s
theorem es_int {i : Int} (h : Ev te σ H (.int i)) (hi : i.natAbs < 2 ^ 1900) : EvS A te σ H 1921 0 := es_val h (fun _ _ => .int i) (sz_int hi)
theorem es_non (h : Ev te σ H .non) : EvS A te σ H 4 0 := es_val h (fun _ _ => .non) sz_non
theorem es_bl {z : Bool} (h : Ev te σ H (.bl z)) : EvS A te σ H 5 0 := es_val h (fun _ _ => .bl z) (sz_bl z)
theorem es_str {z : Str} (h : Ev te σ H (.str z)) (h1 : (z.cps.toList.all fun c => decide (c < 16 ^ 8)) = true) (hb : 10 * z.length + 2 ≤ b) : EvS A te σ H b 0 := es_val h (fun _ _ => .str z) (sz_str h1 hb)
theorem esa_nil : EvSA A tNil σ H 0 0 0 := fun H1 e Q q => q [] [] H1 (Ex.refl H1) .nil SzA.nil rfl
theorem esa_cons {k2 : Nat} (h : EvS A te σ H b k) (hr : EvSA A tr σ H n b2 k2) : EvSA A (tCons te tr) σ H (n + 1) (b + 2 + b2) (max k k2) := fun H1 e Q q =>
  h H1 e _ fun x d H2 e2 g s => hr H2 (e.trans e2) _ fun xs ds H3 e3 gs ss l => q (x :: xs) (d :: ds) H3 (e2.trans e3) (.cons (g.mono (hid_ex e3)) gs) (SzA.cons (s.mono (Nat.le_refl _) (Nat.le_max_left _ _)) (ss.mono (Nat.le_refl _) (Nat.le_max_right _ _))) (by rw [List.length_cons, l])
theorem es_lst (t : Tkn A H) (h : EvSA A tr σ H n b k) (hn : n ≤ 100000) : EvS A (tLst tr) σ H (b + 3) (k + 1) := fun H1 e Q q =>
  h H1 e _ fun xs ds H2 e2 gs ss l => ⟨sz_of (by omega), fun p np => q (.ref p) (.list ds) _ (e2.trans (Ex.new np)) (.lst (by rw [hid_out (tkn_not (tkn_ex (e.trans e2) t) np), upd_same]) (gs.mono (hid_ex (Ex.new np)))) (Sz.lst ss)⟩
theorem es_tup (t : Tkn A H) (h : EvSA A tr σ H n b k) (hn : n ≤ 100000) : EvS A (tTup tr) σ H (b + 3) (k + 1) := fun H1 e Q q =>
  h H1 e _ fun xs ds H2 e2 gs ss l => ⟨sz_of (by omega), fun p np => q (.ref p) (.tuple ds) _ (e2.trans (Ex.new np)) (.tup (by rw [hid_out (tkn_not (tkn_ex (e.trans e2) t) np), upd_same]) (gs.mono (hid_ex (Ex.new np)))) (Sz.tup ss)⟩
/-- [e, ..][i] -/
theorem es_pick {i : Int} (h : EvSA A tr σ H n b k) (hn : n ≤ 100000) (hi : Ev ti σ H (.int i)) (h0 : 0 ≤ i) (h1 : i < (n : Int)) : EvS A (tOp (rIxL K) (tLst tr) ti) σ H b k := fun H1 e Q q =>
  h H1 e _ fun xs ds H2 e2 gs ss l => ⟨sz_of (by omega), fun p np => by
    have eN : Ex H2 (upd H2 p (.lst xs)) := Ex.new np
    refine hi _ ((e.trans e2).trans eN) _ fun H3 e3 => ?_
    obtain ⟨j, rfl⟩ := Int.eq_ofNat_of_zero_le h0
    have hj : j < xs.length := by omega
    obtain ⟨d, hd, g⟩ := gs.at (List.getElem?_eq_getElem hj)
    exact (rv_ixL (K := K) (xs := xs) (i := (j : Int)) (sq_of (e3 _ _ upd_same)) (atI_nat (List.getElem?_eq_getElem hj))) H3 (Ex.refl _) _ fun H4 e4 => q _ d H4 ((e2.trans eN).trans (e3.trans e4)) (g.mono (hid_ex (eN.trans (e3.trans e4)))) (ss.at hd)⟩
/-- each of them so long, so deep -/
def EvSE (A : List Addr) (tr : TA) (σ : L2.St) (H : Hp) (n b k : Nat) : Prop := ∀ H1, Ex H H1 → ∀ Q : List V → Hp → Prop, (∀ xs ds H2, Ex H1 H2 → DqAll (hid A H2) xs ds → (∀ (i : Nat) (d : PyData), ds[i]? = some d → Sz b k d) → xs.length = n → Q xs H2) → tr σ H1 Q
theorem ese_nil : EvSE A tNil σ H 0 b k := fun H1 e Q q => q [] [] H1 (Ex.refl H1) .nil (fun i d h => by simp at h) rfl
theorem ese_cons {b1 k1 : Nat} (h : EvS A te σ H b1 k1) (hb : b1 ≤ b) (hk : k1 ≤ k) (hr : EvSE A tr σ H n b k) : EvSE A (tCons te tr) σ H (n + 1) b k := fun H1 e Q q =>
  h H1 e _ fun x d H2 e2 g s => hr H2 (e.trans e2) _ fun xs ds H3 e3 gs ss l => q (x :: xs) (d :: ds) H3 (e2.trans e3) (.cons (g.mono (hid_ex e3)) gs) (fun i d' h => by
    cases i with
    | zero =>
      cases h
      exact s.mono hb hk
    | succ i => exact ss i d' h) (by rw [List.length_cons, l])
/-- [e, ..][i], by the greatest of them -/
theorem es_pickE {i : Int} (h : EvSE A tr σ H n b k) (hn : n ≤ 100000) (hi : Ev ti σ H (.int i)) (h0 : 0 ≤ i) (h1 : i < (n : Int)) : EvS A (tOp (rIxL K) (tLst tr) ti) σ H b k := fun H1 e Q q =>
  h H1 e _ fun xs ds H2 e2 gs ss l => ⟨sz_of (by omega), fun p np => by
    have eN : Ex H2 (upd H2 p (.lst xs)) := Ex.new np
    refine hi _ ((e.trans e2).trans eN) _ fun H3 e3 => ?_
    obtain ⟨j, rfl⟩ := Int.eq_ofNat_of_zero_le h0
    have hj : j < xs.length := by omega
    obtain ⟨d, hd, g⟩ := gs.at (List.getElem?_eq_getElem hj)
    exact (rv_ixL (K := K) (xs := xs) (i := (j : Int)) (sq_of (e3 _ _ upd_same)) (atI_nat (List.getElem?_eq_getElem hj))) H3 (Ex.refl _) _ fun H4 e4 => q _ d H4 ((e2.trans eN).trans (e3.trans e4)) (g.mono (hid_ex (eN.trans (e3.trans e4)))) (ss _ _ hd)⟩
/-- a new list of whole numbers -/
theorem es_ints {ns : List Int} (t : Tkn A H) (h : EvL te σ H (ns.map V.int)) (hb : ∀ i ∈ ns, i.natAbs < 2 ^ 1900) : EvS A te σ H (1923 * ns.length + 3) 1 := fun H1 e Q q =>
  h H1 e _ fun p H2 np e2 hp => q (.ref p) (dI ns) H2 e2 (dq_ints (by rw [hid_out (tkn_not (tkn_ex e t) np)]; exact hp)) (Sz.lst (sza_ints hb))
/-- tuple(a list) -/
theorem es_tupOf {p : Addr} {xs : List V} {ds : List PyData} (t : Tkn A H) (h : Ev te σ H (.ref p)) (hp : H p = some (.lst xs)) (g : DqAll (hid A H) xs ds) (s : SzA b k ds) : EvS A (tCB (fun vs H Q => ∃ p ys, vs = [.ref p] ∧ ((SqL K H p ys ∧ ∀ l, H l = none → Q (.ref l) (upd H l (.tup ys))) ∨ (SqT K H p ys ∧ Q (.ref p) H))) (tCons te tNil)) σ H (b + 3) (k + 1) := fun H1 e Q q =>
  h H1 e _ fun H2 e2 => ⟨p, xs, rfl, .inl ⟨sq_of ((e.trans e2) _ _ hp), fun l nl => q (.ref l) (.tuple ds) _ (e2.trans (Ex.new nl)) (.tup (by rw [hid_out (tkn_not (tkn_ex (e.trans e2) t) nl), upd_same]) (g.mono (hid_ex ((e.trans e2).trans (Ex.new nl))))) (Sz.tup s)⟩⟩
/-! ### changing a list that is hidden -/
/-- o[i] = e -/
theorem s_setS {l : Addr} {xs : List V} {j : Nat} (hl : H l = some (.lst xs)) (ho : ∀ H1, Ex H H1 → Ev to σ H1 (.ref l)) (hi : ∀ H1, Ex H H1 → Ev ti σ H1 (.int (j : Nat))) (hj : j < xs.length) (he : EvS A te σ H b k)
    (kk : ∀ x d H1, Ex H H1 → Dq (hid A H1) x d → Sz b k d → D.nx σ (upd H1 l (.lst (xs.set j x)))) : tAsg te (gSub to ti rSetL) D σ H :=
  he H (Ex.refl H) _ fun x d H1 e1 g s => ho H1 e1 H1 (Ex.refl _) _ fun H2 e2 => hi H2 (e1.trans e2) H2 (Ex.refl _) _ fun H3 e3 => ⟨l, xs, (j : Int), j, rfl, rfl, (e1.trans (e2.trans e3)) _ _ hl, ixN_nat hj, kk x d H3 (e1.trans (e2.trans e3)) (g.mono (hid_ex (e2.trans e3))) s⟩
/-- o[i], o[j] = e, f -/
theorem s_set2S {to2 ti2 te2 : TE} {l : Addr} {xs : List V} {j j2 : Nat} (hl : H l = some (.lst xs)) (ho : ∀ H1, Ex H H1 → Ev to σ H1 (.ref l)) (hi : ∀ H1, Ex H H1 → Ev ti σ H1 (.int (j : Nat))) (hj : j < xs.length)
    (ho2 : ∀ H1 ys, H1 l = some (.lst ys) → (∀ a o, a ≠ l → H a = some o → H1 a = some o) → Ev to2 σ H1 (.ref l)) (hi2 : ∀ H1, Ev ti2 σ H1 (.int (j2 : Nat))) (hj2 : j2 < xs.length) (he : EvS A te σ H b k) (he2 : EvS A te2 σ H b k)
    (kk : ∀ x d y d2 H1, Ex H H1 → Dq (hid A H1) x d → Sz b k d → Dq (hid A H1) y d2 → Sz b k d2 → ∀ H2 ys, H2 l = some (.lst ys) → (∀ a o, a ≠ l → H1 a = some o → H2 a = some o) → ys = (xs.set j x).set j2 y → D.nx σ H2) : tAsg (tTup (tCons te (tCons te2 tNil))) (gTup K 2 (gCons (gSub to ti rSetL) (gCons (gSub to2 ti2 rSetL) gNil))) D σ H :=
  he H (Ex.refl H) _ fun x d H1 e1 g s => he2 H1 e1 _ fun y d2 H2 e2 g2 s2 => ⟨sz_of (by show 2 ≤ 100000; decide), fun T nT => by
    have eT : Ex H2 (upd H2 T (.tup [x, y])) := Ex.new nT
    refine ⟨T, [x, y], rfl, SqT.of upd_same, rfl, x, [y], rfl, ?_⟩
    have e3 := e1.trans (e2.trans eT)
    refine ho _ e3 _ (Ex.refl _) _ fun H4 e4 => hi H4 (e3.trans e4) H4 (Ex.refl _) _ fun H5 e5 => ?_
    have a5 := e3.trans (e4.trans e5)
    refine ⟨l, xs, (j : Int), j, rfl, rfl, a5 _ _ hl, ixN_nat hj, y, [], rfl, ?_⟩
    have nn : ∀ a o, a ≠ l → H5 a = some o → (upd H5 l (.lst (xs.set j x))) a = some o := fun a o n h => by rw [upd_ne n]; exact h
    refine ho2 _ (xs.set j x) upd_same (fun a o n h => nn a o n (a5 _ _ h)) _ (Ex.refl _) _ fun H6 e6 => hi2 H6 H6 (Ex.refl _) _ fun H7 e7 => ?_
    refine ⟨l, xs.set j x, (j2 : Int), j2, rfl, rfl, (e6.trans e7) _ _ upd_same, ixN_nat (by rw [List.length_set]; exact hj2), rfl, ?_⟩
    have e25 : Ex H2 H5 := eT.trans (e4.trans e5)
    exact kk x d y d2 H5 a5 (g.mono (hid_ex (e2.trans e25))) s (g2.mono (hid_ex e25)) s2 _ _ upd_same (fun a o n h => by rw [upd_ne n]; exact (e6.trans e7) _ _ (nn a o n h)) rfl⟩
/-- o.append(e) -/
theorem s_appS {l : Addr} {xs : List V} (hl : H l = some (.lst xs)) (ho : Ev to σ H (.ref l)) (he : EvS A te σ H b k) (hz : xs.length < 100000) (kk : ∀ x d H1, Ex H H1 → Dq (hid A H1) x d → Sz b k d → D.nx σ (upd H1 l (.lst (xs ++ [x])))) :
    tDrop (tBM K "list" rAppend to (tCons te tNil)) D σ H := ho H (Ex.refl H) _ fun H1 e1 =>
  ⟨Or.inl ⟨rfl, xs, sq_of (e1 l _ hl)⟩, he H1 e1 _ fun x d H2 e2 g s => ⟨l, xs, x, rfl, rfl, e2 l _ (e1 l _ hl), sz_lt hz, kk x d H2 (e1.trans e2) g s⟩⟩
/-- o.pop(i) -/
theorem s_popAt {l : Addr} {xs : List V} {j : Nat} (hl : H l = some (.lst xs)) (ho : Ev to σ H (.ref l)) (hi : Ev te σ H (.int (j : Nat))) (hj : j < xs.length) (hz : xs.length < 100000) (kk : ∀ H1, Ex H H1 → D.nx σ (upd H1 l (.lst (xs.eraseIdx j)))) :
    tDrop (tBM K "list" rPopAt to (tCons te tNil)) D σ H := ho H (Ex.refl H) _ fun H1 e1 =>
  ⟨Or.inl ⟨rfl, xs, sq_of (e1 l _ hl)⟩, hi H1 e1 _ fun H2 e2 => ⟨l, xs, (j : Int), j, xs[j], rfl, rfl, e2 l _ (e1 l _ hl), by omega, by omega, by
    unfold seqIndex?
    simp
    omega, List.getElem?_eq_getElem hj, kk H2 (e1.trans e2)⟩⟩
end
end Kp

/-! sorted() of lists of things that can be compared: lists of lists, of tuples. -/
namespace Kp
open PySem PySem.Spec PyProof.Rows L2 Evl RZ

section
variable {X : Cx} {pins : List (Addr × Obj)} {σ : L2.St} {H : Hp} {s : Shared}
theorem eachV (I : Inv X pins σ H s) : ∀ {xs : List V} {ds : List PyData} {us : List Value}, DqAll H xs ds → Vals xs us → PySem.W.EachIs (fun (v : Value) (b : V × PyData) => RelV b.1 v ∧ Dq H b.1 b.2) us (xs.zip ds)
  | _, _, _, .nil, r => by
    cases r
    exact .nil
  | _, _, _, .cons h hs, r => by
    cases r with
    | cons r1 r2 => exact .cons ⟨r1, h⟩ (eachV I hs r2)
theorem each_vals : ∀ {us : List Value} {bs : List (V × PyData)}, PySem.W.EachIs (fun (v : Value) (b : V × PyData) => RelV b.1 v ∧ Dq H b.1 b.2) us bs → Vals (bs.map Prod.fst) us
  | _, _, .nil => .nil
  | _, _, .cons h hs => .cons h.1 (each_vals hs)
end
/-- what a list of things is, sorted -/
def srtV (xs : List V) (ds : List PyData) : List V := ((xs.zip ds).mergeSort (PySem.W.dataLe false Prod.snd)).map Prod.fst
def srtD (xs : List V) (ds : List PyData) : List PyData := ((xs.zip ds).mergeSort (PySem.W.dataLe false Prod.snd)).map Prod.snd
theorem dqa_zip {H : Hp} : ∀ {xs : List V} {ds : List PyData}, DqAll H xs ds → ∀ b ∈ xs.zip ds, Dq H b.1 b.2
  | _, _, .nil, _, h => nomatch h
  | _, _, .cons h hs, b, m => by
    rw [List.zip_cons_cons] at m
    rcases List.mem_cons.mp m with rfl | m
    · exact h
    · exact dqa_zip hs b m
theorem dqa_pairs {H : Hp} : ∀ {bs : List (V × PyData)}, (∀ b ∈ bs, Dq H b.1 b.2) → DqAll H (bs.map Prod.fst) (bs.map Prod.snd)
  | [], _ => .nil
  | b :: bs, h => .cons (h b List.mem_cons_self) (dqa_pairs fun c hc => h c (List.mem_cons_of_mem _ hc))
theorem srt_dqa {H : Hp} {xs : List V} {ds : List PyData} (h : DqAll H xs ds) : DqAll H (srtV xs ds) (srtD xs ds) :=
  dqa_pairs fun b hb => dqa_zip h b ((List.mergeSort_perm _ _).mem_iff.mp hb)
theorem zip_snd {xs : List V} {ds : List PyData} (h : xs.length = ds.length) : (xs.zip ds).map Prod.snd = ds := List.map_snd_zip (by omega)
theorem srtD_perm {xs : List V} {ds : List PyData} (h : xs.length = ds.length) : (srtD xs ds).Perm ds := by
  have := (List.mergeSort_perm (xs.zip ds) (PySem.W.dataLe false Prod.snd)).map Prod.snd
  rw [zip_snd h] at this
  exact this
/-- the things told, sorted, don't hang on where they stand -/
theorem srtD_is {xs : List V} {ds : List PyData} (h : xs.length = ds.length) : srtD xs ds = ds.mergeSort (PySem.W.dataLe false id) := by
  unfold srtD
  conv => rhs; rw [← zip_snd h]
  exact List.map_mergeSort (f := Prod.snd) (r := PySem.W.dataLe false Prod.snd) (s := PySem.W.dataLe false id) fun a _ b _ => rfl
section
variable {X : Cx}
/-- sorted(xs), things that can be compared with one another -/
def rSortedD (K : PySem.W.Frag) : List V → Hp → VK → Prop := fun vs H Q => ∃ (a : Addr) (xs : List V) (ds : List PyData), vs = [.ref a] ∧ SqL K H a xs ∧ DqAll H xs ds ∧ PySem.W.AllAlike ds ∧ PySem.W.Sortable ds ∧ (∀ d ∈ ds, d.depth ≤ 100) ∧ ∀ p, H p = none → Q (.ref p) (upd H p (.lst (srtV xs ds)))
theorem cr_sortedD (hu : X.A.units + 110 < cLine) : CallR X (.builtin "sorted") (rSortedD X.K) := by
  intro pins s σ H vs us Q I r h
  obtain ⟨a, xs, ds, rfl, hs, hd, al, so, dp, q⟩ := h
  obtain ⟨its, rv, hl, hz⟩ := I.list hs
  rw [Vals.ref1 r]
  have len := hd.len
  have e := eachV I hd rv
  have er : PySem.W.EachIs (fun (v : Value) (b : V × PyData) => ∃ as, Reads s.heap v b.2 as) its (xs.zip ds) := e.mono fun v b z => dq_reads I z.2 z.1
  have zl : (xs.zip ds).length = xs.length := by
    rw [List.length_zip]
    omega
  refine PySem.W.sorted_data (enc := Prod.snd) hl.isList e er (by rw [zip_snd len]; exact al) (by rw [zip_snd len]; exact so) (by rw [zl]; exact hz) (fun b hb => ?_) fun out ol eo => ?_
  · have := dp b.2 (by rw [← zip_snd len]; exact List.mem_map.mpr ⟨b, hb, rfl⟩)
    omega
  · obtain ⟨ep, he'⟩ := PyProof.Rows.sortedAll_at s.heap its out.toArray
    have vo := each_vals eo
    have hlen : (srtV xs ds).length ≤ sizeLine := by
      unfold srtV
      rw [List.length_map, List.length_mergeSort, zl]
      exact hz
    exact ⟨.ref _, upd H (s.heap.objs.size + 1) (.lst (srtV xs ds)), I.laid (t' := s.toks) (fun _ _ => PyProof.Rows.sortedAll_old) (Nat.le_succ _) ⟨hlen, out, ep, vo, he'⟩, rfl, q _ (I.hok.fresh (Nat.le_succ _))⟩
end
section
variable {K : PySem.W.Frag} {σ : L2.St} {H : Hp} {te : TE}
/-- two lists of lists of whole numbers, the same but for their order: sorted they are the same -/
theorem lists_alike : ∀ xs ys : List Int, PySem.W.alike (dI xs) (dI ys) = true := fun xs ys => by
  unfold dI
  rw [PySem.W.alike]
  exact PySem.W.alike_ints xs ys
end
end Kp

namespace Own
open PySem PySem.Spec PyProof.Rows L2 Evl Kp
def topS (i : Nat) : Stmt := PySem.Challenge.pw_rootwheel_k21_others_looked_at.main.body.getD i (.Pass ⟨0, 0, 0, 0⟩)
/-! ### words of ours for the walk over readings -/
local macro_rules | `(tactic| one_place) => `(tactic| (fail_if_success (with_reducible first | refine probe ?_ | refine probeT ?_ | refine probeA ?_)); first
  | exact ev_c
  | exact ev_var rfl
  | exact ea_nil
  | (apply ea_cons <;> one_place)
  | (apply et_test; one_place)
  | (apply et_B; one_place)
  | (apply et_not; one_place)
  | (apply ev_add <;> one_place)
  | (apply ev_sub <;> one_place)
  | (apply ev_mul <;> first | one_place | (exact mulW (by omega) (by omega)))
  | (apply ev_div <;> first | one_place | (exact divW (by omega) (by omega)))
  | (apply ev_mod <;> first | one_place | omega)
  | (refine ev_pow (i := 10) (j := 6) (c := 1000000) ?_ ?_ ⟨by decide, by decide +kernel⟩ (by rfl) <;> one_place)
  | (refine ev_pow (i := 10) (j := 9) (c := 1000000000) ?_ ?_ ⟨by decide, by decide +kernel⟩ (by rfl) <;> one_place)
  | (refine ev_pow (i := 10) (j := 12) (c := 1000000000000) ?_ ?_ ⟨by decide, by decide +kernel⟩ (by rfl) <;> one_place)
  | (refine ev_pow (i := 10) (j := 18) (c := 1000000000000000000) ?_ ?_ ⟨by decide, by decide +kernel⟩ (by rfl) <;> one_place)
  | (apply ev_lt <;> one_place)
  | (apply ev_le <;> one_place)
  | (apply ev_gt <;> one_place)
  | (apply ev_ge <;> one_place)
  | (apply ev_eqI <;> one_place)
  | (apply ev_neI <;> one_place)
  | (apply ev_neg; one_place)
  | assumption)
/-! ### numbers of bounded size -/
def Bd (b : Nat) (l : List Int) : Prop := ∀ m, (coef l m).natAbs < 2 ^ b
theorem mulB {i j : Int} {a b : Nat} (hi : i.natAbs < 2 ^ a) (hj : j.natAbs < 2 ^ b) (h : a + b ≤ 900000) : CMulW i j :=
  wide_mul (a := a + 1) (b := b + 1) (Nat.lt_of_lt_of_le hi (Nat.pow_le_pow_right (by decide) (Nat.le_succ a))) (Nat.lt_of_lt_of_le hj (Nat.pow_le_pow_right (by decide) (Nat.le_succ b))) (Nat.succ_pos _) (Nat.succ_pos _) (by omega)
theorem Bd.at {b : Nat} {l : List Int} {i : Nat} {x : Int} (h : Bd b l) (hi : l[i]? = some x) : x.natAbs < 2 ^ b := by
  have := h i
  rwa [coef_of hi] at this
theorem Bd.of {b : Nat} {l : List Int} (h : ∀ x ∈ l, x.natAbs < 2 ^ b) : Bd b l := fun m => by
  by_cases q : m < l.length
  · rw [coef_lt q]
    exact h _ (List.getElem_mem q)
  · rw [coef_ge (by omega)]
    exact Nat.two_pow_pos b

/- parted: slots 0 n, 1 rows, 2 left, 3 p, 4 times; calls  -/
abbrev s_parted : Stmt := topS 4
theorem sc_parted : FnScope ["n", "rows", "left", "p", "times"] ["n"] (defScope s_parted) := ⟨rfl, rfl, rfl, by decide +kernel, rfl, by decide +kernel, by decide +kernel⟩

def spParted (K : PySem.W.Frag) : Sp := fun vs H Q _ => ∃ n : Int, vs = [.int n] ∧ 1 ≤ n ∧ n ≤ 1000000000 ∧ RetP K (partedF n) H Q
section
variable {P : Program} {w : World} {K : PySem.W.Frag} {mg : Str → Option Value} {base : Heap}
theorem cal_parted (nb : Nb mg) (d : Dfn K mg "parted" ["n"] s_parted) : Cal P w K mg base CX0 "parted" 1 ["n"] (spParted K) := by
  refine d.cal sc_parted (fun vs H Q E h => ?_) (fun f cdv A outer s H vs Q E hr h => ?_)
  · obtain ⟨a, rfl, _⟩ := h
    rfl
  · obtain ⟨n, rfl, n1, n2, q⟩ := h
    refine ⟨_, (pss_cons (ps_set (i := 1) sc_parted.nd rfl (.inl rfl) (pe_lst pa_nil))
      (pss_cons (ps_set (i := 2) sc_parted.nd rfl (.inl rfl) (pv 0))
      (pss_cons (ps_set (i := 3) sc_parted.nd rfl (.inl rfl) pe_int)
      (pss_cons (ps_while PassesOwn.never (pt_cmpR op_le (pe_op op_mulW (pv 3) (pv 3)) (pv 2) (nomark _)) (pss_cons (ps_set (i := 4) sc_parted.nd rfl (.inl rfl) pe_int)
      (pss_cons (ps_while PassesOwn.never (pt_cmpR op_eq (pe_op op_mod (pv 2) (pv 3)) pe_int (nomark _)) (pss_cons (ps_aug (i := 2) sc_parted.nd rfl (.inl rfl) (pv 3) (pip_of iop_fdivW))
      (pss_one (ps_aug (i := 4) sc_parted.nd rfl (.inl rfl) pe_int ip_add))))
      (pss_cons (ps_if (pt_cmpR op_gt (pv 4) pe_int (nomark _)) (pss_one (ps_expr (pe_bm PySem.F.plainAttrs_list PySem.F.slot_list_append PySem.F.type_list_append mt_append (pv 1) (pa_cons (pe_tup (pa_cons (pv 3) (pa_cons (pv 4) pa_nil))) pa_nil)))) pss_nil)
      (pss_one (ps_aug (i := 3) sc_parted.nd rfl (.inl rfl) pe_int ip_add))))))
      (pss_cons (ps_if (pt_cmpR op_gt (pv 2) pe_int (nomark _)) (pss_one (ps_expr (pe_bm PySem.F.plainAttrs_list PySem.F.slot_list_append PySem.F.type_list_append mt_append (pv 1) (pa_cons (pe_tup (pa_cons (pv 2) (pa_cons pe_int pa_nil))) pa_nil)))) pss_nil)
      (pss_one (ps_ret (pv 1)))))))), ?_⟩
    refine q_asgL (xs := []) (el_lst ea_nil (by decide)) fun a H1 ha e1 h1 => ?_
    refine q_asg (v := .int n) (by one_place) fun H2 e2 => ?_
    refine q_asg (v := .int 2) (by one_place) fun H3 e3 => ?_
    refine q_while (fun m σ' H' => ∃ (p l : Int) (rows : List (Int × Int)) (xs : List V) (x : Option V), σ' = [some (.int n), some (.ref a), some (.int l), some (.int p), x] ∧ 2 ≤ p ∧ p ≤ 40000 ∧ 0 < l ∧ l ≤ n ∧ l < p + m ∧
      pLoop m p l rows = pLoop n.toNat 2 n [] ∧ Ex H H' ∧ H' a = some (.lst xs) ∧ Prs K H' xs rows ∧ (rows.length : Int) + 2 ≤ p) n.toNat
      ⟨2, n, [], [], none, rfl, by omega, by omega, by omega, by omega, by omega, rfl, (e1.trans e2).trans e3, e3 _ _ (e2 _ _ h1), .nil, by decide⟩ fun m σ' H' hW => ?_
    obtain ⟨p, l, rows, xs, x, rfl, p1, p2, l1, l2, lm, eL, e4, h4, pr, hlen⟩ := hW
    refine ⟨decide (p * p ≤ l), by one_place, fun hb H5 e5 => ?_, fun hb H5 e5 => ?_⟩
    · have hpp := of_decide_eq_true hb
      have hp3 := sq_le hpp (by omega)
      cases m with
      | zero =>
        have : 2 * p ≤ p * p := Int.mul_le_mul_of_nonneg_right p1 (by omega)
        omega
      | succ m =>
        rw [pLoop_go hpp] at eL
        refine ⟨_, fun σ2 H2 hN => ⟨m, Nat.lt_succ_self m, hN⟩, ?_⟩
        refine q_asg (v := .int 0) (by one_place) fun H6 e6 => ?_
        refine q_while (fun k σ' H' => ∃ u t : Int, σ' = [some (.int n), some (.ref a), some (.int u), some (.int p), some (.int t)] ∧ 0 < u ∧ u ≤ l ∧ u < 2 ^ k ∧ strip p k u t = strip p 64 l 0 ∧ Ex H6 H') 64
          ⟨l, 0, rfl, l1, Int.le_refl _, by omega, rfl, Ex.refl _⟩ fun k σ' H' hW => ?_
        obtain ⟨u, t, rfl, u1, u2, uk, eS, e7⟩ := hW
        refine ⟨decide (u % p = 0), by one_place, fun hb H8 e8 => ?_, fun hb H8 e8 => ?_⟩
        · have hd := of_decide_eq_true hb
          cases k with
          | zero =>
            rw [Int.pow_zero] at uk
            omega
          | succ k =>
            obtain ⟨v1, v2, v3⟩ := half_lt p1 u1 uk hd
            rw [strip_go hd] at eS
            refine ⟨_, fun σ2 H2 hN => ⟨k, Nat.lt_succ_self k, hN⟩, ?_⟩
            refine ⟨.int u, rfl, .int p, rfl, u, p, rfl, rfl, divW (by omega) (by omega), ?_⟩
            refine s_aug (a := t) (b := 1) rfl (by one_place) fun H10 e10 => ?_
            exact ⟨u / p, t + 1, rfl, v1, by omega, v2, eS, (e7.trans e8).trans e10⟩
        · have hd := of_decide_eq_false hb
          rw [strip_stop hd] at eS
          rw [← eS] at eL
          have h8 := e8 _ _ (e7 _ _ (e6 _ _ (e5 _ _ h4)))
          have e68 := e6.trans (e7.trans e8)
          have pr8 := pr.mono (e5.trans e68)
          refine q_when (b := decide (0 < t)) (by one_place) (fun hb H9 e9 => ?_) (fun hb H9 e9 => ?_)
          · have ht := of_decide_eq_true hb
            rw [if_pos ht] at eL
            refine s_appU (ys := [.int p, .int t]) (e9 _ _ h8) (by one_place) (eu_tup (by one_place) (by show 2 ≤ 100000; decide)) (by rw [Paired.length pr]; omega) fun tp H10 htp e10 h10 => ?_
            have h10a := e10 _ _ (e9 _ _ h8)
            refine s_aug (a := p) (b := 1) rfl (by one_place) fun H11 e11 => ?_
            refine ⟨p + 1, u, rows ++ [(p, t)], xs ++ [.ref tp], _, rfl, by omega, by omega, u1, by omega, by omega, eL, ?_, e11 _ _ upd_same, ?_, ?_⟩
            · exact (Ex.mut (((e4.trans e5).trans e68).trans (e9.trans e10)) ha).trans e11
            · exact (((pr8.mono (e9.trans e10)).upd h10a).snoc (sqt_upd h10a (SqT.of h10))).mono e11
            · rw [List.length_append, List.length_singleton]
              omega
          · have ht := of_decide_eq_false hb
            rw [if_neg ht] at eL
            refine s_aug (a := p) (b := 1) rfl (by one_place) fun H11 e11 => ?_
            exact ⟨p + 1, u, rows, xs, _, rfl, by omega, by omega, u1, by omega, by omega, eL, ((e4.trans e5).trans e68).trans (e9.trans e11), e11 _ _ (e9 _ _ h8), pr8.mono (e9.trans e11), by omega⟩
    · have hpp := of_decide_eq_false hb
      rw [pLoop_stop hpp] at eL
      refine q_when (b := decide (1 < l)) (by one_place) (fun hb H6 e6 => ?_) (fun hb H6 e6 => ?_)
      · have hl := of_decide_eq_true hb
        refine s_appU (ys := [.int l, .int 1]) (e6 _ _ (e5 _ _ h4)) (by one_place) (eu_tup (by one_place) (by show 2 ≤ 100000; decide)) (by rw [Paired.length pr]; omega) fun tp H10 htp e10 h10 => ?_
        have h10a := e10 _ _ (e6 _ _ (e5 _ _ h4))
        show tRet (tVar 1) _ _ _
        refine s_ret (v := .ref a) (by one_place) fun H11 e11 => ?_
        refine q a (xs ++ [.ref tp]) H11 ha ((Ex.mut (((e4.trans e5).trans e6).trans e10) ha).trans e11) (e11 _ _ upd_same) ?_
        unfold partedF
        rw [← eL, if_pos hl]
        exact (((pr.mono ((e5.trans e6).trans e10)).upd h10a).snoc (sqt_upd h10a (SqT.of h10))).mono e11
      · have hl := of_decide_eq_false hb
        refine s_ret (v := .ref a) (by one_place) fun H11 e11 => ?_
        refine q a xs H11 ha (((e4.trans e5).trans e6).trans e11) (e11 _ _ (e6 _ _ (e5 _ _ h4))) ?_
        unfold partedF
        rw [← eL, if_neg hl]
        exact pr.mono ((e5.trans e6).trans e11)
end

/-! ### wheels and the ground, of the program -/
/- powers_of: slots 0 n, 1 rows, 2 p, 3 _, 4 high; calls parted -/
abbrev s_powers_of : Stmt := topS 7
theorem sc_powers_of : FnScope ["n", "rows", "p", "_", "high"] ["n"] (defScope s_powers_of) := ⟨rfl, rfl, rfl, by decide +kernel, rfl, by decide +kernel, by decide +kernel⟩

def spPow (K : PySem.W.Frag) : Sp := fun vs H Q _ => ∃ n : Int, vs = [.int n] ∧ 1 ≤ n ∧ n ≤ 61 ∧ RetT K (pwF n) H Q
section
variable {P : Program} {w : World} {K : PySem.W.Frag} {mg : Str → Option Value} {base : Heap}
theorem cal_powers (nb : Nb mg) (c_parted : Cal P w K mg base CX0 "parted" 1 ["n"] (spParted K)) (d : Dfn K mg "powers_of" ["n"] s_powers_of) : Cal P w K mg base CX0 "powers_of" 2 ["n"] (spPow K) := by
  refine d.cal sc_powers_of (fun vs H Q E h => ?_) (fun fa cdv A outer s H vs Q E hr h => ?_)
  · obtain ⟨n, rfl, _⟩ := h
    rfl
  · obtain ⟨n, rfl, n1, n2, q⟩ := h
    have N := nok n1 n2
    refine ⟨_, (pss_cons (ps_set (i := 1) sc_powers_of.nd rfl (.inl rfl) (pe_lst pa_nil))
      (pss_cons (ps_for PassesOwn.never rfl (pi_list (pe_cal c_parted (hr.mono (by first | decide | omega)) (by rfl) pass0 (pa_cons (pv 0) pa_nil))) (pg_tup (by rfl) (pgs_cons (pg_name (i := 2) sc_powers_of.nd rfl (.inl rfl)) (pgs_cons (pg_name (i := 3) sc_powers_of.nd rfl (.inl rfl)) pgs_nil))) (pss_cons (ps_set (i := 4) sc_powers_of.nd rfl (.inl rfl) (pv 2))
      (pss_cons (ps_while PassesOwn.never (pt_cmpR op_eq (pe_op op_mod (pv 0) (pe_op op_mulW (pv 4) (pv 2))) pe_int (nomark _)) (pss_one (ps_aug (i := 4) sc_powers_of.nd rfl (.inl rfl) (pv 2) (pip_of iop_mul))))
      (pss_one (ps_expr (pe_bm PySem.F.plainAttrs_list PySem.F.slot_list_append PySem.F.type_list_append mt_append (pv 1) (pa_cons (pe_tup (pa_cons (pv 2) (pa_cons (pv 4) (pa_cons (pe_op op_fdivW (pv 4) (pv 2)) pa_nil)))) pa_nil)))))))
      (pss_one (ps_ret (pv 1))))), ?_⟩
    refine q_asgL (xs := []) (el_lst ea_nil (by decide)) fun T H1 nT e1 h1 => ?_
    have pl : (pwF n).length = (partedF n).length := by unfold pwF; rw [List.length_map]
    refine q_forP2 (rows := partedF n) (ep_cal (by one_place) fun H3 e3 Q k E => ⟨n, rfl, by omega, by omega, k⟩) (fun p ps i σ' H' => ∃ (xs : List V) (x y z : Option V), σ' = [some (.int n), some (.ref T), x, y, z] ∧ Ex H H' ∧ H' T = some (.lst xs) ∧ T ≠ p ∧ SqL K H' p ps ∧ Prs K H' ps (partedF n) ∧ Trs K H' xs ((pwF n).take i))
      (fun p ps H2 np e2 hp R => ⟨[], none, none, none, rfl, e1.trans e2, e2 _ _ h1, ne_of_none h1 np, SqL.of hp, R, .nil⟩) (fun p ps i σ' H' hp => ?_) (fun p ps i r σ' H' hr hp => ?_) (fun p ps σ' H' hp => ?_)
    · obtain ⟨_, _, _, _, _, _, _, _, a, b, _⟩ := hp
      exact ⟨a, b⟩
    · obtain ⟨xs, x, y, z, rfl, e2, h2, nTp, hp, R, S⟩ := hp
      have hpw : (pwF n)[i]? = some (r.1, hiF n r.1 n.toNat r.1, hiF n r.1 n.toNat r.1 / r.1) := by
        unfold pwF
        rw [List.getElem?_map, hr]
        rfl
      obtain ⟨b1, b2, b3, b4, b5, b6, b7⟩ := N.pw _ (List.mem_of_getElem? hpw)
      generalize hgh : hiF n r.1 n.toNat r.1 = hg at *
      have b1 : 1 ≤ hg := b1
      have b2 : hg ≤ 61 := b2
      have b3 : 2 ≤ r.1 := b3
      have b5 : r.1 ≤ 61 := b5
      refine q_asg (v := .int r.1) (by one_place) fun H3 e3 => ?_
      refine q_while (fun m σ' H' => ∃ (h : Int) (k : Nat), σ' = [some (.int n), some (.ref T), some (.int r.1), some (.int r.2), some (.int h)] ∧ 1 ≤ h ∧ h ≤ 61 ∧ n - h ≤ m ∧ m ≤ k ∧ hiF n r.1 k h = hg ∧ Ex H3 H') n.toNat
        ⟨r.1, n.toNat, rfl, by omega, b5, by omega, Nat.le_refl _, hgh, Ex.refl _⟩ fun m σ' H' hW => ?_
      obtain ⟨h, k, rfl, h1', h2', hm, hk, eh, e4⟩ := hW
      have hp0 : 0 < h * r.1 := Int.mul_pos (by omega) (by omega)
      have hp1 : 2 * h ≤ h * r.1 := by
        have := Int.mul_le_mul_of_nonneg_left b3 (show 0 ≤ h by omega)
        omega
      refine ⟨decide (n % (h * r.1) = 0), et_test (ev_eqI (ev_mod (ev_var rfl) (ev_mul (ev_var rfl) (ev_var rfl) (mulW (by omega) (by omega))) hp0) ev_c), fun hb H5 e5 => ?_, fun hb H5 e5 => ?_⟩
      · have hb := of_decide_eq_true hb
        have hle : h * r.1 ≤ n := Int.le_of_dvd (by omega) (Int.dvd_of_emod_eq_zero hb)
        cases k with
        | zero => omega
        | succ k =>
          rw [hiF, if_pos hb] at eh
          refine ⟨_, fun σ2 H2 hN => ⟨m - 1, by omega, hN⟩, ?_⟩
          refine ⟨.int h, rfl, .int r.1, rfl, h, r.1, rfl, rfl, .inl ⟨by omega, by omega⟩, ?_⟩
          exact ⟨h * r.1, k, rfl, by omega, by omega, by omega, by omega, eh, e4.trans e5⟩
      · have hb := of_decide_eq_false hb
        have : h = hg := by
          rw [← eh]
          cases k with
          | zero => rfl
          | succ k => rw [hiF, if_neg hb]
        subst this
        have e35 : Ex H' H' := Ex.refl _
        have h5 := e5 _ _ (e4 _ _ (e3 _ _ h2))
        have e25 := e3.trans (e4.trans e5)
        have p4 : (partedF n).length ≤ 4 := by rw [← N.same]; exact N.len
        have hx4 : xs.length < 100000 := by rw [Paired.length S, List.length_take]; omega
        refine s_appU (ys := [.int r.1, .int h, .int (h / r.1)]) h5 (by one_place) (eu_tup (ea_cons (by one_place) (ea_cons (by one_place) (ea_cons (ev_div (ev_var rfl) (ev_var rfl) (divW (by omega) (by omega))) ea_nil))) (by show 3 ≤ 100000; decide)) hx4 fun tp H6 ntp e6 h6 => ?_
        have h6a := e6 _ _ h5
        refine ⟨xs ++ [.ref tp], _, _, _, rfl, Ex.mut (e2.trans (e25.trans e6)) nT, upd_same, nTp, ?_, ?_, ?_⟩
        · exact sql_upd nTp.symm (ex_l (e25.trans e6) hp)
        · exact (R.mono (e25.trans e6)).upd h6a
        · have et : (pwF n).take (i + 1) = (pwF n).take i ++ [(r.1, h, h / r.1)] := by rw [List.take_add_one, hpw]; rfl
          rw [et]
          exact ((S.mono (e25.trans e6)).upd h6a).snoc (sqt_upd h6a (SqT.of h6))
    · obtain ⟨xs, x, y, z, rfl, e2, h2, _, _, _, S⟩ := hp
      rw [← pl, List.take_length] at S
      exact s_ret (v := .ref T) (by one_place) fun H5 e5 => q T xs H5 nT (e2.trans e5) (e5 _ _ h2) (S.mono e5)
end

def spCome (K : PySem.W.Frag) : Sp := fun vs H Q _ => ∃ (n : Nat) (a : Addr) (xs : List V) (rows : List I3), vs = [.int (n : Nat), .ref a] ∧ n ≤ 400 ∧ SqL K H a xs ∧ Trs K H xs rows ∧ (∀ r ∈ rows, Whl n r) ∧ RetL ((cmS n rows).map V.int) H Q

/- come_to: slots 0 n, 1 wheels, 2 total, 3 p, 4 j, 5 c, 6 place; calls  -/
abbrev s_come_to : Stmt := topS 9
theorem sc_come_to : FnScope ["n", "wheels", "total", "p", "j", "c", "place"] ["n", "wheels"] (defScope s_come_to) := ⟨rfl, rfl, rfl, by decide +kernel, rfl, by decide +kernel, by decide +kernel⟩

section
variable {P : Program} {w : World} {K : PySem.W.Frag} {mg : Str → Option Value} {base : Heap}
theorem cal_come (nb : Nb mg) (d : Dfn K mg "come_to" ["n", "wheels"] s_come_to) : Cal P w K mg base CX0 "come_to" 1 ["n", "wheels"] (spCome K) := by
  refine d.cal sc_come_to (fun vs H Q E h => ?_) (fun fa cdv A outer s H vs Q E hr h => ?_)
  · obtain ⟨n, a, xs, rows, rfl, _⟩ := h
    rfl
  · obtain ⟨n, a, xs, rows, rfl, n2, hA, hR, hW, q⟩ := h
    refine ⟨_, (pss_cons (ps_set (i := 2) sc_come_to.nd rfl (.inl rfl) (pe_op op_rep (pe_lst (pa_cons pe_int pa_nil)) (pv 0)))
      (pss_cons (ps_for PassesOwn.never rfl (pi_list (pv 1)) (pg_tup (by rfl) (pgs_cons (pg_name (i := 3) sc_come_to.nd rfl (.inl rfl)) (pgs_cons (pg_name (i := 4) sc_come_to.nd rfl (.inl rfl)) (pgs_cons (pg_name (i := 5) sc_come_to.nd rfl (.inl rfl)) pgs_nil)))) (pss_one (ps_for PassesOwn.never rfl (pi_range3 (by rfl) nb.range (pa_cons (pv 4) (pa_cons (pv 0) (pa_cons (pe_op op_fdivW (pv 0) (pv 3)) pa_nil)))) (pg_name (i := 6) sc_come_to.nd rfl (.inl rfl)) (pss_one (ps_augS (pv 2) (pv 6) get_list (pv 5) ip_add set_list)))))
      (pss_one (ps_ret (pv 2))))), ?_⟩
    refine q_asgL (xs := (List.replicate n (0 : Int)).map V.int) (el_is (el_rep (k := (n : Int)) (el_lst (by one_place) (by decide)) (by one_place) (by omega) (by omega)) (by rw [List.map_replicate, Int.toNat_natCast])) fun t H1 nt e1 h1 => ?_
    refine q_forT3 (xs := xs) (rows := rows) (by one_place) (fun i σ' H' => ∃ (T : List Int) (x1 x2 x3 x4 : Option V), σ' = [some (.int (n : Nat)), some (.ref a), some (.ref t), x1, x2, x3, x4] ∧ Ex H H' ∧ H' t = some (.lst (T.map V.int)) ∧ T.length = n ∧ ∀ m, m < n → coef T m = cmAt n (rows.take i) m)
      (fun H3 e3 => ⟨_, none, none, none, none, rfl, e1.trans e3, e3 _ _ h1, List.length_replicate, fun m _ => by rw [coef_rep, List.take_zero]; rfl⟩) (fun i σ' H' hp => ?_) (fun i r σ' H' hr hp => ?_) (fun σ' H' hp => ?_)
    · obtain ⟨_, _, _, _, _, _, e, _⟩ := hp
      exact ⟨ex_l e hA, hR.mono e⟩
    · obtain ⟨T, x1, x2, x3, x4, rfl, e2, h2, lT, cT⟩ := hp
      have W := hW r (List.mem_of_getElem? hr)
      have w1 := W.step
      have w2 := W.mul
      have w3 := W.two
      have w4 := W.lo
      have w5 := W.hi
      have hs : (n : Int) / r.1 ≤ n := by
        have := Int.mul_le_mul_of_nonneg_left (show 1 ≤ r.1 by omega) (show 0 ≤ (n : Int) / r.1 by omega)
        omega
      have hp : r.1 ≤ n := by
        have := Int.mul_le_mul_of_nonneg_right w1 (show 0 ≤ r.1 by omega)
        omega
      refine s_forR3 (j := r.2.1) (n := (n : Int)) (s := (n : Int) / r.1) (m := r.1.toNat) (ea_cons (ev_var rfl) (ea_cons (ev_var rfl) (ea_cons (ev_div (ev_var rfl) (ev_var rfl) (divW (by omega) (by omega))) ea_nil))) (rgC_up w4 w5 w2 (by omega) (by omega)) (fun k σ' H' => ∃ (T : List Int) (x4 : Option V), σ' = [some (.int (n : Nat)), some (.ref a), some (.ref t), some (.int r.1), some (.int r.2.1), some (.int r.2.2), x4] ∧ Ex H H' ∧ H' t = some (.lst (T.map V.int)) ∧ T.length = n ∧ ∀ m, m < n → coef T m = cmAt n (rows.take i) m + whK n r k m)
        (fun H3 e3 => ⟨T, _, rfl, e2.trans e3, e3 _ _ h2, lT, fun m hm => by rw [cT m hm, whK_zero W]; omega⟩) (fun k σ' H' hk hp => ?_) (fun σ' H' hp => ?_)
      · obtain ⟨T, x4, rfl, e3, h3, lT, cT⟩ := hp
        have hat := whl_at W (k := k) (by omega)
        have epos : r.2.1 + (k : Int) * ((n : Int) / r.1) = (((r.2.1 + (k : Int) * ((n : Int) / r.1)).toNat : Nat) : Int) := by omega
        have hstep := fun m => whK_step W (k := k) (m := m) epos.symm
        generalize (r.2.1 + (k : Int) * ((n : Int) / r.1)).toNat = pos at *
        rw [epos]
        refine s_augL (j := pos) (a := coef T pos) (b := r.2.2) h3 (by one_place) (by one_place) (coef_get (by omega)) (by one_place) fun H4 e4 => ⟨_, _, rfl, Ex.mut (e3.trans e4) nt, upd_same, by rw [List.length_set]; exact lT, fun m hm => ?_⟩
        rw [coef_set (by omega), cT m hm, cT pos (by omega), hstep]
        by_cases e : m = pos
        · rw [if_pos e, if_pos e, e]
          omega
        · rw [if_neg e, if_neg e]
          omega
      · obtain ⟨T, x4, rfl, e3, h3, lT, cT⟩ := hp
        refine ⟨T, _, _, _, _, rfl, e3, h3, lT, fun m hm => ?_⟩
        have et : rows.take (i + 1) = rows.take i ++ [r] := by rw [List.take_add_one, hr]; rfl
        rw [cT m hm, whK_all W (m := m) (by omega), et, cmAt_snoc]
    · obtain ⟨T, x1, x2, x3, x4, rfl, e2, h2, lT, cT⟩ := hp
      rw [List.take_length] at cT
      have eT : T = cmS n rows := mkL_of lT cT
      exact s_ret (v := .ref t) (by one_place) fun H5 e5 => q.go (Ex.refl H) nt (e2.trans e5) (by rw [← eT]; exact e5 _ _ h2)
end


/- ground: slots 0 n, 1 rows, 2 j, 3 _, 4 high, 5 low; calls powers_of -/
abbrev s_ground : Stmt := topS 8
theorem sc_ground : FnScope ["n", "rows", "j", "_", "high", "low"] ["n"] (defScope s_ground) := ⟨rfl, rfl, rfl, by decide +kernel, rfl, by decide +kernel, by decide +kernel⟩

def groundF (n : Nat) : List Int := ((List.range n).filter fun j => gP n j).map fun j : Nat => (j : Int)
def spGround : Sp := fun vs H Q _ => ∃ n : Nat, vs = [.int (n : Nat)] ∧ 1 ≤ n ∧ n ≤ 61 ∧ RetL ((groundF n).map V.int) H Q
section
variable {P : Program} {w : World} {K : PySem.W.Frag} {mg : Str → Option Value} {base : Heap}
theorem cal_ground (nb : Nb mg) (c_powers_of : Cal P w K mg base CX0 "powers_of" 2 ["n"] (spPow K)) (d : Dfn K mg "ground" ["n"] s_ground) : Cal P w K mg base CX0 "ground" 3 ["n"] spGround := by
  refine d.cal sc_ground (fun vs H Q E h => ?_) (fun fa cdv A outer s H vs Q E hr h => ?_)
  · obtain ⟨n, rfl, _⟩ := h
    rfl
  · obtain ⟨n, rfl, n1, n2, q⟩ := h
    have N := nok (n := (n : Int)) (by omega) (by omega)
    refine ⟨_, (pss_cons (ps_set (i := 1) sc_ground.nd rfl (.inr rfl) (pe_cal c_powers_of (hr.mono (by first | decide | omega)) (by rfl) pass0 (pa_cons (pv 0) pa_nil)))
      (pss_one (ps_ret (pe_lc (own := [("j", 2)]) (g := gName 2) (tt := (tB (tCB (rAll K) (tCons (tLc (iList K (tVar 1)) (gTup K 3 (gCons (gName 3) (gCons (gName 4) (gCons (gName 5) gNil)))) tYes (tOp (rI0 fun i j => .bl (decide (i < j))) (tOp (rI (fun _ j => 0 < j) fun i j => .int (i % j)) (tVar 2) (tVar 4)) (tOp (rI0 fun i j => .int (i - j)) (tVar 4) (tVar 5))) [3, 4, 5]) tNil)))) (by rfl) sc_ground.nd (pi_range1 (by rfl) nb.range (pa_cons (pv 0) pa_nil)) (blkOk_by (N := ["n", "rows", "j", "_", "high", "low"]) (sc := defScope s_ground) (by decide +kernel)) (fun _ _ _ _ _ => (pg_name (i := 2) sc_ground.nd rfl (Or.inr rfl))) (fun _ _ _ _ _ => pts_one (pt_val (pe_callB (cr_all (by rfl)) (by rfl) nb.all (by decide +kernel) (pa_cons (pe_lc (own := [("_", 3), ("high", 4), ("low", 5)]) (g := gTup K 3 (gCons (gName 3) (gCons (gName 4) (gCons (gName 5) gNil)))) (tt := tYes) (by rfl) sc_ground.nd (pi_list (pv 1)) (blkOk_by (N := ["n", "rows", "j", "_", "high", "low"]) (sc := { kind := PySem.ScopeKind.function, names := [(".0", PySem.NameKind.local), ("j", PySem.NameKind.cell), ("all", PySem.NameKind.globalImplicit), ("rows", PySem.NameKind.cell)], isGenerator := false, isCoroutine := false }) (by decide +kernel)) (fun _ _ _ _ _ => (pg_tup (by rfl) (pgs_cons (pg_name (i := 3) sc_ground.nd rfl (Or.inl rfl)) (pgs_cons (pg_name (i := 4) sc_ground.nd rfl (Or.inl rfl)) (pgs_cons (pg_name (i := 5) sc_ground.nd rfl (Or.inl rfl)) pgs_nil))))) (fun _ _ _ _ _ => pts_nil) (fun _ _ _ _ _ => (pe_cmpR op_lt (pe_op op_mod (pv 2) (pv 4)) (pe_op op_sub (pv 4) (pv 5)) (nomark _)))) pa_nil)))) (fun _ _ _ _ _ => (pv 2)))))), ?_⟩
    refine q_asgT3 (rows := pwF n) (et3_cal (by one_place) fun H3 e3 Q k E => ⟨n, rfl, by omega, by omega, k⟩) fun p xs H1 np e1 hp R => ?_
    refine s_retL (xs := (groundF n).map V.int) (el_is (el_lcR1 (n := (n : Int)) (fun j => gP n j) (fun j => .int (j : Nat)) (by one_place) (by omega) (fun _ => rfl) (fun i H2 e2 hi => ?_) (fun i H2 e2 hi hf => ev_var rfl)) ?_) fun p H5 np e5 hp => q.go e1 np e5 hp
    · refine et_is (et_B (ev_all (bs := (pwF n).map fun r => decide ((i : Int) % r.2.1 < r.2.1 - r.2.2)) (el_is (el_lcT3 (rows := pwF n) (fun r => .bl (decide ((i : Int) % r.2.1 < r.2.1 - r.2.2))) (ev_var rfl) (SqL.of (e2 _ _ hp)) (R.mono e2) (by unfold pwF; rw [List.length_map, ← N.same]; have := N.len; omega) (fun _ _ _ => rfl) fun r H3 e3 hr => ?_) (by rw [List.map_map]; rfl)))) ?_
      · have := (N.pw r hr).1
        exact ev_lt (ev_mod (ev_var rfl) (ev_var rfl) (by omega)) (ev_sub (ev_var rfl) (ev_var rfl))
      · unfold gP
        rw [List.all_map]
        rfl
    · unfold given groundF
      rw [Int.toNat_natCast, List.map_map]
      rfl
end

/-! ### all_noughts, nought, same -/
def allZ (f : List Int) : Bool := f.all fun x => decide (x = 0)
/- all_noughts: slots 0 numbers, 1 number; calls  -/
abbrev s_all_noughts : Stmt := topS 10
theorem sc_all_noughts : FnScope ["numbers", "number"] ["numbers"] (defScope s_all_noughts) := ⟨rfl, rfl, rfl, by decide +kernel, rfl, by decide +kernel, by decide +kernel⟩

def spAllZ (K : PySem.W.Frag) : Sp := fun vs H Q _ => ∃ (a : Addr) (f : List Int), vs = [.ref a] ∧ SqL K H a (f.map V.int) ∧ f.length ≤ 40000 ∧ RetV (.bl (allZ f)) H Q
section
variable {P : Program} {w : World} {K : PySem.W.Frag} {mg : Str → Option Value} {base : Heap}
theorem cal_allz (nb : Nb mg) (d : Dfn K mg "all_noughts" ["numbers"] s_all_noughts) : Cal P w K mg base CX0 "all_noughts" 1 ["numbers"] (spAllZ K) := by
  refine d.cal sc_all_noughts (fun vs H Q E h => ?_) (fun fa cdv A outer s H vs Q E hr h => ?_)
  · obtain ⟨a, f, rfl, _⟩ := h
    rfl
  · obtain ⟨a, f, rfl, hA, hz, q⟩ := h
    refine ⟨_, (pss_one (ps_ret (pe_callB (cr_all (by rfl)) (by rfl) nb.all (by decide +kernel) (pa_cons (pe_lc (own := [("number", 1)]) (g := gName 1) (tt := tYes) (by rfl) sc_all_noughts.nd (pi_list (pv 0)) (blkOk_by (N := ["numbers", "number"]) (sc := defScope s_all_noughts) (by decide +kernel)) (fun _ _ _ _ _ => (pg_name (i := 1) sc_all_noughts.nd rfl (Or.inl rfl))) (fun _ _ _ _ _ => pts_nil) (fun _ _ _ _ _ => (pe_cmpR op_eq (pv 1) pe_int (nomark _)))) pa_nil)))), ?_⟩
    have e : ((f.map fun x => decide (x = 0)).all id) = allZ f := by
      unfold allZ
      rw [List.all_map]
      rfl
    refine s_ret (v := .bl (allZ f)) (ev_is (ev_all (bs := f.map fun x => decide (x = 0)) (el_is (el_lcI (ns := f) (fun _ => true) (fun x => .bl (decide (x = 0))) (ev_var rfl) hA hz (fun _ => rfl) (fun r H1 e1 hr => et_yes) fun r H1 e1 hr _ => ev_eqI (ev_var rfl) ev_c) (by rw [List.filter_eq_self.mpr (fun _ _ => rfl), List.map_map]; rfl))) (by rw [e])) fun H1 e1 => q _ e1
end
section
variable {P : Program} {w : World} {K : PySem.W.Frag} {mg : Str → Option Value} {base : Heap}
end


/- sum_plus: slots 0 one, 1 other, 2 a, 3 b; calls  -/
abbrev s_sum_plus : Stmt := topS 6
theorem sc_sum_plus : FnScope ["one", "other", "a", "b"] ["one", "other"] (defScope s_sum_plus) := ⟨rfl, rfl, rfl, by decide +kernel, rfl, by decide +kernel, by decide +kernel⟩

def spSPlus (K : PySem.W.Frag) : Sp := fun vs H Q _ => ∃ (a b : Addr) (f g : List Int), vs = [.ref a, .ref b] ∧ SqL K H a (f.map V.int) ∧ SqL K H b (g.map V.int) ∧ f.length = g.length ∧ f.length ≤ 40000 ∧ RetL ((addS f g).map V.int) H Q
section
variable {P : Program} {w : World} {K : PySem.W.Frag} {mg : Str → Option Value} {base : Heap}
theorem cal_splus (nb : Nb mg) (d : Dfn K mg "sum_plus" ["one", "other"] s_sum_plus) : Cal P w K mg base CX0 "sum_plus" 1 ["one", "other"] (spSPlus K) := by
  refine d.cal sc_sum_plus (fun vs H Q E h => ?_) (fun fa cdv A outer s H vs Q E hr h => ?_)
  · obtain ⟨a, b, f, g, rfl, _⟩ := h
    rfl
  · obtain ⟨a, b, f, g, rfl, hF, hG, hl, hz, q⟩ := h
    refine ⟨_, (pss_one (ps_ret (pe_lc (own := [("a", 2), ("b", 3)]) (g := gTup K 2 (gCons (gName 2) (gCons (gName 3) gNil))) (tt := tYes) (by rfl) sc_sum_plus.nd (pi_zip (by rfl) nb.zip (pa_cons (pv 0) (pa_cons (pv 1) pa_nil))) (blkOk_by (N := ["one", "other", "a", "b"]) (sc := defScope s_sum_plus) (by decide +kernel)) (fun _ _ _ _ _ => (pg_tup (by rfl) (pgs_cons (pg_name (i := 2) sc_sum_plus.nd rfl (Or.inl rfl)) (pgs_cons (pg_name (i := 3) sc_sum_plus.nd rfl (Or.inl rfl)) pgs_nil)))) (fun _ _ _ _ _ => pts_nil) (fun _ _ _ _ _ => (pe_op op_add (pv 2) (pv 3)))))), ?_⟩
    exact s_retL (xs := (addS f g).map V.int) (el_is (el_lcZ (ns := f) (ms := g) (fun x y => .int (x + y)) (az_vv (ev_var rfl) (ev_var rfl) hF hG) hl hz (fun _ _ => rfl) fun x y H1 e1 _ _ => by one_place) (zip_add f g)) fun p H1 np e1 hp => q p H1 np e1 hp
end

/- _law_mix: slots 0 _law_cell, 1 _law_k, 2 _law_turn, 3 _law_number; calls  -/
abbrev s__law_mix : Stmt := topS 17
theorem sc__law_mix : FnScope ["_law_cell", "_law_k", "_law_turn", "_law_number"] ["_law_cell", "_law_k"] (defScope s__law_mix) := ⟨rfl, rfl, rfl, by decide +kernel, rfl, by decide +kernel, by decide +kernel⟩

/-- the law's own mixing of a cell -/
def divs : Nat → Int → Int
  | 0, c => c
  | n + 1, c => divs n c / 1000000
def mix0 (c k : Int) : Int := (c % 1000003 + k * k * 7919 + k) * 48271 % 2147483629
def mix1 (c k : Int) : Int := mix0 c k * mix0 c k % 2147483587
def mix (c k : Int) : Int := if 1000000000000000000 ≤ c then divs k.toNat (c % (1000000000000000000000000000000000000000000000000000000000000 : Int) ^ 20) % 1000000 else mix1 c k * (mix1 c k + 2) % 2147483579 / 7
theorem mix_nn (c k : Int) : 0 ≤ mix c k := by
  unfold mix
  split
  · omega
  · omega
theorem mix_le (c k : Int) : mix c k ≤ 306783369 := by
  unfold mix
  split
  · omega
  · omega
def spMix : Sp := fun vs H Q _ => ∃ c k : Int, vs = [.int c, .int k] ∧ 0 ≤ k ∧ k ≤ 100 ∧ RetV (.int (mix c k)) H Q
section
variable {P : Program} {w : World} {K : PySem.W.Frag} {mg : Str → Option Value} {base : Heap}
theorem cal_mix (nb : Nb mg) (d : Dfn K mg "_law_mix" ["_law_cell", "_law_k"] s__law_mix) : Cal P w K mg base CX0 "_law_mix" 1 ["_law_cell", "_law_k"] spMix := by
  refine d.cal sc__law_mix (fun vs H Q E h => ?_) (fun f cdv A outer s H vs Q E hr h => ?_)
  · obtain ⟨c, k, rfl, _⟩ := h
    rfl
  · obtain ⟨c, k, rfl, h0, h1, q⟩ := h
    refine ⟨_, (pss_cons (ps_if (pt_cmpR op_ge (pv 0) (pe_op op_powW pe_int pe_int) (nomark _)) (pss_cons (ps_set (i := 0) sc__law_mix.nd rfl (.inl rfl) (pe_op op_mod (pv 0) (pe_op op_powW (pe_op op_powW pe_int pe_int) pe_int)))
      (pss_cons (ps_for PassesOwn.never rfl (pi_range1 (by rfl) nb.range (pa_cons (pv 1) pa_nil)) (pg_name (i := 2) sc__law_mix.nd rfl (.inl rfl)) (pss_one (ps_set (i := 0) sc__law_mix.nd rfl (.inl rfl) (pe_op op_fdivW (pv 0) (pe_op op_powW pe_int pe_int)))))
      (pss_one (ps_ret (pe_op op_mod (pv 0) (pe_op op_powW pe_int pe_int)))))) pss_nil)
      (pss_cons (ps_set (i := 3) sc__law_mix.nd rfl (.inl rfl) (pe_op op_mod (pe_op op_mulW (pe_op op_add (pe_op op_add (pe_op op_mod (pv 0) pe_int) (pe_op op_mulW (pe_op op_mulW (pv 1) (pv 1)) pe_int)) (pv 1)) pe_int) pe_int))
      (pss_cons (ps_set (i := 3) sc__law_mix.nd rfl (.inl rfl) (pe_op op_mod (pe_op op_mulW (pv 3) (pv 3)) pe_int))
      (pss_one (ps_ret (pe_op op_fdivW (pe_op op_mod (pe_op op_mulW (pv 3) (pe_op op_add (pv 3) pe_int)) pe_int) pe_int)))))), ?_⟩
    refine q_when (b := decide (1000000000000000000 ≤ c)) (by one_place) (fun hb H1 e1 => ?_) (fun hb H1 e1 => ?_)
    · refine q_asg (v := .int (c % (1000000000000000000000000000000000000000000000000000000000000 : Int) ^ 20)) (ev_mod (by one_place) (ev_pow (i := 1000000000000000000000000000000000000000000000000000000000000) (ev_pow (i := 10) (by one_place) (by one_place) ⟨by decide, by decide +kernel⟩ (by rfl)) (by one_place) ⟨by decide, by decide +kernel⟩ rfl) (Int.pow_pos (by decide))) fun H2 e2 => ?_
      refine q_forR1 (n := k) (by one_place) (by omega) (fun i σ' H' => ∃ x, σ' = [some (.int (divs i (c % (1000000000000000000000000000000000000000000000000000000000000 : Int) ^ 20))), some (.int k), x, none] ∧ Ex H H') (fun H3 e3 => ⟨none, rfl, (e1.trans e2).trans e3⟩) (fun i σ' H' hi hp => ?_) (fun σ' H' hp => ?_)
      · obtain ⟨x, rfl, e4⟩ := hp
        refine s_asg (v := .int (divs (i + 1) (c % (1000000000000000000000000000000000000000000000000000000000000 : Int) ^ 20))) (ev_is (by one_place) rfl) fun H5 e5 => ⟨_, rfl, e4.trans e5⟩
      · obtain ⟨x, rfl, e4⟩ := hp
        refine s_ret (v := .int (mix c k)) (ev_is (by one_place) ?_) fun H5 e5 => q _ (e4.trans e5)
        unfold mix
        rw [if_pos (of_decide_eq_true hb)]
    · have b0 : 0 ≤ mix0 c k := by
        unfold mix0
        omega
      have b1 : mix0 c k < 2147483629 := by
        unfold mix0
        omega
      have b2 : 0 ≤ mix1 c k := by
        unfold mix1
        omega
      have b3 : mix1 c k < 2147483587 := by
        unfold mix1
        omega
      have b4 : 0 ≤ k * k := Int.mul_nonneg h0 h0
      have b5 : k * k ≤ 100 * 100 := Int.mul_le_mul h1 h1 h0 (by decide)
      refine q_asg (v := .int (mix0 c k)) (by one_place) fun H2 e2 => ?_
      refine q_asg (v := .int (mix1 c k)) (by one_place) fun H3 e3 => ?_
      refine s_ret (v := .int (mix c k)) (ev_is (by one_place) ?_) fun H5 e5 => q _ (((e1.trans e2).trans e3).trans e5)
      unfold mix
      rw [if_neg (of_decide_eq_false hb)]
end

/- _law_count: slots 0 _law_pick, 1 _law_great; calls  -/
abbrev s__law_count : Stmt := topS 19
theorem sc__law_count : FnScope ["_law_pick", "_law_great"] ["_law_pick"] (defScope s__law_count) := ⟨rfl, rfl, rfl, by decide +kernel, rfl, by decide +kernel, by decide +kernel⟩

def cnt (k : Int) : Int := ([1 + k / 5 % 60, 1 + k / 5 % 12, ([30, 36, 60, 45, 12, 24, 42, 50] : List Int).getD (k / 5 % 8).toNat 0, 1 + k / 5 % 30] : List Int).getD (k % 4).toNat 0
theorem getD_bd {l : List Int} {lo hi : Int} {i : Nat} (h : ∀ x ∈ l, lo ≤ x ∧ x ≤ hi) (hi' : i < l.length) : lo ≤ l.getD i 0 ∧ l.getD i 0 ≤ hi := by
  rw [List.getD_eq_getElem?_getD, List.getElem?_eq_getElem hi']
  exact h _ (List.getElem_mem hi')
theorem cnt_bd (k : Int) : 1 ≤ cnt k ∧ cnt k ≤ 60 := by
  unfold cnt
  have g : 1 ≤ ([30, 36, 60, 45, 12, 24, 42, 50] : List Int).getD (k / 5 % 8).toNat 0 ∧ ([30, 36, 60, 45, 12, 24, 42, 50] : List Int).getD (k / 5 % 8).toNat 0 ≤ 60 := getD_bd (by decide) (by simp; omega)
  refine getD_bd ?_ (by simp; omega)
  intro x hx
  simp only [List.mem_cons, List.not_mem_nil, or_false] at hx
  omega
def spCount : Sp := fun vs H Q _ => ∃ k : Int, vs = [.int k] ∧ 0 ≤ k ∧ RetV (.int (cnt k)) H Q
section
variable {P : Program} {w : World} {K : PySem.W.Frag} {mg : Str → Option Value} {base : Heap}
theorem cal_count (nb : Nb mg) (d : Dfn K mg "_law_count" ["_law_pick"] s__law_count) : Cal P w K mg base CX0 "_law_count" 1 ["_law_pick"] spCount := by
  refine d.cal sc__law_count (fun vs H Q E h => ?_) (fun f cdv A outer s H vs Q E hr h => ?_)
  · obtain ⟨a, rfl, _⟩ := h
    rfl
  · obtain ⟨k, rfl, k0, q⟩ := h
    refine ⟨_, (pss_cons (ps_set (i := 1) sc__law_count.nd rfl (.inl rfl) (pe_ix ix_list (pe_lst (pa_cons pe_int (pa_cons pe_int (pa_cons pe_int (pa_cons pe_int (pa_cons pe_int (pa_cons pe_int (pa_cons pe_int (pa_cons pe_int pa_nil))))))))) (pe_op op_mod (pe_op op_fdivW (pv 0) pe_int) pe_int) (fun _ _ => rfl)))
      (pss_one (ps_ret (pe_ix ix_list (pe_lst (pa_cons (pe_op op_add pe_int (pe_op op_mod (pe_op op_fdivW (pv 0) pe_int) pe_int)) (pa_cons (pe_op op_add pe_int (pe_op op_mod (pe_op op_fdivW (pv 0) pe_int) pe_int)) (pa_cons (pv 1) (pa_cons (pe_op op_add pe_int (pe_op op_mod (pe_op op_fdivW (pv 0) pe_int) pe_int)) pa_nil))))) (pe_op op_mod (pv 0) pe_int) (fun _ _ => rfl))))), ?_⟩
    refine q_asg (v := .int (([30, 36, 60, 45, 12, 24, 42, 50] : List Int).getD (k / 5 % 8).toNat 0)) (ev_ixN (ns := [30, 36, 60, 45, 12, 24, 42, 50]) (el_lst (by one_place) (by decide)) (fun _ _ => by one_place) (by omega) (by simp; omega)) fun H1 e1 => ?_
    refine s_ret (v := .int (cnt k)) (ev_ixN (ns := [1 + k / 5 % 60, 1 + k / 5 % 12, ([30, 36, 60, 45, 12, 24, 42, 50] : List Int).getD (k / 5 % 8).toNat 0, 1 + k / 5 % 30]) (el_lst (by one_place) (by show 4 ≤ 100000; decide)) (fun _ _ => by one_place) (by omega) (by simp; omega)) fun H2 e2 => q _ (e1.trans e2)
end

/- _law_parted: slots 0 _law_n, 1 _law_told, 2 _law_p, 3 _law_often; calls  -/
abbrev s__law_parted : Stmt := topS 20
theorem sc__law_parted : FnScope ["_law_n", "_law_told", "_law_p", "_law_often"] ["_law_n"] (defScope s__law_parted) := ⟨rfl, rfl, rfl, by decide +kernel, rfl, by decide +kernel, by decide +kernel⟩

def spLParted (K : PySem.W.Frag) : Sp := fun vs H Q _ => ∃ n : Int, vs = [.int n] ∧ 1 ≤ n ∧ n ≤ 40000 ∧ RetP K (lpF n) H Q
section
variable {P : Program} {w : World} {K : PySem.W.Frag} {mg : Str → Option Value} {base : Heap}
theorem cal_lparted (nb : Nb mg) (d : Dfn K mg "_law_parted" ["_law_n"] s__law_parted) : Cal P w K mg base CX0 "_law_parted" 1 ["_law_n"] (spLParted K) := by
  refine d.cal sc__law_parted (fun vs H Q E h => ?_) (fun f cdv A outer s H vs Q E hr h => ?_)
  · obtain ⟨a, rfl, _⟩ := h
    rfl
  · obtain ⟨n, rfl, n1, n2, q⟩ := h
    refine ⟨_, (pss_cons (ps_set (i := 1) sc__law_parted.nd rfl (.inl rfl) (pe_lst pa_nil))
      (pss_cons (ps_for PassesOwn.never rfl (pi_range2 (by rfl) nb.range (pa_cons pe_int (pa_cons (pe_op op_add (pv 0) pe_int) pa_nil))) (pg_name (i := 2) sc__law_parted.nd rfl (.inl rfl)) (pss_cons (ps_set (i := 3) sc__law_parted.nd rfl (.inl rfl) pe_int)
      (pss_cons (ps_while PassesOwn.never (pt_cmpR op_eq (pe_op op_mod (pv 0) (pv 2)) pe_int (nomark _)) (pss_cons (ps_set (i := 0) sc__law_parted.nd rfl (.inl rfl) (pe_op op_fdivW (pv 0) (pv 2)))
      (pss_one (ps_set (i := 3) sc__law_parted.nd rfl (.inl rfl) (pe_op op_add (pv 3) pe_int)))))
      (pss_one (ps_if (pt_cmpR op_gt (pv 3) pe_int (nomark _)) (pss_one (ps_expr (pe_bm PySem.F.plainAttrs_list PySem.F.slot_list_append PySem.F.type_list_append mt_append (pv 1) (pa_cons (pe_tup (pa_cons (pv 2) (pa_cons (pv 3) pa_nil))) pa_nil)))) pss_nil)))))
      (pss_one (ps_ret (pv 1))))), ?_⟩
    refine q_asgL (xs := []) (el_lst ea_nil (by decide)) fun a H1 ha e1 h1 => ?_
    refine q_forR2 (lo := 2) (n := n + 1) (by one_place) (by omega) (fun i σ' H' => ∃ (xs : List V) (x y : Option V), σ' = [some (.int (lpS n i).1), some (.ref a), x, y] ∧ 0 < (lpS n i).1 ∧ (lpS n i).1 ≤ n ∧ Ex H H' ∧ H' a = some (.lst xs) ∧ Prs K H' xs (lpS n i).2)
      (fun H2 e2 => ⟨[], none, none, rfl, by show 0 < n; omega, Int.le_refl n, e1.trans e2, e2 _ _ h1, .nil⟩) (fun i σ' H' hi hp => ?_) (fun σ' H' hp => ?_)
    · obtain ⟨xs, x, y, rfl, l1, l2, e3, h3, pr⟩ := hp
      have hlen := lpS_len n i
      refine q_asg (v := .int 0) (by one_place) fun H4 e4 => ?_
      refine q_while (fun k σ' H' => ∃ u t : Int, σ' = [some (.int u), some (.ref a), some (.int (2 + (i : Int))), some (.int t)] ∧ 0 < u ∧ u ≤ n ∧ u < 2 ^ k ∧ Kp.strip (2 + i) k u t = Kp.strip (2 + i) 64 (lpS n i).1 0 ∧ Ex H4 H') 64
        ⟨(lpS n i).1, 0, rfl, l1, l2, by omega, rfl, Ex.refl _⟩ fun k σ' H' hW => ?_
      obtain ⟨u, t, rfl, u1, u2, uk, eS, e7⟩ := hW
      refine ⟨decide (u % (2 + (i : Int)) = 0), by one_place, fun hb H8 e8 => ?_, fun hb H8 e8 => ?_⟩
      · have hd := of_decide_eq_true hb
        cases k with
        | zero =>
          rw [Int.pow_zero] at uk
          omega
        | succ k =>
          obtain ⟨v1, v2, v3⟩ := half_lt (by omega) u1 uk hd
          rw [strip_go hd] at eS
          refine ⟨_, fun σ2 H2 hN => ⟨k, Nat.lt_succ_self k, hN⟩, ?_⟩
          refine q_asg (v := .int (u / (2 + (i : Int)))) (by one_place) fun H9 e9 => ?_
          refine s_asg (v := .int (t + 1)) (by one_place) fun H10 e10 => ?_
          exact ⟨_, t + 1, rfl, v1, by omega, v2, eS, ((e7.trans e8).trans e9).trans e10⟩
      · have hd := of_decide_eq_false hb
        rw [strip_stop hd] at eS
        have h8 := e8 _ _ (e7 _ _ (e4 _ _ h3))
        have e48 := e4.trans (e7.trans e8)
        have eS1 : (lpS n (i + 1)).1 = u := by
          show (Kp.strip (2 + i) 64 (lpS n i).1 0).1 = u
          rw [← eS]
        refine s_when (b := decide (0 < t)) (by one_place) (fun hb H9 e9 => ?_) (fun hb H9 e9 => ?_)
        · have ht := of_decide_eq_true hb
          have eS2 : (lpS n (i + 1)).2 = (lpS n i).2 ++ [(2 + (i : Int), t)] := by
            show (if 0 < (Kp.strip (2 + i) 64 (lpS n i).1 0).2 then _ else _) = _
            rw [← eS, if_pos ht]
          refine s_appU (ys := [.int (2 + (i : Int)), .int t]) (e9 _ _ h8) (by one_place) (eu_tup (by one_place) (by show 2 ≤ 100000; decide)) (by rw [Paired.length pr]; omega) fun tp H10 htp e10 h10 => ?_
          have h10a := e10 _ _ (e9 _ _ h8)
          refine ⟨xs ++ [.ref tp], some (.int (2 + (i : Int))), some (.int t), ?_, by rw [eS1]; exact u1, by rw [eS1]; exact u2, Ex.mut ((e3.trans e48).trans (e9.trans e10)) ha, upd_same, ?_⟩
          · rw [eS1]
          · rw [eS2]
            exact ((pr.mono (e48.trans (e9.trans e10))).upd h10a).snoc (sqt_upd h10a (SqT.of h10))
        · have ht := of_decide_eq_false hb
          have eS2 : (lpS n (i + 1)).2 = (lpS n i).2 := by
            show (if 0 < (Kp.strip (2 + i) 64 (lpS n i).1 0).2 then _ else _) = _
            rw [← eS, if_neg ht]
          refine ⟨xs, some (.int (2 + (i : Int))), some (.int t), ?_, by rw [eS1]; exact u1, by rw [eS1]; exact u2, (e3.trans e48).trans e9, e9 _ _ h8, ?_⟩
          · rw [eS1]
          · rw [eS2]
            exact pr.mono (e48.trans e9)
    · obtain ⟨xs, x, y, rfl, l1, l2, e3, h3, pr⟩ := hp
      refine s_ret (v := .ref a) (by one_place) fun H11 e11 => ?_
      refine q a xs H11 ha (e3.trans e11) (e11 _ _ h3) ?_
      have ee : (n + 1 - 2).toNat = (n - 1).toNat := by omega
      rw [ee] at pr
      exact pr.mono e11
end

/-! ### wheels and the ground, of the law -/
/- _law_come_to: slots 0 _law_n, 1 _law_wheels, 2 _law_told, 3 _law_p, 4 _law_j, 5 _law_c, 6 _law_k, 7 _law_at; calls  -/
abbrev s__law_come_to : Stmt := topS 22
theorem sc__law_come_to : FnScope ["_law_n", "_law_wheels", "_law_told", "_law_p", "_law_j", "_law_c", "_law_k", "_law_at"] ["_law_n", "_law_wheels"] (defScope s__law_come_to) := ⟨rfl, rfl, rfl, by decide +kernel, rfl, by decide +kernel, by decide +kernel⟩

section
variable {P : Program} {w : World} {K : PySem.W.Frag} {mg : Str → Option Value} {base : Heap}
theorem cal_lcome (nb : Nb mg) (d : Dfn K mg "_law_come_to" ["_law_n", "_law_wheels"] s__law_come_to) : Cal P w K mg base CX0 "_law_come_to" 1 ["_law_n", "_law_wheels"] (spCome K) := by
  refine d.cal sc__law_come_to (fun vs H Q E h => ?_) (fun fa cdv A outer s H vs Q E hr h => ?_)
  · obtain ⟨n, a, xs, rows, rfl, _⟩ := h
    rfl
  · obtain ⟨n, a, xs, rows, rfl, n2, hA, hR, hW, q⟩ := h
    refine ⟨_, (pss_cons (ps_set (i := 2) sc__law_come_to.nd rfl (.inl rfl) (pe_op op_rep (pe_lst (pa_cons pe_int pa_nil)) (pv 0)))
      (pss_cons (ps_for PassesOwn.never rfl (pi_list (pv 1)) (pg_tup (by rfl) (pgs_cons (pg_name (i := 3) sc__law_come_to.nd rfl (.inl rfl)) (pgs_cons (pg_name (i := 4) sc__law_come_to.nd rfl (.inl rfl)) (pgs_cons (pg_name (i := 5) sc__law_come_to.nd rfl (.inl rfl)) pgs_nil)))) (pss_one (ps_for PassesOwn.never rfl (pi_range1 (by rfl) nb.range (pa_cons (pv 3) pa_nil)) (pg_name (i := 6) sc__law_come_to.nd rfl (.inl rfl)) (pss_cons (ps_set (i := 7) sc__law_come_to.nd rfl (.inl rfl) (pe_op op_mod (pe_op op_add (pv 4) (pe_op op_mulW (pv 6) (pe_op op_fdivW (pv 0) (pv 3)))) (pv 0)))
      (pss_one (ps_asg (pe_op op_add (pe_ix ix_list (pv 2) (pv 7) (fun _ _ => rfl)) (pv 5)) (pg_sub (pv 2) (pv 7) set_list)))))))
      (pss_one (ps_ret (pv 2))))), ?_⟩
    refine q_asgL (xs := (List.replicate n (0 : Int)).map V.int) (el_is (el_rep (k := (n : Int)) (el_lst (by one_place) (by decide)) (by one_place) (by omega) (by omega)) (by rw [List.map_replicate, Int.toNat_natCast])) fun t H1 nt e1 h1 => ?_
    refine q_forT3 (xs := xs) (rows := rows) (by one_place) (fun i σ' H' => ∃ (T : List Int) (x1 x2 x3 x4 x5 : Option V), σ' = [some (.int (n : Nat)), some (.ref a), some (.ref t), x1, x2, x3, x4, x5] ∧ Ex H H' ∧ H' t = some (.lst (T.map V.int)) ∧ T.length = n ∧ ∀ m, m < n → coef T m = cmAt n (rows.take i) m)
      (fun H3 e3 => ⟨_, none, none, none, none, none, rfl, e1.trans e3, e3 _ _ h1, List.length_replicate, fun m _ => by rw [coef_rep, List.take_zero]; rfl⟩) (fun i σ' H' hp => ?_) (fun i r σ' H' hr hp => ?_) (fun σ' H' hp => ?_)
    · obtain ⟨_, _, _, _, _, _, _, e, _⟩ := hp
      exact ⟨ex_l e hA, hR.mono e⟩
    · obtain ⟨T, x1, x2, x3, x4, x5, rfl, e2, h2, lT, cT⟩ := hp
      have W := hW r (List.mem_of_getElem? hr)
      have w1 := W.step
      have w2 := W.mul
      have w3 := W.two
      have w4 := W.lo
      have w5 := W.hi
      have hs : (n : Int) / r.1 ≤ n := by
        have := Int.mul_le_mul_of_nonneg_left (show 1 ≤ r.1 by omega) (show 0 ≤ (n : Int) / r.1 by omega)
        omega
      have hp : r.1 ≤ n := by
        have := Int.mul_le_mul_of_nonneg_right w1 (show 0 ≤ r.1 by omega)
        omega
      refine s_forR1 (n := r.1) (by one_place) (by omega) (fun k σ' H' => ∃ (T : List Int) (x4 x5 : Option V), σ' = [some (.int (n : Nat)), some (.ref a), some (.ref t), some (.int r.1), some (.int r.2.1), some (.int r.2.2), x4, x5] ∧ Ex H H' ∧ H' t = some (.lst (T.map V.int)) ∧ T.length = n ∧ ∀ m, m < n → coef T m = cmAt n (rows.take i) m + whK n r k m)
        (fun H3 e3 => ⟨T, _, _, rfl, e2.trans e3, e3 _ _ h2, lT, fun m hm => by rw [cT m hm, whK_zero W]; omega⟩) (fun k σ' H' hk hp => ?_) (fun σ' H' hp => ?_)
      · obtain ⟨T, x4, x5, rfl, e3, h3, lT, cT⟩ := hp
        have hat := whl_at W (k := k) hk
        have hpos := Int.emod_eq_of_lt hat.1 hat.2
        have epos : (r.2.1 + (k : Int) * ((n : Int) / r.1)) % n = (((r.2.1 + (k : Int) * ((n : Int) / r.1)).toNat : Nat) : Int) := by omega
        have epos2 : (((r.2.1 + (k : Int) * ((n : Int) / r.1)).toNat : Nat) : Int) = r.2.1 + (k : Int) * ((n : Int) / r.1) := by omega
        have hstep := fun m => whK_step W (k := k) (m := m) epos2
        refine q_asg (v := .int (((r.2.1 + (k : Int) * ((n : Int) / r.1)).toNat : Nat) : Int)) (ev_is (ev_mod (ev_add (ev_var rfl) (ev_mul (ev_var rfl) (ev_div (ev_var rfl) (ev_var rfl) (divW (by omega) (by omega))) (mulW (by omega) (by omega)))) (ev_var rfl) (by omega)) (by rw [epos])) fun H4 e4 => ?_
        generalize (r.2.1 + (k : Int) * ((n : Int) / r.1)).toNat = pos at *
        refine s_setI (j := pos) (b := coef T pos + r.2.2) (e4 _ _ h3) (by one_place) (by one_place) (by omega) (ev_add (ev_ixI (j := pos) (SqL.of (e4 _ _ h3)) (ev_var rfl) (ev_var rfl) (coef_get (by omega))) (ev_var rfl)) fun H5 e5 => ⟨_, _, _, rfl, Ex.mut ((e3.trans e4).trans e5) nt, upd_same, by rw [List.length_set]; exact lT, fun m hm => ?_⟩
        rw [coef_set (by omega), cT m hm, cT pos (by omega), hstep]
        by_cases e : m = pos
        · rw [if_pos e, if_pos e, e]
          omega
        · rw [if_neg e, if_neg e]
          omega
      · obtain ⟨T, x4, x5, rfl, e3, h3, lT, cT⟩ := hp
        refine ⟨T, _, _, _, _, _, rfl, e3, h3, lT, fun m hm => ?_⟩
        have et : rows.take (i + 1) = rows.take i ++ [r] := by rw [List.take_add_one, hr]; rfl
        rw [cT m hm, whK_all W (m := m) (by omega), et, cmAt_snoc]
    · obtain ⟨T, x1, x2, x3, x4, x5, rfl, e2, h2, lT, cT⟩ := hp
      rw [List.take_length] at cT
      have eT : T = cmS n rows := mkL_of lT cT
      exact s_ret (v := .ref t) (by one_place) fun H5 e5 => q.go (Ex.refl H) nt (e2.trans e5) (by rw [← eT]; exact e5 _ _ h2)
end

/- _law_row: slots 0 _law_n, 1 _law_cell, 2 _law_place, 3 _law_p, 4 _law_primes, 5 _law_told, 6 _law_k, 7 _law_pick, 8 _law_c, 9 _law_often, 10 _law_j; calls _law_parted, _law_mix -/
abbrev s__law_row : Stmt := topS 26
theorem sc__law_row : FnScope ["_law_n", "_law_cell", "_law_place", "_law_p", "_law_primes", "_law_told", "_law_k", "_law_pick", "_law_c", "_law_often", "_law_j"] ["_law_n", "_law_cell", "_law_place"] (defScope s__law_row) := ⟨rfl, rfl, rfl, by decide +kernel, rfl, by decide +kernel, by decide +kernel⟩

/-- rows such as the law draws -/
structure RowOk (n : Int) (rows : List I3) : Prop where
  whl : ∀ r ∈ rows, Whl n r
  prm : ∀ r ∈ rows, ∃ o, (r.1, o) ∈ lpF n
  num : ∀ r ∈ rows, r.2.2 ≠ 0 ∧ r.2.2.natAbs < 2 ^ 110
  rise : rows.Pairwise fun x y => x.1 < y.1 ∨ x.1 = y.1 ∧ x.2.1 < y.2.1
  len : rows.length ≤ 13
def spLRow (K : PySem.W.Frag) : Sp := fun vs H Q _ => ∃ n c pl : Int, vs = [.int n, .int c, .int pl] ∧ 0 ≤ pl ∧ pl ≤ 20 ∧ 1 ≤ n ∧ n ≤ 61 ∧ ∀ rows, RowOk n rows → RetT K rows H Q
def cN (z : Int) : Int := ([z / 8 % 19 - 9, 1000000000000000000000000000000 - z, 1] : List Int).getD (z / 4 % 3).toNat 0
theorem cN_bd {z : Int} (h0 : 0 ≤ z) (h1 : z ≤ 306783369) : (cN z).natAbs < 2 ^ 110 := by
  have h : -1000000000000000000000000000000 ≤ cN z ∧ cN z ≤ 1000000000000000000000000000000 := by
    refine getD_bd ?_ (by simp; omega)
    intro x hx
    simp only [List.mem_cons, List.not_mem_nil, or_false] at hx
    omega
  omega
/-- one entry of the law's dict -/
structure EntOk (n : Int) (e : (Int × Int) × Int) : Prop where
  whl : Whl n (e.1.1, e.1.2, e.2)
  prm : ∃ o, (e.1.1, o) ∈ lpF n
  num : e.2 ≠ 0 ∧ e.2.natAbs < 2 ^ 110
theorem rowOk_of {n : Int} {ks : List ((Int × Int) × Int)} {rows : List I3} (h : ∀ e ∈ ks, EntOk n e) (hl : ks.length ≤ 13) (S : SortedRows ks rows) : RowOk n rows := by
  have hm : ∀ r ∈ rows, EntOk n ((r.1, r.2.1), r.2.2) := fun r hr => h _ (S.perm.mem_iff.mp (List.mem_map.mpr ⟨r, hr, rfl⟩))
  refine ⟨fun r hr => (hm r hr).whl, fun r hr => (hm r hr).prm, fun r hr => (hm r hr).num, S.rise, ?_⟩
  have := S.perm.length_eq
  rw [List.length_map] at this
  omega
section
variable {P : Program} {w : World} {K : PySem.W.Frag} {mg : Str → Option Value} {base : Heap}
theorem cal_lrow (nb : Nb mg) (c__law_mix : Cal P w K mg base CX0 "_law_mix" 1 ["_law_cell", "_law_k"] spMix) (c__law_parted : Cal P w K mg base CX0 "_law_parted" 1 ["_law_n"] (spLParted K)) (d : Dfn K mg "_law_row" ["_law_n", "_law_cell", "_law_place"] s__law_row) : Cal P w K mg base CX0 "_law_row" 2 ["_law_n", "_law_cell", "_law_place"] (spLRow K) := by
  refine d.cal sc__law_row (fun vs H Q E h => ?_) (fun fa cdv A outer s H vs Q E hr h => ?_)
  · obtain ⟨n, c, pl, rfl, _⟩ := h
    rfl
  · obtain ⟨n, c, pl, rfl, pl0, pl1, n1, n2, q⟩ := h
    have N := nok n1 n2
    have m0 := mix_nn c pl
    refine ⟨_, (pss_cons (ps_setLc (i := 4) (own := [("_law_p", 3), ("_law_often", 9)]) (g := gTup K 2 (gCons (gName 3) (gCons (gName 9) gNil))) (tt := tYes) (by rfl) sc__law_row.nd rfl rfl (sw_true rfl rfl rfl (by decide +kernel)) (pi_list (pe_cal c__law_parted (hr.mono (by first | decide | omega)) (by rfl) pass0 (pa_cons (pv 0) pa_nil))) (blkOk_by (N := ["_law_n", "_law_cell", "_law_place", "_law_p", "_law_primes", "_law_told", "_law_k", "_law_pick", "_law_c", "_law_often", "_law_j"]) (sc := defScope s__law_row) (by decide +kernel)) (fun _ _ _ _ _ => (pg_tup (by rfl) (pgs_cons (pg_name (i := 3) sc__law_row.nd rfl (Or.inl rfl)) (pgs_cons (pg_name (i := 9) sc__law_row.nd rfl (Or.inl rfl)) pgs_nil)))) (fun _ _ _ _ _ => pts_nil) (fun _ _ _ _ _ => (pv 3)))
      (pss_cons (ps_set (i := 5) sc__law_row.nd rfl (.inr rfl) pe_dnewT)
      (pss_cons (ps_for PassesOwn.never rfl (pi_range1 (by rfl) nb.range (pa_cons (pe_op op_mulW (pe_op op_mod (pe_cal c__law_mix (hr.mono (by first | decide | omega)) (by rfl) pass0 (pa_cons (pv 1) (pa_cons (pv 2) pa_nil))) pe_int) (pe_callTy call_int1 (by rfl) nb.int (by decide +kernel) (pa_cons (pe_cmpR (op_neD hr.units) (pv 4) (pe_lst pa_nil) (nomark _)) pa_nil))) pa_nil)) (pg_name (i := 6) sc__law_row.nd rfl (.inl rfl)) (pss_cons (ps_set (i := 7) sc__law_row.nd rfl (.inl rfl) (pe_cal c__law_mix (hr.mono (by first | decide | omega)) (by rfl) pass0 (pa_cons (pv 1) (pa_cons (pe_op op_add (pe_op op_add (pv 2) pe_int) (pv 6)) pa_nil))))
      (pss_cons (ps_set (i := 3) sc__law_row.nd rfl (.inl rfl) (pe_ix ix_list (pv 4) (pe_op op_mod (pv 7) (pe_callB call_len_seq (by rfl) nb.len PySem.boot_len (pa_cons (pv 4) pa_nil))) (fun _ _ => rfl)))
      (pss_cons (ps_set (i := 8) sc__law_row.nd rfl (.inl rfl) (pe_ix ix_list (pe_lst (pa_cons (pe_op op_sub (pe_op op_mod (pe_op op_fdivW (pv 7) pe_int) pe_int) pe_int) (pa_cons (pe_op op_sub (pe_op op_powW pe_int pe_int) (pv 7)) (pa_cons pe_int pa_nil)))) (pe_op op_mod (pe_op op_fdivW (pv 7) pe_int) pe_int) (fun _ _ => rfl)))
      (pss_one (ps_if (pt_cmpR op_ne (pv 8) pe_int (nomark _)) (pss_one (ps_dput (hu_of hr) (pv 5) (pe_tup (pa_cons (pv 3) (pa_cons (pe_op op_mod (pe_op op_fdivW (pv 7) pe_int) (pe_op op_fdivW (pv 0) (pv 3))) pa_nil))) (pv 8) rfl)) pss_nil))))))
      (pss_one (ps_ret (pe_lc (own := [("_law_p", 3), ("_law_j", 10)]) (g := gTup K 2 (gCons (gName 3) (gCons (gName 10) gNil))) (tt := tYes) (by rfl) sc__law_row.nd (pi_list (pe_callB (cr_sortedKeys (by rfl)) (by rfl) nb.sorted (by decide +kernel) (pa_cons (pe_bm0 PySem.F.plainAttrs_dict PySem.F.slot_dict_keys PySem.F.type_dict_keys mt_keysT (pv 5)) pa_nil))) (blkOk_by (N := ["_law_n", "_law_cell", "_law_place", "_law_p", "_law_primes", "_law_told", "_law_k", "_law_pick", "_law_c", "_law_often", "_law_j"]) (sc := defScope s__law_row) (by decide +kernel)) (fun _ _ _ _ _ => (pg_tup (by rfl) (pgs_cons (pg_name (i := 3) sc__law_row.nd rfl (Or.inl rfl)) (pgs_cons (pg_name (i := 10) sc__law_row.nd rfl (Or.inl rfl)) pgs_nil)))) (fun _ _ _ _ _ => pts_nil) (fun _ _ _ _ _ => (pe_tup (pa_cons (pv 3) (pa_cons (pv 10) (pa_cons (pe_dget (hu_of hr) (pv 5) (pe_tup (pa_cons (pv 3) (pa_cons (pv 10) pa_nil))) (fun _ _ => rfl)) pa_nil))))))))))), ?_⟩
    refine q_asgL (xs := ((lpF n).map fun r => r.1).map V.int) (el_is (el_lcPN (rows := lpF n) (fun r => .int r.1) (ep_cal (by one_place) fun H3 e3 Q k E => ⟨n, rfl, by omega, by omega, k⟩) (by have := N.len; omega) (fun _ _ => rfl) fun r H1 e1 hr => ev_var rfl) (by rw [List.map_map]; rfl)) fun pr H1 npr e1 h1 => ?_
    refine q_asgD fun dd nd => ?_
    have eD : Ex H1 (upd H1 dd (.dT [])) := Ex.new nd
    have ndH : H dd = none := fresh_back e1 nd
    have h1' := eD _ _ h1
    have hll : ((lpF n).map fun r => r.1).length = (lpF n).length := List.length_map _
    refine q_forR1 (n := mix c pl % 13 * (if !decide (((lpF n).map fun r => r.1) = []) then 1 else 0)) (ea_cons (ev_mul (ev_mod (ev_cal (vs := [.int c, .int pl]) (by one_place) fun H2 e2 Q k E => ⟨c, pl, rfl, by omega, by omega, k⟩) ev_c (by decide)) (ev_int1b (ev_opL (xs := []) (ev_var rfl) (el_lst ea_nil (by decide)) fun p H2 hp e2 => rv_neI (ms := []) (SqL.of (e2 _ _ h1')) (SqL.of hp))) (mulW (by omega) (by split <;> decide))) ea_nil) (by split <;> omega)
      (fun i σ' H' => ∃ (ks : List ((Int × Int) × Int)) (x2 x5 x6 x7 : Option V), σ' = [some (.int n), some (.int c), some (.int pl), x2, some (.ref pr), some (.ref dd), x5, x6, x7, none, none] ∧ Ex H H' ∧ H' pr = some (.lst (((lpF n).map fun r => r.1).map V.int)) ∧ H' dd = some (.dT (ks.map encD)) ∧ (ks.map (·.1)).Nodup ∧ (∀ e ∈ ks, EntOk n e) ∧ ks.length ≤ i)
      (fun H2 e2 => ⟨[], none, none, none, none, rfl, (e1.trans eD).trans e2, e2 _ _ h1', e2 _ _ upd_same, List.nodup_nil, (fun _ h => nomatch h), Nat.le_refl _⟩) (fun i σ' H' hi hp => ?_) (fun σ' H' hp => ?_)
    · obtain ⟨ks, x2, x5, x6, x7, rfl, e2, hpr, hdd, hn, hk, hlen⟩ := hp
      have hne : ¬ ((lpF n).map fun r => r.1) = [] := by
        intro h
        rw [decide_eq_true h] at hi
        have : (mix c pl % 13 * 0 : Int) = 0 := Int.mul_zero _
        simp only [Bool.not_true, Bool.false_eq_true, if_false] at hi
        omega
      rw [decide_eq_false hne] at hi
      simp only [Bool.not_false, if_true, Int.mul_one] at hi
      have pos := List.length_pos_iff.mpr hne
      rw [hll] at pos
      have z0 := mix_nn c (pl + 1 + (i : Int))
      have z1 := mix_le c (pl + 1 + (i : Int))
      refine q_asg (v := .int (mix c (pl + 1 + (i : Int)))) (ev_cal (by one_place) fun H3 e3 Q k E => ⟨c, pl + 1 + (i : Int), rfl, by omega, by omega, k⟩) fun H3 e3 => ?_
      generalize mix c (pl + 1 + (i : Int)) = z at *
      have a0 := Int.emod_nonneg z (show ((lpF n).length : Int) ≠ 0 by omega)
      have a1 := Int.emod_lt_of_pos z (show 0 < ((lpF n).length : Int) by omega)
      have hget : (lpF n)[(z % ((lpF n).length : Int)).toNat]? = some ((lpF n)[(z % ((lpF n).length : Int)).toNat]'(by omega)) := List.getElem?_eq_getElem _
      generalize (lpF n)[(z % ((lpF n).length : Int)).toNat]'(by omega) = r at hget
      have hrm := List.mem_of_getElem? hget
      obtain ⟨b1, b2, b3, b4, b5⟩ := N.lp r hrm
      refine q_asg (v := .int r.1) (ev_ixI (j := (z % ((lpF n).length : Int)).toNat) (SqL.of (e3 _ _ hpr)) (ev_var rfl) (ev_is (v := .int (z % ((lpF n).length : Int))) (ev_mod (ev_var rfl) (ev_is (ev_len (ev_var rfl) (SqL.of (e3 _ _ hpr))) (by rw [List.length_map, hll])) (by omega)) (by congr 1; omega)) (by rw [List.getElem?_map, hget]; rfl)) fun H4 e4 => ?_
      refine q_asg (v := .int (cN z)) (ev_ixN (ns := [z / 8 % 19 - 9, 1000000000000000000000000000000 - z, 1]) (el_lst (ea_cons (by one_place) (ea_cons (ev_sub (ev_pow (i := 10) (j := 30) ev_c ev_c ⟨by decide, by decide +kernel⟩ (by rfl)) (ev_var rfl)) (ea_cons (by one_place) ea_nil))) (by show 3 ≤ 100000; decide)) (fun _ _ => by one_place) (by omega) (by simp; omega)) fun H5 e5 => ?_
      have e35 := e3.trans (e4.trans e5)
      have hq : n / r.1 * r.1 = n := by
        have := Int.mul_ediv_add_emod n r.1
        rw [b2, Int.mul_comm] at this
        omega
      have hs1 : 1 ≤ n / r.1 := by
        refine Int.le_of_not_gt fun g => ?_
        have h0 := Int.ediv_nonneg (show 0 ≤ n by omega) (show 0 ≤ r.1 by omega)
        have : n / r.1 = 0 := by omega
        rw [this] at hq
        omega
      have hs2 : n / r.1 ≤ n := Int.ediv_le_self _ (by omega)
      refine s_when (b := !decide (cN z = 0)) (by one_place) (fun hb H6 e6 => ?_) (fun hb H6 e6 => ?_)
      · have hb : cN z ≠ 0 := by simpa using hb
        have m1 := Int.emod_nonneg (z / 64) (show n / r.1 ≠ 0 by omega)
        have m2 := Int.emod_lt_of_pos (z / 64) (show 0 < n / r.1 by omega)
        refine s_dput (ks := ks) (a := r.1) (b := z / 64 % (n / r.1)) (c := cN z) (e6 _ _ (e35 _ _ hdd)) (by one_place) (ea_cons (by one_place) (ea_cons (ev_mod (ev_div (ev_var rfl) ev_c (divW (by omega) (by omega))) (ev_div (ev_var rfl) (ev_var rfl) (divW (by omega) (by omega))) (by omega)) ea_nil)) (by one_place) (by omega) fun H7 e7 => ?_
        obtain ⟨p1, p2⟩ := put_keys ks (r.1, z / 64 % (n / r.1)) (cN z) hn
        refine ⟨_, _, _, _, _, rfl, Ex.mut ((e2.trans e35).trans (e6.trans e7)) ndH, ?_, upd_same, p1, fun e he => ?_, ?_⟩
        · rw [upd_ne (ne_of (e7 _ _ (e6 _ _ (e35 _ _ hpr))) (e7 _ _ (e6 _ _ (e35 _ _ hdd))) (by intro z; cases z))]
          exact e7 _ _ (e6 _ _ (e35 _ _ hpr))
        · rcases p2 e he with he | rfl
          · exact hk e he
          · exact ⟨⟨b1, b2, m1, m2⟩, ⟨r.2, hrm⟩, hb, cN_bd z0 z1⟩
        · have := put_len ks (r.1, z / 64 % (n / r.1)) (cN z)
          omega
      · exact ⟨ks, _, _, _, _, rfl, (e2.trans e35).trans e6, e6 _ _ (e35 _ _ hpr), e6 _ _ (e35 _ _ hdd), hn, hk, by omega⟩
    · obtain ⟨ks, x2, x5, x6, x7, rfl, e2, hpr, hdd, hn, hk, hlen⟩ := hp
      have hl13 : ks.length ≤ 13 := by
        refine Nat.le_trans hlen ?_
        split <;> omega
      show tLc _ _ _ _ _ _ _ _
      refine et3_keys (ks := ks) hdd hn (by omega) (by one_place) (fun _ _ => rfl) (fun a b c H3 e3 hm => ⟨ev_var rfl, ev_var rfl, ev_dget (e3 _ _ hdd) hn hm (ev_var rfl) (by one_place)⟩) _ fun rows S => ?_
      intro p xs H3 np e3 h3 R
      exact q rows (rowOk_of hk hl13 S) p xs H3 (fresh_back e2 np) (e2.trans e3) h3 R
end

/-! ### the law's drawn sums -/
/- _law_sum: slots 0 _law_n, 1 _law_cell, 2 _law_wide, 3 _law_told, 4 _law_j, 5 _law_pick; calls _law_mix -/
abbrev s__law_sum : Stmt := topS 21
theorem sc__law_sum : FnScope ["_law_n", "_law_cell", "_law_wide", "_law_told", "_law_j", "_law_pick"] ["_law_n", "_law_cell", "_law_wide"] (defScope s__law_sum) := ⟨rfl, rfl, rfl, by decide +kernel, rfl, by decide +kernel, by decide +kernel⟩

def lsPick (c : Int) (j : Nat) : Int := mix c ((j : Int) % 20) / (1 + (j : Int) / 20)
def lsItem (c w : Int) (j : Nat) : Int := ([0, lsPick c j / 4 % 7 - 3, lsPick c j / 4 % 3 - 1, (lsPick c j / 4 % 19 - 9) * w] : List Int).getD (lsPick c j % 4).toNat 0
def lsumF (n c w : Int) : List Int := mkL n.toNat (lsItem c w)
theorem lsItem_bd (c w : Int) (j : Nat) (hw : w.natAbs < 2 ^ 110) : (lsItem c w j).natAbs < 2 ^ 120 := by
  unfold lsItem
  have hl : (lsPick c j % 4).toNat < 4 := by omega
  generalize lsPick c j = z at *
  have hb : ∀ i, i < 4 → (([0, z / 4 % 7 - 3, z / 4 % 3 - 1, (z / 4 % 19 - 9) * w] : List Int).getD i 0).natAbs < 2 ^ 120 := fun i hi => by
    rcases i with _ | _ | _ | _ | i
    · show (0 : Int).natAbs < _
      omega
    · show (z / 4 % 7 - 3).natAbs < _
      omega
    · show (z / 4 % 3 - 1).natAbs < _
      omega
    · show ((z / 4 % 19 - 9) * w).natAbs < _
      rw [Int.natAbs_mul]
      have h1 : (z / 4 % 19 - 9).natAbs ≤ 10 := by omega
      have := Nat.mul_le_mul h1 (Nat.le_of_lt hw)
      omega
    · omega
  exact hb _ hl
theorem lsumF_len (n c w : Int) (h : 0 ≤ n) : ((lsumF n c w).length : Int) = n := by
  unfold lsumF
  rw [mkL_len]
  omega
theorem lsumF_bd (n c w : Int) (hw : w.natAbs < 2 ^ 110) : Bd 120 (lsumF n c w) := fun m => by
  unfold lsumF
  rw [coef_mkL]
  split
  · exact lsItem_bd c w m hw
  · exact Nat.two_pow_pos 120
def spLSum : Sp := fun vs H Q _ => ∃ n c w : Int, vs = [.int n, .int c, .int w] ∧ 0 ≤ n ∧ n ≤ 1000 ∧ w.natAbs < 2 ^ 110 ∧ RetL ((lsumF n c w).map V.int) H Q
section
variable {P : Program} {w : World} {K : PySem.W.Frag} {mg : Str → Option Value} {base : Heap}
theorem cal_lsum (nb : Nb mg) (c__law_mix : Cal P w K mg base CX0 "_law_mix" 1 ["_law_cell", "_law_k"] spMix) (d : Dfn K mg "_law_sum" ["_law_n", "_law_cell", "_law_wide"] s__law_sum) : Cal P w K mg base CX0 "_law_sum" 2 ["_law_n", "_law_cell", "_law_wide"] spLSum := by
  refine d.cal sc__law_sum (fun vs H Q E h => ?_) (fun fa cdv A outer s H vs Q E hr h => ?_)
  · obtain ⟨n, c, w, rfl, _⟩ := h
    rfl
  · obtain ⟨n, c, w, rfl, n0, n1, hw, q⟩ := h
    refine ⟨_, (pss_cons (ps_set (i := 3) sc__law_sum.nd rfl (.inl rfl) (pe_lst pa_nil))
      (pss_cons (ps_for PassesOwn.never rfl (pi_range1 (by rfl) nb.range (pa_cons (pv 0) pa_nil)) (pg_name (i := 4) sc__law_sum.nd rfl (.inl rfl)) (pss_cons (ps_set (i := 5) sc__law_sum.nd rfl (.inl rfl) (pe_op op_fdivW (pe_cal c__law_mix (hr.mono (by first | decide | omega)) (by rfl) pass0 (pa_cons (pv 1) (pa_cons (pe_op op_mod (pv 4) pe_int) pa_nil))) (pe_op op_add pe_int (pe_op op_fdivW (pv 4) pe_int))))
      (pss_one (ps_expr (pe_bm PySem.F.plainAttrs_list PySem.F.slot_list_append PySem.F.type_list_append mt_append (pv 3) (pa_cons (pe_ix ix_list (pe_lst (pa_cons pe_int (pa_cons (pe_op op_sub (pe_op op_mod (pe_op op_fdivW (pv 5) pe_int) pe_int) pe_int) (pa_cons (pe_op op_sub (pe_op op_mod (pe_op op_fdivW (pv 5) pe_int) pe_int) pe_int) (pa_cons (pe_op op_mulW (pe_op op_sub (pe_op op_mod (pe_op op_fdivW (pv 5) pe_int) pe_int) pe_int) (pv 2)) pa_nil))))) (pe_op op_mod (pv 5) pe_int) (fun _ _ => rfl)) pa_nil))))))
      (pss_one (ps_ret (pv 3))))), ?_⟩
    refine q_asgL (xs := []) (el_lst ea_nil (by decide)) fun t H1 nt e1 h1 => ?_
    refine q_forR1 (n := n) (by one_place) (by omega) (fun i σ' H' => ∃ x y, σ' = [some (.int n), some (.int c), some (.int w), some (.ref t), x, y] ∧ Ex H H' ∧ H' t = some (.lst ((mkL i (lsItem c w)).map V.int)))
      (fun H2 e2 => ⟨none, none, rfl, e1.trans e2, e2 _ _ h1⟩) (fun i σ' H' hi hp => ?_) (fun σ' H' hp => ?_)
    · obtain ⟨x, y, rfl, e2, h2⟩ := hp
      refine q_asg (v := .int (lsPick c i)) (ev_div (ev_cal (vs := [.int c, .int ((i : Int) % 20)]) (by one_place) fun H3 e3 Q k E => ⟨c, (i : Int) % 20, rfl, by omega, by omega, k⟩) (by one_place) (divW (by omega) (by omega))) fun H3 e3 => ?_
      refine s_app (v := .int (lsItem c w i)) (e3 _ _ h2) (by one_place) (ev_ixN (ns := [0, lsPick c i / 4 % 7 - 3, lsPick c i / 4 % 3 - 1, (lsPick c i / 4 % 19 - 9) * w]) (el_lst (by one_place) (by show 4 ≤ 100000; decide)) (fun _ _ => by one_place) (by omega) (by simp; omega)) (by rw [List.length_map, mkL_len]; omega) fun H4 e4 => ⟨_, _, rfl, Ex.mut ((e2.trans e3).trans e4) nt, ?_⟩
      rw [upd_same]
      unfold mkL
      rw [List.range_succ, List.map_append, List.map_append]
      rfl
    · obtain ⟨x, y, rfl, e2, h2⟩ := hp
      exact s_ret (v := .ref t) (by one_place) fun H5 e5 => q.go (Ex.refl H) nt (e2.trans e5) (e5 _ _ h2)
end

/-! ### the judges' looking -/
def isW : PyData → Bool
  | .int _ => true
  | _ => false
theorem isW_is (d : PyData) : (isK "int" d && !isK "bool" d) = isW d := by
  cases d <;> (simp only [isK, kindS, isW]; decide +kernel)
/- is_whole: slots 0 thing; calls  -/
abbrev s_is_whole : Stmt := topS 1
theorem sc_is_whole : FnScope ["thing"] ["thing"] (defScope s_is_whole) := ⟨rfl, rfl, rfl, by decide +kernel, rfl, by decide +kernel, by decide +kernel⟩

def spIsW : Sp := fun vs H Q _ => ∃ (x : V) (d : PyData), vs = [x] ∧ Dq H x d ∧ RetV (.bl (isW d)) H Q
section
variable {P : Program} {w : World} {K : PySem.W.Frag} {mg : Str → Option Value} {base : Heap}
theorem cal_isw (nb : Nb mg) (d : Dfn K mg "is_whole" ["thing"] s_is_whole) : Cal P w K mg base CX0 "is_whole" 1 ["thing"] spIsW := by
  refine d.cal sc_is_whole (fun vs H Q E h => ?_) (fun f cdv A outer s H vs Q E hr h => ?_)
  · obtain ⟨x, d, rfl, _⟩ := h
    rfl
  · obtain ⟨x, d, rfl, hd, q⟩ := h
    refine ⟨_, (pss_one (ps_ret (pe_and (pe_callB call_isi (by rfl) nb.isinstance (by decide +kernel) (pa_cons (pv 0) (pa_cons (pe_bltn (v := .ty "int") (by rfl) nb.int (by decide +kernel) rfl) pa_nil))) (pe_one (pe_not (pe_callB call_isi (by rfl) nb.isinstance (by decide +kernel) (pa_cons (pv 0) (pa_cons (pe_bltn (v := .ty "bool") (by rfl) nb.bool (by decide +kernel) rfl) pa_nil)))))))), ?_⟩
    exact s_ret (v := .bl (isW d)) (ev_is (ev_andV (ev_isD (ev_var rfl) hd (.inr (.inr (.inl rfl)))) fun _ => ev_notV (ev_isD (ev_var rfl) hd (.inr (.inr (.inr rfl))))) (by rw [isW_is])) fun H1 e1 => q H1 e1
end

/-! ### things of some kinds, made: each with a property -/
section
variable {K : PySem.W.Frag} {σ : L2.St} {H : Hp} {te ta tb ti : TE} {tr : TA} {D : Ends} {E : XK} {Pd : PyData → Prop} {n : Nat} {x : V} {d : PyData}
def EvQd (Pd : PyData → Prop) (te : TE) (σ : L2.St) (H : Hp) : Prop := ∀ H1, Ex H H1 → ∀ Q : VK, (∀ x d H2, Ex H1 H2 → Dq H2 x d → Pd d → Q x H2) → te σ H1 Q
def EvQs (Pd : PyData → Prop) (tr : TA) (σ : L2.St) (H : Hp) (n : Nat) : Prop := ∀ H1, Ex H H1 → ∀ Q : List V → Hp → Prop, (∀ xs ds H2, Ex H1 H2 → DqAll H2 xs ds → (∀ d ∈ ds, Pd d) → xs.length = n → Q xs H2) → tr σ H1 Q
theorem eq_val (h : Ev te σ H x) (g : ∀ H1, Ex H H1 → Dq H1 x d) (p : Pd d) : EvQd Pd te σ H := fun H1 e Q q => h H1 e _ fun H2 e2 => q x d H2 e2 (g H2 (e.trans e2)) p
theorem eq_ints {ns : List Int} (h : EvL te σ H (ns.map V.int)) (p : Pd (dI ns)) : EvQd Pd te σ H := fun H1 e Q q => h H1 e _ fun a H2 na e2 ha => q (.ref a) (dI ns) H2 e2 (dq_ints ha) p
theorem eqs_nil : EvQs Pd tNil σ H 0 := fun H1 e Q q => q [] [] H1 (Ex.refl H1) .nil (fun _ h => absurd h List.not_mem_nil) rfl
theorem eqs_cons (h : EvQd Pd te σ H) (hr : EvQs Pd tr σ H n) : EvQs Pd (tCons te tr) σ H (n + 1) := fun H1 e Q q =>
  h H1 e _ fun x d H2 e2 g p => hr H2 (e.trans e2) _ fun xs ds H3 e3 gs ps l => q (x :: xs) (d :: ds) H3 (e2.trans e3) (.cons (g.mono e3) gs) (fun y hy => by
    rcases List.mem_cons.mp hy with rfl | hy
    · exact p
    · exact ps y hy) (by rw [List.length_cons, l])
theorem eq_lst {Pe : PyData → Prop} (h : EvQs Pe tr σ H n) (hn : n ≤ 100000) (hp : ∀ ds, ds.length = n → (∀ d ∈ ds, Pe d) → Pd (.list ds)) : EvQd Pd (tLst tr) σ H := fun H1 e Q q =>
  h H1 e _ fun xs ds H2 e2 gs ps l => ⟨sz_of (by omega), fun p np => q (.ref p) (.list ds) _ (e2.trans (Ex.new np)) (.lst upd_same (gs.mono (Ex.new np))) (hp ds (by rw [← gs.len, l]) ps)⟩
theorem eq_tup {Pe : PyData → Prop} (h : EvQs Pe tr σ H n) (hn : n ≤ 100000) (hp : ∀ ds, ds.length = n → (∀ d ∈ ds, Pe d) → Pd (.tuple ds)) : EvQd Pd (tTup tr) σ H := fun H1 e Q q =>
  h H1 e _ fun xs ds H2 e2 gs ps l => ⟨sz_of (by omega), fun p np => q (.ref p) (.tuple ds) _ (e2.trans (Ex.new np)) (.tup upd_same (gs.mono (Ex.new np))) (hp ds (by rw [← gs.len, l]) ps)⟩
theorem eq_pick {i : Int} (h : EvQs Pd tr σ H n) (hn : n ≤ 100000) (hi : Ev ti σ H (.int i)) (h0 : 0 ≤ i) (h1 : i < (n : Int)) : EvQd Pd (tOp (rIxL K) (tLst tr) ti) σ H := fun H1 e Q q =>
  h H1 e _ fun xs ds H2 e2 gs ps l => ⟨sz_of (by omega), fun p np => by
    have eN : Ex H2 (upd H2 p (.lst xs)) := Ex.new np
    refine hi _ ((e.trans e2).trans eN) _ fun H3 e3 => ?_
    obtain ⟨j, rfl⟩ := Int.eq_ofNat_of_zero_le h0
    have hj : j < xs.length := by omega
    obtain ⟨d, hd, g⟩ := gs.at (List.getElem?_eq_getElem hj)
    exact (rv_ixL (K := K) (xs := xs) (i := (j : Int)) (sq_of (e3 _ _ upd_same)) (atI_nat (List.getElem?_eq_getElem hj))) H3 (Ex.refl _) _ fun H4 e4 => q _ d H4 ((e2.trans eN).trans (e3.trans e4)) (g.mono (eN.trans (e3.trans e4))) (ps d (List.mem_of_getElem? hd))⟩
theorem eq_tupOf {p : Addr} {xs : List V} {ds : List PyData} (h : Ev te σ H (.ref p)) (hp : H p = some (.lst xs)) (g : DqAll H xs ds) (s : Pd (.tuple ds)) : EvQd Pd (tCB (fun vs H Q => ∃ p ys, vs = [.ref p] ∧ ((SqL K H p ys ∧ ∀ l, H l = none → Q (.ref l) (upd H l (.tup ys))) ∨ (SqT K H p ys ∧ Q (.ref p) H))) (tCons te tNil)) σ H := fun H1 e Q q =>
  h H1 e _ fun H2 e2 => ⟨p, xs, rfl, .inl ⟨sq_of ((e.trans e2) _ _ hp), fun l nl => q (.ref l) (.tuple ds) _ (e2.trans (Ex.new nl)) (.tup upd_same (g.mono ((e.trans e2).trans (Ex.new nl)))) s⟩⟩
/-- numbers, a thing, numbers, in a row -/
theorem eq_mid {Pe : PyData → Prop} {ns ms : List Int} (h1 : EvL ta σ H (ns.map V.int)) (h2 : EvQd Pe te σ H) (h3 : ∀ H1, Ex H H1 → EvL tb σ H1 (ms.map V.int)) (hz : ns.length ≤ 1000 ∧ ms.length ≤ 1000) (hp : ∀ d, Pe d → Pd (.list (ns.map PyData.int ++ [d] ++ ms.map PyData.int))) : EvQd Pd (tOp rCat (tOp rCat ta (tLst (tCons te tNil))) tb) σ H := fun H1 e Q q =>
  h1 H1 e _ fun a H2 na e2 ha => h2 H2 (e.trans e2) _ fun x d H3 e3 g p => ⟨sz_of (show 1 ≤ 100000 by decide), fun l nl => by
    have e4 : Ex H3 (upd H3 l (.lst [x])) := Ex.new nl
    refine ⟨a, l, ns.map V.int, [x], rfl, rfl, e4 _ _ (e3 _ _ ha), upd_same, sz_of (by rw [List.length_map]; show _ + 1 ≤ _; omega), fun b nb => ?_⟩
    have e5 : Ex (upd H3 l (.lst [x])) (upd (upd H3 l (.lst [x])) b (.lst (ns.map V.int ++ [x]))) := Ex.new nb
    refine h3 _ ((((e.trans e2).trans e3).trans e4).trans e5) _ (Ex.refl _) _ fun c H6 nc e6 hc => ?_
    refine ⟨b, c, ns.map V.int ++ [x], ms.map V.int, rfl, rfl, e6 _ _ upd_same, hc, sz_of (by rw [List.length_append, List.length_map, List.length_map]; show _ + 1 + _ ≤ _; omega), fun r nr => ?_⟩
    have e7 : Ex H6 (upd H6 r (.lst (ns.map V.int ++ [x] ++ ms.map V.int))) := Ex.new nr
    exact q (.ref r) _ _ ((e2.trans e3).trans (e4.trans (e5.trans (e6.trans e7)))) (.lst upd_same (((dqa_ints _ ns).app (.cons (g.mono (e4.trans (e5.trans (e6.trans e7)))) .nil)).app (dqa_ints _ ms))) (hp d p)⟩
theorem el_calVL65 {sp : Sp} {v : V} {xs ys : List V} (h0 : Ev ta σ H v) (h : EvL te σ H xs) (hs : ∀ p H1, Ex H H1 → H1 p = some (.lst xs) → ∀ Q : VK, RetL ys H1 Q → ∀ E : XK, sp [v, .ref p] H1 Q E) : EvL (tCall sp [] E (tCons ta (tCons te tNil))) σ H ys := fun H1 e Q q =>
  h0 H1 e _ fun H2 e2 => h H2 (e.trans e2) _ fun p H3 np e3 hp => by
    show sp ([v, .ref p] ++ []) H3 Q E
    rw [List.append_nil]
    exact hs p H3 ((e.trans e2).trans e3) hp Q (fun l H4 nl e4 hl => q l H4 (fresh_back (e2.trans e3) nl) ((e2.trans e3).trans e4) hl) E
/-- [..][:k] -/
theorem el_slN65 {xs ys : List V} {k : Nat} (h : EvL ta σ H xs) (hk : ∀ H1, Ex H H1 → Ev tb σ H1 (.int (k : Nat))) (hy : xs.take k = ys) : EvL (tSl (rSlL K) ta tNoPart (tPart tb)) σ H ys := fun H1 e Q q =>
  h H1 e _ fun p H2 np e2 hp => eo_none (H := H2) H2 (Ex.refl H2) _ fun H3 e3 => (eo_some (hk H3 (e.trans (e2.trans e3)))) H3 (Ex.refl H3) _ fun H4 e4 => ⟨p, xs, rfl, SqL.of ((e3.trans e4) _ _ hp), fun l nl => by
    rw [cut_take, hy]
    exact q l _ (fresh_back (e2.trans (e3.trans e4)) nl) ((e2.trans (e3.trans e4)).trans (Ex.new nl)) upd_same⟩
theorem s_retQ (h : EvQd Pd te σ H) (k : ∀ x d H1, Ex H H1 → Dq H1 x d → Pd d → D.rt x H1) : tRet te D σ H := h H (Ex.refl H) _ k
end
/-- a thing that is read, shown and compared -/
theorem trim_le66 (l : List Int) : (trim l).length ≤ l.length := by
  rw [trim_len]
  exact tlen_le l _
def Ok65 (b k : Nat) (d : PyData) : Prop := d.canLay0 = true ∧ Sz b k d
theorem Ok65.up {b b' k k' : Nat} {d : PyData} (h : Ok65 b k d) (hb : b ≤ b') (hk : k ≤ k') : Ok65 b' k' d := ⟨h.1, h.2.mono hb hk⟩
theorem ok_ints {ns : List Int} (hz : ns.length ≤ 81) (hb : Bd 1900 ns) : Ok65 157990 1 (dI ns) := by
  refine ⟨dI_lay ns, (Sz.lst (sza_ints (ns := ns) fun i hi => ?_)).mono (by omega) (by decide)⟩
  obtain ⟨m, hm⟩ := List.mem_iff_getElem?.mp hi
  have := hb m
  rwa [coef_of hm] at this
theorem ok_int {i : Int} (h : i.natAbs < 2 ^ 1900) : Ok65 1921 0 (.int i) := ⟨rfl, sz_int h⟩
theorem lay_app : ∀ {ds es : List PyData}, PyData.canLayAll0 ds = true → PyData.canLayAll0 es = true → PyData.canLayAll0 (ds ++ es) = true
  | [], es, _, h => h
  | d :: ds, es, h, g => by
    rw [List.cons_append]
    unfold PyData.canLayAll0 at h ⊢
    rw [Bool.and_eq_true] at h ⊢
    exact ⟨h.1, lay_app h.2 g⟩
theorem lay_all {ds : List PyData} (h : ∀ d ∈ ds, d.canLay0 = true) : PyData.canLayAll0 ds = true := by
  induction ds with
  | nil => rfl
  | cons d ds ih =>
    unfold PyData.canLayAll0
    rw [h d List.mem_cons_self, ih fun x hx => h x (List.mem_cons_of_mem _ hx)]
    rfl
theorem ok_one {b k : Nat} {d : PyData} (h : Ok65 b k d) : Ok65 (b + 5) (k + 1) (.list [d]) := by
  refine ⟨?_, (Sz.lst (SzA.cons h.2 (SzA.nil.mono (Nat.le_refl _) (Nat.zero_le _)))).mono (by omega) (Nat.le_refl _)⟩
  show PyData.canLayAll0 [d] = true
  exact lay_all fun x hx => by rw [List.mem_singleton.mp hx]; exact h.1
theorem ok_two {b c k : Nat} {d e : PyData} (h : Ok65 b k d) (g : Ok65 c k e) : Ok65 (b + c + 7) (k + 1) (.list [d, e]) := by
  refine ⟨?_, (Sz.lst (SzA.cons h.2 (SzA.cons g.2 (SzA.nil.mono (Nat.le_refl _) (Nat.zero_le _))))).mono (by omega) (Nat.le_refl _)⟩
  show PyData.canLayAll0 [d, e] = true
  refine lay_all fun x hx => ?_
  rcases List.mem_cons.mp hx with rfl | hx
  · exact h.1
  · rw [List.mem_singleton.mp hx]
    exact g.1
theorem ok_mid {ns ms : List Int} {d : PyData} (hz : ns.length ≤ 40 ∧ ms.length ≤ 40) (h1 : Bd 1900 ns) (h2 : Bd 1900 ms) (h : Ok65 2000 2 d) : Ok65 157990 3 (.list (ns.map PyData.int ++ [d] ++ ms.map PyData.int)) := by
  have bi : ∀ {l : List Int}, Bd 1900 l → ∀ i ∈ l, i.natAbs < 2 ^ 1900 := fun hb i hi => by
    obtain ⟨m, hm⟩ := List.mem_iff_getElem?.mp hi
    have := hb m
    rwa [coef_of hm] at this
  refine ⟨?_, (Sz.lst (((sza_ints (bi h1)).mono (Nat.le_refl _) (show 0 ≤ 2 by decide)).app (SzA.cons h.2 (SzA.nil.mono (Nat.le_refl _) (Nat.zero_le _))) |>.app ((sza_ints (bi h2)).mono (Nat.le_refl _) (show 0 ≤ 2 by decide)))).mono (by omega) (Nat.le_refl _)⟩
  show PyData.canLayAll0 (ns.map PyData.int ++ [d] ++ ms.map PyData.int) = true
  exact lay_app (lay_app (lay_map _ (fun _ => rfl) ns) (lay_all fun x hx => by rw [List.mem_singleton.mp hx]; exact h.1)) (lay_map _ (fun _ => rfl) ms)
theorem ok_str0 : Ok65 2000 0 (.str (Str.ofString "0")) := ⟨by decide +kernel, sz_str (by decide +kernel) (by decide +kernel)⟩
theorem ok_strE : Ok65 2000 0 (.str (Str.ofString "")) := ⟨by decide +kernel, sz_str (by decide +kernel) (by decide +kernel)⟩
theorem Bd.take65 {b : Nat} {f : List Int} (h : Bd b f) (k : Nat) : Bd b (f.take k) := fun m => by
  rw [coef_take]
  split
  · exact h m
  · exact Nat.two_pow_pos _
theorem Bd.drop65 {b : Nat} {f : List Int} (h : Bd b f) (k : Nat) : Bd b (f.drop k) := Bd.of fun x hx => by
  obtain ⟨m, hm⟩ := List.mem_iff_getElem?.mp (List.mem_of_mem_drop hx)
  have := h m
  rwa [coef_of hm] at this
theorem Bd.app65 {b : Nat} {f g : List Int} (h : Bd b f) (k : Bd b g) : Bd b (f ++ g) := fun m => by
  rw [coef_app]
  split
  · exact h m
  · exact k _
theorem Bd.one65 {b : Nat} {c : Int} (h : c.natAbs < 2 ^ b) : Bd b [c] := Bd.of fun x hx => by rw [List.mem_singleton.mp hx]; exact h
theorem addP_bd65 {b : Nat} {f g : List Int} (hf : Bd b f) (hg : Bd b g) : Bd (b + 1) (addP 1 f g) := fun m => by
  rw [coef_addP]
  have a := hf m
  have c := hg m
  have p : 2 ^ (b + 1) = 2 * 2 ^ b := by rw [Nat.pow_succ, Nat.mul_comm]
  omega
theorem addP_len65 (f g : List Int) : (addP 1 f g).length ≤ max f.length g.length := by
  unfold addP addL
  refine Nat.le_trans (trim_le66 _) ?_
  rw [mkL_len]
  exact Nat.le_refl _
theorem cv_bd65 {a b : Nat} {f g : List Int} (hf : Bd a f) (hg : Bd b g) (m : Nat) : ∀ i, (cv f g i m).natAbs ≤ i * 2 ^ (a + b)
  | 0 => by rw [Nat.zero_mul]; exact Nat.le_refl _
  | i + 1 => by
    have ih := cv_bd65 hf hg m i
    have h : ∀ j, (coef f i * coef g j).natAbs ≤ 2 ^ (a + b) := fun j => by
      rw [Int.natAbs_mul, Nat.pow_add]
      exact Nat.mul_le_mul (Nat.le_of_lt (hf i)) (Nat.le_of_lt (hg j))
    show (cv f g i m + if i ≤ m then coef f i * coef g (m - i) else 0).natAbs ≤ (i + 1) * 2 ^ (a + b)
    rw [Nat.add_mul, Nat.one_mul]
    generalize 2 ^ (a + b) = B at *
    split
    · have := h (m - i)
      omega
    · omega
theorem dqa_intsL65 {H : Hp} : ∀ {xs : List V} {L : List Int}, DqAll H xs (L.map PyData.int) → xs = L.map V.int
  | [], [], _ => rfl
  | [], y :: L, h => nomatch h
  | x :: xs, [], h => nomatch h
  | x :: xs, y :: L, .cons h t => by
    cases h
    rw [List.map_cons, dqa_intsL65 t]
theorem dq_intsL65 {H : Hp} {x : V} {L : List Int} (h : Dq H x (dI L)) : ∃ p, x = .ref p ∧ H p = some (.lst (L.map V.int)) := by
  cases h with
  | lst ha hs =>
    have := dqa_intsL65 hs
    subst this
    exact ⟨_, rfl, ha⟩
/-! ### whether any thing is a polynomial, of the law -/
def nOf : PyData → Int
  | .int i => i
  | _ => 0
theorem ints_of65 : ∀ {ds : List PyData}, ds.all isW = true → ds = (ds.map nOf).map PyData.int
  | [], _ => rfl
  | d :: ds, h => by
    rw [List.all_cons, Bool.and_eq_true] at h
    rw [List.map_cons, List.map_cons, ← ints_of65 h.2]
    have a := h.1
    cases d <;> first | rfl | (simp [isW] at a)
def trB (ns : List Int) : Bool := decide (ns = []) || !decide (coef ns (ns.length - 1) = 0)
theorem trB_tr {ns : List Int} (h : trB ns = true) : Tr ns := fun ne => by
  unfold trB at h
  rw [Bool.or_eq_true, decide_eq_true_iff, Bool.not_eq_true', decide_eq_false_iff_not] at h
  rcases h with h | h
  · exact absurd h ne
  · exact h
theorem tr_trB {ns : List Int} (h : Tr ns) : trB ns = true := by
  unfold trB
  rw [Bool.or_eq_true, decide_eq_true_iff, Bool.not_eq_true', decide_eq_false_iff_not]
  by_cases e : ns = []
  · exact .inl e
  · exact .inr (h e)
def ipF : PyData → Bool
  | .list ds => ds.all isW && trB (ds.map nOf)
  | _ => false
theorem ipF_of {d : PyData} (h : ipF d = true) : ∃ ns : List Int, d = dI ns ∧ Tr ns := by
  obtain ⟨ds, rfl⟩ : ∃ ds, d = .list ds := by
    cases d <;> first | (simp [ipF] at h) | skip
    exact ⟨_, rfl⟩
  unfold ipF at h
  rw [Bool.and_eq_true] at h
  exact ⟨ds.map nOf, by rw [dI, ← ints_of65 h.1], trB_tr h.2⟩
theorem isWA65 (ns : List Int) : (ns.map PyData.int).all isW = true := List.all_eq_true.mpr fun x hx => by
  obtain ⟨i, _, rfl⟩ := List.mem_map.mp hx
  rfl
theorem nOf65 (ns : List Int) : (ns.map PyData.int).map nOf = ns := by
  rw [List.map_map]
  exact List.map_id ns
theorem ipF_ints (ns : List Int) : ipF (dI ns) = trB ns := by
  show ((ns.map PyData.int).all isW && trB ((ns.map PyData.int).map nOf)) = trB ns
  rw [isWA65, nOf65, Bool.true_and]
mutual
theorem dq_dp65 {K : PySem.W.Frag} {H : Hp} : ∀ {v : V} {d : PyData}, Dq H v d → Dp K H v d
  | _, _, .non => .non
  | _, _, .bl b => .bl b
  | _, _, .int i => .int i
  | _, _, .str x => .str x
  | _, _, .lst h hs => .lst (SqL.of h) (dqa_dpa65 hs)
  | _, _, .tup h hs => .tup (SqT.of h) (dqa_dpa65 hs)
theorem dqa_dpa65 {K : PySem.W.Frag} {H : Hp} : ∀ {vs : List V} {ds : List PyData}, DqAll H vs ds → DpAll K H vs ds
  | _, _, .nil => .nil
  | _, _, .cons h hs => .cons (dq_dp65 h) (dqa_dpa65 hs)
end
theorem dqa_pick65 {H : Hp} {xs : List V} {ds : List PyData} (h : DqAll H xs ds) : ∀ l : List Nat, (∀ i ∈ l, i < xs.length) → DqAll H (l.map fun i => xs.getD i .non) (l.map fun i => ds.getD i .none)
  | [], _ => .nil
  | i :: l, hl => by
    have hi := hl i List.mem_cons_self
    obtain ⟨d, hd, g⟩ := h.at (List.getElem?_eq_getElem hi)
    rw [List.map_cons, List.map_cons, List.getD_eq_getElem?_getD, List.getElem?_eq_getElem hi, List.getD_eq_getElem?_getD, hd]
    exact .cons g (dqa_pick65 h l fun j hj => hl j (List.mem_cons_of_mem _ hj))
theorem lay_at65 : ∀ {ds : List PyData} {d : PyData}, PyData.canLayAll0 ds = true → d ∈ ds → d.canLay0 = true
  | e :: ds, d, h, m => by
    unfold PyData.canLayAll0 at h
    rw [Bool.and_eq_true] at h
    rcases List.mem_cons.mp m with rfl | m
    · exact h.1
    · exact lay_at65 h.2 m
theorem dep_at65 {k : Nat} : ∀ {ds : List PyData} {d : PyData}, PyData.depthAll ds ≤ k → d ∈ ds → d.depth ≤ k
  | e :: ds, d, h, m => by
    unfold PyData.depthAll at h
    have h := Nat.max_le.mp h
    rcases List.mem_cons.mp m with rfl | m
    · exact h.1
    · exact dep_at65 h.2 m
theorem dep_all65 {k : Nat} : ∀ {ds : List PyData}, (∀ d ∈ ds, d.depth ≤ k) → PyData.depthAll ds ≤ k
  | [], _ => Nat.zero_le _
  | d :: ds, h => by
    unfold PyData.depthAll
    exact Nat.max_le.mpr ⟨h d List.mem_cons_self, dep_all65 fun e he => h e (List.mem_cons_of_mem _ he)⟩
theorem shBA_len65 {H : Hp} : ∀ {vs : List V} {ds : List PyData}, DqAll H vs ds → 4 * ds.length ≤ shBA ds
  | _, _, .nil => Nat.zero_le _
  | _, _, .cons (d := d) h hs => by
    have ih := shBA_len65 hs
    have : 2 ≤ shB d := by
      cases h <;> (simp only [shB]; omega)
    simp only [shBA]
    rw [List.length_cons]
    omega
theorem eqv_list_nil65 (d : PyData) (ds : List PyData) : PyData.eqv (.list (d :: ds)) (.list []) = false := by
  simp [PyData.eqv, PyData.eqvAll]
theorem isKl65 (d : PyData) : isK "list" d = (match d with | .list _ => true | _ => false) := by
  cases d <;> (simp only [isK, kindS]; decide +kernel)

/-! ### the judges of noughts, of any thing -/
theorem isWK20 (d : PyData) : isK "tuple" d = (match d with | .tuple _ => true | _ => false) := by
  cases d <;> (simp only [isK, kindS]; decide +kernel)
theorem isW_of {d : PyData} (h : isW d = true) : d = .int (nOf d) := by
  cases d <;> first | rfl | (simp [isW] at h)
theorem tup_cases {n : Nat} (d : PyData) : (isK "tuple" d = false ∧ ∀ ys, d ≠ .tuple ys) ∨ (∃ ys, d = .tuple ys ∧ ys.length ≠ n) ∨ ∃ ys, d = .tuple ys ∧ ys.length = n := by
  by_cases h : isK "tuple" d = true
  · obtain ⟨ys, rfl⟩ : ∃ ys, d = .tuple ys := by
      rw [isWK20] at h
      cases d <;> first | (exact ⟨_, rfl⟩) | (cases h)
    by_cases l : ys.length = n
    · exact .inr (.inr ⟨ys, rfl, l⟩)
    · exact .inr (.inl ⟨ys, rfl, l⟩)
  · have h := Bool.eq_false_iff.mpr h
    refine .inl ⟨h, fun ys e => ?_⟩
    rw [e, isWK20] at h
    cases h
/-- a row of a wheel, by its data -/
def twB (n : Int) (ps : List Int) : PyData → Bool
  | .tuple [a, b, c] => (isW a && (isW b && isW c)) && (decide (nOf a ∈ ps) && ((decide (0 ≤ nOf b) && decide (nOf b < n / nOf a)) && !decide (nOf c = 0)))
  | _ => false
def le20 (p j p' j' : Int) : Bool := if p = p' then decide (j ≤ j') else decide (p ≤ p')
def rowT : PyData → I3
  | .tuple [a, b, c] => (nOf a, nOf b, nOf c)
  | _ => (0, 0, 0)
def awG (n : Int) (ps : List Int) : Int → Int → List PyData → Bool
  | _, _, [] => true
  | p, j, d :: ds => twB n ps d && (!le20 (rowT d).1 (rowT d).2.1 p j && awG n ps (rowT d).1 (rowT d).2.1 ds)
def awB (n : Int) (ps : List Int) : PyData → Bool
  | .list ds => awG n ps 0 0 ds
  | _ => false
def rowsT : PyData → List I3
  | .list ds => ds.map rowT
  | _ => []
theorem tw_of {n : Int} {ps : List Int} {d : PyData} (h : twB n ps d = true) : d = d3 (rowT d) ∧ (rowT d).1 ∈ ps ∧ 0 ≤ (rowT d).2.1 ∧ (rowT d).2.1 < n / (rowT d).1 ∧ (rowT d).2.2 ≠ 0 := by
  unfold twB at h
  split at h
  · rename_i a b c
    simp only [Bool.and_eq_true, decide_eq_true_iff, Bool.not_eq_true', decide_eq_false_iff_not] at h
    obtain ⟨⟨ha, hb, hc⟩, h1, ⟨h2, h3⟩, h4⟩ := h
    refine ⟨?_, h1, h2, h3, h4⟩
    show PyData.tuple [a, b, c] = .tuple [.int (nOf a), .int (nOf b), .int (nOf c)]
    rw [← isW_of ha, ← isW_of hb, ← isW_of hc]
  · cases h
theorem aw_tw {n : Int} {ps : List Int} : ∀ {ds : List PyData} {p j : Int}, awG n ps p j ds = true → ∀ d ∈ ds, twB n ps d = true
  | d :: ds, p, j, h, e, he => by
    unfold awG at h
    rw [Bool.and_eq_true, Bool.and_eq_true] at h
    rcases List.mem_cons.mp he with rfl | he
    · exact h.1
    · exact aw_tw h.2.2 e he
theorem dq_trs20 {K : PySem.W.Frag} {H : Hp} {n : Int} {ps : List Int} : ∀ {xs : List V} {ds : List PyData}, DqAll H xs ds → (∀ d ∈ ds, twB n ps d = true) → Trs K H xs (ds.map rowT)
  | _, _, .nil, _ => .nil
  | _, _, .cons (d := d) h hs, t => by
    have e := (tw_of (t d List.mem_cons_self)).1
    rw [e] at h
    refine .cons ?_ (dq_trs20 hs fun x hx => t x (List.mem_cons_of_mem _ hx))
    unfold d3 at h
    cases h with
    | tup h hs =>
      cases hs with
      | cons h1 hs =>
        cases hs with
        | cons h2 hs =>
          cases hs with
          | cons h3 hs =>
            cases hs
            cases h1
            cases h2
            cases h3
            exact ⟨_, rfl, SqT.of h⟩
theorem lex_le20 (p j p' j' : Int) : Ob.lexAt (fun k => decide (([p, j] : List Int).getD k 0 = ([p', j'] : List Int).getD k 0)) (fun k => decide (([p, j] : List Int).getD k 0 ≤ ([p', j'] : List Int).getD k 0)) (decide (([p, j] : List Int).length ≤ ([p', j'] : List Int).length)) 0 (min ([p, j] : List Int).length ([p', j'] : List Int).length) = le20 p j p' j' := by
  show (if decide (p = p') = true then (if decide (j = j') = true then decide (2 ≤ 2) else decide (j ≤ j')) else decide (p ≤ p')) = le20 p j p' j'
  unfold le20
  by_cases e : p = p'
  · rw [if_pos (decide_eq_true e), if_pos e]
    by_cases f : j = j'
    · rw [if_pos (decide_eq_true f), f, decide_eq_true (Int.le_refl j')]
      rfl
    · rw [if_neg (by rw [decide_eq_true_iff]; exact f)]
  · rw [if_neg (by rw [decide_eq_true_iff]; exact e), if_neg e]
section
variable {K : PySem.W.Frag} {σ : L2.St} {H : Hp} {ta tb tc te : TE}
theorem ev_le20 {p j p' j' : Int} {t u : Addr} (ha : Ev ta σ H (.ref u)) (hb : ∀ H1, Ex H H1 → Ev tb σ H1 (.ref t)) (hu : ∀ H1, Ex H H1 → SqT K H1 u [.int p, .int j]) (ht : ∀ H1, Ex H H1 → SqT K H1 t [.int p', .int j']) : Ev (tOp (rLeT K) ta tb) σ H (.bl (le20 p j p' j')) := fun H1 e Q q =>
  ha H1 e _ fun H2 e2 => (hb H2 (e.trans e2)) H2 (Ex.refl H2) _ fun H3 e3 => ⟨u, t, [p, j], [p', j'], rfl, rfl, hu H3 ((e.trans e2).trans e3), ht H3 ((e.trans e2).trans e3), by rw [lex_le20]; exact q H3 (e2.trans e3)⟩
theorem ev_inV22 {a : Addr} {x : Int} {ns : List Int} (ha : Ev ta σ H (.int x)) (hb : Ev tb σ H (.ref a)) (hl : SqL K H a (ns.map V.int)) : Ev (tOp (rIn K false) ta tb) σ H (.bl (decide (x ∈ ns))) := by
  have := rv_isL (K := K) (x := .int x) hl rfl (flat_ints ns)
  rw [inV_int] at this
  exact ev_op ha hb this
theorem ev_chain20 {a b c : Int} (ha : Ev ta σ H (.int a)) (hb : Ev tb σ H (.int b)) (hc : a ≤ b → Ev tc σ H (.int c)) : Ev (tChain (rI0 fun i j => .bl (decide (i ≤ j))) (rI0 fun i j => .bl (decide (i < j))) ta tb tc) σ H (.bl (decide (a ≤ b) && decide (b < c))) := fun H1 e Q q =>
  ha H1 e _ fun H2 e2 => hb H2 (e.trans e2) _ fun H3 e3 => ⟨a, b, rfl, rfl, _, rfl, by
    by_cases h : a ≤ b
    · rw [if_pos (decide_eq_true h)]
      exact hc h H3 ((e.trans e2).trans e3) _ fun H4 e4 => ⟨b, c, rfl, rfl, by rw [decide_eq_true h] at q; exact q H4 ((e2.trans e3).trans e4)⟩
    · rw [if_neg (by rw [decide_eq_false h]; decide)]
      rw [decide_eq_false h] at q
      exact q H3 (e2.trans e3)⟩
theorem el_lcTu20 {a : Addr} {xs : List V} {t : TT} {j : Nat} {vs : List Nat} (f : Nat → Bool) (v : Nat → V) (h : Ev ta σ H (.ref a)) (hx : SqT K H a xs) (hz : xs.length ≤ 40000) (hw : ∀ x, wipe ((wipe σ vs).set j (some x)) vs = wipe σ vs)
    (ht : ∀ (i : Nat) (x : V) H1, Ex H H1 → xs[i]? = some x → EvT t ((wipe σ vs).set j (some x)) H1 (f i)) (he : ∀ (i : Nat) (x : V) H1, Ex H H1 → xs[i]? = some x → f i = true → Ev te ((wipe σ vs).set j (some x)) H1 (v i)) :
    EvL (tLc (iTup K ta) (gName j) t te vs) σ H (given xs.length f v) := fun H0 e Q q => h H0 e _ fun H1 e1 => ⟨a, rfl, ⟨xs, ex_t (e.trans e1) hx⟩, fun Dl hD =>
  lc_it (n := xs.length) walk_tup (Cw H1 f v Dl) ⟨hD, Ex.new hD, upd_same⟩ (fun i H' _ p => ex_t ((e.trans e1).trans p.2.1) hx) (fun i x H' H'' hi p y => by
      obtain ⟨rfl, y⟩ := y
      exact ⟨hw x, cw_turn p (by omega) (ht i x H1 (e.trans e1) y) (fun hf => he i x H1 (e.trans e1) y hf)⟩)
    (fun H' p => q Dl H' (fresh_back e1 p.1) (e1.trans p.2.1) p.2.2)⟩
end
/- are_whole: slots 0 things, 1 thing; calls is_whole -/
abbrev s_are_whole : Stmt := topS 2
theorem sc_are_whole : FnScope ["things", "thing"] ["things"] (defScope s_are_whole) := ⟨rfl, rfl, rfl, by decide +kernel, rfl, by decide +kernel, by decide +kernel⟩

def spAreW20 : Sp := fun vs H Q _ => ∃ (a : Addr) (xs : List V) (ds : List PyData), vs = [.ref a] ∧ (H a = some (.tup xs) ∨ H a = some (.lst xs)) ∧ DqAll H xs ds ∧ xs.length ≤ 40000 ∧ RetV (.bl (ds.all isW)) H Q
section
variable {P : Program} {w : World} {K : PySem.W.Frag} {mg : Str → Option Value} {base : Heap}
theorem cal_arew20 (nb : Nb mg) (c_is_whole : Cal P w K mg base CX0 "is_whole" 1 ["thing"] spIsW) (d : Dfn K mg "are_whole" ["things"] s_are_whole) : Cal P w K mg base CX0 "are_whole" 2 ["things"] spAreW20 := by
  refine d.cal sc_are_whole (fun vs H Q E h => ?_) (fun fa cdv A outer s H vs Q E hr h => ?_)
  · obtain ⟨a, xs, ds, rfl, _⟩ := h
    rfl
  · obtain ⟨a, xs, ds, rfl, hA, hs, hz, q⟩ := h
    refine ⟨_, (pss_one (ps_ret (pe_callB (cr_all (by rfl)) (by rfl) nb.all (by decide +kernel) (pa_cons (pe_lc (own := [("thing", 1)]) (g := gName 1) (tt := tYes) (by rfl) sc_are_whole.nd (pi_or (pi_list (pv 0)) (pi_tup (pv 0))) (blkOk_by (N := ["things", "thing"]) (sc := defScope s_are_whole) (by decide +kernel)) (fun _ _ _ _ _ => (pg_name (i := 1) sc_are_whole.nd rfl (Or.inl rfl))) (fun _ _ _ _ _ => pts_nil) (fun _ _ _ _ _ => (pe_cal c_is_whole (hr.mono (by first | decide | omega)) (by rfl) pass0 (pa_cons (pv 1) pa_nil)))) pa_nil)))), ?_⟩
    have le := hs.len
    have fin : given xs.length (fun _ => true) (fun i => V.bl (isW (ds.getD i .none))) = (ds.map isW).map V.bl := by
      unfold given
      rw [filter_yes, List.map_map]
      refine List.ext_getElem? fun i => ?_
      rw [List.getElem?_map, List.getElem?_map]
      by_cases c : i < xs.length
      · rw [List.getElem?_range c, List.getElem?_eq_getElem (show i < ds.length by omega)]
        show some (V.bl (isW (ds.getD i .none))) = some (V.bl (isW ds[i]))
        rw [List.getD_eq_getElem?_getD, List.getElem?_eq_getElem (show i < ds.length by omega)]
        rfl
      · rw [List.getElem?_eq_none (by rw [List.length_range]; omega), List.getElem?_eq_none (by omega)]
        rfl
    have each : ∀ (i : Nat) (x : V) H1, Ex H H1 → xs[i]? = some x → ∀ {σ : L2.St}, σ[1]? = some (some x) → Ev (tCall spIsW [] E0 (tCons (tVar 1) tNil)) σ H1 (.bl (isW (ds.getD i .none))) := fun i x H1 e1 hx σ hs1 => by
      obtain ⟨d, hd, g⟩ := hs.at hx
      rw [List.getD_eq_getElem?_getD, hd]
      exact ev_cal (vs := [x]) (ea_cons (ev_var hs1) ea_nil) fun H2 e2 Q k E => ⟨x, d, rfl, g.mono (e1.trans e2), k⟩
    refine s_ret (v := .bl (ds.all isW)) (ev_is (ev_all (bs := ds.map isW) ?_) (by rw [List.all_map]; rfl)) fun H1 e1 => q H1 e1
    rcases hA with hA | hA
    · exact el_is (el_or2 (el_lcTu20 (xs := xs) (fun _ => true) (fun i => V.bl (isW (ds.getD i .none))) (ev_var rfl) (SqT.of hA) hz (fun _ => rfl) (fun i x H1 e1 hx => et_yes) fun i x H1 e1 hx _ => each i x H1 e1 hx rfl)) fin
    · exact el_is (el_or1 (el_lcL (xs := xs) (fun _ => true) (fun i => V.bl (isW (ds.getD i .none))) (ev_var rfl) (SqL.of hA) hz (fun _ => rfl) (fun i x H1 e1 hx => et_yes) fun i x H1 e1 hx _ => each i x H1 e1 hx rfl)) fin
end
/- is_turned_wheel: slots 0 n, 1 primes, 2 thing, 3 p, 4 j, 5 c; calls are_whole -/
abbrev s_is_turned_wheel : Stmt := topS 11
theorem sc_is_turned_wheel : FnScope ["n", "primes", "thing", "p", "j", "c"] ["n", "primes", "thing"] (defScope s_is_turned_wheel) := ⟨rfl, rfl, rfl, by decide +kernel, rfl, by decide +kernel, by decide +kernel⟩

def spTW20 (K : PySem.W.Frag) : Sp := fun vs H Q _ => ∃ (n : Int) (b : Addr) (x : V) (d : PyData) (ps : List Int), vs = [.int n, .ref b, x] ∧ SqL K H b (ps.map V.int) ∧ Dq H x d ∧ 0 ≤ n ∧ n ≤ 1000 ∧ (∀ p ∈ ps, 2 ≤ p ∧ p ≤ 1000) ∧ RetV (.bl (twB n ps d)) H Q
section
variable {P : Program} {w : World} {K : PySem.W.Frag} {mg : Str → Option Value} {base : Heap}
theorem all3_20 (a b c : PyData) : ([a, b, c] : List PyData).all isW = (isW a && (isW b && isW c)) := by
  simp [List.all]
theorem cal_tw20 (nb : Nb mg) (c_are_whole : Cal P w K mg base CX0 "are_whole" 2 ["things"] spAreW20) (d : Dfn K mg "is_turned_wheel" ["n", "primes", "thing"] s_is_turned_wheel) : Cal P w K mg base CX0 "is_turned_wheel" 3 ["n", "primes", "thing"] (spTW20 K) := by
  refine d.cal sc_is_turned_wheel (fun vs H Q E h => ?_) (fun fa cdv A outer s H vs Q E hr h => ?_)
  · obtain ⟨n, b, x, d, ps, rfl, _⟩ := h
    rfl
  · obtain ⟨n, b, x, d, ps, rfl, hB, hx, n0, n1, hp, q⟩ := h
    refine ⟨_, (pss_cons (ps_if (PW.pt (pw_or (pt_not (pt_val (pe_callB call_isi (by rfl) nb.isinstance (by decide +kernel) (pa_cons (pv 2) (pa_cons (pe_bltn (v := .ty "tuple") (by rfl) nb.tuple (by decide +kernel) rfl) pa_nil))))) (pw_or (pt_cmpR op_ne (pe_callB call_len_seq (by rfl) nb.len PySem.boot_len (pa_cons (pv 2) pa_nil)) pe_int (nomark _)) (pw_or1 (pt_not (pt_val (pe_cal c_are_whole (hr.mono (by first | decide | omega)) (by rfl) pass0 (pa_cons (pv 2) pa_nil)))))))) (pss_one (ps_ret pe_bl)) pss_nil)
      (pss_cons (ps_asg (pv 2) (pg_tup (by rfl) (pgs_cons (pg_name (i := 3) sc_is_turned_wheel.nd rfl (.inl rfl)) (pgs_cons (pg_name (i := 4) sc_is_turned_wheel.nd rfl (.inl rfl)) (pgs_cons (pg_name (i := 5) sc_is_turned_wheel.nd rfl (.inl rfl)) pgs_nil)))))
      (pss_one (ps_ret (pe_and (pe_cmpR op_in_seq (pv 3) (pv 1) (by rfl)) (pe_and (pe_chain op_le op_lt pe_int (pv 4) (pe_op op_fdivW (pv 0) (pv 3))) (pe_one (pe_cmpR op_ne (pv 5) pe_int (nomark _))))))))), ?_⟩
    rcases tup_cases (n := 3) d with ⟨h1, h2⟩ | ⟨ys, rfl, hl⟩ | ⟨ys, rfl, hl⟩
    · have e : twB n ps d = false := by
        unfold twB
        split
        · exact absurd rfl (h2 _)
        · rfl
      rw [e] at q
      exact q_when (b := true) (et_is (et_or (b := true) (et_not (et_B (ev_isD (ev_var rfl) hx (.inr (.inl rfl))))) fun hb => absurd hb (by rw [h1]; decide)) (by rw [h1]; rfl)) (fun _ H1 e1 => s_ret (v := .bl false) ev_c fun H2 e2 => q H2 (e1.trans e2)) (fun hb => nomatch hb)
    · have e : twB n ps (.tuple ys) = false := by
        unfold twB
        split
        · rename_i h
          injection h with h
          rw [h] at hl
          exact absurd rfl hl
        · rfl
      rw [e] at q
      cases hx with
      | tup h3 hs3 =>
        exact q_when (b := true) (et_is (et_or (et_not (et_B (ev_isi (b := true) (ev_var rfl) (tx_tup h3) (by decide +kernel)))) fun _ => et_or (b := true) (et_test (ev_neI (j := 3) (ev_lenT (ev_var rfl) (SqT.of h3)) ev_c)) fun hb => absurd hb (by rw [hs3.len, decide_eq_false (by omega)]; decide)) (by rw [hs3.len, decide_eq_false (by omega)]; rfl)) (fun _ H1 e1 => s_ret (v := .bl false) ev_c fun H2 e2 => q H2 (e1.trans e2)) (fun hb => nomatch hb)
    · obtain ⟨a, b', c, rfl⟩ : ∃ a b c, ys = [a, b, c] := by
        match ys, hl with
        | [a, b, c], _ => exact ⟨a, b, c, rfl⟩
      cases hx with
      | tup h3 hs3 =>
        rename_i t xs
        have lx : xs.length = 3 := by rw [hs3.len, hl]
        refine q_when (b := !(isW a && (isW b' && isW c))) (et_is (et_or (et_not (et_B (ev_isi (b := true) (ev_var rfl) (tx_tup h3) (by decide +kernel)))) fun _ => et_or (et_test (ev_neI (i := 3) (j := 3) (ev_is (ev_lenT (ev_var rfl) (SqT.of h3)) (by rw [lx]; rfl)) ev_c)) fun _ => et_not (et_B (ev_cal (vs := [.ref t]) (z := .bl (isW a && (isW b' && isW c))) (by one_place) fun H1 e1 Q k E => ⟨t, xs, _, rfl, .inl (e1 _ _ h3), hs3.mono e1, by omega, by rw [all3_20]; exact k⟩))) (by rw [decide_eq_true rfl]; rfl)) (fun hb H1 e1 => ?_) (fun hb H1 e1 => ?_)
        · have hb : (isW a && (isW b' && isW c)) = false := by
            cases z : (isW a && (isW b' && isW c)) with
            | true => rw [z] at hb; cases hb
            | false => rfl
          have e : twB n ps (.tuple [a, b', c]) = false := by
            show ((isW a && (isW b' && isW c)) && _) = false
            rw [hb, Bool.false_and]
          rw [e] at q
          exact s_ret (v := .bl false) ev_c fun H2 e2 => q H2 (e1.trans e2)
        · have hb : (isW a && (isW b' && isW c)) = true := by
            cases z : (isW a && (isW b' && isW c)) with
            | true => rfl
            | false => rw [z] at hb; cases hb
          have e : twB n ps (.tuple [a, b', c]) = (decide (nOf a ∈ ps) && ((decide (0 ≤ nOf b') && decide (nOf b' < n / nOf a)) && !decide (nOf c = 0))) := by
            show ((isW a && (isW b' && isW c)) && _) = _
            rw [hb, Bool.true_and]
          rw [e] at q
          rw [Bool.and_eq_true, Bool.and_eq_true] at hb
          obtain ⟨ha, hb', hc⟩ := hb
          rw [isW_of ha, isW_of hb', isW_of hc] at hs3
          generalize nOf a = ia at *
          generalize nOf b' = ib at *
          generalize nOf c = ic at *
          cases hs3 with
          | cons g1 hs3 =>
            cases hs3 with
            | cons g2 hs3 =>
              cases hs3 with
              | cons g3 hs3 =>
                cases hs3
                cases g1
                cases g2
                cases g3
                refine ⟨.ref t, rfl, t, _, rfl, SqT.of (e1 _ _ h3), rfl, .int ia, [.int ib, .int ic], rfl, .int ib, [.int ic], rfl, .int ic, [], rfl, rfl, ?_⟩
                refine s_ret (v := .bl (decide (ia ∈ ps) && ((decide (0 ≤ ib) && decide (ib < n / ia)) && !decide (ic = 0)))) (ev_andV (ev_inV22 (ev_var rfl) (ev_var rfl) (ex_l e1 hB)) fun hin => ev_andV (ev_chain20 (a := 0) (b := ib) (c := n / ia) ev_c (ev_var rfl) fun _ => ev_div (ev_var rfl) (ev_var rfl) (divW (by have := hp _ (of_decide_eq_true hin); omega) (by have := hp _ (of_decide_eq_true hin); omega))) fun _ => ev_neI (ev_var rfl) ev_c) fun H2 e2 => q H2 (e1.trans e2)
end
/- are_wheels: slots 0 n, 1 thing, 2 primes, 3 last, 4 row, 5 here, 6 p, 7 _; calls parted, is_turned_wheel -/
abbrev s_are_wheels : Stmt := topS 12
theorem sc_are_wheels : FnScope ["n", "thing", "primes", "last", "row", "here", "p", "_"] ["n", "thing"] (defScope s_are_wheels) := ⟨rfl, rfl, rfl, by decide +kernel, rfl, by decide +kernel, by decide +kernel⟩

def psF (n : Int) : List Int := (partedF n).map fun r => r.1
def spAW20 (K : PySem.W.Frag) : Sp := fun vs H Q _ => ∃ (n : Nat) (x : V) (d : PyData), vs = [.int (n : Nat), x] ∧ Dq H x d ∧ 1 ≤ n ∧ n ≤ 61 ∧ RetV (.bl (awB (n : Int) (psF n) d)) H Q
section
variable {P : Program} {w : World} {K : PySem.W.Frag} {mg : Str → Option Value} {base : Heap}
theorem ps20_all : ((List.range 62).all fun n => (psF (n : Int)).all fun p => decide (2 ≤ p ∧ p ≤ 61 ∧ (n : Int) % p = 0)) = true := by decide +kernel
theorem ps20 {n : Nat} (h : n ≤ 61) : ∀ p ∈ psF (n : Int), 2 ≤ p ∧ p ≤ 61 ∧ (n : Int) % p = 0 := fun p hp =>
  of_decide_eq_true (List.all_eq_true.mp (List.all_eq_true.mp ps20_all n (List.mem_range.mpr (by omega))) p hp)
theorem pl20_all : ((List.range 62).all fun n => decide ((partedF (n : Int)).length ≤ 4)) = true := by decide +kernel
theorem pl20 {n : Nat} (h : n ≤ 61) : (partedF (n : Int)).length ≤ 4 := of_decide_eq_true (List.all_eq_true.mp pl20_all n (List.mem_range.mpr (by omega)))
theorem cal_aw20 (nb : Nb mg) (c_parted : Cal P w K mg base CX0 "parted" 1 ["n"] (spParted K)) (c_is_turned_wheel : Cal P w K mg base CX0 "is_turned_wheel" 3 ["n", "primes", "thing"] (spTW20 K)) (d : Dfn K mg "are_wheels" ["n", "thing"] s_are_wheels) : Cal P w K mg base CX0 "are_wheels" 4 ["n", "thing"] (spAW20 K) := by
  refine d.cal sc_are_wheels (fun vs H Q E h => ?_) (fun fa cdv A outer s H vs Q E hr h => ?_)
  · obtain ⟨n, x, d, rfl, _⟩ := h
    rfl
  · obtain ⟨n, x, d, rfl, hx, n1, n2, q⟩ := h
    refine ⟨_, (pss_cons (ps_if (pt_not (pt_val (pe_callB call_isi (by rfl) nb.isinstance (by decide +kernel) (pa_cons (pv 1) (pa_cons (pe_bltn (v := .ty "list") (by rfl) nb.list (by decide +kernel) rfl) pa_nil))))) (pss_one (ps_ret pe_bl)) pss_nil)
      (pss_cons (ps_setLc (i := 2) (own := [("p", 6), ("_", 7)]) (g := gTup K 2 (gCons (gName 6) (gCons (gName 7) gNil))) (tt := tYes) (by rfl) sc_are_wheels.nd rfl rfl (sw_true rfl rfl rfl (by decide +kernel)) (pi_list (pe_cal c_parted (hr.mono (by first | decide | omega)) (by rfl) pass0 (pa_cons (pv 0) pa_nil))) (blkOk_by (N := ["n", "thing", "primes", "last", "row", "here", "p", "_"]) (sc := defScope s_are_wheels) (by decide +kernel)) (fun _ _ _ _ _ => (pg_tup (by rfl) (pgs_cons (pg_name (i := 6) sc_are_wheels.nd rfl (Or.inl rfl)) (pgs_cons (pg_name (i := 7) sc_are_wheels.nd rfl (Or.inl rfl)) pgs_nil)))) (fun _ _ _ _ _ => pts_nil) (fun _ _ _ _ _ => (pv 6)))
      (pss_cons (ps_set (i := 3) sc_are_wheels.nd rfl (.inl rfl) (pe_tup (pa_cons pe_int (pa_cons pe_int pa_nil))))
      (pss_cons (ps_for PassesOwn.never rfl (pi_list (pv 1)) (pg_name (i := 4) sc_are_wheels.nd rfl (.inl rfl)) (pss_cons (ps_if (pt_not (pt_val (pe_cal c_is_turned_wheel (hr.mono (by first | decide | omega)) (by rfl) pass0 (pa_cons (pv 0) (pa_cons (pv 2) (pa_cons (pv 4) pa_nil)))))) (pss_one (ps_ret pe_bl)) pss_nil)
      (pss_cons (ps_set (i := 5) sc_are_wheels.nd rfl (.inl rfl) (pe_tup (pa_cons (pe_ix ix_tup (pv 4) pe_int (fun _ _ => rfl)) (pa_cons (pe_ix ix_tup (pv 4) pe_int (fun _ _ => rfl)) pa_nil))))
      (pss_cons (ps_if (pt_cmpR (op_leT (Nat.lt_of_succ_lt (hu_of hr))) (pv 5) (pv 3) (nomark _)) (pss_one (ps_ret pe_bl)) pss_nil)
      (pss_one (ps_set (i := 3) sc_are_wheels.nd rfl (.inl rfl) (pv 5)))))))
      (pss_one (ps_ret pe_bl)))))), ?_⟩
    have pl4 := pl20 n2
    refine q_when (b := !isK "list" d) (et_not (et_B (ev_isD (ev_var rfl) hx (.inl rfl)))) (fun hb H1 e1 => ?_) (fun hb H1 e1 => ?_)
    · have e : awB (n : Int) (psF n) d = false := by
        rw [isKl65] at hb
        cases d <;> first | rfl | (cases hb)
      rw [e] at q
      exact s_ret (v := .bl false) ev_c fun H2 e2 => q H2 (e1.trans e2)
    · obtain ⟨ds, rfl⟩ : ∃ ds, d = .list ds := by
        rw [isKl65] at hb
        cases d <;> first | (exact ⟨_, rfl⟩) | (cases hb)
      obtain ⟨a, xs, rfl, hA, hs⟩ : ∃ a xs, x = .ref a ∧ H a = some (.lst xs) ∧ DqAll H xs ds := by
        cases hx with
        | lst h hs => exact ⟨_, _, rfl, h, hs⟩
      have q : RetV (.bl (awG (n : Int) (psF n) 0 0 ds)) H Q := q
      have le := hs.len
      refine q_asgL (xs := (psF (n : Int)).map V.int) (el_is (el_lcPN (rows := partedF (n : Int)) (fun r => .int r.1) (ep_cal (vs := [.int (n : Nat)]) (by one_place) fun H5 e5 Q k E => ⟨n, rfl, by omega, by omega, k⟩) (by omega) (fun _ _ => rfl) fun r H5 e5 hr => ev_var rfl) (by unfold psF; rw [List.map_map]; rfl)) fun pr H2 npr e2 h2 => ?_
      refine q_asgU (xs := [.int 0, .int 0]) (eu_tup (by one_place) (by show 2 ≤ 100000; decide)) fun la H3 nla e3 h3 => ?_
      have e12 := e1.trans e2
      have e13 := e12.trans e3
      have pr3 := e3 _ _ h2
      refine q_forLn (xs := xs) (by one_place) (SqL.of (e13 _ _ hA)) (fun i σ' H' => ∃ (t : Addr) (p j : Int) (x4 x5 x6 x7 : Option V), σ' = [some (.int (n : Nat)), some (.ref a), some (.ref pr), some (.ref t), x4, x5, x6, x7] ∧ Ex H3 H' ∧ H' t = some (.tup [.int p, .int j]) ∧ awG (n : Int) (psF n) 0 0 ds = awG (n : Int) (psF n) p j (ds.drop i))
        (fun H4 e4 => ⟨la, 0, 0, _, _, _, _, rfl, e4, e4 _ _ h3, rfl⟩) (fun i σ' H' _ hp => ?_) (fun i x σ' H' hx hp => ?_) (fun σ' H' hp => ?_)
      · obtain ⟨_, _, _, _, _, _, _, _, e4, _⟩ := hp
        exact SqL.of ((e13.trans e4) _ _ hA)
      · obtain ⟨t, p, j, x4, x5, x6, x7, rfl, e4, ht, hw⟩ := hp
        obtain ⟨d, hd, g⟩ := (hs.mono (e13.trans e4)).at hx
        have dr : ds.drop i = d :: ds.drop (i + 1) := by
          obtain ⟨il, rfl⟩ := List.getElem?_eq_some_iff.mp hd
          exact List.drop_eq_getElem_cons il
        rw [dr] at hw
        have hw : awG (n : Int) (psF n) 0 0 ds = (twB (n : Int) (psF n) d && (!le20 (rowT d).1 (rowT d).2.1 p j && awG (n : Int) (psF n) (rowT d).1 (rowT d).2.1 (ds.drop (i + 1)))) := hw
        refine q_when (b := !twB (n : Int) (psF n) d) (et_not (et_B (ev_cal (vs := [.int (n : Nat), .ref pr, x]) (by one_place) fun H5 e5 Q k E => ⟨(n : Nat), pr, x, d, psF n, rfl, SqL.of ((e4.trans e5) _ _ pr3), g.mono e5, by omega, by omega, fun p hp => by have := ps20 n2 p hp; omega, k⟩))) (fun hb H5 e5 => ?_) (fun hb H5 e5 => ?_)
        · have hb : twB (n : Int) (psF n) d = false := by simpa using hb
          rw [hw, hb, Bool.false_and] at q
          exact s_ret (v := .bl false) ev_c fun H6 e6 => q H6 (e13.trans (e4.trans (e5.trans e6)))
        have hb : twB (n : Int) (psF n) d = true := by simpa using hb
        obtain ⟨ed, _⟩ := tw_of hb
        rw [hb, Bool.true_and] at hw
        rw [ed] at g
        obtain ⟨tr, htr, rfl⟩ : ∃ tr, H' tr = some (.tup [.int (rowT d).1, .int (rowT d).2.1, .int (rowT d).2.2]) ∧ x = .ref tr := by
          unfold d3 at g
          cases g with
          | tup h hs =>
            cases hs with
            | cons h1 hs =>
              cases hs with
              | cons h2 hs =>
                cases hs with
                | cons h3 hs =>
                  cases hs
                  cases h1
                  cases h2
                  cases h3
                  exact ⟨_, h, rfl⟩
        generalize rowT d = r at *
        have i0 : ∀ {σ : L2.St} {H6 : Hp}, Ex H5 H6 → σ[4]? = some (some (.ref tr)) → Ev (tOp (rIxT K) (tVar 4) (tC (.int 0))) σ H6 (.int r.1) := fun e hs => ev_op (ev_var hs) ev_c (rv_ixT (v := .int r.1) (SqT.of ((e5.trans e) _ _ htr)) (atI_nat (j := 0) rfl))
        have i1 : ∀ {σ : L2.St} {H6 : Hp}, Ex H5 H6 → σ[4]? = some (some (.ref tr)) → Ev (tOp (rIxT K) (tVar 4) (tC (.int 1))) σ H6 (.int r.2.1) := fun e hs => ev_op (ev_var hs) ev_c (rv_ixT (v := .int r.2.1) (SqT.of ((e5.trans e) _ _ htr)) (atI_nat (j := 1) rfl))
        refine q_asgU (xs := [.int r.1, .int r.2.1]) (eu_tup (ea_cons (i0 (Ex.refl _) rfl) (ea_cons (i1 (Ex.refl _) rfl) ea_nil)) (by show 2 ≤ 100000; decide)) fun he H6 nhe e6 h6 => ?_
        refine q_when (b := le20 r.1 r.2.1 p j) (et_test (ev_le20 (ev_var rfl) (fun _ _ => ev_var rfl) (fun H7 e7 => SqT.of (e7 _ _ h6)) (fun H7 e7 => SqT.of ((e5.trans (e6.trans e7)) _ _ ht)))) (fun hb H7 e7 => ?_) (fun hb H7 e7 => ?_)
        · rw [hw, hb] at q
          exact s_ret (v := .bl false) ev_c fun H8 e8 => q H8 (e13.trans ((e4.trans e5).trans (e6.trans (e7.trans e8))))
        · rw [hb] at hw
          exact s_asg (v := .ref he) (ev_var rfl) fun H8 e8 => ⟨he, r.1, r.2.1, _, _, _, _, rfl, (e4.trans e5).trans (e6.trans (e7.trans e8)), (e7.trans e8) _ _ h6, hw⟩
      · obtain ⟨t, p, j, x4, x5, x6, x7, rfl, e4, ht, hw⟩ := hp
        rw [hw, le, List.drop_length] at q
        exact s_ret (v := .bl true) ev_c fun H6 e6 => q H6 (e13.trans (e4.trans e6))
end

/-! ### others, of any thing: the program's judge and the law's -/
def isS21 (s : Str) : PyData → Bool
  | .str t => decide (t = s)
  | _ => false
theorem eqv_s21 (s : Str) (z : PyData) : PyData.eqv z (.str s) = isS21 s z := by
  cases z <;> first | rfl | skip
  all_goals simp [PyData.eqv, isS21]
theorem isS21_of {s : Str} {z : PyData} (h : isS21 s z = true) : z = .str s := by
  cases z <;> first | (simp [isS21] at h; done) | skip
  rw [of_decide_eq_true h]
theorem aw_whl20 {n : Nat} (h : n ≤ 61) {w : PyData} (a : awB (n : Int) (psF n) w = true) : ∃ ds, w = .list ds ∧ (∀ d ∈ ds, twB (n : Int) (psF n) d = true) ∧ ∀ r ∈ rowsT w, Whl n r := by
  obtain ⟨ds, rfl⟩ : ∃ ds, w = .list ds := by
    cases w <;> first | (exact ⟨_, rfl⟩) | (cases a)
  have t := aw_tw (ds := ds) (p := 0) (j := 0) a
  refine ⟨ds, rfl, t, fun r hr => ?_⟩
  obtain ⟨d, hd, rfl⟩ := List.mem_map.mp hr
  obtain ⟨_, hp, lo, hi, _⟩ := tw_of (t d hd)
  have g := ps20 h _ hp
  exact ⟨g.1, g.2.2, lo, hi⟩
section
variable {K : PySem.W.Frag} {σ : L2.St} {H : Hp} {ta tb : TE} {tr : TA}
/-- x not in [..] -/
theorem ev_notInN20 {x : Int} {ns : List Int} (ha : Ev ta σ H (.int x)) (hb : EvL tb σ H (ns.map V.int)) : Ev (tOp (rIn K true) ta tb) σ H (.bl (!decide (x ∈ ns))) := fun H1 e Q q =>
  ha H1 e _ fun H2 e2 => hb H2 (e.trans e2) _ fun p H3 np e3 hp => by
    have := rv_niL (K := K) (x := .int x) (SqL.of hp) rfl (flat_ints ns)
    rw [inV_int] at this
    exact this H3 (Ex.refl H3) _ fun H4 e4 => q H4 (e2.trans (e3.trans e4))
/-- (p, j) <= a tuple -/
theorem ev_leTu20 {p j p' j' : Int} {t : Addr} (ha : EvA tr σ H [.int p, .int j]) (hb : ∀ H1, Ex H H1 → Ev tb σ H1 (.ref t)) (ht : ∀ H1, Ex H H1 → SqT K H1 t [.int p', .int j']) : Ev (tOp (rLeT K) (tTup tr) tb) σ H (.bl (le20 p j p' j')) := fun H1 e Q q =>
  (eu_tup ha (by show 2 ≤ 100000; decide)) H1 e _ fun u H2 nu e2 hu => (hb H2 (e.trans e2)) H2 (Ex.refl H2) _ fun H3 e3 => ⟨u, t, [p, j], [p', j'], rfl, rfl, SqT.of (e3 _ _ hu), ht H3 ((e.trans e2).trans e3), by rw [lex_le20]; exact q H3 (e2.trans e3)⟩
end
theorem kit_str20 (d : PyData) : kitB (kindS d) "str" = some (isK "str" d) := by
  cases d <;> (simp only [isK, kindS]; decide +kernel)
theorem isKs20 (d : PyData) : isK "str" d = (match d with | .str _ => true | _ => false) := by
  cases d <;> (simp only [isK, kindS]; decide +kernel)
/- _law_whole: slots 0 _law_got, 1 _law_one; calls  -/
abbrev s__law_whole : Stmt := topS 24
theorem sc__law_whole : FnScope ["_law_got", "_law_one"] ["_law_got"] (defScope s__law_whole) := ⟨rfl, rfl, rfl, by decide +kernel, rfl, by decide +kernel, by decide +kernel⟩

def lwB : PyData → Bool
  | .list ds => ds.all isW
  | _ => false
def spLW21 : Sp := fun vs H Q _ => ∃ (x : V) (d : PyData), vs = [x] ∧ Dq H x d ∧ RetV (.bl (lwB d)) H Q
section
variable {P : Program} {w : World} {K : PySem.W.Frag} {mg : Str → Option Value} {base : Heap}
theorem cal_lw21 (nb : Nb mg) (d : Dfn K mg "_law_whole" ["_law_got"] s__law_whole) : Cal P w K mg base CX0 "_law_whole" 1 ["_law_got"] spLW21 := by
  refine d.cal sc__law_whole (fun vs H Q E h => ?_) (fun fa cdv A outer s H vs Q E hr h => ?_)
  · obtain ⟨x, d, rfl, _⟩ := h
    rfl
  · obtain ⟨x, d, rfl, hx, q⟩ := h
    refine ⟨_, (pss_cons (ps_if (pt_not (pt_val (pe_callB call_isi (by rfl) nb.isinstance (by decide +kernel) (pa_cons (pv 0) (pa_cons (pe_bltn (v := .ty "list") (by rfl) nb.list (by decide +kernel) rfl) pa_nil))))) (pss_one (ps_ret pe_bl)) pss_nil)
      (pss_cons (ps_for PassesOwn.never rfl (pi_list (pv 0)) (pg_name (i := 1) sc__law_whole.nd rfl (.inl rfl)) (pss_one (ps_if (PW.pt (pw_or (pt_not (pt_val (pe_callB call_isi (by rfl) nb.isinstance (by decide +kernel) (pa_cons (pv 1) (pa_cons (pe_bltn (v := .ty "int") (by rfl) nb.int (by decide +kernel) rfl) pa_nil))))) (pw_or1 (pt_val (pe_callB call_isi (by rfl) nb.isinstance (by decide +kernel) (pa_cons (pv 1) (pa_cons (pe_bltn (v := .ty "bool") (by rfl) nb.bool (by decide +kernel) rfl) pa_nil))))))) (pss_one (ps_ret pe_bl)) pss_nil)))
      (pss_one (ps_ret pe_bl)))), ?_⟩
    refine q_when (b := !isK "list" d) (et_not (et_B (ev_isD (ev_var rfl) hx (.inl rfl)))) (fun hb H1 e1 => ?_) (fun hb H1 e1 => ?_)
    · have e : lwB d = false := by
        rw [isKl65] at hb
        cases d <;> first | rfl | (cases hb)
      rw [e] at q
      exact s_ret (v := .bl false) ev_c fun H2 e2 => q H2 (e1.trans e2)
    obtain ⟨ds, rfl⟩ : ∃ ds, d = .list ds := by
      rw [isKl65] at hb
      cases d <;> first | (exact ⟨_, rfl⟩) | (cases hb)
    obtain ⟨a, xs, rfl, hA, hs⟩ : ∃ a xs, x = .ref a ∧ H a = some (.lst xs) ∧ DqAll H xs ds := by
      cases hx with
      | lst h hs => exact ⟨_, _, rfl, h, hs⟩
    have q : RetV (.bl (ds.all isW)) H Q := q
    have le := hs.len
    have hA1 := e1 _ _ hA
    refine q_forLn (xs := xs) (ev_var rfl) (SqL.of hA1) (fun i σ' H' => ∃ x1, σ' = [some (.ref a), x1] ∧ Ex H1 H' ∧ ds.all isW = (ds.drop i).all isW) (fun H2 e2 => ⟨_, rfl, e2, rfl⟩) (fun i σ' H' _ h => SqL.of (h.choose_spec.2.1 _ _ hA1)) (fun i x σ' H2 hx hP => ?_) (fun σ' H2 hP => ?_)
    · obtain ⟨x1, rfl, e2, hw⟩ := hP
      obtain ⟨d, hd, g⟩ := (hs.mono (e1.trans e2)).at hx
      have dr : ds.drop i = d :: ds.drop (i + 1) := by
        obtain ⟨il, rfl⟩ := List.getElem?_eq_some_iff.mp hd
        exact List.drop_eq_getElem_cons il
      rw [dr, List.all_cons] at hw
      refine s_when (b := !isW d) (et_is (et_or (et_not (et_B (ev_isD (ev_var rfl) g (.inr (.inr (.inl rfl)))))) fun _ => et_B (ev_isD (ev_var rfl) g (.inr (.inr (.inr rfl))))) (by rw [← isW_is]; cases isK "int" d <;> cases isK "bool" d <;> rfl)) (fun hb H3 e3 => ?_) (fun hb H3 e3 => ⟨_, rfl, e2.trans e3, ?_⟩)
      · have hb : isW d = false := by simpa using hb
        rw [hw, hb, Bool.false_and] at q
        exact s_ret (v := .bl false) ev_c fun H4 e4 => q H4 ((e1.trans e2).trans (e3.trans e4))
      · have hb : isW d = true := by simpa using hb
        rw [hw, hb, Bool.true_and]
    · obtain ⟨x1, rfl, e2, hw⟩ := hP
      rw [hw, le, List.drop_length] at q
      exact s_ret (v := .bl true) ev_c fun H4 e4 => q H4 ((e1.trans e2).trans e4)
end
/- _law_in_row: slots 0 _law_n, 1 _law_wheels, 2 _law_last, 3 _law_row_here, 4 _law_p, 5 _law_j, 6 _law_c, 7 _law_q, 8 _law_often; calls _law_whole, _law_parted -/
abbrev s__law_in_row : Stmt := topS 25
theorem sc__law_in_row : FnScope ["_law_n", "_law_wheels", "_law_last", "_law_row_here", "_law_p", "_law_j", "_law_c", "_law_q", "_law_often"] ["_law_n", "_law_wheels"] (defScope s__law_in_row) := ⟨rfl, rfl, rfl, by decide +kernel, rfl, by decide +kernel, by decide +kernel⟩

def spIR20 (K : PySem.W.Frag) : Sp := fun vs H Q _ => ∃ (n : Nat) (x : V) (d : PyData), vs = [.int (n : Nat), x] ∧ Dq H x d ∧ 1 ≤ n ∧ n ≤ 61 ∧ RetV (.bl (awB (n : Int) (psF n) d)) H Q
section
variable {P : Program} {w : World} {K : PySem.W.Frag} {mg : Str → Option Value} {base : Heap}
theorem lp20_all : ((List.range 62).all fun n => decide (n = 0) || (decide (((lpF (n : Int)).map fun r => r.1) = psF (n : Int)) && decide ((lpF (n : Int)).length ≤ 4))) = true := by decide +kernel
theorem lp20 {n : Nat} (h0 : 1 ≤ n) (h : n ≤ 61) : ((lpF (n : Int)).map fun r => r.1) = psF (n : Int) ∧ (lpF (n : Int)).length ≤ 4 := by
  have t := List.all_eq_true.mp lp20_all n (List.mem_range.mpr (by omega))
  rw [decide_eq_false (show ¬ n = 0 by omega), Bool.false_or, Bool.and_eq_true] at t
  exact ⟨of_decide_eq_true t.1, of_decide_eq_true t.2⟩
theorem cal_ir20 (nb : Nb mg) (c__law_whole : Cal P w K mg base CX0 "_law_whole" 1 ["_law_got"] spLW21) (c__law_parted : Cal P w K mg base CX0 "_law_parted" 1 ["_law_n"] (spLParted K)) (d : Dfn K mg "_law_in_row" ["_law_n", "_law_wheels"] s__law_in_row) : Cal P w K mg base CX0 "_law_in_row" 2 ["_law_n", "_law_wheels"] (spIR20 K) := by
  refine d.cal sc__law_in_row (fun vs H Q E h => ?_) (fun fa cdv A outer s H vs Q E hr h => ?_)
  · obtain ⟨n, x, d, rfl, _⟩ := h
    rfl
  · obtain ⟨n, x, d, rfl, hx, n1, n2, q⟩ := h
    refine ⟨_, (pss_cons (ps_if (pt_not (pt_val (pe_callB call_isi (by rfl) nb.isinstance (by decide +kernel) (pa_cons (pv 1) (pa_cons (pe_bltn (v := .ty "list") (by rfl) nb.list (by decide +kernel) rfl) pa_nil))))) (pss_one (ps_ret pe_bl)) pss_nil)
      (pss_cons (ps_set (i := 2) sc__law_in_row.nd rfl (.inl rfl) pe_non)
      (pss_cons (ps_for PassesOwn.never rfl (pi_list (pv 1)) (pg_name (i := 3) sc__law_in_row.nd rfl (.inl rfl)) (pss_cons (ps_if (PW.pt (pw_or (pt_not (pt_val (pe_callB call_isi (by rfl) nb.isinstance (by decide +kernel) (pa_cons (pv 3) (pa_cons (pe_bltn (v := .ty "tuple") (by rfl) nb.tuple (by decide +kernel) rfl) pa_nil))))) (pw_or (pt_cmpR op_ne (pe_callB call_len_seq (by rfl) nb.len PySem.boot_len (pa_cons (pv 3) pa_nil)) pe_int (nomark _)) (pw_or1 (pt_not (pt_val (pe_cal c__law_whole (hr.mono (by first | decide | omega)) (by rfl) pass0 (pa_cons (pe_callTy call_list_of (by rfl) nb.list (by decide +kernel) (pa_cons (pv 3) pa_nil)) pa_nil)))))))) (pss_one (ps_ret pe_bl)) pss_nil)
      (pss_cons (ps_asg (pv 3) (pg_tup (by rfl) (pgs_cons (pg_name (i := 4) sc__law_in_row.nd rfl (.inl rfl)) (pgs_cons (pg_name (i := 5) sc__law_in_row.nd rfl (.inl rfl)) (pgs_cons (pg_name (i := 6) sc__law_in_row.nd rfl (.inl rfl)) pgs_nil)))))
      (pss_cons (ps_if (PW.pt (pw_or (pt_cmpR op_notIn_seq (pv 4) (pe_lc (own := [("_law_q", 7), ("_law_often", 8)]) (g := gTup K 2 (gCons (gName 7) (gCons (gName 8) gNil))) (tt := tYes) (by rfl) sc__law_in_row.nd (pi_list (pe_cal c__law_parted (hr.mono (by first | decide | omega)) (by rfl) pass0 (pa_cons (pv 0) pa_nil))) (blkOk_by (N := ["_law_n", "_law_wheels", "_law_last", "_law_row_here", "_law_p", "_law_j", "_law_c", "_law_q", "_law_often"]) (sc := defScope s__law_in_row) (by decide +kernel)) (fun _ _ _ _ _ => (pg_tup (by rfl) (pgs_cons (pg_name (i := 7) sc__law_in_row.nd rfl (Or.inl rfl)) (pgs_cons (pg_name (i := 8) sc__law_in_row.nd rfl (Or.inl rfl)) pgs_nil)))) (fun _ _ _ _ _ => pts_nil) (fun _ _ _ _ _ => (pv 7))) (by rfl)) (pw_or (pt_cmpR op_lt (pv 5) pe_int (nomark _)) (pw_or (pt_cmpR op_ge (pv 5) (pe_op op_fdivW (pv 0) (pv 4)) (nomark _)) (pw_or1 (pt_cmpR op_eq (pv 6) pe_int (nomark _))))))) (pss_one (ps_ret pe_bl)) pss_nil)
      (pss_cons (ps_if (PW.pt (pw_and (pt_cmpR op_notN (pv 2) pe_non (nomark _)) (pw_and1 (pt_cmpR (op_leT (Nat.lt_of_succ_lt (hu_of hr))) (pe_tup (pa_cons (pv 4) (pa_cons (pv 5) pa_nil))) (pv 2) (nomark _))))) (pss_one (ps_ret pe_bl)) pss_nil)
      (pss_one (ps_set (i := 2) sc__law_in_row.nd rfl (.inl rfl) (pe_tup (pa_cons (pv 4) (pa_cons (pv 5) pa_nil))))))))))
      (pss_one (ps_ret pe_bl))))), ?_⟩
    obtain ⟨lpE, lp4⟩ := lp20 n1 n2
    refine q_when (b := !isK "list" d) (et_not (et_B (ev_isD (ev_var rfl) hx (.inl rfl)))) (fun hb H1 e1 => ?_) (fun hb H1 e1 => ?_)
    · have e : awB (n : Int) (psF n) d = false := by
        rw [isKl65] at hb
        cases d <;> first | rfl | (cases hb)
      rw [e] at q
      exact s_ret (v := .bl false) ev_c fun H2 e2 => q H2 (e1.trans e2)
    · obtain ⟨ds, rfl⟩ : ∃ ds, d = .list ds := by
        rw [isKl65] at hb
        cases d <;> first | (exact ⟨_, rfl⟩) | (cases hb)
      obtain ⟨a, xs, rfl, hA, hs⟩ : ∃ a xs, x = .ref a ∧ H a = some (.lst xs) ∧ DqAll H xs ds := by
        cases hx with
        | lst h hs => exact ⟨_, _, rfl, h, hs⟩
      have q : RetV (.bl (awG (n : Int) (psF n) 0 0 ds)) H Q := q
      have le := hs.len
      refine q_asg (v := .non) ev_c fun H2 e2 => ?_
      have e12 := e1.trans e2
      -- what is last: none before the first row
      refine q_forLn (xs := xs) (ev_var rfl) (SqL.of (e12 _ _ hA)) (fun i σ' H' => ∃ (la : V) (p j : Int) (x3 x4 x5 x6 x7 x8 : Option V), σ' = [some (.int (n : Nat)), some (.ref a), some la, x3, x4, x5, x6, x7, x8] ∧ Ex H2 H' ∧ ((la = .non ∧ p = 0 ∧ j = 0) ∨ ∃ t, la = .ref t ∧ H' t = some (.tup [.int p, .int j])) ∧ awG (n : Int) (psF n) 0 0 ds = awG (n : Int) (psF n) p j (ds.drop i))
        (fun H4 e4 => ⟨.non, 0, 0, _, _, _, _, _, _, rfl, e4, .inl ⟨rfl, rfl, rfl⟩, rfl⟩) (fun i σ' H' _ hp => ?_) (fun i x σ' H3 hx hp => ?_) (fun σ' H' hp => ?_)
      · obtain ⟨_, _, _, _, _, _, _, _, _, _, e4, _⟩ := hp
        exact SqL.of ((e12.trans e4) _ _ hA)
      · obtain ⟨la, p, j, x3, x4, x5, x6, x7, x8, rfl, e3, hla, hw⟩ := hp
        have e13 := e12.trans e3
        obtain ⟨d, hd, g⟩ := (hs.mono e13).at hx
        have dr : ds.drop i = d :: ds.drop (i + 1) := by
          obtain ⟨il, rfl⟩ := List.getElem?_eq_some_iff.mp hd
          exact List.drop_eq_getElem_cons il
        rw [dr] at hw
        have hw : awG (n : Int) (psF n) 0 0 ds = (twB (n : Int) (psF n) d && (!le20 (rowT d).1 (rowT d).2.1 p j && awG (n : Int) (psF n) (rowT d).1 (rowT d).2.1 (ds.drop (i + 1)))) := hw
        have no : twB (n : Int) (psF n) d = false → ∀ {σ : L2.St} {H' : Hp} {D : Ends}, Ex H3 H' → D.rt = Q → tRet (tC (.bl false)) D σ H' := fun h {σ H' D} e hD => by
          rw [hw, h, Bool.false_and] at q
          refine s_ret (v := .bl false) ev_c fun H6 e6 => ?_
          rw [hD]
          exact q H6 (e13.trans (e.trans e6))
        rcases tup_cases (n := 3) d with ⟨h1, h2⟩ | ⟨ys, rfl, hl⟩ | ⟨ys, rfl, hl⟩
        · have e : twB (n : Int) (psF n) d = false := by
            unfold twB
            split
            · exact absurd rfl (h2 _)
            · rfl
          exact q_when (b := true) (et_is (et_or (b := true) (et_not (et_B (ev_isD (ev_var rfl) g (.inr (.inl rfl))))) fun hb => absurd hb (by rw [h1]; decide)) (by rw [h1]; rfl)) (fun _ H4 e4 => no e e4 rfl) (fun hb => nomatch hb)
        · have e : twB (n : Int) (psF n) (.tuple ys) = false := by
            unfold twB
            split
            · rename_i h
              injection h with h
              rw [h] at hl
              exact absurd rfl hl
            · rfl
          cases g with
          | tup h3 hs3 =>
            exact q_when (b := true) (et_is (et_or (et_not (et_B (ev_isi (b := true) (ev_var rfl) (tx_tup h3) (by decide +kernel)))) fun _ => et_or (b := true) (et_test (ev_neI (j := 3) (ev_lenT (ev_var rfl) (SqT.of h3)) ev_c)) fun hb => absurd hb (by rw [hs3.len, decide_eq_false (by omega)]; decide)) (by rw [hs3.len, decide_eq_false (by omega)]; rfl)) (fun _ H4 e4 => no e e4 rfl) (fun hb => nomatch hb)
        · obtain ⟨da, db, dc, rfl⟩ : ∃ a b c, ys = [a, b, c] := by
            match ys, hl with
            | [a, b, c], _ => exact ⟨a, b, c, rfl⟩
          cases g with
          | tup h3 hs3 =>
            rename_i tr zs
            have lx : zs.length = 3 := by rw [hs3.len, hl]
            have all3 : ([da, db, dc] : List PyData).all isW = (isW da && (isW db && isW dc)) := all3_20 da db dc
            refine q_when (b := !(isW da && (isW db && isW dc))) (et_is (et_or (et_not (et_B (ev_isi (b := true) (ev_var rfl) (tx_tup h3) (by decide +kernel)))) fun _ => et_or (et_test (ev_neI (i := 3) (j := 3) (ev_is (ev_lenT (ev_var rfl) (SqT.of h3)) (by rw [lx]; rfl)) ev_c)) fun _ => et_not (et_B (ev_calL1 (z := .bl (isW da && (isW db && isW dc))) (xs := zs) (el_listT (ev_var rfl) (SqT.of h3)) fun u H4 e4 hu Q k E => ⟨.ref u, .list [da, db, dc], rfl, .lst hu (hs3.mono e4), by show RetV (.bl (([da, db, dc] : List PyData).all isW)) _ _; rw [all3]; exact k⟩))) (by rw [decide_eq_true rfl]; rfl)) (fun hb H4 e4 => ?_) (fun hb H4 e4 => ?_)
            · have hb : (isW da && (isW db && isW dc)) = false := by
                cases z : (isW da && (isW db && isW dc)) with
                | true => rw [z] at hb; cases hb
                | false => rfl
              exact no (by show ((isW da && (isW db && isW dc)) && _) = false; rw [hb, Bool.false_and]) e4 rfl
            · have hb : (isW da && (isW db && isW dc)) = true := by
                cases z : (isW da && (isW db && isW dc)) with
                | true => rfl
                | false => rw [z] at hb; cases hb
              have tw : twB (n : Int) (psF n) (.tuple [da, db, dc]) = (decide (nOf da ∈ psF n) && ((decide (0 ≤ nOf db) && decide (nOf db < n / nOf da)) && !decide (nOf dc = 0))) := by
                show ((isW da && (isW db && isW dc)) && _) = _
                rw [hb, Bool.true_and]
              rw [tw] at hw no
              have hw : awG (n : Int) (psF n) 0 0 ds = ((decide (nOf da ∈ psF n) && ((decide (0 ≤ nOf db) && decide (nOf db < n / nOf da)) && !decide (nOf dc = 0))) && (!le20 (nOf da) (nOf db) p j && awG (n : Int) (psF n) (nOf da) (nOf db) (ds.drop (i + 1)))) := hw
              rw [Bool.and_eq_true, Bool.and_eq_true] at hb
              obtain ⟨ha, hb', hc⟩ := hb
              rw [isW_of ha, isW_of hb', isW_of hc] at hs3
              generalize nOf da = ia at *
              generalize nOf db = ib at *
              generalize nOf dc = ic at *
              cases hs3 with
              | cons g1 hs3 =>
                cases hs3 with
                | cons g2 hs3 =>
                  cases hs3 with
                  | cons g3 hs3 =>
                    cases hs3
                    cases g1
                    cases g2
                    cases g3
                    refine ⟨.ref tr, rfl, tr, _, rfl, SqT.of (e4 _ _ h3), rfl, .int ia, [.int ib, .int ic], rfl, .int ib, [.int ic], rfl, .int ic, [], rfl, rfl, ?_⟩
                    have two : ia ∈ psF n → 2 ≤ ia ∧ ia ≤ 61 := fun h => by have := ps20 n2 ia h; omega
                    refine q_when (b := !decide (ia ∈ psF n) || (decide (ib < 0) || (decide (ib ≥ n / ia) || decide (ic = 0)))) (et_or (et_test (ev_notInN20 (ns := psF n) (ev_var rfl) (el_is (el_lcPN (rows := lpF (n : Int)) (fun r => .int r.1) (ep_cal (vs := [.int (n : Nat)]) (by one_place) fun H5 e5 Q k E => ⟨n, rfl, by omega, by omega, k⟩) (by omega) (fun _ _ => rfl) fun r H5 e5 hr => ev_var rfl) (by rw [← lpE, List.map_map]; rfl)))) fun hin => et_or (et_test (ev_lt (ev_var rfl) ev_c)) fun hlo => et_or (et_test (ev_ge (ev_var rfl) (ev_div (ev_var rfl) (ev_var rfl) (divW (by have := two (by simpa using hin); omega) (by have := two (by simpa using hin); omega))))) fun _ => et_test (ev_eqI (ev_var rfl) ev_c)) (fun hb H5 e5 => ?_) (fun hb H5 e5 => ?_)
                    · refine no ?_ (e4.trans e5) rfl
                      by_cases c1 : ia ∈ psF n
                      · by_cases c2 : ib < 0
                        · rw [decide_eq_false (show ¬ 0 ≤ ib by omega)]
                          simp
                        · by_cases c3 : ib < n / ia
                          · have c4 : ic = 0 := by
                              rw [decide_eq_true c1, decide_eq_false c2, decide_eq_false (show ¬ ib ≥ n / ia by omega)] at hb
                              simpa using hb
                            rw [c4]
                            simp
                          · rw [decide_eq_false c3]
                            simp
                      · rw [decide_eq_false c1]
                        rfl
                    · rw [Bool.or_eq_false_iff, Bool.or_eq_false_iff, Bool.or_eq_false_iff, Bool.not_eq_false', decide_eq_true_iff, decide_eq_false_iff_not, decide_eq_false_iff_not, decide_eq_false_iff_not] at hb
                      obtain ⟨c1, c2, c3, c4⟩ := hb
                      rw [decide_eq_true c1, decide_eq_true (show 0 ≤ ib by omega), decide_eq_true (show ib < n / ia by omega), decide_eq_false c4] at hw
                      have hw : awG (n : Int) (psF n) 0 0 ds = (!le20 ia ib p j && awG (n : Int) (psF n) ia ib (ds.drop (i + 1))) := hw
                      have two := two c1
                      have e35 := e4.trans e5
                      refine q_when (b := le20 ia ib p j) ?_ (fun hb H6 e6 => ?_) (fun hb H6 e6 => ?_)
                      · rcases hla with ⟨rfl, rfl, rfl⟩ | ⟨t, rfl, ht⟩
                        · have : le20 ia ib 0 0 = false := by
                            unfold le20
                            rw [if_neg (by omega)]
                            exact decide_eq_false (by omega)
                          rw [this]
                          exact et_is (et_and (b := false) (et_test (ev_notN (v := .non) (ev_var rfl))) fun hb => absurd hb (by decide)) rfl
                        · exact et_is (et_and (et_test (ev_notN (v := .ref t) (ev_var rfl))) fun _ => et_test (ev_leTu20 (t := t) (by one_place) (fun _ _ => ev_var rfl) (fun H7 e7 => SqT.of ((e35.trans e7) _ _ ht)))) (by rw [decide_eq_false (fun z => nomatch z)]; rfl)
                      · rw [hw, hb] at q
                        exact s_ret (v := .bl false) ev_c fun H8 e8 => q H8 (e13.trans (e35.trans (e6.trans e8)))
                      · rw [hb] at hw
                        exact s_asgU (xs := [.int ia, .int ib]) (eu_tup (by one_place) (by show 2 ≤ 100000; decide)) fun he H7 nhe e7 h7 => ⟨.ref he, ia, ib, _, _, _, _, _, _, rfl, e3.trans (e35.trans (e6.trans e7)), .inr ⟨he, rfl, h7⟩, hw⟩
      · obtain ⟨la, p, j, x3, x4, x5, x6, x7, x8, rfl, e3, hla, hw⟩ := hp
        rw [hw, le, List.drop_length] at q
        exact s_ret (v := .bl true) ev_c fun H6 e6 => q H6 (e12.trans (e3.trans e6))
end

/-- whether a place is on the ground, as the law reckons -/
def igB (n : Int) (j : Int) : Bool := (lpF n).all fun r => !decide (j % (r.1 ^ (r.2.toNat - 1) * r.1) ≥ (r.1 - 1) * r.1 ^ (r.2.toNat - 1))
theorem ig21_all : ((List.range 61).all fun n => decide (n = 0) || (List.range n).all fun (j : Nat) => igB (n : Int) (j : Int) == decide ((j : Int) ∈ groundF n)) = true := by decide +kernel
theorem ig21 {n j : Nat} (h0 : 1 ≤ n) (h : n ≤ 60) (hj : j < n) : igB (n : Int) (j : Int) = decide ((j : Int) ∈ groundF n) := by
  have t := List.all_eq_true.mp ig21_all n (List.mem_range.mpr (by omega))
  rw [decide_eq_false (show ¬ n = 0 by omega), Bool.false_or] at t
  exact eq_of_beq (List.all_eq_true.mp t j (List.mem_range.mpr hj))

/-! ### is_rest, shows_not, of any thing -/
def offL (n : Nat) (f : List Int) : List Int := ((List.range n).filter fun (j : Nat) => !decide ((j : Int) ∈ groundF n)).map fun j => coef f j
def irB (n : Nat) : PyData → Bool
  | .list ds => decide (ds.length = n) && (ds.all isW && (!allZ (ds.map nOf) && allZ (offL n (ds.map nOf))))
  | _ => false
def snotB (f : List Int) : PyData → Bool
  | .tuple [z, r, w] => isS21 (Str.ofString "not") z && (irB f.length r && (awB (f.length : Int) (psF f.length) w && decide (addS (nsD21 r) (cmS f.length (rowsT w)) = f)))
  | _ => false
where nsD21 : PyData → List Int
  | .list ds => ds.map nOf
  | _ => []
theorem ir_of {n : Nat} {d : PyData} (h : irB n d = true) : ∃ ns : List Int, d = dI ns ∧ ns.length = n ∧ allZ ns = false ∧ allZ (offL n ns) = true := by
  unfold irB at h
  split at h
  · rename_i ds
    simp only [Bool.and_eq_true, decide_eq_true_iff, Bool.not_eq_true'] at h
    obtain ⟨h1, h2, h3, h4⟩ := h
    exact ⟨ds.map nOf, by rw [dI, ← ints_of65 h2], by rw [List.length_map]; exact h1, h3, h4⟩
  · cases h
theorem ir_ints (n : Nat) (ns : List Int) : irB n (dI ns) = (decide (ns.length = n) && (!allZ ns && allZ (offL n ns))) := by
  show (decide ((ns.map PyData.int).length = n) && ((ns.map PyData.int).all isW && (!allZ ((ns.map PyData.int).map nOf) && allZ (offL n ((ns.map PyData.int).map nOf))))) = _
  rw [List.length_map, isWA65, nOf65, Bool.true_and]
/- is_rest: slots 0 n, 1 thing, 2 places, 3 j; calls are_whole, ground, all_noughts -/
abbrev s_is_rest : Stmt := topS 13
theorem sc_is_rest : FnScope ["n", "thing", "places", "j"] ["n", "thing"] (defScope s_is_rest) := ⟨rfl, rfl, rfl, by decide +kernel, rfl, by decide +kernel, by decide +kernel⟩

def spIr21 : Sp := fun vs H Q _ => ∃ (n : Nat) (x : V) (d : PyData), vs = [.int (n : Nat), x] ∧ 1 ≤ n ∧ n ≤ 60 ∧ Dq H x d ∧ RetV (.bl (irB n d)) H Q
section
variable {P : Program} {w : World} {K : PySem.W.Frag} {mg : Str → Option Value} {base : Heap}
theorem cal_ir21 (nb : Nb mg) (c_are_whole : Cal P w K mg base CX0 "are_whole" 2 ["things"] spAreW20) (c_ground : Cal P w K mg base CX0 "ground" 3 ["n"] spGround) (c_all_noughts : Cal P w K mg base CX0 "all_noughts" 1 ["numbers"] (spAllZ K)) (d : Dfn K mg "is_rest" ["n", "thing"] s_is_rest) : Cal P w K mg base CX0 "is_rest" 4 ["n", "thing"] spIr21 := by
  refine d.cal sc_is_rest (fun vs H Q E h => ?_) (fun fa cdv A outer s H vs Q E hr h => ?_)
  · obtain ⟨n, x, d, rfl, _⟩ := h
    rfl
  · obtain ⟨n, x, d, rfl, n1, n2, hx, q⟩ := h
    refine ⟨_, (pss_cons (ps_if (PW.pt (pw_or (pt_not (pt_val (pe_callB call_isi (by rfl) nb.isinstance (by decide +kernel) (pa_cons (pv 1) (pa_cons (pe_bltn (v := .ty "list") (by rfl) nb.list (by decide +kernel) rfl) pa_nil))))) (pw_or (pt_cmpR op_ne (pe_callB call_len_seq (by rfl) nb.len PySem.boot_len (pa_cons (pv 1) pa_nil)) (pv 0) (nomark _)) (pw_or1 (pt_not (pt_val (pe_cal c_are_whole (hr.mono (by first | decide | omega)) (by rfl) pass0 (pa_cons (pv 1) pa_nil)))))))) (pss_one (ps_ret pe_bl)) pss_nil)
      (pss_cons (ps_set (i := 2) sc_is_rest.nd rfl (.inr rfl) (pe_cal c_ground (hr.mono (by first | decide | omega)) (by rfl) pass0 (pa_cons (pv 0) pa_nil)))
      (pss_one (ps_ret (pe_and (pe_not (pe_cal c_all_noughts (hr.mono (by first | decide | omega)) (by rfl) pass0 (pa_cons (pv 1) pa_nil))) (pe_one (pe_cal c_all_noughts (hr.mono (by first | decide | omega)) (by rfl) pass0 (pa_cons (pe_lc (own := [("j", 3)]) (g := gName 3) (tt := (tTest (tOp (rIn K true) (tVar 3) (tVar 2)))) (te := (tOp (rIxL K) (tVar 1) (tVar 3))) (by rfl) sc_is_rest.nd (pi_range1 (by rfl) nb.range (pa_cons (pv 0) pa_nil)) (blkOk_by (N := ["n", "thing", "places", "j"]) (sc := defScope s_is_rest) (by decide +kernel)) (fun _ _ _ _ _ => (pg_name (i := 3) sc_is_rest.nd rfl (Or.inl rfl))) (fun _ _ _ _ _ => pts_one (pt_cmpR op_notIn_seq (pv 3) (pv 2) (by rfl))) (fun _ _ _ _ _ => (pe_ix ix_list (pv 1) (pv 3) (fun _ _ => rfl)))) pa_nil)))))))), ?_⟩
    by_cases isl : isK "list" d = false
    · have e : irB n d = false := by
        rw [isKl65] at isl
        cases d <;> first | rfl | (cases isl)
      rw [e] at q
      exact q_when (b := true) (et_is (et_or (b := true) (et_not (et_B (ev_isD (ev_var rfl) hx (.inl rfl)))) fun hb => absurd hb (by rw [isl]; decide)) (by rw [isl]; rfl)) (fun _ H1 e1 => s_ret (v := .bl false) ev_c fun H2 e2 => q H2 (e1.trans e2)) (fun hb => nomatch hb)
    obtain ⟨ds, rfl⟩ : ∃ ds, d = .list ds := by
      rw [isKl65] at isl
      cases d <;> first | (exact ⟨_, rfl⟩) | (exact absurd rfl isl)
    obtain ⟨a, xs, rfl, hA, hs⟩ : ∃ a xs, x = .ref a ∧ H a = some (.lst xs) ∧ DqAll H xs ds := by
      cases hx with
      | lst h hs => exact ⟨_, _, rfl, h, hs⟩
    have le := hs.len
    have q : RetV (.bl (decide (ds.length = n) && (ds.all isW && (!allZ (ds.map nOf) && allZ (offL n (ds.map nOf)))))) H Q := q
    by_cases ln : ¬ ds.length = n
    · rw [decide_eq_false ln, Bool.false_and] at q
      exact q_when (b := true) (et_is (et_or (et_not (et_B (ev_isi (b := true) (ev_var rfl) (tx_lst hA) (by decide +kernel)))) fun _ => et_or (b := true) (et_test (ev_neI (i := (xs.length : Int)) (j := (n : Nat)) (ev_len (ev_var rfl) (SqL.of hA)) (ev_var rfl))) fun hb => absurd hb (by rw [decide_eq_false (show ¬ (xs.length : Int) = (n : Int) by omega)]; decide)) (by rw [decide_eq_false (show ¬ (xs.length : Int) = (n : Int) by omega)]; rfl)) (fun _ H1 e1 => s_ret (v := .bl false) ev_c fun H2 e2 => q H2 (e1.trans e2)) (fun hb => nomatch hb)
    have ln : ds.length = n := Decidable.not_not.mp ln
    rw [decide_eq_true ln, Bool.true_and] at q
    refine q_when (b := !ds.all isW) (et_is (et_or (et_not (et_B (ev_isi (b := true) (ev_var rfl) (tx_lst hA) (by decide +kernel)))) fun _ => et_or (et_test (ev_neI (i := (n : Nat)) (j := (n : Nat)) (ev_is (ev_len (ev_var rfl) (SqL.of hA)) (by rw [le, ln])) (ev_var rfl))) fun _ => et_not (et_B (ev_cal (vs := [.ref a]) (z := .bl (ds.all isW)) (by one_place) fun H1 e1 Q k E => ⟨a, xs, ds, rfl, .inr (e1 _ _ hA), hs.mono e1, by omega, k⟩))) (by rw [decide_eq_true rfl]; rfl)) (fun hb H1 e1 => ?_) (fun hb H1 e1 => ?_)
    · have hb : ds.all isW = false := by
        cases z : ds.all isW with
        | true => rw [z] at hb; cases hb
        | false => rfl
      rw [hb, Bool.false_and] at q
      exact s_ret (v := .bl false) ev_c fun H2 e2 => q H2 (e1.trans e2)
    have hb : ds.all isW = true := by
      cases z : ds.all isW with
      | true => rfl
      | false => rw [z] at hb; cases hb
    obtain ⟨ns, rfl⟩ : ∃ ns : List Int, ds = ns.map PyData.int := ⟨_, ints_of65 hb⟩
    obtain rfl := dqa_intsL65 hs
    rw [hb, nOf65, Bool.true_and] at q
    have lns : ns.length = n := by rw [List.length_map] at ln; exact ln
    have hA1 := e1 _ _ hA
    refine q_asgL (xs := (groundF n).map V.int) (el_cal (vs := [.int (n : Nat)]) (by one_place) fun H2 e2 Q k E => ⟨n, rfl, n1, by omega, k⟩) fun gr H2 ngr e2 hgr => ?_
    have e12 := e1.trans e2
    refine s_ret (v := .bl (!allZ ns && allZ (offL n ns))) (ev_andV (ev_notV (ev_cal (vs := [.ref a]) (by one_place) fun H3 e3 Q k E => ⟨a, ns, rfl, SqL.of ((e12.trans e3) _ _ hA), by omega, k⟩)) fun _ => ev_calL1 (xs := (offL n ns).map V.int) (el_is (el_lcR1 (n := (n : Int)) (fun j => !decide ((j : Int) ∈ groundF n)) (fun j => .int (coef ns j)) (by one_place) (by omega) (fun _ => rfl) (fun j H3 e3 hj => et_test (ev_notIn (ev_var rfl) (ev_var rfl) (SqL.of (e3 _ _ hgr)))) fun j H3 e3 hj _ => ev_ixI (j := j) (SqL.of ((e12.trans e3) _ _ hA)) (ev_var rfl) (ev_var rfl) (coef_get (by omega))) (by unfold given offL; rw [Int.toNat_natCast, List.map_map]; rfl)) fun u H3 e3 hu Q k E => ⟨u, offL n ns, rfl, SqL.of hu, by
      unfold offL
      rw [List.length_map]
      have := List.length_filter_le (fun (j : Nat) => !decide ((j : Int) ∈ groundF n)) (List.range n)
      rw [List.length_range] at this
      omega, k⟩) fun H3 e3 => q H3 (e12.trans e3)
end

/-! ### shows_not, and what is due, of any thing -/
section
variable {K : PySem.W.Frag} {σ : L2.St} {H : Hp} {t0 ta tb tc : TE} {E E2 : XK} {D : Ends} {tz : TS}
/-- sum_plus(rest, come_to(n, wheels)) == some -/
theorem ev_plus21 {n : Nat} {r a b : Addr} {xs : List V} {rows : List I3} {g f : List Int} (hr : Ev tc σ H (.ref r)) (h0 : ∀ H1, Ex H H1 → Ev t0 σ H1 (.int (n : Nat))) (h1 : ∀ H1, Ex H H1 → Ev ta σ H1 (.ref a)) (h2 : ∀ H1, Ex H H1 → Ev tb σ H1 (.ref b)) (hR : H r = some (.lst (g.map V.int))) (lg : g.length = n) (hA : H a = some (.lst xs)) (R : Trs K H xs rows) (W : ∀ r ∈ rows, Whl n r) (hB : H b = some (.lst (f.map V.int))) (n2 : n ≤ 400) :
    Ev (tOp (rEqD K) (tCall (spSPlus K) [] E2 (tCons tc (tCons (tCall (spCome K) [] E (tCons t0 (tCons ta tNil))) tNil))) tb) σ H (.bl (decide (addS g (cmS n rows) = f))) := fun H1 e Q q =>
  hr H1 e _ fun H2 e2 => h0 H2 (e.trans e2) H2 (Ex.refl H2) _ fun H3 e3 => h1 H3 ((e.trans e2).trans e3) H3 (Ex.refl H3) _ fun H4 e4 => by
    show spCome K ([.int (n : Nat), .ref a] ++ []) H4 _ E
    rw [List.append_nil]
    have e14 := (e.trans e2).trans (e3.trans e4)
    refine ⟨n, a, xs, rows, rfl, n2, SqL.of (e14 _ _ hA), R.mono e14, W, fun p H5 np e5 h5 => ?_⟩
    show spSPlus K ([.ref r, .ref p] ++ []) H5 _ E2
    rw [List.append_nil]
    have e15 := e14.trans e5
    have lc : (cmS n rows).length = n := mkL_len _ _
    refine ⟨r, p, g, cmS n rows, rfl, SqL.of (e15 _ _ hR), SqL.of h5, by rw [lg, lc], by omega, fun s H6 ns e6 h6 => ?_⟩
    refine h2 H6 (e15.trans e6) H6 (Ex.refl H6) _ fun H7 e7 => ?_
    exact rv_eqI (SqL.of (e7 _ _ h6)) (SqL.of ((e15.trans (e6.trans e7)) _ _ hB)) H7 (Ex.refl H7) _ fun H8 e8 => q H8 ((e2.trans (e3.trans e4)).trans (e5.trans (e6.trans (e7.trans e8))))
end
theorem snot3 (f : List Int) (z r w : PyData) : snotB f (.tuple [z, r, w]) = (isS21 (Str.ofString "not") z && (irB f.length r && (awB (f.length : Int) (psF f.length) w && decide (addS (snotB.nsD21 r) (cmS f.length (rowsT w)) = f)))) := rfl
theorem snot_no {f : List Int} {d : PyData} (h : ∀ z r w, d ≠ .tuple [z, r, w]) : snotB f d = false := by
  unfold snotB
  split
  · exact absurd rfl (h _ _ _)
  · rfl
/- shows_not: slots 0 some, 1 thing, 2 n, 3 rest, 4 wheels; calls sum_plus, come_to, are_wheels, is_rest -/
abbrev s_shows_not : Stmt := topS 14
theorem sc_shows_not : FnScope ["some", "thing", "n", "rest", "wheels"] ["some", "thing"] (defScope s_shows_not) := ⟨rfl, rfl, rfl, by decide +kernel, rfl, by decide +kernel, by decide +kernel⟩

def spSt21 : Sp := fun vs H Q _ => ∃ (a : Addr) (x : V) (d : PyData) (f : List Int), vs = [.ref a, x] ∧ H a = some (.lst (f.map V.int)) ∧ Dq H x d ∧ d.canLay0 = true ∧ d.depth ≤ 50 ∧ 1 ≤ f.length ∧ f.length ≤ 60 ∧ RetV (.bl (snotB f d)) H Q
section
variable {P : Program} {w : World} {K : PySem.W.Frag} {mg : Str → Option Value} {base : Heap}
theorem cal_st21 (nb : Nb mg) (c_is_rest : Cal P w K mg base CX0 "is_rest" 4 ["n", "thing"] spIr21) (c_are_wheels : Cal P w K mg base CX0 "are_wheels" 4 ["n", "thing"] (spAW20 K)) (c_sum_plus : Cal P w K mg base CX0 "sum_plus" 1 ["one", "other"] (spSPlus K)) (c_come_to : Cal P w K mg base CX0 "come_to" 1 ["n", "wheels"] (spCome K)) (d : Dfn K mg "shows_not" ["some", "thing"] s_shows_not) : Cal P w K mg base CX0 "shows_not" 5 ["some", "thing"] spSt21 := by
  refine d.cal sc_shows_not (fun vs H Q E h => ?_) (fun fa cdv A outer s H vs Q E hr h => ?_)
  · obtain ⟨a, x, d, f, rfl, _⟩ := h
    rfl
  · obtain ⟨a, x, d, f, rfl, hA, hx, lay, dep, n1, n2, q⟩ := h
    refine ⟨_, (pss_cons (ps_if (PW.pt (pw_or (pt_not (pt_val (pe_callB call_isi (by rfl) nb.isinstance (by decide +kernel) (pa_cons (pv 1) (pa_cons (pe_bltn (v := .ty "tuple") (by rfl) nb.tuple (by decide +kernel) rfl) pa_nil))))) (pw_or (pt_cmpR op_ne (pe_callB call_len_seq (by rfl) nb.len PySem.boot_len (pa_cons (pv 1) pa_nil)) pe_int (nomark _)) (pw_or1 (pt_cmpR (op_neD hr.units) (pe_ix ix_tup (pv 1) pe_int (fun _ _ => rfl)) pe_str (nomark _)))))) (pss_one (ps_ret pe_bl)) pss_nil)
      (pss_cons (ps_set (i := 2) sc_shows_not.nd rfl (.inl rfl) (pe_callB call_len_seq (by rfl) nb.len PySem.boot_len (pa_cons (pv 0) pa_nil)))
      (pss_cons (ps_set (i := 3) sc_shows_not.nd rfl (.inl rfl) (pe_ix ix_tup (pv 1) pe_int (fun _ _ => rfl)))
      (pss_cons (ps_set (i := 4) sc_shows_not.nd rfl (.inl rfl) (pe_ix ix_tup (pv 1) pe_int (fun _ _ => rfl)))
      (pss_one (ps_ret (pe_and (pe_cal c_is_rest (hr.mono (by first | decide | omega)) (by rfl) pass0 (pa_cons (pv 2) (pa_cons (pv 3) pa_nil))) (pe_and (pe_cal c_are_wheels (hr.mono (by first | decide | omega)) (by rfl) pass0 (pa_cons (pv 2) (pa_cons (pv 4) pa_nil))) (pe_one (pe_cmpR (op_eqD hr.units) (pe_cal c_sum_plus (hr.mono (by first | decide | omega)) (by rfl) pass0 (pa_cons (pv 3) (pa_cons (pe_cal c_come_to (hr.mono (by first | decide | omega)) (by rfl) pass0 (pa_cons (pv 2) (pa_cons (pv 4) pa_nil))) pa_nil))) (pv 0) (nomark _))))))))))), ?_⟩
    rcases tup_cases (n := 3) d with ⟨h1, h2⟩ | ⟨ys, rfl, hl⟩ | ⟨ys, rfl, hl⟩
    · rw [snot_no (fun _ _ _ => h2 _)] at q
      exact q_when (b := true) (et_is (et_or (b := true) (et_not (et_B (ev_isD (ev_var rfl) hx (.inr (.inl rfl))))) fun hb => absurd hb (by rw [h1]; decide)) (by rw [h1]; rfl)) (fun _ H1 e1 => s_ret (v := .bl false) ev_c fun H2 e2 => q H2 (e1.trans e2)) (fun hb => nomatch hb)
    · rw [snot_no (fun _ _ _ e => by injection e with e; rw [e] at hl; exact hl rfl)] at q
      cases hx with
      | tup h3 hs3 =>
        exact q_when (b := true) (et_is (et_or (et_not (et_B (ev_isi (b := true) (ev_var rfl) (tx_tup h3) (by decide +kernel)))) fun _ => et_or (b := true) (et_test (ev_neI (j := 3) (ev_lenT (ev_var rfl) (SqT.of h3)) ev_c)) fun hb => absurd hb (by rw [hs3.len, decide_eq_false (by omega)]; decide)) (by rw [hs3.len, decide_eq_false (by omega)]; rfl)) (fun _ H1 e1 => s_ret (v := .bl false) ev_c fun H2 e2 => q H2 (e1.trans e2)) (fun hb => nomatch hb)
    · obtain ⟨z, r, w, rfl⟩ : ∃ z r w, ys = [z, r, w] := by
        match ys, hl with
        | [z, r, w], _ => exact ⟨z, r, w, rfl⟩
      rw [snot3] at q
      cases hx with
      | tup h3 hs3 =>
        rename_i t xs
        have lx : xs.length = 3 := by rw [hs3.len, hl]
        cases hs3 with
        | cons g1 hs3 =>
          cases hs3 with
          | cons g2 hs3 =>
            cases hs3 with
            | cons g3 hs3 =>
              cases hs3
              rename_i v1 v2 v3
              have layz : z.canLay0 = true := lay_at65 lay (by simp)
              have depz : z.depth ≤ 64 := by
                simp only [PyData.depth] at dep
                have := dep_at65 (k := 63) (ds := [z, r, w]) (by omega) (d := z) (by simp)
                omega
              refine q_when (b := !isS21 (Str.ofString "not") z) (et_is (et_or (et_not (et_B (ev_isi (b := true) (ev_var rfl) (tx_tup h3) (by decide +kernel)))) fun _ => et_or (et_test (ev_neI (i := 3) (j := 3) (ev_lenT (ev_var rfl) (SqT.of h3)) ev_c)) fun _ => et_test (ev_op (x := v1) (y := .str (Str.ofString "not")) (ev_ixT (j := 0) (SqT.of h3) (ev_var rfl) ev_c rfl) ev_c (rv_neD (d := z) (e := .str (Str.ofString "not")) (fun H1 e1 => dq_dp65 (g1.mono e1)) (fun _ _ => .str _) (shaped_of layz depz) (shaped_of (by decide +kernel) (by decide +kernel)) (by rw [eqv_s21])))) (by rw [decide_eq_true rfl]; rfl)) (fun hb H1 e1 => ?_) (fun hb H1 e1 => ?_)
              · have hb : isS21 (Str.ofString "not") z = false := by simpa using hb
                rw [hb, Bool.false_and] at q
                exact s_ret (v := .bl false) ev_c fun H2 e2 => q H2 (e1.trans e2)
              · have hb : isS21 (Str.ofString "not") z = true := by simpa using hb
                rw [hb, Bool.true_and] at q
                refine q_asg (v := .int (f.length : Nat)) (ev_is (ev_len (ev_var rfl) (SqL.of (e1 _ _ hA))) (by rw [List.length_map])) fun H2 e2 => ?_
                have e12 := e1.trans e2
                refine q_asg (v := v2) (ev_ixT (j := 1) (SqT.of (e12 _ _ h3)) (ev_var rfl) ev_c rfl) fun H3 e3 => ?_
                have e13 := e12.trans e3
                refine q_asg (v := v3) (ev_ixT (j := 2) (SqT.of (e13 _ _ h3)) (ev_var rfl) ev_c rfl) fun H4 e4 => ?_
                have e14 := e13.trans e4
                have g2' := g2.mono e14
                have g3' := g3.mono e14
                refine s_ret (v := .bl (irB f.length r && (awB (f.length : Int) (psF f.length) w && decide (addS (snotB.nsD21 r) (cmS f.length (rowsT w)) = f)))) (ev_andV (ev_cal (vs := [.int (f.length : Nat), v2]) (by one_place) fun H5 e5 Q k E => ⟨f.length, v2, r, rfl, n1, n2, g2'.mono e5, k⟩) fun ir => ev_andV (ev_cal (vs := [.int (f.length : Nat), v3]) (by one_place) fun H5 e5 Q k E => ⟨f.length, v3, w, rfl, g3'.mono e5, n1, by omega, k⟩) fun aw => ?_) fun H5 e5 => q H5 (e14.trans e5)
                obtain ⟨ns, rfl, ln, _, _⟩ := ir_of ir
                obtain ⟨ds, rfl, tw, W⟩ := aw_whl20 (by omega) aw
                obtain ⟨rp, rfl, hrp⟩ := dq_intsL65 g2'
                have en : snotB.nsD21 (dI ns) = ns := nOf65 ns
                rw [en]
                cases g3' with
                | lst h4 hs4 =>
                  exact ev_plus21 (n := f.length) (ev_var rfl) (fun _ _ => ev_var rfl) (fun _ _ => ev_var rfl) (fun _ _ => ev_var rfl) hrp ln h4 (dq_trs20 hs4 tw) W (e14 _ _ hA) (by omega)
end
/- _law_is_ground: slots 0 _law_n, 1 _law_j, 2 _law_p, 3 _law_often, 4 _law_lower, 5 _law_turn; calls _law_parted -/
abbrev s__law_is_ground : Stmt := topS 23
theorem sc__law_is_ground : FnScope ["_law_n", "_law_j", "_law_p", "_law_often", "_law_lower", "_law_turn"] ["_law_n", "_law_j"] (defScope s__law_is_ground) := ⟨rfl, rfl, rfl, by decide +kernel, rfl, by decide +kernel, by decide +kernel⟩

def spIg21 : Sp := fun vs H Q _ => ∃ (n : Nat) (j : Int), vs = [.int (n : Nat), .int j] ∧ 1 ≤ n ∧ n ≤ 60 ∧ 0 ≤ j ∧ j ≤ 1000 ∧ RetV (.bl (igB (n : Int) j)) H Q
theorem lpb_all : ((List.range 61).all fun n => decide (n = 0) || (decide ((lpF (n : Int)).length ≤ 3) && (lpF (n : Int)).all fun r => decide (2 ≤ r.1 ∧ r.1 ≤ 60 ∧ (n : Int) % r.1 = 0 ∧ 1 ≤ r.2 ∧ r.2 ≤ 5))) = true := by decide +kernel
theorem lpb {n : Nat} (h0 : 1 ≤ n) (h : n ≤ 60) : (lpF (n : Int)).length ≤ 3 ∧ ∀ r ∈ lpF (n : Int), 2 ≤ r.1 ∧ r.1 ≤ 60 ∧ (n : Int) % r.1 = 0 ∧ 1 ≤ r.2 ∧ r.2 ≤ 5 := by
  have t := List.all_eq_true.mp lpb_all n (List.mem_range.mpr (by omega))
  rw [decide_eq_false (show ¬ n = 0 by omega), Bool.false_or, Bool.and_eq_true] at t
  exact ⟨of_decide_eq_true t.1, fun r hr => of_decide_eq_true (List.all_eq_true.mp t.2 r hr)⟩
section
variable {P : Program} {w : World} {K : PySem.W.Frag} {mg : Str → Option Value} {base : Heap}
theorem cal_ig21 (nb : Nb mg) (c__law_parted : Cal P w K mg base CX0 "_law_parted" 1 ["_law_n"] (spLParted K)) (d : Dfn K mg "_law_is_ground" ["_law_n", "_law_j"] s__law_is_ground) : Cal P w K mg base CX0 "_law_is_ground" 2 ["_law_n", "_law_j"] spIg21 := by
  refine d.cal sc__law_is_ground (fun vs H Q E h => ?_) (fun fa cdv A outer s H vs Q E hr h => ?_)
  · obtain ⟨n, j, rfl, _⟩ := h
    rfl
  · obtain ⟨n, j, rfl, n1, n2, j0, j1, q⟩ := h
    refine ⟨_, (pss_cons (ps_for PassesOwn.never rfl (pi_list (pe_cal c__law_parted (hr.mono (by first | decide | omega)) (by rfl) pass0 (pa_cons (pv 0) pa_nil))) (pg_tup (by rfl) (pgs_cons (pg_name (i := 2) sc__law_is_ground.nd rfl (.inl rfl)) (pgs_cons (pg_name (i := 3) sc__law_is_ground.nd rfl (.inl rfl)) pgs_nil))) (pss_cons (ps_set (i := 4) sc__law_is_ground.nd rfl (.inl rfl) pe_int)
      (pss_cons (ps_for PassesOwn.never rfl (pi_range1 (by rfl) nb.range (pa_cons (pe_op op_sub (pv 3) pe_int) pa_nil)) (pg_name (i := 5) sc__law_is_ground.nd rfl (.inl rfl)) (pss_one (ps_set (i := 4) sc__law_is_ground.nd rfl (.inl rfl) (pe_op op_mulW (pv 4) (pv 2)))))
      (pss_one (ps_if (pt_cmpR op_ge (pe_op op_mod (pv 1) (pe_op op_mulW (pv 4) (pv 2))) (pe_op op_mulW (pe_op op_sub (pv 2) pe_int) (pv 4)) (nomark _)) (pss_one (ps_ret pe_bl)) pss_nil)))))
      (pss_one (ps_ret pe_bl))), ?_⟩
    obtain ⟨lp3, lpr⟩ := lpb n1 n2
    have q : RetV (.bl ((lpF (n : Int)).all fun r => !decide (j % (r.1 ^ (r.2.toNat - 1) * r.1) ≥ (r.1 - 1) * r.1 ^ (r.2.toNat - 1)))) H Q := q
    generalize hR : lpF (n : Int) = R at *
    refine q_forP (rows := R) (ep_cal (vs := [.int (n : Nat)]) (by one_place) fun H5 e5 Q k E => ⟨n, rfl, by omega, by omega, by rw [hR]; exact k⟩) (fun H1 i σ' H' => ∃ (x2 x3 x4 x5 : Option V), σ' = [some (.int (n : Nat)), some (.int j), x2, x3, x4, x5] ∧ Ex H1 H' ∧ (R.all fun r => !decide (j % (r.1 ^ (r.2.toNat - 1) * r.1) ≥ (r.1 - 1) * r.1 ^ (r.2.toNat - 1))) = ((R.drop i).all fun r => !decide (j % (r.1 ^ (r.2.toNat - 1) * r.1) ≥ (r.1 - 1) * r.1 ^ (r.2.toNat - 1)))) (fun H1 e1 => ⟨_, _, _, _, rfl, Ex.refl _, rfl⟩) (fun H1 i σ' H' h => by obtain ⟨_, _, _, _, _, e, _⟩ := h; exact e) (fun H1 i r σ' H2 eH hr hP => ?_) (fun H1 σ' H2 eH hP => ?_)
    · obtain ⟨x2, x3, x4, x5, rfl, e2, hw⟩ := hP
      obtain ⟨r1, r60, rn, ro, ro5⟩ := lpr r (List.mem_of_getElem? hr)
      have dr : R.drop i = r :: R.drop (i + 1) := by
        obtain ⟨il, rfl⟩ := List.getElem?_eq_some_iff.mp hr
        exact List.drop_eq_getElem_cons il
      rw [dr, List.all_cons] at hw
      obtain ⟨p, o⟩ := r
      have r1 : 2 ≤ p := r1
      have r60 : p ≤ 60 := r60
      have ro : 1 ≤ o := ro
      have ro5 : o ≤ 5 := ro5
      have bp : p.natAbs < 2 ^ 300 := Nat.lt_of_lt_of_le (show p.natAbs < 2 ^ 20 by omega) (Nat.pow_le_pow_right (by decide) (by decide))
      have bp1 : (p - 1).natAbs < 2 ^ 300 := Nat.lt_of_lt_of_le (show (p - 1).natAbs < 2 ^ 20 by omega) (Nat.pow_le_pow_right (by decide) (by decide))
      have pk : ∀ k : Nat, k ≤ 4 → 1 ≤ p ^ k ∧ p ^ k ≤ 12960000 := fun k hk => by
        have a : ∀ k : Nat, 1 ≤ p ^ k := fun k => by
          induction k with
          | zero => rw [Int.pow_zero]; decide
          | succ k ih =>
            rw [Int.pow_succ]
            have := Int.mul_le_mul ih (show 1 ≤ p by omega) (by decide) (by omega)
            omega
        have c60 : ∀ k : Nat, 0 ≤ (60 : Int) ^ k := fun k => by
          induction k with
          | zero => decide
          | succ k ih =>
            rw [Int.pow_succ]
            exact Int.mul_nonneg ih (by decide)
        refine ⟨a k, ?_⟩
        have b : p ^ k ≤ 60 ^ k := by
          induction k with
          | zero => rw [Int.pow_zero, Int.pow_zero]; decide
          | succ k ih =>
            rw [Int.pow_succ, Int.pow_succ]
            exact Int.mul_le_mul (ih (by omega)) r60 (by omega) (c60 k)
        refine Int.le_trans b ?_
        have : k = 0 ∨ k = 1 ∨ k = 2 ∨ k = 3 ∨ k = 4 := by omega
        rcases this with rfl | rfl | rfl | rfl | rfl <;> decide
      have bL : ∀ k : Nat, k ≤ 4 → (p ^ k).natAbs < 2 ^ 300 := fun k hk => Nat.lt_of_lt_of_le (show (p ^ k).natAbs < 2 ^ 24 by have := pk k hk; omega) (Nat.pow_le_pow_right (by decide) (by decide))
      refine q_asg (v := .int 1) ev_c fun H3 e3 => ?_
      refine q_forR1 (n := o - 1) (by one_place) (by omega) (fun k σ' H' => ∃ (L : Int) (y5 : Option V), σ' = [some (.int (n : Nat)), some (.int j), some (.int p), some (.int o), some (.int L), y5] ∧ L = p ^ k ∧ Ex H3 H') (fun H4 e4 => ⟨1, _, rfl, (Int.pow_zero p).symm, e4⟩) (fun k σ' H4 hk hq => ?_) (fun σ' H4 hq => ?_)
      · obtain ⟨L, y5, rfl, hL, e4⟩ := hq
        have b1 := bL k (by omega)
        rw [← hL] at b1
        exact s_asg (v := .int (L * p)) (ev_mul (ev_var rfl) (ev_var rfl) (mulW b1 bp)) fun H5 e5 => ⟨L * p, _, rfl, by rw [Int.pow_succ, hL], e4.trans e5⟩
      · obtain ⟨L0, y5, rfl, hL, e4⟩ := hq
        subst hL
        have tk : (o - 1).toNat = o.toNat - 1 := by omega
        rw [tk]
        have k4 : o.toNat - 1 ≤ 4 := by omega
        have pp := pk _ k4
        have bb := bL _ k4
        generalize p ^ (o.toNat - 1) = L at *
        have Lp : 0 < L * p := Int.mul_pos (by omega) (by omega)
        refine s_when (b := decide (j % (L * p) ≥ (p - 1) * L)) (et_test (ev_ge (ev_mod (ev_var rfl) (ev_mul (ev_var rfl) (ev_var rfl) (mulW bb bp)) Lp) (ev_mul (ev_sub (ev_var rfl) ev_c) (ev_var rfl) (mulW bp1 bb)))) (fun hb H5 e5 => ?_) (fun hb H5 e5 => ⟨_, _, _, _, rfl, e2.trans (e3.trans (e4.trans e5)), ?_⟩)
        · rw [hw, hb] at q
          exact s_ret (v := .bl false) ev_c fun H6 e6 => q H6 (eH.trans (e2.trans (e3.trans (e4.trans (e5.trans e6)))))
        · rw [hw, hb]
          rfl
    · obtain ⟨x2, x3, x4, x5, rfl, e2, hw⟩ := hP
      rw [hw, List.drop_length] at q
      exact s_ret (v := .bl true) ev_c fun H6 e6 => q H6 (eH.trans (e2.trans e6))
end

/-! ### what is due of any thing, and whether it is told: of the law -/
section
variable {K : PySem.W.Frag} {σ : L2.St} {H : Hp} {te ta tb : TE} {D : Ends} {tz : TS} {E : XK}
/-- a, b = t[1:], t a tuple of three -/
theorem q_unpSl21 {t : Addr} {u v w : V} {i j : Nat} (h : Ev te σ H (.ref t)) (ht : H t = some (.tup [u, v, w])) (k : ∀ H1, Ex H H1 → tz D ((σ.set i (some v)).set j (some w)) H1) : tSeq (tAsg (tSl (rSlT K) te (tPart (tC (.int ((1 : Nat) : Int)))) tNoPart) (gTup K 2 (gCons (gName i) (gCons (gName j) gNil)))) tz D σ H :=
  h H (Ex.refl H) _ fun H1 e1 => (eo_some (i := ((1 : Nat) : Int)) (te := tC (.int ((1 : Nat) : Int))) (σ := σ) (H := H1) ev_c) H1 (Ex.refl H1) _ fun H2 e2 => eo_none (H := H2) H2 (Ex.refl H2) _ fun H3 e3 => ⟨t, [u, v, w], rfl, SqT.of ((e1.trans (e2.trans e3)) _ _ ht), by rintro ⟨a, _⟩; simp [HT.sIx] at a, fun p np => by
    have e4 : Ex H3 (upd H3 p (.tup (cutV [u, v, w] (some ((1 : Nat) : Int)) none))) := Ex.new np
    have ec : cutV [u, v, w] (some ((1 : Nat) : Int)) none = [v, w] := rfl
    exact ⟨p, [v, w], rfl, SqT.of (by rw [← ec]; exact upd_same), rfl, v, [w], rfl, w, [], rfl, rfl, k _ ((e1.trans (e2.trans e3)).trans e4)⟩⟩
end
section
variable {σ : L2.St} {H : Hp} {ta tb : TE}
theorem ev_opLw21 {r : R2} {xs : List V} {v z : V} (ha : EvL ta σ H xs) (hb : Ev tb σ H v) (hr : ∀ p H1, H1 p = some (.lst xs) → Ex H H1 → RV r (.ref p) v H1 z) : Ev (tOp r ta tb) σ H z := fun H1 e Q q =>
  ha H1 e _ fun p H2 np e2 hp => hb H2 (e.trans e2) _ fun H3 e3 => (hr p H3 (e3 _ _ hp) ((e.trans e2).trans e3)) H3 (Ex.refl H3) _ fun H4 e4 => q H4 ((e2.trans e3).trans e4)
end
theorem allZ_rep21 {ns : List Int} {n : Nat} (h : ns.length = n) : allZ ns = decide (ns = List.replicate n 0) := by
  refine Bool.eq_iff_iff.mpr ?_
  unfold allZ
  rw [List.all_eq_true, decide_eq_true_iff]
  constructor
  · intro a
    exact List.eq_replicate_iff.mpr ⟨h, fun x hx => of_decide_eq_true (a x hx)⟩
  · rintro rfl x hx
    exact decide_eq_true (List.eq_of_mem_replicate hx)
def badL (n : Nat) (ns : List Int) : List Int := ((List.range n).filter fun (j : Nat) => !decide (coef ns j = 0) && !igB (n : Int) (j : Int)).map fun (j : Nat) => (j : Int)
theorem off_bad21 {n : Nat} (n1 : 1 ≤ n) (n2 : n ≤ 60) (ns : List Int) : allZ (offL n ns) = decide (badL n ns = []) := by
  refine Bool.eq_iff_iff.mpr ?_
  unfold allZ offL badL
  rw [List.all_eq_true, decide_eq_true_iff, List.map_eq_nil_iff, List.filter_eq_nil_iff]
  constructor
  · intro a j hj
    have jn := List.mem_range.mp hj
    rw [ig21 n1 n2 jn]
    by_cases c : (j : Int) ∈ groundF n
    · rw [decide_eq_true c]
      simp
    · have := of_decide_eq_true (a (coef ns j) (List.mem_map.mpr ⟨j, List.mem_filter.mpr ⟨hj, by rw [decide_eq_false c]; rfl⟩, rfl⟩))
      rw [this]
      simp
  · intro a x hx
    obtain ⟨j, hj, rfl⟩ := List.mem_map.mp hx
    obtain ⟨hj, hg⟩ := List.mem_filter.mp hj
    have := a j hj
    rw [ig21 n1 n2 (List.mem_range.mp hj)] at this
    by_cases c : coef ns j = 0
    · exact decide_eq_true c
    · rw [decide_eq_false c, hg] at this
      exact absurd rfl this
/- _law_due: slots 0 _law_some, 1 _law_thing_here, 2 _law_n, 3 _law_rest, 4 _law_wheels, 5 _law_j, 6 _law_x, 7 _law_y; calls _law_in_row, _law_whole, _law_is_ground, _law_come_to -/
abbrev s__law_due : Stmt := topS 31
theorem sc__law_due : FnScope ["_law_some", "_law_thing_here", "_law_n", "_law_rest", "_law_wheels", "_law_j", "_law_x", "_law_y"] ["_law_some", "_law_thing_here"] (defScope s__law_due) := ⟨rfl, rfl, rfl, by decide +kernel, rfl, by decide +kernel, by decide +kernel⟩

def spDue21 : Sp := fun vs H Q _ => ∃ (a : Addr) (x : V) (d : PyData) (f : List Int), vs = [.ref a, x] ∧ H a = some (.lst (f.map V.int)) ∧ Dq H x d ∧ 1 ≤ f.length ∧ f.length ≤ 60 ∧ RetV (.bl (snotB f d)) H Q
section
variable {P : Program} {w : World} {K : PySem.W.Frag} {mg : Str → Option Value} {base : Heap}
theorem cal_due21 (nb : Nb mg) (c__law_whole : Cal P w K mg base CX0 "_law_whole" 1 ["_law_got"] spLW21) (c__law_in_row : Cal P w K mg base CX0 "_law_in_row" 2 ["_law_n", "_law_wheels"] (spIR20 K)) (c__law_is_ground : Cal P w K mg base CX0 "_law_is_ground" 2 ["_law_n", "_law_j"] spIg21) (c__law_come_to : Cal P w K mg base CX0 "_law_come_to" 1 ["_law_n", "_law_wheels"] (spCome K)) (d : Dfn K mg "_law_due" ["_law_some", "_law_thing_here"] s__law_due) : Cal P w K mg base CX0 "_law_due" 3 ["_law_some", "_law_thing_here"] spDue21 := by
  refine d.cal sc__law_due (fun vs H Q E h => ?_) (fun fa cdv A outer s H vs Q E hr h => ?_)
  · obtain ⟨a, x, d, f, rfl, _⟩ := h
    rfl
  · obtain ⟨a, x, d, f, rfl, hA, hx, n1, n2, q⟩ := h
    refine ⟨_, (pss_cons (ps_set (i := 2) sc__law_due.nd rfl (.inr rfl) (pe_callB call_len_seq (by rfl) nb.len PySem.boot_len (pa_cons (pv 0) pa_nil)))
      (pss_cons (ps_if (PW.pt (pw_or (pt_not (pt_val (pe_callB call_isi (by rfl) nb.isinstance (by decide +kernel) (pa_cons (pv 1) (pa_cons (pe_bltn (v := .ty "tuple") (by rfl) nb.tuple (by decide +kernel) rfl) pa_nil))))) (pw_or (pt_cmpR op_ne (pe_callB call_len_seq (by rfl) nb.len PySem.boot_len (pa_cons (pv 1) pa_nil)) pe_int (nomark _)) (pw_or (pt_not (pt_val (pe_callB call_isi (by rfl) nb.isinstance (by decide +kernel) (pa_cons (pe_ix ix_tup (pv 1) pe_int (fun _ _ => rfl)) (pa_cons (pe_bltn (v := .ty "str") (by rfl) nb.str (by decide +kernel) rfl) pa_nil))))) (pw_or1 (pt_cmpR op_ne (pe_ix ix_tup (pv 1) pe_int (fun _ _ => rfl)) pe_str (nomark _))))))) (pss_one (ps_ret pe_bl)) pss_nil)
      (pss_cons (ps_asg (pe_slice sl_tup (pv 1) (po_some pe_int) po_none) (pg_tup (by rfl) (pgs_cons (pg_name (i := 3) sc__law_due.nd rfl (.inr rfl)) (pgs_cons (pg_name (i := 4) sc__law_due.nd rfl (.inl rfl)) pgs_nil))))
      (pss_cons (ps_if (PW.pt (pw_or (pt_not (pt_val (pe_cal c__law_whole (hr.mono (by first | decide | omega)) (by rfl) pass0 (pa_cons (pv 3) pa_nil)))) (pw_or (pt_cmpR op_ne (pe_callB call_len_seq (by rfl) nb.len PySem.boot_len (pa_cons (pv 3) pa_nil)) (pv 2) (nomark _)) (pw_or (pt_cmpR (op_eqD hr.units) (pv 3) (pe_op op_rep (pe_lst (pa_cons pe_int pa_nil)) (pv 2)) (nomark _)) (pw_or1 (pt_not (pt_val (pe_cal c__law_in_row (hr.mono (by first | decide | omega)) (by rfl) pass0 (pa_cons (pv 2) (pa_cons (pv 4) pa_nil)))))))))) (pss_one (ps_ret pe_bl)) pss_nil)
      (pss_cons (ps_if (pt_cmpR (op_neD hr.units) (pe_lc (own := [("_law_j", 5)]) (g := gName 5) (tt := (tAnd (tTest (tOp rNe (tOp (rIxL K) (tVar 3) (tVar 5)) (tC (.int 0)))) (tNot (tB (tCall _ [] _ (tCons (tVar 2) (tCons (tVar 5) tNil))))))) (by rfl) sc__law_due.nd (pi_range1 (by rfl) nb.range (pa_cons (pv 2) pa_nil)) (blkOk_by (N := ["_law_some", "_law_thing_here", "_law_n", "_law_rest", "_law_wheels", "_law_j", "_law_x", "_law_y"]) (sc := defScope s__law_due) (by decide +kernel)) (fun _ _ _ _ _ => (pg_name (i := 5) sc__law_due.nd rfl (Or.inl rfl))) (fun _ _ _ _ _ => pts_one (PW.pt (pw_and (pt_cmpR op_ne (pe_ix ix_list (pv 3) (pv 5) (fun _ _ => rfl)) pe_int (nomark _)) (pw_and1 (pt_not (pt_val (pe_cal c__law_is_ground (hr.mono (by first | decide | omega)) (by rfl) pass0 (pa_cons (pv 2) (pa_cons (pv 5) pa_nil))))))))) (fun _ _ _ _ _ => (pv 5))) (pe_lst pa_nil) (nomark _)) (pss_one (ps_ret pe_bl)) pss_nil)
      (pss_one (ps_ret (pe_cmpR (op_eqD hr.units) (pe_lc (own := [("_law_x", 6), ("_law_y", 7)]) (g := gTup K 2 (gCons (gName 6) (gCons (gName 7) gNil))) (tt := tYes) (by rfl) sc__law_due.nd (pi_zip (by rfl) nb.zip (pa_cons (pv 3) (pa_cons (pe_cal c__law_come_to (hr.mono (by first | decide | omega)) (by rfl) pass0 (pa_cons (pv 2) (pa_cons (pv 4) pa_nil))) pa_nil))) (blkOk_by (N := ["_law_some", "_law_thing_here", "_law_n", "_law_rest", "_law_wheels", "_law_j", "_law_x", "_law_y"]) (sc := defScope s__law_due) (by decide +kernel)) (fun _ _ _ _ _ => (pg_tup (by rfl) (pgs_cons (pg_name (i := 6) sc__law_due.nd rfl (Or.inl rfl)) (pgs_cons (pg_name (i := 7) sc__law_due.nd rfl (Or.inl rfl)) pgs_nil)))) (fun _ _ _ _ _ => pts_nil) (fun _ _ _ _ _ => (pe_op op_add (pv 6) (pv 7)))) (pv 0) (nomark _))))))))), ?_⟩
    refine q_asg (v := .int (f.length : Nat)) (ev_is (ev_len (ev_var rfl) (SqL.of hA)) (by rw [List.length_map])) fun H0 e0 => ?_
    have hx := hx.mono e0
    rcases tup_cases (n := 3) d with ⟨h1, h2⟩ | ⟨ys, rfl, hl⟩ | ⟨ys, rfl, hl⟩
    · rw [snot_no (fun _ _ _ => h2 _)] at q
      exact q_when (b := true) (et_is (et_or (b := true) (et_not (et_B (ev_isD (ev_var rfl) hx (.inr (.inl rfl))))) fun hb => absurd hb (by rw [h1]; decide)) (by rw [h1]; rfl)) (fun _ H1 e1 => s_ret (v := .bl false) ev_c fun H2 e2 => q H2 (e0.trans (e1.trans e2))) (fun hb => nomatch hb)
    · rw [snot_no (fun _ _ _ e => by injection e with e; rw [e] at hl; exact hl rfl)] at q
      cases hx with
      | tup h3 hs3 =>
        exact q_when (b := true) (et_is (et_or (et_not (et_B (ev_isi (b := true) (ev_var rfl) (tx_tup h3) (by decide +kernel)))) fun _ => et_or (b := true) (et_test (ev_neI (j := 3) (ev_lenT (ev_var rfl) (SqT.of h3)) ev_c)) fun hb => absurd hb (by rw [hs3.len, decide_eq_false (by omega)]; decide)) (by rw [hs3.len, decide_eq_false (by omega)]; rfl)) (fun _ H1 e1 => s_ret (v := .bl false) ev_c fun H2 e2 => q H2 (e0.trans (e1.trans e2))) (fun hb => nomatch hb)
    · obtain ⟨z, r, w, rfl⟩ : ∃ z r w, ys = [z, r, w] := by
        match ys, hl with
        | [z, r, w], _ => exact ⟨z, r, w, rfl⟩
      rw [snot3] at q
      cases hx with
      | tup h3 hs3 =>
        rename_i t xs
        have lx : xs.length = 3 := by rw [hs3.len, hl]
        cases hs3 with
        | cons g1 hs3 =>
          cases hs3 with
          | cons g2 hs3 =>
            cases hs3 with
            | cons g3 hs3 =>
              cases hs3
              rename_i v1 v2 v3
              have p0 : ∀ {σ : L2.St} {H' : Hp}, Ex H0 H' → σ[1]? = some (some (.ref t)) → Ev (tOp (rIxT K) (tVar 1) (tC (.int ((0 : Nat) : Int)))) σ H' v1 := fun e h1 => ev_ixT (j := 0) (SqT.of (e _ _ h3)) (ev_var h1) ev_c rfl
              refine q_when (b := !isS21 (Str.ofString "not") z) (et_is (a := !true || (!decide ((3 : Int) = 3) || (!isK "str" z || !isS21 (Str.ofString "not") z))) ?_ ?_) (fun hb H1 e1 => ?_) (fun hb H1 e1 => ?_)
              · refine et_or (et_not (et_B (ev_isi (b := true) (ev_var rfl) (tx_tup h3) (by decide +kernel)))) fun _ => et_or (et_test (ev_neI (i := 3) (j := 3) (ev_lenT (ev_var rfl) (SqT.of h3)) ev_c)) fun _ => et_or (et_not (et_B (ev_isi (b := isK "str" z) (p0 (Ex.refl _) rfl) (dq_ty g1) (kit_str20 z)))) fun hst => ?_
                have hst : isK "str" z = true := by simpa using hst
                obtain ⟨st, rfl⟩ : ∃ st, z = .str st := by
                  rw [isKs20] at hst
                  cases z <;> first | (exact ⟨_, rfl⟩) | (cases hst)
                cases g1
                refine et_test (ev_is (ev_op (x := .str st) (y := .str (Str.ofString "not")) (p0 (Ex.refl _) rfl) ev_c (rv_ne rfl)) ?_)
                show V.bl (!decide (V.str st = V.str (Str.ofString "not"))) = V.bl (!decide (st = Str.ofString "not"))
                rw [decide_eq_decide.mpr (show V.str st = V.str (Str.ofString "not") ↔ st = Str.ofString "not" from ⟨fun e => V.str.inj e, fun e => by rw [e]⟩)]
              · rw [decide_eq_true rfl, isKs20]
                cases z <;> rfl
              · have hb : isS21 (Str.ofString "not") z = false := by simpa using hb
                rw [hb, Bool.false_and] at q
                exact s_ret (v := .bl false) ev_c fun H2 e2 => q H2 (e0.trans (e1.trans e2))
              · have hb : isS21 (Str.ofString "not") z = true := by simpa using hb
                rw [hb, Bool.true_and] at q
                refine q_unpSl21 (ev_var rfl) (e1 _ _ h3) fun H2 e2 => ?_
                have e12 := e1.trans e2
                have e02 := e0.trans e12
                have g2' := g2.mono e12
                have g3' := g3.mono e12
                -- what the law asks of the rest and the wheels
                by_cases ir : ∃ ns : List Int, r = dI ns
                · obtain ⟨ns, rfl⟩ := ir
                  obtain ⟨rp, rfl, hrp⟩ := dq_intsL65 g2'
                  have en : snotB.nsD21 (dI ns) = ns := nOf65 ns
                  have lw : lwB (dI ns) = true := isWA65 ns
                  rw [en, ir_ints] at q
                  have wh : ∀ {σ : L2.St} {H' : Hp} {E : XK}, Ex H2 H' → σ[3]? = some (some (.ref rp)) → EvT (tNot (tB (tCall spLW21 [] E (tCons (tVar 3) tNil)))) σ H' false := fun e h3 => et_is (et_not (et_B (ev_cal (vs := [.ref rp]) (z := .bl true) (ea_cons (ev_var h3) ea_nil) fun H3 e3 Q k E => ⟨.ref rp, dI ns, rfl, g2'.mono (e.trans e3), by rw [lw]; exact k⟩))) rfl
                  by_cases ln : ¬ ns.length = f.length
                  · rw [decide_eq_false ln, Bool.false_and, Bool.false_and] at q
                    exact q_when (b := true) (et_is (et_or (wh (Ex.refl _) rfl) fun _ => et_or (b := true) (et_test (ev_neI (i := (ns.length : Int)) (j := (f.length : Nat)) (ev_is (ev_len (ev_var rfl) (SqL.of hrp)) (by rw [List.length_map])) (ev_var rfl))) fun hb => absurd hb (by rw [decide_eq_false (show ¬ (ns.length : Int) = (f.length : Nat) by omega)]; decide)) (by rw [decide_eq_false (show ¬ (ns.length : Int) = (f.length : Nat) by omega)]; rfl)) (fun _ H3 e3 => s_ret (v := .bl false) ev_c fun H4 e4 => q H4 (e02.trans (e3.trans e4))) (fun hb => nomatch hb)
                  have ln : ns.length = f.length := Decidable.not_not.mp ln
                  rw [decide_eq_true ln, Bool.true_and, allZ_rep21 ln, off_bad21 n1 n2] at q
                  refine q_when (b := decide (ns = List.replicate f.length 0) || !awB (f.length : Int) (psF f.length) w) (et_is (a := false || (!decide ((f.length : Int) = (f.length : Nat)) || (decide (ns = List.replicate f.length 0) || !awB (f.length : Int) (psF f.length) w))) ?_ ?_) (fun hb H3 e3 => ?_) (fun hb H3 e3 => ?_)
                  · refine et_or (wh (Ex.refl _) rfl) fun _ => et_or (et_test (ev_neI (i := (f.length : Int)) (j := (f.length : Nat)) (ev_is (ev_len (ev_var rfl) (SqL.of hrp)) (by rw [List.length_map, ln])) (ev_var rfl))) fun _ => et_or (et_test (ev_opL (xs := (List.replicate f.length (0 : Int)).map V.int) (ev_var rfl) (el_is (el_rep (k := ((f.length : Nat) : Int)) (x := .int 0) (el_lst (by one_place) (by decide)) (ev_var rfl) (by omega) (by omega)) (by rw [List.map_replicate, Int.toNat_natCast])) fun u H3 hu e3 => rv_eqI (ns := ns) (ms := List.replicate f.length 0) (SqL.of (e3 _ _ hrp)) (SqL.of hu))) fun _ => et_not (et_B (ev_cal (vs := [.int (f.length : Nat), v3]) (by one_place) fun H3 e3 Q k E => ⟨f.length, v3, w, rfl, g3'.mono e3, n1, by omega, k⟩))
                  · rw [decide_eq_true rfl]
                    rfl
                  · refine s_ret (v := .bl false) ev_c fun H4 e4 => ?_
                    have : ((!decide (ns = List.replicate f.length 0) && decide (badL f.length ns = [])) && (awB (f.length : Int) (psF f.length) w && decide (addS ns (cmS f.length (rowsT w)) = f))) = false := by
                      rcases Bool.or_eq_true_iff.mp hb with h | h
                      · rw [h]
                        rfl
                      · have h : awB (f.length : Int) (psF f.length) w = false := by simpa using h
                        rw [h, Bool.false_and, Bool.and_false]
                    rw [this] at q
                    exact q H4 (e02.trans (e3.trans e4))
                  · rw [Bool.or_eq_false_iff, Bool.not_eq_false'] at hb
                    obtain ⟨hz, aw⟩ := hb
                    rw [hz, aw, Bool.true_and] at q
                    have q : RetV (.bl (decide (badL f.length ns = []) && decide (addS ns (cmS f.length (rowsT w)) = f))) H Q := q
                    have hrp3 := e3 _ _ hrp
                    refine q_when (b := !decide (badL f.length ns = [])) (et_test (ev_opLL (xs := (badL f.length ns).map V.int) (ys := ([] : List Int).map V.int) (el_is (el_lcR1 (n := (f.length : Int)) (fun j => !decide (coef ns j = 0) && !igB (f.length : Int) (j : Int)) (fun j => .int (j : Int)) (by one_place) (by omega) (fun _ => rfl) (fun j H4 e4 hj => et_and (et_test (ev_neI (ev_ixI (j := j) (SqL.of (e4 _ _ hrp3)) (ev_var rfl) (ev_var rfl) (coef_get (by omega))) ev_c)) fun _ => et_not (et_B (ev_cal (vs := [.int (f.length : Nat), .int (j : Nat)]) (by one_place) fun H5 e5 Q k E => ⟨f.length, (j : Nat), rfl, n1, n2, by omega, by omega, k⟩))) fun j H4 e4 hj _ => ev_var rfl) (by unfold given badL; rw [Int.toNat_natCast, List.map_map]; rfl)) (el_lst (vs := []) ea_nil (by decide)) fun u v H4 hu hv e4 => rv_neI (ns := badL f.length ns) (ms := []) (SqL.of hu) (SqL.of hv))) (fun hb H4 e4 => ?_) (fun hb H4 e4 => ?_)
                    · have hb : decide (badL f.length ns = []) = false := by simpa using hb
                      rw [hb, Bool.false_and] at q
                      exact s_ret (v := .bl false) ev_c fun H5 e5 => q H5 (e02.trans (e3.trans (e4.trans e5)))
                    · have hb : decide (badL f.length ns = []) = true := by simpa using hb
                      rw [hb, Bool.true_and] at q
                      obtain ⟨ds, rfl, tw, W⟩ := aw_whl20 (by omega) aw
                      have lc : (cmS f.length (rowsT (.list ds))).length = f.length := mkL_len _ _
                      have e34 := e3.trans e4
                      cases g3' with
                      | lst h4 hs4 =>
                        refine s_ret (v := .bl (decide (addS ns (cmS f.length (rowsT (.list ds))) = f))) (ev_opLw21 (xs := (addS ns (cmS f.length (rowsT (.list ds)))).map V.int) (el_is (el_lcZ (fun x y => .int (x + y)) (az_vn (ev_var rfl) (SqL.of (e34 _ _ hrp)) (el_cal (vs := [.int (f.length : Nat), .ref _]) (by one_place) fun H5 e5 Q k E => ⟨f.length, _, _, rowsT (.list ds), rfl, by omega, SqL.of ((e34.trans e5) _ _ h4), dq_trs20 (hs4.mono (e34.trans e5)) tw, W, k⟩)) (by rw [ln, lc]) (by omega) (fun _ _ => rfl) fun x y H5 e5 hx hy => ev_add (ev_var rfl) (ev_var rfl)) (by unfold addS; rw [List.map_zipWith])) (ev_var rfl) fun p H5 hp e5 => rv_eqI (SqL.of hp) (SqL.of ((e02.trans (e34.trans e5)) _ _ hA))) fun H5 e5 => q H5 (e02.trans (e34.trans e5))
                · have lw : lwB r = false := by
                    cases z : lwB r with
                    | false => rfl
                    | true =>
                      refine absurd ?_ ir
                      unfold lwB at z
                      split at z
                      · rename_i ds
                        exact ⟨ds.map nOf, by rw [dI, ← ints_of65 z]⟩
                      · cases z
                  have irf : irB f.length r = false := by
                    cases z : irB f.length r with
                    | false => rfl
                    | true =>
                      obtain ⟨ns, e, _⟩ := ir_of z
                      exact absurd ⟨ns, e⟩ ir
                  rw [irf, Bool.false_and] at q
                  exact q_when (b := true) (et_is (et_or (b := true) (et_not (et_B (ev_cal (vs := [v2]) (z := .bl false) (by one_place) fun H3 e3 Q k E => ⟨v2, r, rfl, g2'.mono e3, by rw [lw]; exact k⟩))) fun hb => nomatch hb) rfl) (fun _ H3 e3 => s_ret (v := .bl false) ev_c fun H4 e4 => q H4 (e02.trans (e3.trans e4))) (fun hb => nomatch hb)
end

/-! ### bent: a number, a row, the whole, of the law -/
def OkA (b k : Nat) (ds : List PyData) : Prop := PyData.canLayAll0 ds = true ∧ SzA b k ds
theorem OkA.list {b k : Nat} {ds : List PyData} (h : OkA b k ds) : Ok65 (b + 3) (k + 1) (.list ds) := ⟨h.1, Sz.lst h.2⟩
theorem OkA.tuple {b k : Nat} {ds : List PyData} (h : OkA b k ds) : Ok65 (b + 3) (k + 1) (.tuple ds) := ⟨h.1, Sz.tup h.2⟩
theorem OkA.up {b b' k k' : Nat} {ds : List PyData} (h : OkA b k ds) (hb : b ≤ b') (hk : k ≤ k') : OkA b' k' ds := ⟨h.1, h.2.mono hb hk⟩
theorem OkA.nil (k : Nat) : OkA 0 k [] := ⟨rfl, SzA.nil.mono (Nat.le_refl _) (Nat.zero_le _)⟩
theorem OkA.cons {b c k : Nat} {d : PyData} {ds : List PyData} (h : Ok65 b k d) (g : OkA c k ds) : OkA (b + 2 + c) k (d :: ds) := ⟨by
  unfold PyData.canLayAll0
  rw [h.1, g.1]
  rfl, SzA.cons h.2 g.2⟩
theorem OkA.app {b c k : Nat} {ds es : List PyData} (h : OkA b k ds) (g : OkA c k es) : OkA (b + c) k (ds ++ es) := ⟨lay_app h.1 g.1, h.2.app g.2⟩
theorem OkA.mem {b k : Nat} {ds : List PyData} (h : OkA b k ds) : ∀ d ∈ ds, Ok65 b k d := fun d hd => by
  obtain ⟨i, hi⟩ := List.mem_iff_getElem?.mp hd
  exact ⟨lay_at65 h.1 hd, h.2.at hi⟩
theorem OkA.set {b c k : Nat} {d : PyData} {ds : List PyData} (h : Ok65 c k d) (g : OkA b k ds) (i : Nat) : OkA (b + c + 2) k (ds.set i d) := ⟨lay_all fun x hx => by
  rcases List.mem_or_eq_of_mem_set hx with hx | rfl
  · exact lay_at65 g.1 hx
  · exact h.1, g.2.set h.2⟩
theorem OkA.take {b k : Nat} {ds : List PyData} (h : OkA b k ds) (m : Nat) : OkA b k (ds.take m) := ⟨lay_all fun x hx => lay_at65 h.1 (List.mem_of_mem_take hx), h.2.take⟩
theorem OkA.tail {b k : Nat} {d : PyData} {ds : List PyData} (h : OkA b k (d :: ds)) : OkA b k ds := ⟨lay_all fun x hx => lay_at65 h.1 (List.mem_cons_of_mem _ hx), by
  have h1 := h.2.ok
  have h2 := h.2.len
  have h3 := h.2.dep
  simp only [shOA, Bool.and_eq_true] at h1
  simp only [shBA] at h2
  simp only [PyData.depthAll] at h3
  exact ⟨h1.2, by omega, (Nat.max_le.mp h3).2⟩⟩
theorem OkA.drop {b k : Nat} : ∀ {ds : List PyData} (m : Nat), OkA b k ds → OkA b k (ds.drop m)
  | ds, 0, h => h
  | [], m + 1, h => h
  | d :: ds, m + 1, h => OkA.drop m h.tail
theorem OkA.rev {b k : Nat} : ∀ {ds : List PyData}, OkA b k ds → OkA b k ds.reverse := fun {ds} h => ⟨lay_all fun x hx => lay_at65 h.1 (List.mem_reverse.mp hx), by
  have key : ∀ {ds : List PyData}, SzA (shBA ds) (PyData.depthAll ds) ds → ∃ c, c = shBA ds ∧ SzA c (PyData.depthAll ds) ds.reverse := fun {ds} h => by
    induction ds with
    | nil => exact ⟨_, rfl, h⟩
    | cons d ds ih =>
      have h1 := h.ok
      simp only [shOA, Bool.and_eq_true] at h1
      obtain ⟨c, rfl, g⟩ := ih ⟨h1.2, Nat.le_refl _, Nat.le_refl _⟩
      refine ⟨_, rfl, ?_⟩
      rw [List.reverse_cons]
      have m1 : PyData.depthAll ds ≤ PyData.depthAll (d :: ds) := by simp only [PyData.depthAll]; exact Nat.le_max_right _ _
      have m2 : d.depth ≤ PyData.depthAll (d :: ds) := by simp only [PyData.depthAll]; exact Nat.le_max_left _ _
      refine ((g.mono (Nat.le_refl _) m1).app (SzA.cons (d := d) ⟨h1.1, Nat.le_refl _, m2⟩ (SzA.nil.mono (Nat.le_refl _) (Nat.zero_le _)))).mono ?_ (Nat.le_refl _)
      simp only [shBA]
      omega
  obtain ⟨c, rfl, g⟩ := key ⟨h.2.ok, Nat.le_refl _, Nat.le_refl _⟩
  exact g.mono h.2.len h.2.dep⟩
theorem okA_ints {ns : List Int} (hb : Bd 1900 ns) : OkA (1923 * ns.length) 0 (ns.map PyData.int) := ⟨lay_map _ (fun _ => rfl) ns, sza_ints fun i hi => by
  obtain ⟨m, hm⟩ := List.mem_iff_getElem?.mp hi
  have := hb m
  rwa [coef_of hm] at this⟩
theorem DqAll.drop63 {H : Hp} : ∀ {xs : List V} {ds : List PyData} (m : Nat), DqAll H xs ds → DqAll H (xs.drop m) (ds.drop m)
  | _, _, 0, h => h
  | _, _, m + 1, .nil => .nil
  | _, _, m + 1, .cons _ t => DqAll.drop63 m t
theorem DqAll.rev63 {H : Hp} : ∀ {xs : List V} {ds : List PyData}, DqAll H xs ds → DqAll H xs.reverse ds.reverse
  | _, _, .nil => .nil
  | _, _, .cons h t => by
    rw [List.reverse_cons, List.reverse_cons]
    exact (DqAll.rev63 t).app (.cons h .nil)
section
variable {K : PySem.W.Frag} {σ : L2.St} {H : Hp} {te ta tb ti : TE} {tr : TA} {D : Ends} {E : XK} {Pd : PyData → Prop} {n : Nat} {x : V} {d : PyData} {tz : TS}
/-- things, a thing, things, in a row -/
theorem eq_midD {Pe : PyData → Prop} {xs ys : List V} {ds es : List PyData} (h1 : EvL ta σ H xs) (h2 : EvQd Pe te σ H) (h3 : ∀ H1, Ex H H1 → EvL tb σ H1 ys) (g1 : DqAll H xs ds) (g2 : DqAll H ys es) (hz : xs.length ≤ 1000 ∧ ys.length ≤ 1000) (hp : ∀ d, Pe d → Pd (.list (ds ++ [d] ++ es))) : EvQd Pd (tOp rCat (tOp rCat ta (tLst (tCons te tNil))) tb) σ H := fun H1 e Q q =>
  h1 H1 e _ fun a H2 na e2 ha => h2 H2 (e.trans e2) _ fun x d H3 e3 g p => ⟨sz_of (show 1 ≤ 100000 by decide), fun l nl => by
    have e4 : Ex H3 (upd H3 l (.lst [x])) := Ex.new nl
    refine ⟨a, l, xs, [x], rfl, rfl, e4 _ _ (e3 _ _ ha), upd_same, sz_of (by show _ + 1 ≤ _; omega), fun b nb => ?_⟩
    have e5 : Ex (upd H3 l (.lst [x])) (upd (upd H3 l (.lst [x])) b (.lst (xs ++ [x]))) := Ex.new nb
    refine h3 _ ((((e.trans e2).trans e3).trans e4).trans e5) _ (Ex.refl _) _ fun c H6 nc e6 hc => ?_
    refine ⟨b, c, xs ++ [x], ys, rfl, rfl, e6 _ _ upd_same, hc, sz_of (by rw [List.length_append]; show _ + 1 + _ ≤ _; omega), fun r nr => ?_⟩
    have e7 : Ex H6 (upd H6 r (.lst (xs ++ [x] ++ ys))) := Ex.new nr
    have e47 := e4.trans (e5.trans (e6.trans e7))
    have e17 := ((e.trans e2).trans e3).trans e47
    exact q (.ref r) _ _ ((e2.trans e3).trans e47) (.lst upd_same (((g1.mono e17).app (.cons (g.mono e47) .nil)).app (g2.mono e17))) (hp d p)⟩
/-- things and things in a row -/
theorem eq_catD {xs ys : List V} {ds es : List PyData} (h1 : EvL ta σ H xs) (h3 : ∀ H1, Ex H H1 → EvL tb σ H1 ys) (g1 : DqAll H xs ds) (g2 : DqAll H ys es) (hz : xs.length ≤ 1000 ∧ ys.length ≤ 1000) (hp : Pd (.list (ds ++ es))) : EvQd Pd (tOp rCat ta tb) σ H := fun H1 e Q q =>
  h1 H1 e _ fun a H2 na e2 ha => h3 H2 (e.trans e2) _ (Ex.refl _) _ fun c H6 nc e6 hc => ⟨a, c, xs, ys, rfl, rfl, e6 _ _ ha, hc, sz_of (by omega), fun r nr => by
    have e7 : Ex H6 (upd H6 r (.lst (xs ++ ys))) := Ex.new nr
    exact q (.ref r) _ _ (e2.trans (e6.trans e7)) (.lst upd_same ((g1.mono ((e.trans e2).trans (e6.trans e7))).app (g2.mono ((e.trans e2).trans (e6.trans e7))))) hp⟩
/-- a new list of things -/
theorem eq_new {xs : List V} {ds : List PyData} (h : EvL te σ H xs) (g : DqAll H xs ds) (hp : Pd (.list ds)) : EvQd Pd te σ H := fun H1 e Q q =>
  h H1 e _ fun a H2 na e2 ha => q (.ref a) _ H2 e2 (.lst ha (g.mono (e.trans e2))) hp
/-- a value of which something holds, and stays -/
def EvP (Pp : V → Hp → Prop) (te : TE) (σ : L2.St) (H : Hp) : Prop := ∀ H1, Ex H H1 → ∀ Q : VK, (∀ x H2, Ex H1 H2 → Pp x H2 → Q x H2) → te σ H1 Q
/-- o[i], o[j] = e, f -/
theorem s_set2P {A B : V → Hp → Prop} {to ti te to2 ti2 te2 : TE} {l : Addr} {xs : List V} {j j2 : Nat} (mA : ∀ x H1 H2, Ex H1 H2 → A x H1 → A x H2) (mB : ∀ x H1 H2, Ex H1 H2 → B x H1 → B x H2) (hl : H l = some (.lst xs)) (ho : ∀ H1, Ex H H1 → Ev to σ H1 (.ref l)) (hi : ∀ H1, Ex H H1 → Ev ti σ H1 (.int (j : Nat))) (hj : j < xs.length)
    (ho2 : ∀ H1 ys, H1 l = some (.lst ys) → Ev to2 σ H1 (.ref l)) (hi2 : ∀ H1, Ev ti2 σ H1 (.int (j2 : Nat))) (hj2 : j2 < xs.length) (he : EvP A te σ H) (he2 : EvP B te2 σ H)
    (kk : ∀ x y H1, Ex H H1 → A x H1 → B y H1 → ∀ H2, H2 l = some (.lst ((xs.set j x).set j2 y)) → (∀ a o, a ≠ l → H1 a = some o → H2 a = some o) → D.nx σ H2) : tAsg (tTup (tCons te (tCons te2 tNil))) (gTup K 2 (gCons (gSub to ti rSetL) (gCons (gSub to2 ti2 rSetL) gNil))) D σ H :=
  he H (Ex.refl H) _ fun x H1 e1 g => he2 H1 e1 _ fun y H2 e2 g2 => ⟨sz_of (by show 2 ≤ 100000; decide), fun T nT => by
    have eT : Ex H2 (upd H2 T (.tup [x, y])) := Ex.new nT
    refine ⟨T, [x, y], rfl, SqT.of upd_same, rfl, x, [y], rfl, ?_⟩
    have e3 := e1.trans (e2.trans eT)
    refine ho _ e3 _ (Ex.refl _) _ fun H4 e4 => hi H4 (e3.trans e4) H4 (Ex.refl _) _ fun H5 e5 => ?_
    have a5 := e3.trans (e4.trans e5)
    refine ⟨l, xs, (j : Int), j, rfl, rfl, a5 _ _ hl, ixN_nat hj, y, [], rfl, ?_⟩
    have nn : ∀ a o, a ≠ l → H5 a = some o → (upd H5 l (.lst (xs.set j x))) a = some o := fun a o n h => by rw [upd_ne n]; exact h
    refine ho2 _ (xs.set j x) upd_same _ (Ex.refl _) _ fun H6 e6 => hi2 H6 H6 (Ex.refl _) _ fun H7 e7 => ?_
    refine ⟨l, xs.set j x, (j2 : Int), j2, rfl, rfl, (e6.trans e7) _ _ upd_same, ixN_nat (by rw [List.length_set]; exact hj2), rfl, ?_⟩
    have e25 : Ex H2 H5 := eT.trans (e4.trans e5)
    exact kk x y H5 a5 (mA _ _ _ (e2.trans e25) g) (mB _ _ _ e25 g2) _ upd_same (fun a o n h => by rw [upd_ne n]; exact (e6.trans e7) _ _ (nn a o n h))⟩
theorem q_set2P {A B : V → Hp → Prop} {to ti te to2 ti2 te2 : TE} {l : Addr} {xs : List V} {j j2 : Nat} (mA : ∀ x H1 H2, Ex H1 H2 → A x H1 → A x H2) (mB : ∀ x H1 H2, Ex H1 H2 → B x H1 → B x H2) (hl : H l = some (.lst xs)) (ho : ∀ H1, Ex H H1 → Ev to σ H1 (.ref l)) (hi : ∀ H1, Ex H H1 → Ev ti σ H1 (.int (j : Nat))) (hj : j < xs.length)
    (ho2 : ∀ H1 ys, H1 l = some (.lst ys) → Ev to2 σ H1 (.ref l)) (hi2 : ∀ H1, Ev ti2 σ H1 (.int (j2 : Nat))) (hj2 : j2 < xs.length) (he : EvP A te σ H) (he2 : EvP B te2 σ H)
    (kk : ∀ x y H1, Ex H H1 → A x H1 → B y H1 → ∀ H2, H2 l = some (.lst ((xs.set j x).set j2 y)) → (∀ a o, a ≠ l → H1 a = some o → H2 a = some o) → tz D σ H2) : tSeq (tAsg (tTup (tCons te (tCons te2 tNil))) (gTup K 2 (gCons (gSub to ti rSetL) (gCons (gSub to2 ti2 rSetL) gNil)))) tz D σ H :=
  s_set2P (D := { D with nx := tz D }) mA mB hl ho hi hj ho2 hi2 hj2 he he2 kk
theorem evP_val {v : V} (h : Ev te σ H v) : EvP (fun x _ => x = v) te σ H := fun H1 e Q q => h H1 e _ fun H2 e2 => q v H2 e2 rfl
/-- a new tuple of two, not at l -/
theorem evP_tup {l : Addr} {o : HO} {v u : V} (hl : H l = some o) (h1 : Ev ta σ H v) (h2 : Ev tb σ H u) : EvP (fun x H1 => ∃ t, x = .ref t ∧ t ≠ l ∧ H1 t = some (.tup [v, u])) (tTup (tCons ta (tCons tb tNil))) σ H := fun H1 e Q q =>
  h1 H1 e _ fun H2 e2 => h2 H2 (e.trans e2) _ fun H3 e3 => ⟨sz_of (by show 2 ≤ 100000; decide), fun t nt => by
    have tl : t ≠ l := fun z => by rw [z, (e.trans (e2.trans e3)) _ _ hl] at nt; cases nt
    exact q _ _ ((e2.trans e3).trans (Ex.new nt)) ⟨t, rfl, tl, upd_same⟩⟩
end
/-! ### a row bent, the whole bent, of the law -/
section
variable {K : PySem.W.Frag} {σ : L2.St} {H : Hp} {te ta tb ti : TE} {tr : TA} {D : Ends} {E : XK} {Pd : PyData → Prop} {n : Nat} {tz : TS}
theorem q_unp63 {t : Addr} {v u : V} {i j : Nat} (h : Ev te σ H (.ref t)) (ht : H t = some (.tup [v, u])) (k : ∀ H1, Ex H H1 → tz D ((σ.set i (some v)).set j (some u)) H1) : tSeq (tAsg te (gTup K 2 (gCons (gName i) (gCons (gName j) gNil)))) tz D σ H :=
  h H (Ex.refl H) _ fun H1 e1 => ⟨t, _, rfl, SqT.of (e1 _ _ ht), rfl, v, [u], rfl, u, [], rfl, rfl, k H1 e1⟩
/-- some thing told by a call -/
theorem eq_callP {sp : Sp} {vs : List V} (h : EvA tr σ H vs) (hs : ∀ H1, Ex H H1 → ∀ Q : VK, (∀ x d H2, Ex H1 H2 → Dq H2 x d → Pd d → Q x H2) → ∀ E : XK, sp vs H1 Q E) : EvQd Pd (tCall sp [] E tr) σ H := fun H1 e Q q =>
  h H1 e _ fun H2 e2 => by
    show sp (vs ++ []) H2 Q E
    rw [List.append_nil]
    exact hs H2 (e.trans e2) Q (fun x d H3 e3 g p => q x d H3 (e2.trans e3) g p) E
/-- l = [things] -/
theorem q_asgQs {i : Nat} (h : EvQs Pd tr σ H n) (hn : n ≤ 100000) (k : ∀ l xs ds H1, Ex H H1 → H1 l = some (.lst xs) → DqAll H1 xs ds → (∀ d ∈ ds, Pd d) → xs.length = n → tz D (σ.set i (some (.ref l))) H1) : tSeq (tAsg (tLst tr) (gName i)) tz D σ H :=
  h H (Ex.refl H) _ fun xs ds H1 e1 g p l => ⟨sz_of (by omega), fun a na => k a xs ds _ (e1.trans (Ex.new na)) upd_same (g.mono (Ex.new na)) p l⟩
theorem eq_str63 {d : Nat} (h : Ev te σ H (.int (d : Nat))) (hd : ((d : Int)).natAbs.log2 < 1920) (p : Pd (.str (toString (d : Int)))) : EvQd Pd (tCB (fun xs H Q => ∃ i, xs = [.int i] ∧ i.natAbs.log2 < 1920 ∧ Q (.str (toString i)) H) (tCons te tNil)) σ H := fun H1 e Q q =>
  h H1 e _ fun H2 e2 => ⟨(d : Int), rfl, hd, q _ _ H2 e2 (.str _) p⟩
end
theorem okA_len {b k : Nat} : ∀ {ds : List PyData}, (∀ d ∈ ds, Ok65 b k d) → OkA ((b + 2) * ds.length) k ds
  | [], _ => (OkA.nil k).up (Nat.zero_le _) (Nat.le_refl _)
  | d :: ds, h => (OkA.cons (h d List.mem_cons_self) (okA_len fun x hx => h x (List.mem_cons_of_mem _ hx))).up (by rw [List.length_cons, Nat.mul_add]; omega) (Nat.le_refl _)

/- _law_is: slots 0 _law_some, 1 _law_thing_here, 2 _law_kept, 3 _law_handed, 4 _law_got; calls shows_not, _law_due -/
abbrev s__law_is : Stmt := topS 33
theorem sc__law_is : FnScope ["_law_some", "_law_thing_here", "_law_kept", "_law_handed", "_law_got"] ["_law_some", "_law_thing_here"] (defScope s__law_is) := ⟨rfl, rfl, rfl, by decide +kernel, rfl, by decide +kernel, by decide +kernel⟩

def spIs21 : Sp := fun vs H Q _ => ∃ (a : Addr) (x : V) (d : PyData) (f : List Int), vs = [.ref a, x] ∧ H a = some (.lst (f.map V.int)) ∧ Dq H x d ∧ Ok65 15000000 45 d ∧ 1 ≤ f.length ∧ f.length ≤ 60 ∧ RetV (.bl true) H Q
section
variable {P : Program} {w : World} {K : PySem.W.Frag} {mg : Str → Option Value} {base : Heap}
theorem ev_strD20 {σ : L2.St} {H : Hp} {te : TE} {x : V} {d : PyData} (h : Ev te σ H x) (g : Dq H x d) (s : Sz 16000000 50 d) : Ev (tCB rStrD (tCons te tNil)) σ H (.str (strD d)) := fun H1 e Q q =>
  h H1 e _ fun H2 e2 => ⟨x, d, rfl, g.mono (e.trans e2), s.ok, s.len, Nat.le_trans s.dep (by decide), q H2 e2⟩
theorem cal_is21 (nb : Nb mg) (c_shows_not : Cal P w K mg base CX0 "shows_not" 5 ["some", "thing"] spSt21) (c__law_due : Cal P w K mg base CX0 "_law_due" 3 ["_law_some", "_law_thing_here"] spDue21) (d : Dfn K mg "_law_is" ["_law_some", "_law_thing_here"] s__law_is) : CalG P w K mg base "_law_is" 6 ["_law_some", "_law_thing_here"] spIs21 := by
  refine d.calG sc__law_is (fun vs H Q E h => ?_) (fun fa cdv A outer s H vs Q E hr hg h => ?_)
  · obtain ⟨a, x, d, f, rfl, _⟩ := h
    rfl
  · obtain ⟨a, x, d, f, rfl, hA, hx, ok, n1, n2, q⟩ := h
    refine ⟨_, (pss_cons (ps_set (i := 2) sc__law_is.nd rfl (.inl rfl) (pe_callTy (cr_strD hg (room110 hr)) (by rfl) nb.str (by decide +kernel) (pa_cons (pv 1) pa_nil)))
      (pss_cons (ps_set (i := 3) sc__law_is.nd rfl (.inl rfl) (pe_callTy call_list_of (by rfl) nb.list (by decide +kernel) (pa_cons (pv 0) pa_nil)))
      (pss_cons (ps_set (i := 4) sc__law_is.nd rfl (.inl rfl) (pe_cal c_shows_not (hr.mono (by first | decide | omega)) (by rfl) pass0 (pa_cons (pv 3) (pa_cons (pv 1) pa_nil))))
      (pss_one (ps_ret (pe_and (pe_callB call_isi (by rfl) nb.isinstance (by decide +kernel) (pa_cons (pv 4) (pa_cons (pe_bltn (v := .ty "bool") (by rfl) nb.bool (by decide +kernel) rfl) pa_nil))) (pe_and (pe_cmpR op_eq (pv 4) (pe_cal c__law_due (hr.mono (by first | decide | omega)) (by rfl) pass0 (pa_cons (pv 0) (pa_cons (pv 1) pa_nil))) (nomark _)) (pe_and (pe_cmpR op_eq (pe_callTy (cr_strD hg (room110 hr)) (by rfl) nb.str (by decide +kernel) (pa_cons (pv 1) pa_nil)) (pv 2) (nomark _)) (pe_one (pe_cmpR (op_eqD hr.units) (pv 3) (pv 0) (nomark _))))))))))), ?_⟩
    have sz : Sz 16000000 50 d := ok.2.mono (by decide) (by decide)
    refine q_asg (v := .str (strD d)) (ev_strD20 (ev_var rfl) hx sz) fun H1 e1 => ?_
    refine q_asgL (xs := f.map V.int) (el_list (ev_var rfl) (SqL.of (e1 _ _ hA))) fun hd H2 nhd e2 hhd => ?_
    have e12 := e1.trans e2
    refine q_asg (v := .bl (snotB f d)) (ev_cal (vs := [.ref hd, x]) (by one_place) fun H3 e3 Q k E => ⟨hd, x, d, f, rfl, e3 _ _ hhd, hx.mono (e12.trans e3), ok.1, Nat.le_trans ok.2.dep (by decide), n1, n2, k⟩) fun H3 e3 => ?_
    have e13 := e12.trans e3
    exact s_ret (v := .bl true) (ev_is (ev_andV (ev_isi (b := true) (ev_var rfl) (fun _ _ => .base (.bl _)) (by decide +kernel)) fun _ => ev_andV (ev_is (ev_op (x := .bl (snotB f d)) (y := .bl (snotB f d)) (ev_var rfl) (ev_cal (vs := [.ref a, x]) (by one_place) fun H4 e4 Q k E => ⟨a, x, d, f, rfl, (e13.trans e4) _ _ hA, hx.mono (e13.trans e4), n1, n2, k⟩) (rv_eq rfl)) (by rw [decide_eq_true rfl])) fun _ => ev_andV (ev_is (ev_op (ev_strD20 (ev_var rfl) (hx.mono e13) sz) (ev_var rfl) (rv_eq rfl)) (by rw [decide_eq_true rfl])) fun _ => ev_is (ev_op (ev_var rfl) (ev_var rfl) (rv_eqI (ns := f) (ms := f) (SqL.of (e3 _ _ hhd)) (SqL.of (e13 _ _ hA)))) (by rw [decide_eq_true rfl])) rfl) fun H4 e4 => q H4 (e13.trans e4)
end

/-! ### things that don't hang on a list under work -/
section
variable {A : List Addr} {K : PySem.W.Frag} {σ : L2.St} {H : Hp} {te ta tb ti to : TE} {tr : TA} {D : Ends} {E : XK} {Pd : PyData → Prop} {n : Nat} {x : V} {d : PyData} {tz : TS}
def EvQa (A : List Addr) (Pd : PyData → Prop) (te : TE) (σ : L2.St) (H : Hp) : Prop := ∀ H1, Ex H H1 → ∀ Q : VK, (∀ x d H2, Ex H1 H2 → Dq (hid A H2) x d → Pd d → Q x H2) → te σ H1 Q
def EvQas (A : List Addr) (Pd : PyData → Prop) (tr : TA) (σ : L2.St) (H : Hp) (n : Nat) : Prop := ∀ H1, Ex H H1 → ∀ Q : List V → Hp → Prop, (∀ xs ds H2, Ex H1 H2 → DqAll (hid A H2) xs ds → (∀ d ∈ ds, Pd d) → xs.length = n → Q xs H2) → tr σ H1 Q
theorem qa_val (h : Ev te σ H x) (g : ∀ H1, Ex H H1 → Dq (hid A H1) x d) (p : Pd d) : EvQa A Pd te σ H := fun H1 e Q q => h H1 e _ fun H2 e2 => q x d H2 e2 (g H2 (e.trans e2)) p
theorem qa_flat (h : Ev te σ H x) (g : ∀ H1, Dq H1 x d) (p : Pd d) : EvQa A Pd te σ H := qa_val h (fun _ _ => g _) p
theorem qas_nil : EvQas A Pd tNil σ H 0 := fun H1 e Q q => q [] [] H1 (Ex.refl H1) .nil (fun _ h => absurd h List.not_mem_nil) rfl
theorem qas_cons (h : EvQa A Pd te σ H) (hr : EvQas A Pd tr σ H n) : EvQas A Pd (tCons te tr) σ H (n + 1) := fun H1 e Q q =>
  h H1 e _ fun x d H2 e2 g p => hr H2 (e.trans e2) _ fun xs ds H3 e3 gs ps l => q (x :: xs) (d :: ds) H3 (e2.trans e3) (.cons (g.mono (hid_ex e3)) gs) (fun y hy => by
    rcases List.mem_cons.mp hy with rfl | hy
    · exact p
    · exact ps y hy) (by rw [List.length_cons, l])
theorem qa_tup {Pe : PyData → Prop} (tk : Tkn A H) (h : EvQas A Pe tr σ H n) (hn : n ≤ 100000) (hp : ∀ ds, ds.length = n → (∀ d ∈ ds, Pe d) → Pd (.tuple ds)) : EvQa A Pd (tTup tr) σ H := fun H1 e Q q =>
  h H1 e _ fun xs ds H2 e2 gs ps l => ⟨sz_of (by omega), fun p np => q (.ref p) (.tuple ds) _ (e2.trans (Ex.new np)) (.tup (by rw [hid_out (tkn_not (tkn_ex (e.trans e2) tk) np)]; exact upd_same) (gs.mono (hid_ex (Ex.new np)))) (hp ds (by rw [← gs.len, l]) ps)⟩
theorem qa_lst {Pe : PyData → Prop} (tk : Tkn A H) (h : EvQas A Pe tr σ H n) (hn : n ≤ 100000) (hp : ∀ ds, ds.length = n → (∀ d ∈ ds, Pe d) → Pd (.list ds)) : EvQa A Pd (tLst tr) σ H := fun H1 e Q q =>
  h H1 e _ fun xs ds H2 e2 gs ps l => ⟨sz_of (by omega), fun p np => q (.ref p) (.list ds) _ (e2.trans (Ex.new np)) (.lst (by rw [hid_out (tkn_not (tkn_ex (e.trans e2) tk) np)]; exact upd_same) (gs.mono (hid_ex (Ex.new np)))) (hp ds (by rw [← gs.len, l]) ps)⟩
theorem qa_pick {i : Int} (h : EvQas A Pd tr σ H n) (hn : n ≤ 100000) (hi : Ev ti σ H (.int i)) (h0 : 0 ≤ i) (h1 : i < (n : Int)) : EvQa A Pd (tOp (rIxL K) (tLst tr) ti) σ H := fun H1 e Q q =>
  h H1 e _ fun xs ds H2 e2 gs ps l => ⟨sz_of (by omega), fun p np => by
    have eN : Ex H2 (upd H2 p (.lst xs)) := Ex.new np
    refine hi _ ((e.trans e2).trans eN) _ fun H3 e3 => ?_
    obtain ⟨j, rfl⟩ := Int.eq_ofNat_of_zero_le h0
    have hj : j < xs.length := by omega
    obtain ⟨d, hd, g⟩ := gs.at (List.getElem?_eq_getElem hj)
    exact (rv_ixL (K := K) (xs := xs) (i := (j : Int)) (sq_of (e3 _ _ upd_same)) (atI_nat (List.getElem?_eq_getElem hj))) H3 (Ex.refl _) _ fun H4 e4 => q _ d H4 ((e2.trans eN).trans (e3.trans e4)) (g.mono (hid_ex (eN.trans (e3.trans e4)))) (ps d (List.mem_of_getElem? hd))⟩
theorem qa_callP {sp : Sp} {vs : List V} (h : EvA tr σ H vs) (hs : ∀ H1, Ex H H1 → ∀ Q : VK, (∀ x d H2, Ex H1 H2 → Dq (hid A H2) x d → Pd d → Q x H2) → ∀ E : XK, sp vs H1 Q E) : EvQa A Pd (tCall sp [] E tr) σ H := fun H1 e Q q =>
  h H1 e _ fun H2 e2 => by
    show sp (vs ++ []) H2 Q E
    rw [List.append_nil]
    exact hs H2 (e.trans e2) Q (fun x d H3 e3 g p => q x d H3 (e2.trans e3) g p) E
theorem s_retQa (h : EvQa A Pd te σ H) (k : ∀ x d H1, Ex H H1 → Dq (hid A H1) x d → Pd d → D.rt x H1) : tRet te D σ H := h H (Ex.refl H) _ k
theorem s_asgQa {i : Nat} (h : EvQa A Pd te σ H) (k : ∀ x d H1, Ex H H1 → Dq (hid A H1) x d → Pd d → D.nx (σ.set i (some x)) H1) : tAsg te (gName i) D σ H := h H (Ex.refl H) _ k
theorem qa_tupOf {p : Addr} {xs : List V} {ds : List PyData} (tk : Tkn A H) (h : Ev te σ H (.ref p)) (hp : H p = some (.lst xs)) (g : DqAll (hid A H) xs ds) (s : Pd (.tuple ds)) : EvQa A Pd (tCB (fun vs H Q => ∃ p ys, vs = [.ref p] ∧ ((SqL K H p ys ∧ ∀ l, H l = none → Q (.ref l) (upd H l (.tup ys))) ∨ (SqT K H p ys ∧ Q (.ref p) H))) (tCons te tNil)) σ H := fun H1 e Q q =>
  h H1 e _ fun H2 e2 => ⟨p, xs, rfl, .inl ⟨sq_of ((e.trans e2) _ _ hp), fun l nl => q (.ref l) (.tuple ds) _ (e2.trans (Ex.new nl)) (.tup (by rw [hid_out (tkn_not (tkn_ex (e.trans e2) tk) nl)]; exact upd_same) (g.mono (hid_ex ((e.trans e2).trans (Ex.new nl))))) s⟩⟩
/-- things, some new ones, things, in a row -/
theorem qa_midS {Pe : PyData → Prop} {xs ys : List V} {ds es : List PyData} (tk : Tkn A H) (h1 : EvL ta σ H xs) (h2 : EvQas A Pe tr σ H n) (h3 : ∀ H1, Ex H H1 → EvL tb σ H1 ys) (g1 : DqAll (hid A H) xs ds) (g2 : DqAll (hid A H) ys es) (hz : xs.length ≤ 1000 ∧ ys.length ≤ 1000 ∧ n ≤ 1000) (hp : ∀ ms, ms.length = n → (∀ d ∈ ms, Pe d) → Pd (.list (ds ++ ms ++ es))) : EvQa A Pd (tOp rCat (tOp rCat ta (tLst tr)) tb) σ H := fun H1 e Q q =>
  h1 H1 e _ fun a H2 na e2 ha => h2 H2 (e.trans e2) _ fun zs ms H3 e3 g p lz => ⟨sz_of (by omega), fun l nl => by
    have e4 : Ex H3 (upd H3 l (.lst zs)) := Ex.new nl
    refine ⟨a, l, xs, zs, rfl, rfl, e4 _ _ (e3 _ _ ha), upd_same, sz_of (by omega), fun b nb => ?_⟩
    have e5 : Ex (upd H3 l (.lst zs)) (upd (upd H3 l (.lst zs)) b (.lst (xs ++ zs))) := Ex.new nb
    refine h3 _ ((((e.trans e2).trans e3).trans e4).trans e5) _ (Ex.refl _) _ fun c H6 nc e6 hc => ?_
    refine ⟨b, c, xs ++ zs, ys, rfl, rfl, e6 _ _ upd_same, hc, sz_of (by rw [List.length_append]; omega), fun r nr => ?_⟩
    have e7 : Ex H6 (upd H6 r (.lst (xs ++ zs ++ ys))) := Ex.new nr
    have e47 := e4.trans (e5.trans (e6.trans e7))
    have e17 := ((e.trans e2).trans e3).trans e47
    have e16 := ((e.trans e2).trans e3).trans (e4.trans (e5.trans e6))
    exact q (.ref r) _ _ ((e2.trans e3).trans e47) (.lst (by rw [hid_out (tkn_not (tkn_ex e16 tk) nr)]; exact upd_same) (((g1.mono (hid_ex e17)).app (g.mono (hid_ex e47))).app (g2.mono (hid_ex e17)))) (hp ms (by rw [← g.len, lz]) p)⟩
/-- o[i] = e -/
theorem s_setQa {l : Addr} {xs : List V} {j : Nat} (hl : H l = some (.lst xs)) (ho : ∀ H1, Ex H H1 → Ev to σ H1 (.ref l)) (hi : ∀ H1, Ex H H1 → Ev ti σ H1 (.int (j : Nat))) (hj : j < xs.length) (he : EvQa A Pd te σ H)
    (kk : ∀ x d H1, Ex H H1 → Dq (hid A H1) x d → Pd d → D.nx σ (upd H1 l (.lst (xs.set j x)))) : tAsg te (gSub to ti rSetL) D σ H :=
  he H (Ex.refl H) _ fun x d H1 e1 g s => ho H1 e1 H1 (Ex.refl _) _ fun H2 e2 => hi H2 (e1.trans e2) H2 (Ex.refl _) _ fun H3 e3 => ⟨l, xs, (j : Int), j, rfl, rfl, (e1.trans (e2.trans e3)) _ _ hl, ixN_nat hj, kk x d H3 (e1.trans (e2.trans e3)) (g.mono (hid_ex (e2.trans e3))) s⟩
/-- o.append(e) -/
theorem s_appQa {l : Addr} {xs : List V} (hl : H l = some (.lst xs)) (ho : Ev to σ H (.ref l)) (he : EvQa A Pd te σ H) (hz : xs.length < 100000) (kk : ∀ x d H1, Ex H H1 → Dq (hid A H1) x d → Pd d → D.nx σ (upd H1 l (.lst (xs ++ [x])))) :
    tDrop (tBM K "list" rAppend to (tCons te tNil)) D σ H := ho H (Ex.refl H) _ fun H1 e1 =>
  ⟨Or.inl ⟨rfl, xs, sq_of (e1 l _ hl)⟩, he H1 e1 _ fun x d H2 e2 g s => ⟨l, xs, x, rfl, rfl, e2 l _ (e1 l _ hl), sz_lt hz, kk x d H2 (e1.trans e2) g s⟩⟩
/-- o.insert(i, e) -/
theorem s_insV {l : Addr} {xs : List V} {i : Nat} {v : V} (hl : H l = some (.lst xs)) (ho : Ev to σ H (.ref l)) (hi : ∀ H1, Ex H H1 → Ev ti σ H1 (.int (i : Nat))) (he : ∀ H1, Ex H H1 → Ev te σ H1 v) (hz : xs.length < 100000) (hj : i < 100000) (kk : ∀ H1, Ex H H1 → D.nx σ (upd H1 l (.lst (xs.take i ++ [v] ++ xs.drop i)))) :
    tDrop (tBM K "list" (fun x vs H Q => ∃ (l : Addr) (xs : List V) (i : Int) (y : V), x = .ref l ∧ vs = [.int i, y] ∧ H l = some (.lst xs) ∧ xs.length < sizeLine ∧ 0 ≤ i ∧ i < 2 ^ 63 ∧ Q .non (upd H l (.lst (xs.take i.toNat ++ [y] ++ xs.drop i.toNat)))) to (tCons ti (tCons te tNil))) D σ H := ho H (Ex.refl H) _ fun H1 e1 =>
  ⟨Or.inl ⟨rfl, xs, sq_of (e1 l _ hl)⟩, hi H1 e1 H1 (Ex.refl _) _ fun H2 e2 => he H2 (e1.trans e2) H2 (Ex.refl _) _ fun H3 e3 => ⟨l, xs, (i : Int), v, rfl, rfl, (e1.trans (e2.trans e3)) _ _ hl, sz_lt hz, by omega, by omega, by rw [Int.toNat_natCast]; exact kk H3 (e1.trans (e2.trans e3))⟩⟩
/-- o.reverse() -/
theorem s_rev20 {l : Addr} {xs : List V} (hl : H l = some (.lst xs)) (ho : Ev to σ H (.ref l)) (kk : ∀ H1, Ex H H1 → D.nx σ (upd H1 l (.lst xs.reverse))) : tDrop (tBM0 K "list" rReverse to) D σ H := ho H (Ex.refl H) _ fun H1 e1 =>
  ⟨Or.inl ⟨rfl, xs, sq_of (e1 l _ hl)⟩, l, xs, rfl, rfl, e1 l _ hl, kk H1 e1⟩
end

/-! ### a thing, of the law -/
/- _law_thing: slots 0 _law_pick; calls  -/
abbrev s__law_thing : Stmt := topS 29
theorem sc__law_thing : FnScope ["_law_pick"] ["_law_pick"] (defScope s__law_thing) := ⟨rfl, rfl, rfl, by decide +kernel, rfl, by decide +kernel, by decide +kernel⟩

def spTg20 : Sp := fun vs H Q _ => ∃ (z : Int) (A : List Addr), vs = [.int z] ∧ 0 ≤ z ∧ Tkn A H ∧ ∀ x d H1, Ex H H1 → Dq (hid A H1) x d → Ok65 12000 3 d → Q x H1
section
variable {P : Program} {w : World} {K : PySem.W.Frag} {mg : Str → Option Value} {base : Heap}
theorem cal_tg20 (nb : Nb mg) (d : Dfn K mg "_law_thing" ["_law_pick"] s__law_thing) : Cal P w K mg base CX0 "_law_thing" 1 ["_law_pick"] spTg20 := by
  refine d.cal sc__law_thing (fun vs H Q E h => ?_) (fun fa cdv A outer s H vs Q E hr h => ?_)
  · obtain ⟨z, A, rfl, _⟩ := h
    rfl
  · obtain ⟨z, A, rfl, z0, tk, q⟩ := h
    refine ⟨_, (pss_one (ps_ret (pe_ix ix_list (pe_lst (pa_cons pe_non (pa_cons pe_int (pa_cons pe_int (pa_cons (pe_op op_sub pe_int pe_int) (pa_cons pe_str (pa_cons pe_str (pa_cons (pe_lst pa_nil) (pa_cons (pe_tup pa_nil) (pa_cons pe_bl (pa_cons (pe_lst (pa_cons pe_int pa_nil)) (pa_cons (pe_tup (pa_cons pe_int (pa_cons pe_int (pa_cons pe_int pa_nil)))) (pa_cons (pe_lst (pa_cons pe_str (pa_cons (pe_lst pa_nil) pa_nil))) pa_nil))))))))))))) (pe_op op_mod (pv 0) pe_int) (fun _ _ => rfl)))), ?_⟩
    have okN : Ok65 2000 0 (.str (Str.ofString "nought")) := ⟨by decide +kernel, sz_str (by decide +kernel) (by decide +kernel)⟩
    have oi : ∀ {i : Int}, i.natAbs < 2 ^ 6 → Ok65 2000 0 (.int i) := fun h => (ok_int (Nat.lt_of_lt_of_le h (Nat.pow_le_pow_right (by decide) (by decide)))).up (by decide) (by decide)
    have e0 : Ok65 3 1 (.list []) := (OkA.nil 0).list
    have vi : ∀ {σ : L2.St} {H' : Hp} (i : Int), i.natAbs < 2 ^ 6 → EvQa A (Ok65 2000 0) (tC (.int i)) σ H' := fun i h => qa_flat ev_c (fun _ => .int _) (oi h)
    exact s_retQa (Pd := Ok65 12000 3) (qa_pick (n := 12) (i := z % 12) (qas_cons (qa_flat ev_c (fun _ => .non) ⟨rfl, sz_non.mono (by decide) (by decide)⟩)
      (qas_cons (qa_flat ev_c (fun _ => .int _) ((oi (by decide)).up (by decide) (by decide)))
      (qas_cons (qa_flat ev_c (fun _ => .int _) ((oi (by decide)).up (by decide) (by decide)))
      (qas_cons (qa_flat (ev_sub ev_c ev_c) (fun _ => .int _) ((oi (by decide)).up (by decide) (by decide)))
      (qas_cons (qa_flat ev_c (fun _ => .str _) (okN.up (by decide) (by decide)))
      (qas_cons (qa_flat ev_c (fun _ => .str _) (ok_strE.up (by decide) (by decide)))
      (qas_cons (qa_lst tk (Pe := Ok65 0 0) (n := 0) qas_nil (by decide) fun ds hl hd => (okA_len hd).list.up (by rw [hl]; decide) (by decide))
      (qas_cons (qa_tup tk (Pe := Ok65 0 0) (n := 0) qas_nil (by decide) fun ds hl hd => (okA_len hd).tuple.up (by rw [hl]; decide) (by decide))
      (qas_cons (qa_flat ev_c (fun _ => .bl true) ⟨rfl, (sz_bl true).mono (by decide) (by decide)⟩)
      (qas_cons (qa_lst tk (Pe := Ok65 2000 0) (n := 1) (qas_cons (vi 0 (by decide)) qas_nil) (by decide) fun ds hl hd => (okA_len hd).list.up (by rw [hl]; decide) (by decide))
      (qas_cons (qa_tup tk (Pe := Ok65 2000 0) (n := 3) (qas_cons (vi 0 (by decide)) (qas_cons (vi 0 (by decide)) (qas_cons (vi 0 (by decide)) qas_nil))) (by decide) fun ds hl hd => (okA_len hd).tuple.up (by rw [hl]; decide) (by decide))
      (qas_cons (qa_lst tk (Pe := Ok65 2000 1) (n := 2) (qas_cons (qa_flat ev_c (fun _ => .str _) (okN.up (by decide) (by decide))) (qas_cons (qa_lst tk (Pe := Ok65 0 0) (n := 0) qas_nil (by decide) fun ds hl hd => (okA_len hd).list.up (by rw [hl]; decide) (by decide)) qas_nil)) (by decide) fun ds hl hd => (okA_len hd).list.up (by rw [hl]; decide) (by decide)) qas_nil)))))))))))) (by decide) (by one_place) (by omega) (by omega)) fun x d H1 e1 hd ok => q x d H1 e1 hd ok
end

/-! ### wheels bent, of the law -/
theorem dqa_un20 {A : List Addr} {H : Hp} {xs : List V} {ds : List PyData} (h : DqAll (hid A H) xs ds) : DqAll H xs ds := by
  have := h.mono (hid_sub (A := A) (B := []) (H := H) fun a m => (List.not_mem_nil m).elim)
  rwa [hid_nil] at this
theorem dqa_old20 {A : List Addr} {H H' : Hp} {xs : List V} {ds : List PyData} (h : DqAll H xs ds) (n : ∀ a ∈ A, H a = none) (e : Ex H H') : DqAll (hid A H') xs ds := by
  rw [← hid_all n] at h
  exact h.mono (hid_ex e)
theorem dqa_fresh20 {A : List Addr} {l : Addr} {H H' : Hp} {xs : List V} {ds : List PyData} (h : DqAll (hid A H) xs ds) (n : H l = none) (e : Ex H H') : DqAll (hid (l :: A) H') xs ds := h.mono fun a o q => by
  unfold hid at *
  split at q
  · cases q
  · next c =>
    have na : a ≠ l := fun z => by rw [z, n] at q; cases q
    rw [if_neg (fun m => (List.mem_cons.mp m).elim na c)]
    exact e _ _ q
theorem dqa_sub20 {A : List Addr} {l : Addr} {H : Hp} {xs : List V} {ds : List PyData} (h : DqAll (hid (l :: A) H) xs ds) : DqAll (hid A H) xs ds := h.mono (hid_sub fun a m => List.mem_cons_of_mem _ m)
theorem tkn_cons20 {A : List Addr} {l : Addr} {H : Hp} {o : HO} (h : H l = some o) (t : Tkn A H) : Tkn (l :: A) H := fun b hb => by
  rcases List.mem_cons.mp hb with rfl | hb
  · rw [h]
    exact fun z => nomatch z
  · exact t b hb
theorem d3_get20 {H : Hp} {x : V} {r : I3} (g : Dq H x (d3 r)) : ∃ t, x = .ref t ∧ H t = some (.tup [.int r.1, .int r.2.1, .int r.2.2]) := by
  unfold d3 at g
  cases g with
  | tup h hs =>
    cases hs with
    | cons h1 hs =>
      cases hs with
      | cons h2 hs =>
        cases hs with
        | cons h3 hs =>
          cases hs
          cases h1
          cases h2
          cases h3
          exact ⟨_, rfl, h⟩
theorem trs_d3 {K : PySem.W.Frag} {H : Hp} : ∀ {xs : List V} {rows : List I3}, DqAll H xs (rows.map d3) → Trs K H xs rows
  | [], [], _ => .nil
  | x :: xs, [], h => nomatch h
  | [], r :: rows, h => nomatch h
  | x :: xs, r :: rows, .cons h hs => by
    obtain ⟨t, rfl, ht⟩ := d3_get20 h
    exact .cons ⟨t, rfl, SqT.of ht⟩ (trs_d3 hs)
/-- rows of numbers of some size -/
structure RwG (rows : List I3) : Prop where
  many : rows.length ≤ 201
  num : ∀ r ∈ rows, 1 ≤ r.1 ∧ r.1 ≤ 61 ∧ r.2.1.natAbs ≤ 1000 ∧ r.2.2.natAbs < 2 ^ 1850
structure RwB20 (n : Nat) (rows : List I3) : Prop where
  many : rows.length ≤ 200
  num : ∀ r ∈ rows, 2 ≤ r.1 ∧ r.1 ≤ 61 ∧ (n : Int) % r.1 = 0 ∧ r.2.1.natAbs ≤ 1000 ∧ r.2.2.natAbs < 2 ^ 1850
theorem RwB20.g {n : Nat} {rows : List I3} (h : RwB20 n rows) : RwG rows := ⟨by have := h.many; omega, fun r hr => by have := h.num r hr; exact ⟨by omega, this.2.1, this.2.2.2.1, this.2.2.2.2⟩⟩
theorem ok_i20 {i : Int} (h : i.natAbs < 2 ^ 1851) : Ok65 1921 0 (.int i) := ok_int (Nat.lt_of_lt_of_le h (Nat.pow_le_pow_right (by decide) (by decide)))
theorem p901 {i : Int} (h : i.natAbs ≤ 100000) : i.natAbs < 2 ^ 1851 := Nat.lt_of_le_of_lt h (by decide +kernel)
theorem ok_d3 {r : I3} (h1 : r.1.natAbs < 2 ^ 1851) (h2 : r.2.1.natAbs < 2 ^ 1851) (h3 : r.2.2.natAbs < 2 ^ 1851) : Ok65 5773 1 (d3 r) :=
  (OkA.cons (ok_i20 h1) (OkA.cons (ok_i20 h2) (OkA.cons (ok_i20 h3) (OkA.nil 0)))).tuple.up (by decide) (by decide)
theorem ok_rows20 {rows : List I3} (g : RwG rows) : OkA 1161000 1 (rows.map d3) := by
  have k : ∀ d ∈ rows.map d3, Ok65 5773 1 d := fun d hd => by
    obtain ⟨r, hr, rfl⟩ := List.mem_map.mp hd
    have := g.num r hr
    exact ok_d3 (p901 (by omega)) (p901 (by omega)) (Nat.lt_of_lt_of_le this.2.2.2 (Nat.pow_le_pow_right (by decide) (by decide)))
  refine (okA_len k).up ?_ (Nat.le_refl _)
  have := g.many
  rw [List.length_map]
  omega
theorem alike3 (a b : I3) : PySem.W.alike (d3 a) (d3 b) = true := by
  unfold d3
  rw [PySem.W.alike]
  exact PySem.W.alike_ints [a.1, a.2.1, a.2.2] [b.1, b.2.1, b.2.2]
section
variable {K : PySem.W.Frag} {σ : L2.St} {H : Hp} {te ta tb : TE} {tr : TA} {D : Ends} {tu tz : TS} {tt : TT} {Pd : PyData → Prop} {A : List Addr} {n : Nat}
theorem q_way20 {S : Addr → L2.St} {l lt0 : Addr} {way i j : Int} {P : Hp → Prop} {Dn : Addr → Hp → Prop} (b : Bool) (ht : ∀ lt H, EvT tt (S lt) H b) (hb : b = true ↔ i ≤ way ∧ way < j) (hP : ∀ H H', Ex H H' → P H → P H') (hD : ∀ lt H H', Ex H H' → Dn lt H → Dn lt H') (hij : i < j) (h : (i ≤ way ∧ lt0 = l ∧ P H) ∨ (way < i ∧ Dn lt0 H))
    (hu : i ≤ way → way < j → ∀ H1, P H1 → tu { D with nx := fun σ' H' => ∃ lt, σ' = S lt ∧ ((j ≤ way ∧ lt = l ∧ P H') ∨ (way < j ∧ Dn lt H')) } (S l) H1) (k : ∀ lt H', (j ≤ way ∧ lt = l ∧ P H') ∨ (way < j ∧ Dn lt H') → tz D (S lt) H') : tCut (tIfS tt tu tNext) tz D (S lt0) H := by
  refine q_cut (M := fun σ' H' => ∃ lt, σ' = S lt ∧ ((j ≤ way ∧ lt = l ∧ P H') ∨ (way < j ∧ Dn lt H'))) ?_ (fun σ' H' h => by
    obtain ⟨lt, rfl, h⟩ := h
    exact k lt H' h)
  refine s_when (ht lt0 H) (fun e H1 e1 => ?_) (fun e H1 e1 => ⟨lt0, rfl, ?_⟩)
  · obtain ⟨a, c⟩ := hb.mp e
    rcases h with ⟨_, rfl, h⟩ | ⟨h, _⟩
    · exact hu a c H1 (hP _ _ e1 h)
    · omega
  · have e : ¬ (i ≤ way ∧ way < j) := fun z => by rw [hb.mpr z] at e; cases e
    rcases h with ⟨h1, rfl, h⟩ | ⟨h1, h⟩
    · exact .inl ⟨by omega, rfl, hP _ _ e1 h⟩
    · exact .inr ⟨by omega, hD _ _ _ e1 h⟩
/-- l = [things] -/
theorem q_asgQas {i : Nat} (tk : Tkn A H) (h : EvQas A Pd tr σ H n) (hn : n ≤ 100000) (k : ∀ l xs ds H1, Ex H H1 → H1 l = some (.lst xs) → DqAll (hid A H1) xs ds → (∀ d ∈ ds, Pd d) → xs.length = n → tz D (σ.set i (some (.ref l))) H1) : tSeq (tAsg (tLst tr) (gName i)) tz D σ H :=
  h H (Ex.refl H) _ fun xs ds H1 e1 g p l => ⟨sz_of (by omega), fun a na => k a xs ds _ (e1.trans (Ex.new na)) upd_same (g.mono (hid_ex (Ex.new na))) p l⟩
/-- l = l + [things] -/
theorem q_asgCatQas {i : Nat} {a : Addr} {xs : List V} {ds : List PyData} (tk : Tkn A H) (ha : Ev ta σ H (.ref a)) (hx : H a = some (.lst xs)) (g0 : DqAll (hid A H) xs ds) (h : EvQas A Pd tr σ H n) (hn : xs.length ≤ 1000 ∧ n ≤ 1000) (k : ∀ l ys es H1, Ex H H1 → H1 l = some (.lst (xs ++ ys)) → DqAll (hid A H1) (xs ++ ys) (ds ++ es) → (∀ d ∈ es, Pd d) → ys.length = n → tz D (σ.set i (some (.ref l))) H1) : tSeq (tAsg (tOp rCat ta (tLst tr)) (gName i)) tz D σ H :=
  ha H (Ex.refl H) _ fun H1 e1 => h H1 e1 _ fun ys es H2 e2 g p l => ⟨sz_of (by omega), fun b nb => by
    have e3 : Ex H2 (upd H2 b (.lst ys)) := Ex.new nb
    have e13 := (e1.trans e2).trans e3
    refine ⟨a, b, xs, ys, rfl, rfl, e13 _ _ hx, upd_same, sz_of (by omega), fun c nc => ?_⟩
    have e4 : Ex (upd H2 b (.lst ys)) (upd (upd H2 b (.lst ys)) c (.lst (xs ++ ys))) := Ex.new nc
    exact k c ys es _ (e13.trans e4) upd_same ((g0.mono (hid_ex (e13.trans e4))).app (g.mono (hid_ex (e3.trans e4)))) p l⟩
/-- things, some new ones, things, in a row -/
theorem eq_midS {Pe : PyData → Prop} {xs ys : List V} {ds es : List PyData} (h1 : EvL ta σ H xs) (h2 : EvQs Pe tr σ H n) (h3 : ∀ H1, Ex H H1 → EvL tb σ H1 ys) (g1 : DqAll H xs ds) (g2 : DqAll H ys es) (hz : xs.length ≤ 1000 ∧ ys.length ≤ 1000 ∧ n ≤ 1000) (hp : ∀ ms, ms.length = n → (∀ d ∈ ms, Pe d) → Pd (.list (ds ++ ms ++ es))) : EvQd Pd (tOp rCat (tOp rCat ta (tLst tr)) tb) σ H := fun H1 e Q q =>
  h1 H1 e _ fun a H2 na e2 ha => h2 H2 (e.trans e2) _ fun zs ms H3 e3 g p lz => ⟨sz_of (by omega), fun l nl => by
    have e4 : Ex H3 (upd H3 l (.lst zs)) := Ex.new nl
    refine ⟨a, l, xs, zs, rfl, rfl, e4 _ _ (e3 _ _ ha), upd_same, sz_of (by omega), fun b nb => ?_⟩
    have e5 : Ex (upd H3 l (.lst zs)) (upd (upd H3 l (.lst zs)) b (.lst (xs ++ zs))) := Ex.new nb
    refine h3 _ ((((e.trans e2).trans e3).trans e4).trans e5) _ (Ex.refl _) _ fun c H6 nc e6 hc => ?_
    refine ⟨b, c, xs ++ zs, ys, rfl, rfl, e6 _ _ upd_same, hc, sz_of (by rw [List.length_append]; omega), fun r nr => ?_⟩
    have e7 : Ex H6 (upd H6 r (.lst (xs ++ zs ++ ys))) := Ex.new nr
    have e47 := e4.trans (e5.trans (e6.trans e7))
    have e17 := ((e.trans e2).trans e3).trans e47
    exact q (.ref r) _ _ ((e2.trans e3).trans e47) (.lst upd_same (((g1.mono e17).app (g.mono e47)).app (g2.mono e17))) (hp ms (by rw [← g.len, lz]) p)⟩
/-- sorted(a list of rows) -/
theorem eq_sort20 {xs : List V} {rows : List I3} (h : EvL te σ H xs) (g : ∀ H1, Ex H H1 → H1 = H1 → True) (gd : ∀ p H1, Ex H H1 → H1 p = some (.lst xs) → DqAll H1 xs (rows.map d3)) (hp : ∀ ds, ds.Perm (rows.map d3) → Pd (.list ds)) : EvQd Pd (tCB (rSortedD K) (tCons te tNil)) σ H := fun H1 e Q q =>
  h H1 e _ fun p H2 np e2 hp2 => by
    have g := gd p H2 (e.trans e2) hp2
    refine ⟨p, xs, rows.map d3, rfl, SqL.of hp2, g, PySem.W.AllAlike.of (enc := d3) fun a b => alike3 a b, .inl fun d hd => ?_, fun d hd => ?_, fun s ns => q (.ref s) (.list (srtD xs (rows.map d3))) _ (e2.trans (Ex.new ns)) (.lst upd_same ((srt_dqa g).mono (Ex.new ns))) (hp _ (srtD_perm g.len))⟩
    · obtain ⟨r, _, rfl⟩ := List.mem_map.mp hd
      exact ⟨_, _, rfl⟩
    · obtain ⟨r, _, rfl⟩ := List.mem_map.mp hd
      show PyData.depth (.tuple _) ≤ 100
      simp [PyData.depth, PyData.depthAll]
end

/-! ### wheels bent, of the law: the walk -/
theorem cut_drop20 (xs : List V) (m : Nat) : cutV xs (some (m : Int)) none = xs.drop m := by
  have e : HT.sIx xs.length 0 (some (m : Int)) = min m xs.length := by
    unfold HT.sIx
    simp
    omega
  have e2 : HT.sIx xs.length xs.length none = xs.length := by
    unfold HT.sIx
    rfl
  unfold cutV
  rw [e, e2]
  by_cases c : m ≤ xs.length
  · rw [Nat.min_eq_left c, List.take_of_length_le (by rw [List.length_drop]; exact Nat.le_refl _)]
  · rw [Nat.min_eq_right (by omega), List.drop_of_length_le (Nat.le_refl _), List.drop_of_length_le (by omega), List.take_nil]
section
variable {K : PySem.W.Frag} {σ : L2.St} {H : Hp} {te ta : TE} {D : Ends} {tz : TS} {Pd : PyData → Prop}
theorem s_asgD20 {i : Nat} (h : EvQd Pd te σ H) (k : ∀ x d H1, Ex H H1 → Dq H1 x d → Pd d → D.nx (σ.set i (some x)) H1) : tAsg te (gName i) D σ H := h H (Ex.refl H) _ k
theorem q_unp3 {t : Addr} {u v w : V} {i j k : Nat} (h : Ev te σ H (.ref t)) (ht : H t = some (.tup [u, v, w])) (kk : ∀ H1, Ex H H1 → tz D (((σ.set i (some u)).set j (some v)).set k (some w)) H1) : tSeq (tAsg te (gTup K 3 (gCons (gName i) (gCons (gName j) (gCons (gName k) gNil))))) tz D σ H :=
  h H (Ex.refl H) _ fun H1 e1 => ⟨t, _, rfl, SqT.of (e1 _ _ ht), rfl, u, [v, w], rfl, v, [w], rfl, w, [], rfl, rfl, kk H1 e1⟩
/-- sorted(rows + [a row]) -/
theorem qa_sortCat20 {A : List Addr} {a : Addr} {xs : List V} {rows : List I3} {r : I3} (tk : Tkn A H) (ha : Ev ta σ H (.ref a)) (hx : H a = some (.lst xs)) (g : DqAll (hid A H) xs (rows.map d3)) (hz : xs.length ≤ 1000) (h : EvQa A (fun d => d = d3 r) te σ H) (hp : ∀ ds, ds.Perm ((rows ++ [r]).map d3) → Pd (.list ds)) : EvQa A Pd (tCB (rSortedD K) (tCons (tOp rCat ta (tLst (tCons te tNil))) tNil)) σ H := fun H1 e Q q =>
  ha H1 e _ fun H2 e2 => h H2 (e.trans e2) _ fun x d H3 e3 gx hd => ⟨sz_of (show 1 ≤ 100000 by decide), fun b nb => by
    have e4 : Ex H3 (upd H3 b (.lst [x])) := Ex.new nb
    have e14 := ((e.trans e2).trans e3).trans e4
    refine ⟨a, b, xs, [x], rfl, rfl, e14 _ _ hx, upd_same, sz_of (by show _ + 1 ≤ _; omega), fun c nc => ?_⟩
    have e5 : Ex (upd H3 b (.lst [x])) (upd (upd H3 b (.lst [x])) c (.lst (xs ++ [x]))) := Ex.new nc
    have gg : DqAll (hid A (upd (upd H3 b (.lst [x])) c (.lst (xs ++ [x])))) (xs ++ [x]) ((rows ++ [r]).map d3) := by
      rw [List.map_append]
      rw [hd] at gx
      exact (g.mono (hid_ex (e14.trans e5))).app (.cons (gx.mono (hid_ex (e4.trans e5))) .nil)
    refine ⟨c, xs ++ [x], (rows ++ [r]).map d3, rfl, SqL.of upd_same, dqa_un20 gg, PySem.W.AllAlike.of (enc := d3) fun a b => alike3 a b, .inl fun d hd => ?_, fun d hd => ?_, fun s ns => q (.ref s) (.list (srtD (xs ++ [x]) ((rows ++ [r]).map d3))) _ ((e2.trans (e3.trans (e4.trans e5))).trans (Ex.new ns)) (.lst (by rw [hid_out (tkn_not (tkn_ex (e14.trans e5) tk) ns)]; exact upd_same) ((srt_dqa gg).mono (hid_ex (Ex.new ns)))) (hp _ (srtD_perm gg.len))⟩
    · obtain ⟨r, _, rfl⟩ := List.mem_map.mp hd
      exact ⟨_, _, rfl⟩
    · obtain ⟨r, _, rfl⟩ := List.mem_map.mp hd
      show PyData.depth (.tuple _) ≤ 100
      simp [PyData.depth, PyData.depthAll]⟩
/-- a new tuple of three numbers, by its data -/
theorem qa_d3 {A : List Addr} {tb tc : TE} {a b c : Int} (tk : Tkn A H) (h1 : Ev ta σ H (.int a)) (h2 : Ev tb σ H (.int b)) (h3 : Ev tc σ H (.int c)) : EvQa A (fun d => d = d3 (a, b, c)) (tTup (tCons ta (tCons tb (tCons tc tNil)))) σ H := fun H1 e Q q =>
  h1 H1 e _ fun H2 e2 => h2 H2 (e.trans e2) _ fun H3 e3 => h3 H3 ((e.trans e2).trans e3) _ fun H4 e4 => ⟨sz_of (show 3 ≤ 100000 by decide), fun t nt => q (.ref t) _ _ ((e2.trans (e3.trans e4)).trans (Ex.new nt)) (.tup (by rw [hid_out (tkn_not (tkn_ex ((e.trans e2).trans (e3.trans e4)) tk) nt)]; exact upd_same) (.cons (.int _) (.cons (.int _) (.cons (.int _) .nil)))) rfl⟩
end
/- _law_bent_wheels: slots 0 _law_wheels, 1 _law_n, 2 _law_pick, 3 _law_told, 4 _law_way, 5 _law_at, 6 _law_p, 7 _law_j, 8 _law_c, 9 _law_rows; calls _law_thing -/
abbrev s__law_bent_wheels : Stmt := topS 30
theorem sc__law_bent_wheels : FnScope ["_law_wheels", "_law_n", "_law_pick", "_law_told", "_law_way", "_law_at", "_law_p", "_law_j", "_law_c", "_law_rows"] ["_law_wheels", "_law_n", "_law_pick"] (defScope s__law_bent_wheels) := ⟨rfl, rfl, rfl, by decide +kernel, rfl, by decide +kernel, by decide +kernel⟩

def spBw20 : Sp := fun vs H Q _ => ∃ (p : Addr) (ts : List V) (rows : List I3) (n : Nat) (z : Int) (A : List Addr), vs = [.ref p, .int (n : Nat), .int z] ∧ H p = some (.lst ts) ∧ Tkn A H ∧ DqAll (hid A H) ts (rows.map d3) ∧ RwB20 n rows ∧ 1 ≤ n ∧ n ≤ 61 ∧ 0 ≤ z ∧ z ≤ 306783369 ∧ ∀ x d H1, Ex H H1 → Dq (hid A H1) x d → Ok65 3000000 20 d → Q x H1
section
variable {P : Program} {w : World} {K : PySem.W.Frag} {mg : Str → Option Value} {base : Heap}
theorem cal_bw20 (nb : Nb mg) (c__law_thing : Cal P w K mg base CX0 "_law_thing" 1 ["_law_pick"] spTg20) (d : Dfn K mg "_law_bent_wheels" ["_law_wheels", "_law_n", "_law_pick"] s__law_bent_wheels) : Cal P w K mg base CX0 "_law_bent_wheels" 2 ["_law_wheels", "_law_n", "_law_pick"] spBw20 := by
  refine d.cal sc__law_bent_wheels (fun vs H Q E h => ?_) (fun fa cdv Ar outer s H vs Q E hr h => ?_)
  · obtain ⟨p, ts, rows, n, z, A, rfl, _⟩ := h
    rfl
  · obtain ⟨p, ts, rows0, n, z, A, rfl, hp, tk0, g0, B, n1, n2, z0, z1, q⟩ := h
    refine ⟨_, (pss_cons (ps_set (i := 3) sc__law_bent_wheels.nd rfl (.inl rfl) (pe_callTy call_list_of (by rfl) nb.list (by decide +kernel) (pa_cons (pv 0) pa_nil)))
      (pss_cons (ps_set (i := 4) sc__law_bent_wheels.nd rfl (.inl rfl) (pe_op op_mod (pv 2) pe_int))
      (Evl.pss_cut (ps_if (pt_cmpR op_eq (pv 4) pe_int (nomark _)) (pss_one (ps_expr (pe_bm PySem.F.plainAttrs_list PySem.F.slot_list_append PySem.F.type_list_append mt_append (pv 3) (pa_cons (pe_ix ix_list (pe_lst (pa_cons (pe_tup (pa_cons pe_int (pa_cons pe_int (pa_cons pe_int pa_nil)))) (pa_cons (pe_tup (pa_cons pe_int (pa_cons pe_int (pa_cons pe_int pa_nil)))) (pa_cons (pe_tup (pa_cons pe_int (pa_cons pe_int (pa_cons pe_int pa_nil)))) (pa_cons (pe_tup (pa_cons (pv 1) (pa_cons pe_int (pa_cons pe_int pa_nil)))) (pa_cons (pe_tup (pa_cons pe_int (pa_cons pe_int (pa_cons pe_int pa_nil)))) (pa_cons (pe_tup (pa_cons pe_int (pa_cons pe_int (pa_cons (pe_op op_sub pe_int pe_int) pa_nil)))) pa_nil))))))) (pe_op op_mod (pe_op op_fdivW (pv 2) pe_int) pe_int) (fun _ _ => rfl)) pa_nil)))) pss_nil)
      (Evl.pss_cut (ps_if (pt_cmpR op_eq (pv 4) pe_int (nomark _)) (pss_one (ps_expr (pe_bm0 PySem.F.plainAttrs_list PySem.F.slot_list_reverse PySem.F.type_list_reverse mt_reverse (pv 3)))) pss_nil)
      (pss_cons (ps_if (pt_cmpR op_eq (pv 4) pe_int (nomark _)) (pss_one (ps_ret (pe_callTy call_tuple_of (by rfl) nb.tuple (by decide +kernel) (pa_cons (pv 3) pa_nil)))) pss_nil)
      (pss_cons (ps_if (pt_cmpR (op_eqD hr.units) (pv 3) (pe_lst pa_nil) (nomark _)) (pss_one (ps_ret (pv 3))) pss_nil)
      (pss_cons (ps_set (i := 5) sc__law_bent_wheels.nd rfl (.inl rfl) (pe_op op_mod (pe_op op_fdivW (pv 2) pe_int) (pe_callB call_len_seq (by rfl) nb.len PySem.boot_len (pa_cons (pv 3) pa_nil))))
      (pss_cons (ps_asg (pe_ix ix_list (pv 3) (pv 5) (fun _ _ => rfl)) (pg_tup (by rfl) (pgs_cons (pg_name (i := 6) sc__law_bent_wheels.nd rfl (.inl rfl)) (pgs_cons (pg_name (i := 7) sc__law_bent_wheels.nd rfl (.inl rfl)) (pgs_cons (pg_name (i := 8) sc__law_bent_wheels.nd rfl (.inl rfl)) pgs_nil)))))
      (pss_cons (ps_set (i := 9) sc__law_bent_wheels.nd rfl (.inl rfl) (pe_lst (pa_cons (pe_tup (pa_cons (pv 6) (pa_cons (pv 7) (pa_cons (pe_op op_add (pv 8) pe_int) pa_nil)))) (pa_cons (pe_tup (pa_cons (pv 6) (pa_cons (pv 7) (pa_cons (pe_op op_sub pe_int (pv 8)) pa_nil)))) (pa_cons (pe_tup (pa_cons (pv 6) (pa_cons (pe_op op_add (pv 7) (pe_op op_fdivW (pv 1) (pv 6))) (pa_cons (pv 8) pa_nil)))) (pa_cons (pe_tup (pa_cons (pv 6) (pa_cons (pe_op op_sub (pv 7) (pe_op op_fdivW (pv 1) (pv 6))) (pa_cons (pv 8) pa_nil)))) (pa_cons (pe_tup (pa_cons (pv 6) (pa_cons (pv 7) (pa_cons pe_int pa_nil)))) pa_nil)))))))
      (pss_cons (ps_set (i := 9) sc__law_bent_wheels.nd rfl (.inl rfl) (pe_op op_cat (pv 9) (pe_lst (pa_cons (pe_tup (pa_cons (pv 6) (pa_cons (pv 7) pa_nil))) (pa_cons (pe_tup (pa_cons (pv 6) (pa_cons (pv 7) (pa_cons (pv 8) (pa_cons pe_int pa_nil))))) (pa_cons (pe_lst (pa_cons (pv 6) (pa_cons (pv 7) (pa_cons (pv 8) pa_nil)))) (pa_cons (pe_tup (pa_cons (pv 6) (pa_cons (pv 7) (pa_cons pe_bl pa_nil)))) (pa_cons (pe_tup (pa_cons (pv 1) (pa_cons (pv 7) (pa_cons (pv 8) pa_nil)))) (pa_cons (pe_tup (pa_cons (pe_op op_sub pe_int (pv 6)) (pa_cons (pv 7) (pa_cons (pv 8) pa_nil)))) (pa_cons (pe_tup (pa_cons (pv 6) (pa_cons (pe_cmpR op_eq (pv 7) pe_int (nomark _)) (pa_cons (pv 8) pa_nil)))) pa_nil))))))))))
      (Evl.pss_cut (ps_if (PW.pt (pw_and (pt_cmpR op_gt (pv 4) pe_int (nomark _)) (pw_and1 (pt_cmpR op_lt (pv 4) pe_int (nomark _))))) (pss_one (ps_asg (pe_ix ix_list (pv 9) (pe_op op_sub (pv 4) pe_int) (fun _ _ => rfl)) (pg_sub (pv 3) (pv 5) set_list))) pss_nil)
      (Evl.pss_cut (ps_if (pt_cmpR op_eq (pv 4) pe_int (nomark _)) (pss_one (ps_expr (pe_bm PySem.F.plainAttrs_list PySem.F.slot_list_insert PySem.F.type_list_insert mt_insert (pv 3) (pa_cons (pv 5) (pa_cons (pe_ix ix_list (pv 3) (pv 5) (fun _ _ => rfl)) pa_nil))))) pss_nil)
      (Evl.pss_cut (ps_if (pt_cmpR op_eq (pv 4) pe_int (nomark _)) (pss_one (ps_set (i := 3) sc__law_bent_wheels.nd rfl (.inl rfl) (pe_op op_cat (pe_op op_cat (pe_slice sl_list (pv 3) po_none (po_some (pv 5))) (pe_lst (pa_cons (pe_cal c__law_thing (hr.mono (by first | decide | omega)) (by rfl) pass0 (pa_cons (pe_op op_fdivW (pv 2) pe_int) pa_nil)) pa_nil))) (pe_slice sl_list (pv 3) (po_some (pe_op op_add (pv 5) pe_int)) po_none)))) pss_nil)
      (Evl.pss_cut (ps_if (pt_cmpR op_eq (pv 4) pe_int (nomark _)) (pss_one (ps_set (i := 3) sc__law_bent_wheels.nd rfl (.inl rfl) (pe_op op_cat (pe_op op_cat (pe_slice sl_list (pv 3) po_none (po_some (pv 5))) (pe_lst (pa_cons (pe_tup (pa_cons (pv 6) (pa_cons (pv 7) (pa_cons (pe_op op_sub (pv 8) pe_int) pa_nil)))) (pa_cons (pe_tup (pa_cons (pv 6) (pa_cons (pv 7) (pa_cons pe_int pa_nil)))) pa_nil)))) (pe_slice sl_list (pv 3) (po_some (pe_op op_add (pv 5) pe_int)) po_none)))) pss_nil)
      (Evl.pss_cut (ps_if (pt_cmpR op_eq (pv 4) pe_int (nomark _)) (pss_one (ps_set (i := 3) sc__law_bent_wheels.nd rfl (.inl rfl) (pe_callB (cr_sortedD (room110 hr)) (by rfl) nb.sorted (by decide +kernel) (pa_cons (pe_op op_cat (pv 3) (pe_lst (pa_cons (pe_tup (pa_cons (pv 6) (pa_cons (pe_op op_mod (pe_op op_add (pv 7) pe_int) (pe_op op_fdivW (pv 1) (pv 6))) (pa_cons pe_int pa_nil)))) pa_nil))) pa_nil)))) pss_nil)
      (Evl.pss_cut (ps_if (pt_cmpR op_eq (pv 4) pe_int (nomark _)) (pss_one (ps_asg (pe_ix ix_list (pe_lst (pa_cons (pe_tup (pa_cons (pv 6) (pa_cons pe_non (pa_cons (pv 8) pa_nil)))) (pa_cons (pe_tup (pa_cons pe_non (pa_cons (pv 7) (pa_cons (pv 8) pa_nil)))) (pa_cons (pe_tup (pa_cons (pv 6) (pa_cons (pe_lst pa_nil) (pa_cons (pv 8) pa_nil)))) pa_nil)))) (pe_op op_mod (pe_op op_fdivW (pv 2) pe_int) pe_int) (fun _ _ => rfl)) (pg_sub (pv 3) (pv 5) set_list))) pss_nil)
      (Evl.pss_cut (ps_if (pt_cmpR op_eq (pv 4) pe_int (nomark _)) (pss_one (ps_asg (pe_tup (pa_cons (pv 6) (pa_cons (pv 7) (pa_cons (pe_ix ix_list (pe_lst (pa_cons pe_str (pa_cons pe_non (pa_cons (pe_lst (pa_cons (pv 8) pa_nil)) pa_nil)))) (pe_op op_mod (pe_op op_fdivW (pv 2) pe_int) pe_int) (fun _ _ => rfl)) pa_nil)))) (pg_sub (pv 3) (pv 5) set_list))) pss_nil)
      (pss_one (ps_ret (pv 3)))))))))))))))))))), ?_⟩
    have fin : ∀ {H' : Hp}, Ex H H' → ∀ x d H1, Ex H' H1 → Dq (hid A H1) x d → Ok65 3000000 20 d → Q x H1 := fun e x d H1 e1 hd o => q x d H1 (e.trans e1) hd o
    refine q_asgL (xs := ts) (el_list (ev_var rfl) (SqL.of hp)) fun l H1 nl e1 hl => ?_
    have nl0 : H l = none := nl
    have lA : l ∉ A := tkn_not tk0 nl
    refine q_asg (v := .int (z % 21)) (by one_place) fun H2 e2 => ?_
    have w0 : 0 ≤ z % 21 := by omega
    have w1 : z % 21 ≤ 20 := by omega
    generalize z % 21 = way at *
    -- the list as it is told, behind the first two ways
    let M : Hp → Prop := fun H' => ∃ (xs : List V) (rows : List I3), Ex H H' ∧ H' l = some (.lst xs) ∧ DqAll (hid (l :: A) H') xs (rows.map d3) ∧ RwG rows ∧ (way ≠ 0 → RwB20 n rows)
    have mM : ∀ {Ha Hb : Hp}, Ex Ha Hb → M Ha → M Hb := fun e ⟨xs, rows, a, b, c, d', f⟩ => ⟨xs, rows, a.trans e, e _ _ b, c.mono (hid_ex e), d', f⟩
    have m2 : M H2 := ⟨ts, rows0, e1.trans e2, e2 _ _ hl, dqa_fresh20 g0 nl0 (e1.trans e2), B.g, fun _ => B⟩
    have gi : ∀ {a b c : Int}, 1 ≤ a → a ≤ 61 → b.natAbs ≤ 1000 → c.natAbs ≤ 1000 → (1 ≤ (a, b, c).1 ∧ (a, b, c).1 ≤ 61 ∧ ((a, b, c) : I3).2.1.natAbs ≤ 1000 ∧ ((a, b, c) : I3).2.2.natAbs < 2 ^ 1850) := fun h1 h2 h3 h4 => ⟨h1, h2, h3, Nat.lt_of_le_of_lt h4 (by decide +kernel)⟩
    refine q_cut (M := fun σ' H' => σ' = [some (.ref p), some (.int (n : Nat)), some (.int z), some (.ref l), some (.int way), none, none, none, none, none] ∧ M H') ?_ ?_
    · refine s_when (b := decide (way = 0)) (by one_place) (fun hb H3 e3 => ?_) (fun hb H3 e3 => ⟨rfl, mM e3 m2⟩)
      have hb := of_decide_eq_true hb
      obtain ⟨xs, rows, eH, hl3, g3, G, _⟩ := mM e3 m2
      have tk : Tkn (l :: A) H3 := tkn_cons20 hl3 (tkn_ex eH tk0)
      have row : ∀ (ta tb tc : TE) (a b c : Int) {σ : L2.St}, Ev ta σ H3 (.int a) → Ev tb σ H3 (.int b) → Ev tc σ H3 (.int c) → 1 ≤ a → a ≤ 61 → b.natAbs ≤ 1000 → c.natAbs ≤ 1000 → EvQa (l :: A) (fun d => ∃ r : I3, d = d3 r ∧ 1 ≤ r.1 ∧ r.1 ≤ 61 ∧ r.2.1.natAbs ≤ 1000 ∧ r.2.2.natAbs < 2 ^ 1850) (tTup (tCons ta (tCons tb (tCons tc tNil)))) σ H3 := fun ta tb tc a b c {σ} ha hb hc a1 a2 b1 c1 => fun H4 e4 Q2 q2 =>
        ha H4 e4 _ fun H5 e5 => hb H5 (e4.trans e5) _ fun H6 e6 => hc H6 ((e4.trans e5).trans e6) _ fun H7 e7 => ⟨sz_of (show 3 ≤ 100000 by decide), fun t nt => by
          have e47 := e4.trans (e5.trans (e6.trans e7))
          refine q2 (.ref t) (d3 (a, b, c)) _ ((e5.trans (e6.trans e7)).trans (Ex.new nt)) ?_ ⟨(a, b, c), rfl, gi a1 a2 b1 c1⟩
          exact .tup (by rw [hid_out (tkn_not (tkn_ex e47 tk) nt)]; exact upd_same) (.cons (.int _) (.cons (.int _) (.cons (.int _) .nil)))⟩
      refine s_appQa (A := l :: A) hl3 (ev_var rfl) (qa_pick (n := 6) (i := z / 19 % 6) (qas_cons (row _ _ _ 2 0 1 ev_c ev_c ev_c (by decide) (by decide) (by decide) (by decide)) (qas_cons (row _ _ _ 3 0 1 ev_c ev_c ev_c (by decide) (by decide) (by decide) (by decide)) (qas_cons (row _ _ _ 5 0 1 ev_c ev_c ev_c (by decide) (by decide) (by decide) (by decide)) (qas_cons (row _ _ _ (n : Nat) 0 1 (ev_var rfl) ev_c ev_c (by omega) (by omega) (by decide) (by decide)) (qas_cons (row _ _ _ 1 0 1 ev_c ev_c ev_c (by decide) (by decide) (by decide) (by decide)) (qas_cons (row _ _ _ 7 1 (0 - 1) ev_c ev_c (ev_sub ev_c ev_c) (by decide) (by decide) (by decide) (by decide)) qas_nil)))))) (by decide) (by one_place) (by omega) (by omega)) (by have := g3.len; rw [List.length_map] at this; have := G.many; omega) fun x d H4 e4 gx ⟨r, hr, hn⟩ => ⟨rfl, xs ++ [x], rows ++ [r], ?_, upd_same, ?_, ?_, fun h => absurd hb h⟩
      · exact Ex.mut ((e1.trans (e2.trans e3)).trans e4) nl
      · rw [hid_upd List.mem_cons_self, List.map_append]
        rw [hr] at gx
        exact (g3.mono (hid_ex e4)).app (.cons gx .nil)
      · refine ⟨?_, fun r' hr' => ?_⟩
        · have := m2
          rw [List.length_append, List.length_singleton]
          obtain ⟨xs', rows', _, _, _, _, _⟩ := this
          have h200 : rows.length ≤ 200 := by
            have e : (rows.map d3).length = ts.length := by
              have a := g3.len
              rw [e3 _ _ (e2 _ _ hl)] at hl3
              cases hl3
              exact a.symm
            have := g0.len
            rw [List.length_map] at e this
            have := B.many
            omega
          omega
        · rcases List.mem_append.mp hr' with h | h
          · exact G.num r' h
          · rw [List.mem_singleton.mp h]
            exact hn
    · rintro σ' H3 ⟨rfl, m3⟩
      refine q_cut (M := fun σ' H' => σ' = [some (.ref p), some (.int (n : Nat)), some (.int z), some (.ref l), some (.int way), none, none, none, none, none] ∧ M H') ?_ ?_
      · refine s_when (b := decide (way = 1)) (by one_place) (fun hb H4 e4 => ?_) (fun hb H4 e4 => ⟨rfl, mM e4 m3⟩)
        obtain ⟨xs, rows, eH, hl4, g4, G, Bn⟩ := mM e4 m3
        refine s_rev20 hl4 (ev_var rfl) fun H5 e5 => ⟨rfl, xs.reverse, rows.reverse, Ex.mut (eH.trans e5) (by exact nl), upd_same, ?_, ⟨by rw [List.length_reverse]; exact G.many, fun r hr => G.num r (List.mem_reverse.mp hr)⟩, fun h => ⟨by rw [List.length_reverse]; exact (Bn h).many, fun r hr => (Bn h).num r (List.mem_reverse.mp hr)⟩⟩
        rw [hid_upd List.mem_cons_self, List.map_reverse]
        exact DqAll.rev63 (g4.mono (hid_ex e5))
      · rintro σ' H4 ⟨rfl, xs, rows, eH, hl4, g4, G, Bn⟩
        have okR := ok_rows20 G
        refine q_when (b := decide (way = 2)) (by one_place) (fun hb H5 e5 => ?_) (fun hb2 H5 e5 => ?_)
        · exact s_retQa (A := A) (Pd := Ok65 3000000 20) (qa_tupOf (tkn_ex (eH.trans e5) tk0) (ev_var rfl) (e5 _ _ hl4) ((dqa_sub20 g4).mono (hid_ex e5)) (okR.tuple.up (by decide) (by decide))) (fin (eH.trans e5))
        have hb2 := of_decide_eq_false hb2
        have hl5 := e5 _ _ hl4
        have g5 := g4.mono (hid_ex e5)
        have eH5 := eH.trans e5
        refine q_when (b := decide (rows = [])) (et_test (ev_opL (xs := ([] : List Int).map V.int) (ev_var rfl) (el_lst (vs := []) ea_nil (by decide)) fun u H6 hu e6 => rv_eqD (d := d3L rows) (e := d3L []) (dp_trs (SqL.of (e6 _ _ hl5)) (trs_d3 ((dqa_un20 g5).mono e6))) (dp_trs (SqL.of hu) .nil) (fun H7 e7 => dp_trs (SqL.of ((e6.trans e7) _ _ hl5)) (trs_d3 ((dqa_un20 g5).mono (e6.trans e7)))) (fun H7 e7 => dp_trs (SqL.of (e7 _ _ hu)) .nil) (d3L_sh _) (d3L_sh _) (d3L_eqv _ _))) (fun hb H6 e6 => ?_) (fun hb H6 e6 => ?_)
        · exact s_retQa (A := A) (Pd := Ok65 3000000 20) (qa_val (ev_var rfl) (fun _ e => .lst (by rw [hid_out lA]; exact (e6.trans e) _ _ hl5) ((dqa_sub20 g5).mono (hid_ex (e6.trans e)))) (okR.list.up (by decide) (by decide))) (fin (eH5.trans e6))
        have ne := of_decide_eq_false hb
        have pos := List.length_pos_iff.mpr ne
        have hl6 := e6 _ _ hl5
        have g6 := g5.mono (hid_ex e6)
        have eH6 := eH5.trans e6
        have lx : xs.length = rows.length := by rw [g6.len, List.length_map]
        have many := G.many
        obtain ⟨a, ha, al⟩ : ∃ a : Nat, (a : Int) = z / 21 % (rows.length : Int) ∧ a < rows.length := by
          have a := Int.emod_nonneg (z / 21) (show (rows.length : Int) ≠ 0 by omega)
          have b := Int.emod_lt_of_pos (z / 21) (show 0 < (rows.length : Int) by omega)
          exact ⟨(z / 21 % (rows.length : Int)).toNat, by omega, by omega⟩
        refine q_asg (v := .int (a : Nat)) (ev_is (ev_mod (ev_div (ev_var rfl) ev_c (divW (by decide) (by decide))) (ev_is (ev_len (ev_var rfl) (SqL.of hl6)) (by rw [lx])) (by omega)) (by rw [ha])) fun H7 e7 => ?_
        have hl7 := e7 _ _ hl6
        have g7 := g6.mono (hid_ex e7)
        have eH7 := eH6.trans e7
        obtain ⟨r, hr⟩ : ∃ r, rows[a]? = some r := ⟨_, List.getElem?_eq_getElem al⟩
        obtain ⟨xa, hxa⟩ : ∃ x, xs[a]? = some x := ⟨_, List.getElem?_eq_getElem (by omega)⟩
        have da : ∃ d, (rows.map d3)[a]? = some d ∧ Dq (hid (l :: A) H7) xa d := g7.at hxa
        obtain ⟨d, hd, gx⟩ := da
        rw [List.getElem?_map, hr] at hd
        obtain rfl : d3 r = d := Option.some.inj hd
        obtain ⟨t, rfl, ht⟩ := d3_get20 gx
        have ht7 : H7 t = some (.tup [.int r.1, .int r.2.1, .int r.2.2]) := by
          obtain ⟨t', rt, ht'⟩ := d3_get20 (dq_un gx)
          cases rt
          exact ht'
        obtain ⟨r1, r61, rj, rc⟩ := G.num r (List.mem_of_getElem? hr)
        have rB : way ≠ 0 → 2 ≤ r.1 ∧ (n : Int) % r.1 = 0 := fun h => by have := (Bn h).num r (List.mem_of_getElem? hr); exact ⟨this.1, this.2.2.1⟩
        have okr : Ok65 5773 1 (d3 r) := ok_d3 (p901 (by omega)) (p901 (by omega)) (Nat.lt_of_lt_of_le rc (Nat.pow_le_pow_right (by decide) (by decide)))
        generalize hrp : r.1 = rp at *
        generalize hrj : r.2.1 = rj' at *
        generalize hrc : r.2.2 = rc' at *
        have pj : ∀ {σ : L2.St} {H' : Hp}, Ex H7 H' → σ[3]? = some (some (.ref l)) → σ[5]? = some (some (.int (a : Nat))) → Ev (tOp (rIxL K) (tVar 3) (tVar 5)) σ H' (.ref t) := fun e h3 h5 => ev_op (ev_var h3) (ev_var h5) (rv_ixL (v := .ref t) (i := (a : Int)) (SqL.of (e _ _ hl7)) (atI_nat hxa))
        refine q_unp3 (pj (Ex.refl _) rfl rfl) ht7 fun H8 e8 => ?_
        have hl8 := e8 _ _ hl7
        have g8 := g7.mono (hid_ex e8)
        have eH8 := eH7.trans e8
        have tk8 : Tkn (l :: A) H8 := tkn_cons20 hl8 (tkn_ex eH8 tk0)
        have np : (n : Int) / rp ≤ 61 ∧ 0 ≤ (n : Int) / rp := by
          have := Int.ediv_le_self rp (show 0 ≤ (n : Int) by omega)
          have := Int.ediv_nonneg (show 0 ≤ (n : Int) by omega) (show 0 ≤ rp by omega)
          omega
        have rcB : rc'.natAbs < 2 ^ 1850 := rc
        have rc1 : ∀ i : Int, i.natAbs ≤ rc'.natAbs + 1 → i.natAbs < 2 ^ 1851 := fun i h => by
          have p : (2 : Nat) ^ 1851 = 2 * 2 ^ 1850 := Nat.pow_succ' (m := 2) (n := 1850)
          have := Nat.two_pow_pos 1850
          generalize (2 : Nat) ^ 1850 = B at *
          omega
        have vi : ∀ {A : List Addr} {Hx : Hp} {te : TE} {σ : L2.St} {i : Int}, Ev te σ Hx (.int i) → i.natAbs < 2 ^ 1851 → EvQa A (Ok65 2000 1) te σ Hx := fun h b => qa_flat h (fun _ => .int _) ((ok_i20 b).up (by decide) (by decide))
        have vd : ∀ {Hx : Hp} {te : TE} {σ : L2.St} {i : Int}, Ev te σ Hx (.int i) → i.natAbs < 2 ^ 1851 → EvQd (Ok65 2000 1) te σ Hx := fun h b => eq_val h (fun _ _ => .int _) ((ok_i20 b).up (by decide) (by decide))
        have bp : rp.natAbs < 2 ^ 1851 := p901 (by omega)
        have bj : rj'.natAbs < 2 ^ 1851 := p901 (by omega)
        have bc : rc'.natAbs < 2 ^ 1851 := rc1 _ (by omega)
        have okT : ∀ {ds : List PyData}, ds.length ≤ 4 → (∀ d ∈ ds, Ok65 2000 1 d) → Ok65 9000 3 (.tuple ds) := fun hl hd => ((okA_len hd).tuple).up (by omega) (by decide)
        have okL : ∀ {ds : List PyData}, ds.length ≤ 4 → (∀ d ∈ ds, Ok65 2000 1 d) → Ok65 9000 3 (.list ds) := fun hl hd => ((okA_len hd).list).up (by omega) (by decide)
        have okB : ∀ b : Bool, Ok65 2000 1 (.bool b) := fun b => ⟨rfl, (sz_bl b).mono (by decide) (by decide)⟩
        -- the rows that the law has at hand
        refine q_asgQas (A := l :: A) (Pd := Ok65 9000 3) (n := 5) tk8 (qas_cons (qa_tup tk8 (Pe := Ok65 2000 1) (n := 3) (qas_cons (vi (ev_var rfl) bp) (qas_cons (vi (ev_var rfl) bj) (qas_cons (vi (ev_add (ev_var rfl) ev_c) (rc1 _ (by omega))) qas_nil))) (by decide) fun ds hl hd => okT (by omega) hd)
          (qas_cons (qa_tup tk8 (Pe := Ok65 2000 1) (n := 3) (qas_cons (vi (ev_var rfl) bp) (qas_cons (vi (ev_var rfl) bj) (qas_cons (vi (ev_sub ev_c (ev_var rfl)) (rc1 _ (by omega))) qas_nil))) (by decide) fun ds hl hd => okT (by omega) hd)
          (qas_cons (qa_tup tk8 (Pe := Ok65 2000 1) (n := 3) (qas_cons (vi (ev_var rfl) bp) (qas_cons (vi (ev_add (ev_var rfl) (ev_div (ev_var rfl) (ev_var rfl) (divW (by omega) (by omega)))) (p901 (by omega))) (qas_cons (vi (ev_var rfl) bc) qas_nil))) (by decide) fun ds hl hd => okT (by omega) hd)
          (qas_cons (qa_tup tk8 (Pe := Ok65 2000 1) (n := 3) (qas_cons (vi (ev_var rfl) bp) (qas_cons (vi (ev_sub (ev_var rfl) (ev_div (ev_var rfl) (ev_var rfl) (divW (by omega) (by omega)))) (p901 (by omega))) (qas_cons (vi (ev_var rfl) bc) qas_nil))) (by decide) fun ds hl hd => okT (by omega) hd)
          (qas_cons (qa_tup tk8 (Pe := Ok65 2000 1) (n := 3) (qas_cons (vi (ev_var rfl) bp) (qas_cons (vi (ev_var rfl) bj) (qas_cons (vi ev_c (p901 (by decide))) qas_nil))) (by decide) fun ds hl hd => okT (by omega) hd) qas_nil))))) (by decide) fun r0 ys es H9 e9 hr0 gy py ly => ?_
        have hl9 := e9 _ _ hl8
        have g9 := g8.mono (hid_ex e9)
        have tk9 : Tkn (l :: A) H9 := tkn_cons20 hl9 (tkn_ex (eH8.trans e9) tk0)
        refine q_asgCatQas (A := l :: A) (Pd := Ok65 9000 3) (n := 7) tk9 (ev_var rfl) hr0 gy (qas_cons (qa_tup tk9 (Pe := Ok65 2000 1) (n := 2) (qas_cons (vi (ev_var rfl) bp) (qas_cons (vi (ev_var rfl) bj) qas_nil)) (by decide) fun ds hl hd => okT (by omega) hd)
          (qas_cons (qa_tup tk9 (Pe := Ok65 2000 1) (n := 4) (qas_cons (vi (ev_var rfl) bp) (qas_cons (vi (ev_var rfl) bj) (qas_cons (vi (ev_var rfl) bc) (qas_cons (vi ev_c (p901 (by decide))) qas_nil)))) (by decide) fun ds hl hd => okT (by omega) hd)
          (qas_cons (qa_lst tk9 (Pe := Ok65 2000 1) (n := 3) (qas_cons (vi (ev_var rfl) bp) (qas_cons (vi (ev_var rfl) bj) (qas_cons (vi (ev_var rfl) bc) qas_nil))) (by decide) fun ds hl hd => okL (by omega) hd)
          (qas_cons (qa_tup tk9 (Pe := Ok65 2000 1) (n := 3) (qas_cons (vi (ev_var rfl) bp) (qas_cons (vi (ev_var rfl) bj) (qas_cons (qa_flat ev_c (fun _ => .bl _) (okB true)) qas_nil))) (by decide) fun ds hl hd => okT (by omega) hd)
          (qas_cons (qa_tup tk9 (Pe := Ok65 2000 1) (n := 3) (qas_cons (vi (ev_var rfl) (p901 (by omega))) (qas_cons (vi (ev_var rfl) bj) (qas_cons (vi (ev_var rfl) bc) qas_nil))) (by decide) fun ds hl hd => okT (by omega) hd)
          (qas_cons (qa_tup tk9 (Pe := Ok65 2000 1) (n := 3) (qas_cons (vi (ev_sub ev_c (ev_var rfl)) (p901 (by omega))) (qas_cons (vi (ev_var rfl) bj) (qas_cons (vi (ev_var rfl) bc) qas_nil))) (by decide) fun ds hl hd => okT (by omega) hd)
          (qas_cons (qa_tup tk9 (Pe := Ok65 2000 1) (n := 3) (qas_cons (vi (ev_var rfl) bp) (qas_cons (qa_flat (ev_eqI (ev_var rfl) ev_c) (fun _ => .bl _) (okB _)) (qas_cons (vi (ev_var rfl) bc) qas_nil))) (by decide) fun ds hl hd => okT (by omega) hd) qas_nil))))))) ⟨by omega, by decide⟩ fun r9 zs fs H10 e10 hr9 gz pz lz => ?_
        have hl10 := e10 _ _ hl9
        have g10 := g9.mono (hid_ex e10)
        have eH10 := (eH8.trans e9).trans e10
        have pzs : ∀ d ∈ es ++ fs, Ok65 9000 3 d := fun d hd => by
          rcases List.mem_append.mp hd with h | h
          · exact py d h
          · exact pz d h
        have lzs : (ys ++ zs).length = 12 := by rw [List.length_append]; omega
        generalize ys ++ zs = vs9 at *
        generalize es ++ fs = ds9 at *
        let S : Addr → L2.St := fun lt => [some (.ref p), some (.int (n : Nat)), some (.int z), some (.ref lt), some (.int way), some (.int (a : Nat)), some (.int rp), some (.int rj'), some (.int rc'), some (.ref r9)]
        let P : Hp → Prop := fun H' => Ex H H' ∧ H' l = some (.lst xs) ∧ DqAll (hid (l :: A) H') xs (rows.map d3) ∧ H' r9 = some (.lst vs9) ∧ DqAll (hid (l :: A) H') vs9 ds9
        let Dn : Addr → Hp → Prop := fun lt H' => Ex H H' ∧ ∃ d, Dq (hid A H') (.ref lt) d ∧ Ok65 2990000 19 d
        have mP : ∀ Ha Hb : Hp, Ex Ha Hb → P Ha → P Hb := fun Ha Hb e ⟨a1, a2, a3, a4, a5⟩ => ⟨a1.trans e, e _ _ a2, a3.mono (hid_ex e), e _ _ a4, a5.mono (hid_ex e)⟩
        have mD : ∀ lt (Ha Hb : Hp), Ex Ha Hb → Dn lt Ha → Dn lt Hb := fun lt Ha Hb e ⟨a1, d, a2, a3⟩ => ⟨a1.trans e, d, a2.mono (hid_ex e), a3⟩
        have st : (3 ≤ way ∧ l = l ∧ P H10) ∨ (way < 3 ∧ Dn l H10) := by
          by_cases c : 3 ≤ way
          · exact .inl ⟨c, rfl, eH10, hl10, g10, hr9, gz⟩
          · exact .inr ⟨by omega, eH10, .list (rows.map d3), .lst (by rw [hid_out lA]; exact hl10) (dqa_sub20 g10), okR.list.up (by decide) (by decide)⟩
        have nlH : H l = none := nl
        -- a thing put into the list
        have put : ∀ {Ha Hb : Hp} {x : V} {d : PyData}, P Ha → Ex Ha Hb → Dq (hid (l :: A) Hb) x d → Ok65 9000 3 d → Dn l (upd Hb l (.lst (xs.set a x))) := fun {Ha Hb x d} ⟨a1, a2, a3, a4, a5⟩ e gx px => by
          refine ⟨Ex.mut (a1.trans e) nlH, .list ((rows.map d3).set a d), .lst (by rw [hid_out lA]; exact upd_same) (dqa_sub20 (l := l) ?_), (OkA.set px (okR.up (Nat.le_refl _) (by decide)) a).list.up (by decide) (by decide)⟩
          rw [hid_upd List.mem_cons_self]
          exact DqAll.set gx (a3.mono (hid_ex e))
        have ixl : a < xs.length := by omega
        -- slices
        have low : ∀ {lt : Addr} {Ha H' : Hp}, Ha lt = some (.lst xs) → Ex Ha H' → EvL (tSl (rSlL K) (tVar 3) tNoPart (tPart (tVar 5))) (S lt) H' (xs.take a) := fun {lt Ha H'} h e => el_is (el_sl (hi := some ((a : Nat) : Int)) (ev_var rfl) eo_none (eo_some (ev_var rfl)) (SqL.of (e _ _ h))) (cut_take _ _)
        have high : ∀ {lt : Addr} {Ha H' : Hp}, Ha lt = some (.lst xs) → Ex Ha H' → EvL (tSl (rSlL K) (tVar 3) (tPart (tOp (rI0 fun i j => .int (i + j)) (tVar 5) (tC (.int 1)))) tNoPart) (S lt) H' (xs.drop (a + 1)) := fun {lt Ha H'} h e => el_is (el_sl (lo := some (((a + 1 : Nat)) : Int)) (ev_var rfl) (eo_some (ev_is (ev_add (ev_var rfl) ev_c) (show V.int ((a : Int) + 1) = V.int ((a + 1 : Nat) : Int) by rw [Int.natCast_add]; rfl))) eo_none (SqL.of (e _ _ h))) (cut_drop20 _ _)
        have lt1 : (xs.take a).length ≤ 1000 := by rw [List.length_take]; omega
        have ld1 : (xs.drop (a + 1)).length ≤ 1000 := by rw [List.length_drop]; omega
        -- a list of its own told
        have own : ∀ {Ha H' : Hp} {x : V} {d : PyData}, P Ha → Ex Ha H' → Dq (hid A H') x d → ((∃ es, d = .list es) ∧ Ok65 2990000 19 d) → ∃ lt, x = .ref lt ∧ Dn lt H' := fun {Ha H' x d} hPa e gx ⟨⟨es, hd⟩, ok⟩ => by
          subst hd
          cases gx with
          | lst h hs => exact ⟨_, rfl, hPa.1.trans e, _, .lst h hs, ok⟩
        refine q_way20 (S := S) (l := l) (way := way) (i := 3) (j := 15) (P := P) (Dn := Dn) (decide (way > 2) && decide (way < 15)) (fun lt H => et_and (et_test (ev_gt (ev_var rfl) ev_c)) fun _ => et_test (ev_lt (ev_var rfl) ev_c)) (by rw [Bool.and_eq_true, decide_eq_true_iff, decide_eq_true_iff]; omega) mP mD (by decide) st (fun h1 h2 Ha hPa => ?_) fun lt H11 h11 => ?_
        · obtain ⟨k, hk, kl⟩ : ∃ k : Nat, (k : Int) = way - 3 ∧ k < 12 := ⟨(way - 3).toNat, by omega, by omega⟩
          obtain ⟨v, hv⟩ : ∃ v, vs9[k]? = some v := ⟨_, List.getElem?_eq_getElem (by omega)⟩
          obtain ⟨a1, a2, a3, a4, a5⟩ := hPa
          obtain ⟨dd, hd, gv⟩ := a5.at hv
          exact s_setQa (A := l :: A) (Pd := Ok65 9000 3) (j := a) a2 (fun _ _ => ev_var rfl) (fun _ _ => ev_var rfl) ixl (qa_val (ev_op (ev_var rfl) (ev_is (ev_sub (ev_var rfl) ev_c) (by rw [← hk])) (rv_ixL (v := v) (i := (k : Int)) (SqL.of a4) (atI_nat hv))) (fun _ e => gv.mono (hid_ex e)) (pzs dd (List.mem_of_getElem? hd))) fun x d Hb e gx px => ⟨l, rfl, .inr ⟨by omega, put ⟨a1, a2, a3, a4, a5⟩ e gx px⟩⟩
        refine q_way20 (S := S) (l := l) (way := way) (i := 15) (j := 16) (P := P) (Dn := Dn) (decide (way = 15)) (fun lt H => et_test (ev_eqI (ev_var rfl) ev_c)) (by rw [decide_eq_true_iff]; omega) mP mD (by decide) h11 (fun h1 h2 Ha hPa => ?_) fun lt H12 h12 => ?_
        · obtain ⟨a1, a2, a3, a4, a5⟩ := hPa
          refine s_insV (i := a) (v := .ref t) a2 (ev_var rfl) (fun _ _ => ev_var rfl) (fun Hb e => ev_op (ev_var rfl) (ev_var rfl) (rv_ixL (v := .ref t) (i := (a : Int)) (SqL.of (e _ _ a2)) (atI_nat hxa))) (by omega) (by omega) fun Hb e => ⟨l, rfl, .inr ⟨by omega, Ex.mut (a1.trans e) nlH, .list ((rows.map d3).take a ++ [d3 r] ++ (rows.map d3).drop a), .lst (by rw [hid_out lA]; exact upd_same) (dqa_sub20 (l := l) ?_), ?_⟩⟩
          · rw [hid_upd List.mem_cons_self]
            have a3 := a3.mono (hid_ex (A := l :: A) e)
            obtain ⟨dd, hd, gd⟩ := a3.at hxa
            rw [List.getElem?_map, hr] at hd
            obtain rfl : d3 r = dd := Option.some.inj hd
            exact (a3.take.app (.cons gd .nil)).app (DqAll.drop63 a a3)
          · exact ((okR.take a).app (OkA.cons okr (OkA.nil 1)) |>.app (okR.drop a)).list.up (by decide) (by decide)
        refine q_way20 (S := S) (l := l) (way := way) (i := 16) (j := 17) (P := P) (Dn := Dn) (decide (way = 16)) (fun lt H => et_test (ev_eqI (ev_var rfl) ev_c)) (by rw [decide_eq_true_iff]; omega) mP mD (by decide) h12 (fun h1 h2 Ha hPa => ?_) fun lt H13 h13 => ?_
        · have a2 := hPa.2.1
          have a3 := dqa_sub20 hPa.2.2.1
          have tkA : Tkn A Ha := tkn_ex hPa.1 tk0
          refine s_asgQa (A := A) (Pd := fun d => (∃ es, d = .list es) ∧ Ok65 2990000 19 d) (qa_midS tkA (Pe := Ok65 12000 3) (n := 1) (low a2 (Ex.refl _)) (qas_cons (qa_callP (vs := [.int (z / 1000)]) (by one_place) fun Hb e Q k E => ⟨_, A, rfl, by omega, tkn_ex e tkA, k⟩) qas_nil) (fun Hb e => high a2 e) a3.take (DqAll.drop63 _ a3) ⟨lt1, ld1, by decide⟩ fun ms hl hm => ⟨⟨_, rfl⟩, (((okR.take a).up (Nat.le_refl _) (show 1 ≤ 3 by decide)).app ((okA_len hm).up (b' := 20000) (by rw [hl]; decide) (Nat.le_refl _)) |>.app ((okR.drop (a + 1)).up (Nat.le_refl _) (show 1 ≤ 3 by decide))).list.up (by decide) (by decide)⟩) fun x d Hb e gx px => ?_
          obtain ⟨lt, rfl, hD⟩ := own hPa e gx px
          exact ⟨lt, rfl, .inr ⟨by omega, hD⟩⟩
        refine q_way20 (S := S) (l := l) (way := way) (i := 17) (j := 18) (P := P) (Dn := Dn) (decide (way = 17)) (fun lt H => et_test (ev_eqI (ev_var rfl) ev_c)) (by rw [decide_eq_true_iff]; omega) mP mD (by decide) h13 (fun h1 h2 Ha hPa => ?_) fun lt H14 h14 => ?_
        · have a2 := hPa.2.1
          have a3 := dqa_sub20 hPa.2.2.1
          have tkA : Tkn A Ha := tkn_ex hPa.1 tk0
          refine s_asgQa (A := A) (Pd := fun d => (∃ es, d = .list es) ∧ Ok65 2990000 19 d) (qa_midS tkA (Pe := Ok65 9000 3) (n := 2) (low a2 (Ex.refl _)) (qas_cons (qa_tup tkA (Pe := Ok65 2000 1) (n := 3) (qas_cons (vi (ev_var rfl) bp) (qas_cons (vi (ev_var rfl) bj) (qas_cons (vi (ev_sub (ev_var rfl) ev_c) (rc1 _ (by omega))) qas_nil))) (by decide) fun ds hl hd => okT (by omega) hd) (qas_cons (qa_tup tkA (Pe := Ok65 2000 1) (n := 3) (qas_cons (vi (ev_var rfl) bp) (qas_cons (vi (ev_var rfl) bj) (qas_cons (vi ev_c (p901 (by decide))) qas_nil))) (by decide) fun ds hl hd => okT (by omega) hd) qas_nil)) (fun Hb e => high a2 e) a3.take (DqAll.drop63 _ a3) ⟨lt1, ld1, by decide⟩ fun ms hl hm => ⟨⟨_, rfl⟩, (((okR.take a).up (Nat.le_refl _) (show 1 ≤ 3 by decide)).app ((okA_len hm).up (b' := 20000) (by rw [hl]; decide) (Nat.le_refl _)) |>.app ((okR.drop (a + 1)).up (Nat.le_refl _) (show 1 ≤ 3 by decide))).list.up (by decide) (by decide)⟩) fun x d Hb e gx px => ?_
          obtain ⟨lt, rfl, hD⟩ := own hPa e gx px
          exact ⟨lt, rfl, .inr ⟨by omega, hD⟩⟩
        refine q_way20 (S := S) (l := l) (way := way) (i := 18) (j := 19) (P := P) (Dn := Dn) (decide (way = 18)) (fun lt H => et_test (ev_eqI (ev_var rfl) ev_c)) (by rw [decide_eq_true_iff]; omega) mP mD (by decide) h14 (fun h1 h2 Ha hPa => ?_) fun lt H15 h15 => ?_
        · have a2 := hPa.2.1
          have a3 := dqa_sub20 hPa.2.2.1
          have tkA : Tkn A Ha := tkn_ex hPa.1 tk0
          obtain ⟨p2, pd⟩ := rB (by omega)
          have st1 : 1 ≤ (n : Int) / rp := by
            have := Int.mul_ediv_add_emod n rp
            rw [pd, Int.add_zero] at this
            by_cases c : (n : Int) / rp = 0
            · rw [c, Int.mul_zero] at this
              omega
            · omega
          have m0 := Int.emod_nonneg (rj' + 1) (show (n : Int) / rp ≠ 0 by omega)
          have m1 := Int.emod_lt_of_pos (rj' + 1) (show 0 < (n : Int) / rp by omega)
          refine s_asgQa (A := A) (Pd := fun d => (∃ es, d = .list es) ∧ Ok65 2990000 19 d) (qa_sortCat20 tkA (rows := rows) (r := (rp, (rj' + 1) % ((n : Int) / rp), 0)) (ev_var rfl) a2 a3 (by omega) (qa_d3 tkA (ev_var rfl) (ev_mod (ev_add (ev_var rfl) ev_c) (ev_div (ev_var rfl) (ev_var rfl) (divW (by omega) (by omega))) (by omega)) ev_c) fun ds pm => ⟨⟨_, rfl⟩, ?_⟩) fun x d Hb e gx px => ?_
          · have k : ∀ d ∈ ds, Ok65 5773 1 d := fun d hd => by
              have hd := pm.mem_iff.mp hd
              rw [List.map_append] at hd
              rcases List.mem_append.mp hd with hd | hd
              · obtain ⟨r', hr', rfl⟩ := List.mem_map.mp hd
                have := G.num r' hr'
                exact ok_d3 (p901 (by omega)) (p901 (by omega)) (Nat.lt_of_lt_of_le this.2.2.2 (Nat.pow_le_pow_right (by decide) (by decide)))
              · rw [List.mem_singleton.mp hd]
                exact ok_d3 bp (p901 (show ((rj' + 1) % ((n : Int) / rp)).natAbs ≤ 100000 by omega)) (p901 (show (0 : Int).natAbs ≤ 100000 by decide))
            refine ((okA_len k).list).up ?_ (by decide)
            have l1 := pm.length_eq
            rw [List.length_map, List.length_append, List.length_singleton] at l1
            omega
          · obtain ⟨lt, rfl, hD⟩ := own hPa e gx px
            exact ⟨lt, rfl, .inr ⟨by omega, hD⟩⟩
        refine q_way20 (S := S) (l := l) (way := way) (i := 19) (j := 20) (P := P) (Dn := Dn) (decide (way = 19)) (fun lt H => et_test (ev_eqI (ev_var rfl) ev_c)) (by rw [decide_eq_true_iff]; omega) mP mD (by decide) h15 (fun h1 h2 Ha hPa => ?_) fun lt H16 h16 => ?_
        · have a2 := hPa.2.1
          have tka : Tkn (l :: A) Ha := tkn_cons20 a2 (tkn_ex hPa.1 tk0)
          have okn : Ok65 2000 1 .none := ⟨rfl, sz_non.mono (by decide) (by decide)⟩
          exact s_setQa (A := l :: A) (Pd := Ok65 9000 3) (j := a) a2 (fun _ _ => ev_var rfl) (fun _ _ => ev_var rfl) ixl (qa_pick (n := 3) (i := z / 1000 % 3) (qas_cons (qa_tup tka (Pe := Ok65 2000 1) (n := 3) (qas_cons (vi (ev_var rfl) bp) (qas_cons (qa_flat ev_c (fun _ => .non) okn) (qas_cons (vi (ev_var rfl) bc) qas_nil))) (by decide) fun ds hl hd => okT (by omega) hd) (qas_cons (qa_tup tka (Pe := Ok65 2000 1) (n := 3) (qas_cons (qa_flat ev_c (fun _ => .non) okn) (qas_cons (vi (ev_var rfl) bj) (qas_cons (vi (ev_var rfl) bc) qas_nil))) (by decide) fun ds hl hd => okT (by omega) hd) (qas_cons (qa_tup tka (Pe := Ok65 2000 1) (n := 3) (qas_cons (vi (ev_var rfl) bp) (qas_cons (qa_lst tka (Pe := Ok65 0 0) (n := 0) qas_nil (by decide) fun ds hl hd => (okA_len hd).list.up (by rw [hl]; decide) (by decide)) (qas_cons (vi (ev_var rfl) bc) qas_nil))) (by decide) fun ds hl hd => okT (by omega) hd) qas_nil))) (by decide) (by one_place) (by omega) (by omega)) fun x d Hb e gx px => ⟨l, rfl, .inr ⟨by omega, put hPa e gx px⟩⟩
        refine q_way20 (S := S) (l := l) (way := way) (i := 20) (j := 21) (P := P) (Dn := Dn) (decide (way = 20)) (fun lt H => et_test (ev_eqI (ev_var rfl) ev_c)) (by rw [decide_eq_true_iff]; omega) mP mD (by decide) h16 (fun h1 h2 Ha hPa => ?_) fun lt H17 h17 => ?_
        · have a2 := hPa.2.1
          have tka : Tkn (l :: A) Ha := tkn_cons20 a2 (tkn_ex hPa.1 tk0)
          have oks : Ok65 2000 2 (.str (Str.ofString "1")) := ⟨by decide +kernel, (sz_str (b := 2000) (by decide +kernel) (by decide +kernel)).mono (by decide) (by decide)⟩
          exact s_setQa (A := l :: A) (Pd := Ok65 9000 3) (j := a) a2 (fun _ _ => ev_var rfl) (fun _ _ => ev_var rfl) ixl (qa_tup tka (Pe := Ok65 2000 2) (n := 3) (qas_cons (qa_flat (ev_var rfl) (fun _ => .int _) ((ok_i20 bp).up (by decide) (by decide))) (qas_cons (qa_flat (ev_var rfl) (fun _ => .int _) ((ok_i20 bj).up (by decide) (by decide))) (qas_cons (qa_pick (n := 3) (i := z / 1000 % 3) (qas_cons (qa_flat ev_c (fun _ => .str _) oks) (qas_cons (qa_flat ev_c (fun _ => .non) ⟨rfl, sz_non.mono (by decide) (by decide)⟩) (qas_cons (qa_lst tka (Pe := Ok65 1921 0) (n := 1) (qas_cons (qa_flat (ev_var rfl) (fun _ => .int _) (ok_i20 bc)) qas_nil) (by decide) fun ds hl hd => (okA_len hd).list.up (by rw [hl]; decide) (by decide)) qas_nil))) (by decide) (by one_place) (by omega) (by omega)) qas_nil))) (by decide) fun ds hl hd => ((okA_len hd).tuple).up (by rw [hl]; decide) (by decide)) fun x d Hb e gx px => ⟨l, rfl, .inr ⟨by omega, put hPa e gx px⟩⟩
        rcases h17 with ⟨h, _⟩ | ⟨_, e17, d, gd, ok⟩
        · omega
        · exact s_ret (v := .ref lt) (ev_var rfl) fun H18 e18 => q _ d H18 (e17.trans e18) (gd.mono (hid_ex e18)) (ok.up (by decide) (by decide))
end

/-! ### a paper made, of the law -/
theorem paired_app20 {α β : Type} {F : α → β → Prop} : ∀ {l : List α} {m : List β} {l2 : List α} {m2 : List β}, Paired F l m → Paired F l2 m2 → Paired F (l ++ l2) (m ++ m2)
  | _, _, _, _, .nil, h => h
  | _, _, _, _, .cons a t, h => .cons a (paired_app20 t h)
theorem paired_take20 {α β : Type} {F : α → β → Prop} : ∀ {l : List α} {m : List β} (k : Nat), Paired F l m → Paired F (l.take k) (m.take k)
  | _, _, 0, _ => by rw [List.take_zero, List.take_zero]; exact .nil
  | _, _, k + 1, .nil => .nil
  | _, _, k + 1, .cons a t => .cons a (paired_take20 k t)
theorem paired_drop20 {α β : Type} {F : α → β → Prop} : ∀ {l : List α} {m : List β} (k : Nat), Paired F l m → Paired F (l.drop k) (m.drop k)
  | _, _, 0, h => h
  | _, _, k + 1, .nil => .nil
  | _, _, k + 1, .cons a t => paired_drop20 k t
section
variable {K : PySem.W.Frag} {σ : L2.St} {H : Hp} {te ta tb tl : TE} {tu : TS} {D : Ends} {tz : TS} {A : List Addr}
/-- for p, o in xs, a list of pairs by its name; the heap may change but for these places -/
theorem q_forPh {a : Addr} {xs : List V} {rows : List (Int × Int)} {j1 j2 : Nat} (h : Ev tl σ H (.ref a)) (Pv : Nat → L2.St → Hp → Prop) (h0 : ∀ H1, Ex H H1 → Pv 0 σ H1) (hl : ∀ i σ' H', Pv i σ' H' → H' a = some (.lst xs) ∧ Prs K H' xs rows)
    (hs : ∀ i r σ' H', rows[i]? = some r → Pv i σ' H' → tu { D with nx := Pv (i + 1), ct := Pv (i + 1), bk := tz D } ((σ'.set j1 (some (.int r.1))).set j2 (some (.int r.2))) H') (hd : ∀ σ' H', Pv rows.length σ' H' → tz D σ' H') :
    tSeq (tFor (iList K tl) (gTup K 2 (gCons (gName j1) (gCons (gName j2) gNil))) tu) tz D σ H :=
  h H (Ex.refl H) _ fun H1 e => ⟨a, rfl, ⟨xs, SqL.of (hl 0 σ H1 (h0 H1 e)).1⟩, for_list (xs := xs) Pv (h0 H1 e) (fun i σ' H' _ q => SqL.of (hl _ _ _ q).1) (fun i x σ' H' hx q => by
    obtain ⟨r, t, hr, rfl, ht⟩ := prs_get (hl _ _ _ q).2 hx
    exact ⟨t, _, rfl, ht, rfl, .int r.1, [.int r.2], rfl, .int r.2, [], rfl, rfl, hs i r σ' H' hr q⟩) (fun σ' H' q => by
    rw [Paired.length (hl _ _ _ q).2] at q
    exact hd σ' H' q)⟩
end
structure StM (H0 H5 : Hp) (rl tl : Addr) (n : Nat) (H' : Hp) (g : List Int) (xs : List V) (rows : List I3) : Prop where
  keep : ∀ b o, b ≠ rl → b ≠ tl → H5 b = some o → H' b = some o
  ex : Ex H0 H'
  hr : H' rl = some (.lst (g.map V.int))
  ht : H' tl = some (.lst xs)
  dq : DqAll (hid [rl, tl] H') xs (rows.map d3)
  len : g.length = n
  num : ∀ r ∈ rows, 2 ≤ r.1 ∧ r.1 ≤ 61 ∧ (n : Int) % r.1 = 0 ∧ r.2.1.natAbs ≤ 1000 ∧ r.2.2.natAbs < 2 ^ 1850
section
variable {H0 H5 H' H'' : Hp} {rl tl : Addr} {n : Nat} {g : List Int} {xs : List V} {rows : List I3}
theorem StM.mono (h : StM H0 H5 rl tl n H' g xs rows) (e : Ex H' H'') : StM H0 H5 rl tl n H'' g xs rows := ⟨fun b o h1 h2 h3 => e _ _ (h.keep b o h1 h2 h3), h.ex.trans e, e _ _ h.hr, e _ _ h.ht, h.dq.mono (hid_ex e), h.len, h.num⟩
theorem StM.setR {g2 : List Int} (h : StM H0 H5 rl tl n H' g xs rows) (n0 : H0 rl = none) (rt : rl ≠ tl) (l : g2.length = n) : StM H0 H5 rl tl n (upd H' rl (.lst (g2.map V.int))) g2 xs rows :=
  ⟨fun b o h1 h2 h3 => by rw [upd_ne h1]; exact h.keep b o h1 h2 h3, Ex.mut h.ex n0, upd_same, by rw [upd_ne (Ne.symm rt)]; exact h.ht, by rw [hid_upd List.mem_cons_self]; exact h.dq, l, h.num⟩
theorem StM.app {t : Addr} {r : I3} (h : StM H0 H5 rl tl n H' g xs rows) (n0 : H0 tl = none) (rt : rl ≠ tl) (ht : H' t = some (.tup [.int r.1, .int r.2.1, .int r.2.2])) (t1 : t ≠ rl) (t2 : t ≠ tl) (nr : 2 ≤ r.1 ∧ r.1 ≤ 61 ∧ (n : Int) % r.1 = 0 ∧ r.2.1.natAbs ≤ 1000 ∧ r.2.2.natAbs < 2 ^ 1850) : StM H0 H5 rl tl n (upd H' tl (.lst (xs ++ [.ref t]))) g (xs ++ [.ref t]) (rows ++ [r]) := by
  refine ⟨fun b o h1 h2 h3 => by rw [upd_ne h2]; exact h.keep b o h1 h2 h3, Ex.mut h.ex n0, by rw [upd_ne rt]; exact h.hr, upd_same, ?_, h.len, fun x hx => ?_⟩
  · rw [hid_upd (by simp), List.map_append]
    refine h.dq.app (.cons (.tup (xs := [.int r.1, .int r.2.1, .int r.2.2]) ?_ (.cons (.int _) (.cons (.int _) (.cons (.int _) .nil)))) .nil)
    rw [hid_out (by simp [t1, t2])]
    exact ht
  · rcases List.mem_append.mp hx with hx | hx
    · exact h.num x hx
    · rw [List.mem_singleton.mp hx]
      exact nr
theorem sqt_keep20 {K : PySem.W.Frag} {t : Addr} {ts us vs : List V} (hk : ∀ b o, b ≠ rl → b ≠ tl → H5 b = some o → H' b = some o) (h1 : H5 rl = some (.lst us)) (h2 : H5 tl = some (.lst vs)) (h : SqT K H5 t ts) : SqT K H' t ts := by
  rcases h with h | h
  · refine .inl ?_
    rcases h with h | ⟨o, h⟩
    · exact .inl (hk _ _ (ne_of h h1 (by intro z; cases z)) (ne_of h h2 (by intro z; cases z)) h)
    · exact .inr ⟨o, hk _ _ (ne_of h h1 (by intro z; cases z)) (ne_of h h2 (by intro z; cases z)) h⟩
  · exact .inr h
theorem prs_keep20 {K : PySem.W.Frag} {us vs ps : List V} {rs : List (Int × Int)} (hk : ∀ b o, b ≠ rl → b ≠ tl → H5 b = some o → H' b = some o) (h1 : H5 rl = some (.lst us)) (h2 : H5 tl = some (.lst vs)) (h : Prs K H5 ps rs) : Prs K H' ps rs := Paired.mapP h fun v r ⟨t, q, s⟩ => ⟨t, q, sqt_keep20 hk h1 h2 s⟩
end
section
variable {K : PySem.W.Frag} {σ : L2.St} {H : Hp} {ta tb tl : TE} {D : Ends}
/-- sorted(rows), by its name -/
theorem evP_sort20 {l : Addr} {xs : List V} {rows : List I3} (h : Ev tl σ H (.ref l)) (hl : H l = some (.lst xs)) (g : DqAll H xs (rows.map d3)) : EvP (fun y H' => ∃ s, y = .ref s ∧ H' s = some (.lst (srtV xs (rows.map d3)))) (tCB (rSortedD K) (tCons tl tNil)) σ H := fun H1 e Q q =>
  h H1 e _ fun H2 e2 => by
    refine ⟨l, xs, rows.map d3, rfl, SqL.of ((e.trans e2) _ _ hl), g.mono (e.trans e2), PySem.W.AllAlike.of (enc := d3) fun a b => alike3 a b, .inl fun d hd => ?_, fun d hd => ?_, fun s ns => q _ _ (e2.trans (Ex.new ns)) ⟨s, rfl, upd_same⟩⟩
    · obtain ⟨r, _, rfl⟩ := List.mem_map.mp hd
      exact ⟨_, _, rfl⟩
    · obtain ⟨r, _, rfl⟩ := List.mem_map.mp hd
      show PyData.depth (.tuple _) ≤ 100
      simp [PyData.depth, PyData.depthAll]
theorem s_retPair20 {v : V} {B : V → Hp → Prop} (mB : ∀ x H1 H2, Ex H1 H2 → B x H1 → B x H2) (h1 : Ev ta σ H v) (h2 : EvP B tb σ H) (k : ∀ y t H1, Ex H H1 → B y H1 → H1 t = some (.tup [v, y]) → D.rt (.ref t) H1) : tRet (tTup (tCons ta (tCons tb tNil))) D σ H :=
  h1 H (Ex.refl H) _ fun H1 e1 => h2 H1 e1 _ fun y H2 e2 b => ⟨sz_of (show 2 ≤ 100000 by decide), fun t nt => k y t _ ((e1.trans e2).trans (Ex.new nt)) (mB _ _ _ (Ex.new nt) b) upd_same⟩
end
theorem rowT_d3 (r : I3) : rowT (d3 r) = r := rfl
theorem d3_rows20 : ∀ {ds : List PyData}, (∀ d ∈ ds, ∃ r, d = d3 r) → ds = (ds.map rowT).map d3
  | [], _ => rfl
  | d :: ds, h => by
    obtain ⟨r, hr⟩ := h d List.mem_cons_self
    rw [List.map_cons, List.map_cons, ← d3_rows20 fun x hx => h x (List.mem_cons_of_mem _ hx), hr, rowT_d3]
/- _law_made_paper: slots 0 _law_some, 1 _law_turn, 2 _law_n, 3 _law_rest, 4 _law_told, 5 _law_primes, 6 _law_p, 7 _law_often, 8 _law_lower, 9 _law_k, 10 _law_j, 11 _law_c, 12 _law_at; calls _law_parted -/
abbrev s__law_made_paper : Stmt := topS 28
theorem sc__law_made_paper : FnScope ["_law_some", "_law_turn", "_law_n", "_law_rest", "_law_told", "_law_primes", "_law_p", "_law_often", "_law_lower", "_law_k", "_law_j", "_law_c", "_law_at"] ["_law_some", "_law_turn"] (defScope s__law_made_paper) := ⟨rfl, rfl, rfl, by decide +kernel, rfl, by decide +kernel, by decide +kernel⟩

def spMp20 : Sp := fun vs H Q _ => ∃ (a : Addr) (f : List Int) (n : Nat) (z : Int), vs = [.ref a, .int z] ∧ H a = some (.lst (f.map V.int)) ∧ f.length = n ∧ 1 ≤ n ∧ n ≤ 60 ∧ Bd 200 f ∧ 0 ≤ z ∧ ∀ t gl wl g xs (rows : List I3) H1, Ex H H1 → H1 t = some (.tup [.ref gl, .ref wl]) → H1 gl = some (.lst (g.map V.int)) → g.length = n → Bd 1800 g → H1 wl = some (.lst xs) → DqAll H1 xs (rows.map d3) → RwB20 n rows → Q (.ref t) H1
section
variable {P : Program} {w : World} {K : PySem.W.Frag} {mg : Str → Option Value} {base : Heap}
theorem cal_mp20 (nb : Nb mg) (c__law_parted : Cal P w K mg base CX0 "_law_parted" 1 ["_law_n"] (spLParted K)) (d : Dfn K mg "_law_made_paper" ["_law_some", "_law_turn"] s__law_made_paper) : Cal P w K mg base CX0 "_law_made_paper" 2 ["_law_some", "_law_turn"] spMp20 := by
  refine d.cal sc__law_made_paper (fun vs H Q E h => ?_) (fun fa cdv Ar outer s H vs Q E hr h => ?_)
  · obtain ⟨a, f, n, z, rfl, _⟩ := h
    rfl
  · obtain ⟨a, f, n, z, rfl, hA, lf, n1, n2, bf, z0, q⟩ := h
    refine ⟨_, (pss_cons (ps_set (i := 2) sc__law_made_paper.nd rfl (.inl rfl) (pe_callB call_len_seq (by rfl) nb.len PySem.boot_len (pa_cons (pv 0) pa_nil)))
      (pss_cons (ps_set (i := 3) sc__law_made_paper.nd rfl (.inl rfl) (pe_callTy call_list_of (by rfl) nb.list (by decide +kernel) (pa_cons (pv 0) pa_nil)))
      (pss_cons (ps_set (i := 4) sc__law_made_paper.nd rfl (.inl rfl) (pe_lst pa_nil))
      (pss_cons (ps_set (i := 5) sc__law_made_paper.nd rfl (.inl rfl) (pe_cal c__law_parted (hr.mono (by first | decide | omega)) (by rfl) pass0 (pa_cons (pv 2) pa_nil)))
      (pss_cons (ps_set (i := 5) sc__law_made_paper.nd rfl (.inl rfl) (pe_op op_cat (pe_slice sl_list (pv 5) (po_some (pe_op op_mod (pv 1) (pe_callB (call_max2 rfl) (by rfl) nb.max (by decide +kernel) (pa_cons pe_int (pa_cons (pe_callB call_len_seq (by rfl) nb.len PySem.boot_len (pa_cons (pv 5) pa_nil)) pa_nil))))) po_none) (pe_slice sl_list (pv 5) po_none (po_some (pe_op op_mod (pv 1) (pe_callB (call_max2 rfl) (by rfl) nb.max (by decide +kernel) (pa_cons pe_int (pa_cons (pe_callB call_len_seq (by rfl) nb.len PySem.boot_len (pa_cons (pv 5) pa_nil)) pa_nil))))))))
      (pss_cons (ps_for PassesOwn.never rfl (pi_list (pv 5)) (pg_tup (by rfl) (pgs_cons (pg_name (i := 6) sc__law_made_paper.nd rfl (.inl rfl)) (pgs_cons (pg_name (i := 7) sc__law_made_paper.nd rfl (.inl rfl)) pgs_nil))) (pss_cons (ps_set (i := 8) sc__law_made_paper.nd rfl (.inl rfl) pe_int)
      (pss_cons (ps_for PassesOwn.never rfl (pi_range1 (by rfl) nb.range (pa_cons (pe_op op_sub (pv 7) pe_int) pa_nil)) (pg_name (i := 9) sc__law_made_paper.nd rfl (.inl rfl)) (pss_one (ps_set (i := 8) sc__law_made_paper.nd rfl (.inl rfl) (pe_op op_mulW (pv 8) (pv 6)))))
      (pss_one (ps_for PassesOwn.never rfl (pi_range1 (by rfl) nb.range (pa_cons (pv 2) pa_nil)) (pg_name (i := 10) sc__law_made_paper.nd rfl (.inl rfl)) (pss_cons (ps_set (i := 11) sc__law_made_paper.nd rfl (.inl rfl) (pe_ix ix_list (pv 3) (pv 10) (fun _ _ => rfl)))
      (pss_one (ps_if (PW.pt (pw_and (pt_cmpR op_ge (pe_op op_mod (pv 10) (pe_op op_mulW (pv 8) (pv 6))) (pe_op op_mulW (pe_op op_sub (pv 6) pe_int) (pv 8)) (nomark _)) (pw_and1 (pt_cmpR op_ne (pv 11) pe_int (nomark _))))) (pss_cons (ps_expr (pe_bm PySem.F.plainAttrs_list PySem.F.slot_list_append PySem.F.type_list_append mt_append (pv 4) (pa_cons (pe_tup (pa_cons (pv 6) (pa_cons (pe_op op_mod (pv 10) (pe_op op_fdivW (pv 2) (pv 6))) (pa_cons (pv 11) pa_nil)))) pa_nil)))
      (pss_one (ps_for PassesOwn.never rfl (pi_range1 (by rfl) nb.range (pa_cons (pv 6) pa_nil)) (pg_name (i := 9) sc__law_made_paper.nd rfl (.inl rfl)) (pss_cons (ps_set (i := 12) sc__law_made_paper.nd rfl (.inl rfl) (pe_op op_mod (pe_op op_add (pv 10) (pe_op op_mulW (pv 9) (pe_op op_fdivW (pv 2) (pv 6)))) (pv 2)))
      (pss_one (ps_asg (pe_op op_sub (pe_ix ix_list (pv 3) (pv 12) (fun _ _ => rfl)) (pv 11)) (pg_sub (pv 3) (pv 12) set_list))))))) pss_nil))))))))
      (pss_one (ps_ret (pe_tup (pa_cons (pv 3) (pa_cons (pe_callB (cr_sortedD (room110 hr)) (by rfl) nb.sorted (by decide +kernel) (pa_cons (pv 4) pa_nil)) pa_nil))))))))))), ?_⟩
    obtain ⟨lp3, lpr⟩ := lpb n1 n2
    refine q_asg (v := .int (n : Nat)) (ev_is (ev_len (ev_var rfl) (SqL.of hA)) (by rw [List.length_map, lf])) fun H1 e1 => ?_
    refine q_asgL (xs := f.map V.int) (el_list (ev_var rfl) (SqL.of (e1 _ _ hA))) fun rl H2 nrl e2 hrl => ?_
    refine q_asgL (xs := []) (el_lst ea_nil (by decide)) fun tl H3 ntl e3 htl => ?_
    have rt : rl ≠ tl := ne_of_none hrl ntl
    refine q_asgP (rows := lpF (n : Int)) (ep_cal (vs := [.int (n : Nat)]) (by one_place) fun H5 e5 Q k E => ⟨n, rfl, by omega, by omega, k⟩) fun pr ps H4 npr e4 hpr Pr => ?_
    obtain ⟨m, hm, ml⟩ : ∃ m : Nat, (m : Int) = z % (if ((lpF (n : Int)).length : Int) > 1 then ((lpF (n : Int)).length : Int) else 1) ∧ m ≤ 3 := by
      have hp : 0 < (if ((lpF (n : Int)).length : Int) > 1 then ((lpF (n : Int)).length : Int) else 1) ∧ (if ((lpF (n : Int)).length : Int) > 1 then ((lpF (n : Int)).length : Int) else 1) ≤ 3 := by split <;> omega
      generalize (if ((lpF (n : Int)).length : Int) > 1 then ((lpF (n : Int)).length : Int) else 1) = k at *
      have a := Int.emod_nonneg z (show k ≠ 0 by omega)
      have b := Int.emod_lt_of_pos z hp.1
      exact ⟨(z % k).toNat, by omega, by omega⟩
    have lps : ps.length = (lpF (n : Int)).length := Paired.length Pr
    have mx : ∀ {H' : Hp} {σ : L2.St}, Ex H4 H' → σ[1]? = some (some (.int z)) → σ[5]? = some (some (.ref pr)) → Ev (tOp (rI (fun _ j => 0 < j) fun i j => .int (i % j)) (tVar 1) (tCB rMax2 (tCons (tC (.int 1)) (tCons (tCB (rLenS K) (tCons (tVar 5) tNil)) tNil)))) σ H' (.int (m : Nat)) := fun e h1 h5 => ev_is (ev_mod (ev_var h1) (ev_max2 (i := 1) (j := ((lpF (n : Int)).length : Int)) ev_c (ev_is (ev_len (ev_var h5) (SqL.of (e _ _ hpr))) (by rw [lps]))) (by split <;> omega)) (by rw [hm])
    refine q_asgL (xs := ps.drop m ++ ps.take m) (el_cat (el_is (el_sl (lo := some ((m : Nat) : Int)) (ev_var rfl) (eo_some (mx (Ex.refl _) rfl rfl)) eo_none (SqL.of hpr)) (cut_drop20 _ _)) (el_is (el_sl (hi := some ((m : Nat) : Int)) (ev_var rfl) eo_none (eo_some (mx (Ex.refl _) rfl rfl)) (SqL.of hpr)) (cut_take _ _)) (by rw [List.length_drop, List.length_take]; omega)) fun pr2 H5 npr2 e5 hpr2 => ?_
    have Pr2 : Prs K H5 (ps.drop m ++ ps.take m) ((lpF (n : Int)).drop m ++ (lpF (n : Int)).take m) := Prs.mono e5 (paired_app20 (paired_drop20 m Pr) (paired_take20 m Pr))
    have mem2 : ∀ r ∈ (lpF (n : Int)).drop m ++ (lpF (n : Int)).take m, r ∈ lpF (n : Int) := fun r hr => by
      rcases List.mem_append.mp hr with h | h
      · exact List.mem_of_mem_drop h
      · exact List.mem_of_mem_take h
    have len2 : ((lpF (n : Int)).drop m ++ (lpF (n : Int)).take m).length ≤ 3 := by
      rw [List.length_append, List.length_drop, List.length_take]
      omega
    generalize ps.drop m ++ ps.take m = ps2 at *
    generalize (lpF (n : Int)).drop m ++ (lpF (n : Int)).take m = rows2 at *
    have hrl5 := (e3.trans (e4.trans e5)) _ _ hrl
    have htl5 := (e4.trans e5) _ _ htl
    have nrl0 : H rl = none := fresh_back e1 nrl
    have ntl0 : H tl = none := fresh_back (e1.trans e2) ntl
    have pr_rl : pr2 ≠ rl := (ne_of_none ((e3.trans e4) _ _ hrl) npr2).symm
    have pr_tl : pr2 ≠ tl := (ne_of_none (e4 _ _ htl) npr2).symm
    have st0 : StM H H5 rl tl n H5 f [] [] := ⟨fun b o _ _ h => h, (e1.trans e2).trans (e3.trans (e4.trans e5)), hrl5, htl5, .nil, lf, fun r hr => absurd hr List.not_mem_nil⟩
    refine q_forPh (rows := rows2) (xs := ps2) (ev_var rfl) (fun i σ' H' => ∃ (g : List Int) (xs : List V) (rows : List I3) (x6 x7 x8 x9 x10 x11 x12 : Option V), σ' = [some (.ref a), some (.int z), some (.int (n : Nat)), some (.ref rl), some (.ref tl), some (.ref pr2), x6, x7, x8, x9, x10, x11, x12] ∧ StM H H5 rl tl n H' g xs rows ∧ rows.length ≤ 60 * i ∧ Bd (200 + 6 * rows.length) g ∧ i ≤ 3)
      (fun H6 e6 => ⟨f, [], [], _, _, _, _, _, _, _, rfl, st0.mono e6, by decide, bf, by decide⟩) (fun i σ' H' h => ?_) (fun i r σ' H6 hr hP => ?_) (fun σ' H6 hP => ?_)
    · obtain ⟨g, xs, rows, _, _, _, _, _, _, _, _, st, _⟩ := h
      exact ⟨st.keep _ _ pr_rl pr_tl hpr2, prs_keep20 st.keep hrl5 htl5 Pr2⟩
    · obtain ⟨g, xs, rows, x6, x7, x8, x9, x10, x11, x12, rfl, st, lr, bg, i3⟩ := hP
      have ii : i < 3 := by have := (List.getElem?_eq_some_iff.mp hr).1; omega
      obtain ⟨r1, r60, rn, ro, ro5⟩ := lpr r (mem2 r (List.mem_of_getElem? hr))
      obtain ⟨p, o⟩ := r
      refine q_asg (v := .int 1) ev_c fun H7 e7 => ?_
      refine q_forR1 (n := o - 1) (by one_place) (by omega) (fun k σ' H' => ∃ (L : Int) (y9 : Option V), σ' = [some (.ref a), some (.int z), some (.int (n : Nat)), some (.ref rl), some (.ref tl), some (.ref pr2), some (.int p), some (.int o), some (.int L), y9, x10, x11, x12] ∧ Ex H7 H' ∧ 1 ≤ L ∧ L ≤ 60 ^ k) (fun H8 e8 => ⟨1, _, rfl, e8, by decide, by decide⟩) (fun k σ' H8 hk hq => ?_) (fun σ' H8 hq => ?_)
      · obtain ⟨L, y9, rfl, e8, L1, L2⟩ := hq
        have k4 : k ≤ 3 := by omega
        have L3 : L ≤ 60 ^ 3 := Int.le_trans L2 (by
          have : k = 0 ∨ k = 1 ∨ k = 2 ∨ k = 3 := by omega
          rcases this with rfl | rfl | rfl | rfl <;> decide)
        have b1 : L.natAbs < 2 ^ 300 := Nat.lt_of_lt_of_le (show L.natAbs < 2 ^ 20 by omega) (Nat.pow_le_pow_right (by decide) (by decide))
        have b2 : p.natAbs < 2 ^ 300 := Nat.lt_of_lt_of_le (show p.natAbs < 2 ^ 20 by simp only at r60 r1; omega) (Nat.pow_le_pow_right (by decide) (by decide))
        refine s_asg (v := .int (L * p)) (ev_mul (ev_var rfl) (ev_var rfl) (mulW b1 b2)) fun H9 e9 => ⟨L * p, _, rfl, e8.trans e9, ?_, ?_⟩
        · have := Int.mul_le_mul L1 (show 1 ≤ p by simp only at r1; omega) (by decide) (by omega)
          omega
        · rw [Int.pow_succ]
          exact Int.mul_le_mul L2 (show p ≤ 60 from r60) (by simp only at r1; omega) (by omega)
      · obtain ⟨L, y9, rfl, e8, L1, L2⟩ := hq
        have L3 : L ≤ 60 ^ 4 := Int.le_trans L2 (by
          have : (o - 1).toNat = 0 ∨ (o - 1).toNat = 1 ∨ (o - 1).toNat = 2 ∨ (o - 1).toNat = 3 ∨ (o - 1).toNat = 4 := by simp only at ro ro5; omega
          rcases this with h | h | h | h | h <;> rw [h] <;> decide)
        have r1 : 2 ≤ p := r1
        have r60 : p ≤ 60 := r60
        have rn : (n : Int) % p = 0 := rn
        have L4 : L ≤ 12960000 := L3
        have bL : L.natAbs < 2 ^ 300 := Nat.lt_of_lt_of_le (show L.natAbs < 2 ^ 24 by omega) (Nat.pow_le_pow_right (by decide) (by decide))
        have bp : p.natAbs < 2 ^ 300 := Nat.lt_of_lt_of_le (show p.natAbs < 2 ^ 20 by omega) (Nat.pow_le_pow_right (by decide) (by decide))
        have bp1 : (p - 1).natAbs < 2 ^ 300 := Nat.lt_of_lt_of_le (show (p - 1).natAbs < 2 ^ 20 by omega) (Nat.pow_le_pow_right (by decide) (by decide))
        have Lp : 0 < L * p := Int.mul_pos (by omega) (by omega)
        have st1 : 1 ≤ (n : Int) / p := by
          have := Int.mul_ediv_add_emod n p
          rw [rn, Int.add_zero] at this
          by_cases c : (n : Int) / p = 0
          · rw [c, Int.mul_zero] at this
            omega
          · have := Int.ediv_nonneg (show 0 ≤ (n : Int) by omega) (show 0 ≤ p by omega)
            omega
        have st2 : (n : Int) / p ≤ 60 := by
          have := Int.ediv_le_self p (show 0 ≤ (n : Int) by omega)
          omega
        refine s_forR1 (n := (n : Int)) (by one_place) (by omega) (fun j σ' H' => ∃ (g : List Int) (xs : List V) (rows : List I3) (z9 z10 z11 z12 : Option V), σ' = [some (.ref a), some (.int z), some (.int (n : Nat)), some (.ref rl), some (.ref tl), some (.ref pr2), some (.int p), some (.int o), some (.int L), z9, z10, z11, z12] ∧ StM H H5 rl tl n H' g xs rows ∧ rows.length ≤ 60 * i + j ∧ Bd (200 + 6 * rows.length) g)
          (fun H9 e9 => ⟨g, xs, rows, _, _, _, _, rfl, st.mono ((e7.trans e8).trans e9), by omega, bg⟩) (fun j σ' H9 hj hq => ?_) (fun σ' H9 hq => ?_)
        · obtain ⟨g, xs, rows, z9, z10, z11, z12, rfl, st, lr, bg⟩ := hq
          have hj : j < n := by omega
          refine q_asg (v := .int (coef g j)) (ev_ixI (j := j) (SqL.of st.hr) (ev_var rfl) (ev_var rfl) (coef_get (by rw [st.len]; exact hj))) fun H10 e10 => ?_
          have bc := bg j
          generalize coef g j = c at *
          have st := st.mono e10
          have m0 := Int.emod_nonneg (j : Int) (show (n : Int) / p ≠ 0 by omega)
          have m1 := Int.emod_lt_of_pos (j : Int) (show 0 < (n : Int) / p by omega)
          refine s_when (b := decide ((j : Int) % (L * p) ≥ (p - 1) * L) && !decide (c = 0)) (et_and (et_test (ev_ge (ev_mod (ev_var rfl) (ev_mul (ev_var rfl) (ev_var rfl) (mulW bL bp)) Lp) (ev_mul (ev_sub (ev_var rfl) ev_c) (ev_var rfl) (mulW bp1 bL)))) fun _ => et_test (ev_neI (ev_var rfl) ev_c)) (fun hb H11 e11 => ?_) (fun hb H11 e11 => ⟨g, xs, rows, _, _, _, _, rfl, st.mono e11, by omega, bg⟩)
          have st := st.mono e11
          have lxs : xs.length = rows.length := by rw [st.dq.len, List.length_map]
          refine q_appU (ys := [.int p, .int ((j : Int) % ((n : Int) / p)), .int c]) st.ht (ev_var rfl) (eu_tup (ea_cons (ev_var rfl) (ea_cons (ev_mod (ev_var rfl) (ev_div (ev_var rfl) (ev_var rfl) (divW (by omega) (by omega))) (by omega)) (ea_cons (ev_var rfl) ea_nil))) (by show 3 ≤ 100000; decide)) (by omega) fun t H12 nt e12 ht => ?_
          have t1 : t ≠ rl := (ne_of_none st.hr nt).symm
          have t2 : t ≠ tl := (ne_of_none st.ht nt).symm
          have sb : rows.length ≤ 179 := by omega
          have st := (st.mono e12).app (r := (p, (j : Int) % ((n : Int) / p), c)) ntl0 rt ht t1 t2 ⟨r1, by show p ≤ 61; omega, rn, by show ((j : Int) % ((n : Int) / p)).natAbs ≤ 1000; omega, Nat.lt_of_lt_of_le bc (Nat.pow_le_pow_right (by decide) (by omega))⟩
          generalize upd H12 tl (.lst (xs ++ [.ref t])) = H13 at *
          have pw : ∀ Bn : Nat, 2 ^ (Bn + 6) = 2 ^ Bn * 64 := fun Bn => by rw [Nat.pow_add]
          have pwB := pw (200 + 6 * rows.length)
          have posB := Nat.two_pow_pos (200 + 6 * rows.length)
          have hB : ∀ m, (coef g m).natAbs < 2 ^ (200 + 6 * rows.length) := bg
          have eB : 200 + 6 * (rows ++ [(p, (j : Int) % ((n : Int) / p), c)]).length = 200 + 6 * rows.length + 6 := by rw [List.length_append, List.length_singleton]; omega
          have lr2 : (rows ++ [(p, (j : Int) % ((n : Int) / p), c)]).length ≤ 60 * i + (j + 1) := by rw [List.length_append, List.length_singleton]; omega
          generalize xs ++ [V.ref t] = xs2 at *
          generalize rows ++ [(p, (j : Int) % ((n : Int) / p), c)] = rows2' at *
          generalize 2 ^ (200 + 6 * rows.length) = BB at *
          refine s_forR1 (n := p) (by one_place) (by omega) (fun k σ' H' => ∃ (g' : List Int) (y9 y12 : Option V), σ' = [some (.ref a), some (.int z), some (.int (n : Nat)), some (.ref rl), some (.ref tl), some (.ref pr2), some (.int p), some (.int o), some (.int L), y9, some (.int (j : Nat)), some (.int c), y12] ∧ StM H H5 rl tl n H' g' xs2 rows2' ∧ ∀ m, (coef g' m).natAbs < (k + 1) * BB)
            (fun H14 e14 => ⟨g, _, _, rfl, st.mono e14, fun m => by rw [Nat.zero_add, Nat.one_mul]; exact hB m⟩) (fun k σ' H14 hk hq => ?_) (fun σ' H14 hq => ?_)
          · obtain ⟨g', y9, y12, rfl, st, bg'⟩ := hq
            have a0 := Int.emod_nonneg ((j : Int) + (k : Int) * ((n : Int) / p)) (show (n : Int) ≠ 0 by omega)
            have a1 := Int.emod_lt_of_pos ((j : Int) + (k : Int) * ((n : Int) / p)) (show 0 < (n : Int) by omega)
            obtain ⟨at', ha, al⟩ : ∃ b : Nat, (b : Int) = ((j : Int) + (k : Int) * ((n : Int) / p)) % (n : Int) ∧ b < n := ⟨(((j : Int) + (k : Int) * ((n : Int) / p)) % (n : Int)).toNat, by omega, by omega⟩
            have bk : ((k : Nat) : Int).natAbs < 2 ^ 300 := Nat.lt_of_lt_of_le (show ((k : Nat) : Int).natAbs < 2 ^ 20 by omega) (Nat.pow_le_pow_right (by decide) (by decide))
            have bs : ((n : Int) / p).natAbs < 2 ^ 300 := Nat.lt_of_lt_of_le (show ((n : Int) / p).natAbs < 2 ^ 20 by omega) (Nat.pow_le_pow_right (by decide) (by decide))
            refine q_asg (v := .int (at' : Nat)) (ev_is (ev_mod (ev_add (ev_var rfl) (ev_mul (ev_var rfl) (ev_div (ev_var rfl) (ev_var rfl) (divW (by omega) (by omega))) (mulW bk bs))) (ev_var rfl) (by omega)) (by rw [ha])) fun H15 e15 => ?_
            have st := st.mono e15
            refine s_setI (j := at') (b := coef g' at' - c) st.hr (ev_var rfl) (ev_var rfl) (by rw [st.len]; exact al) (ev_sub (ev_ixI (j := at') (SqL.of st.hr) (ev_var rfl) (ev_var rfl) (coef_get (by rw [st.len]; exact al))) (ev_var rfl)) fun H16 e16 => ⟨g'.set at' (coef g' at' - c), _, _, rfl, (st.mono e16).setR nrl0 rt (by rw [List.length_set]; exact st.len), fun m => ?_⟩
            have h1 := bg' m
            have h2 := bg' at'
            rw [Nat.add_mul _ 1, Nat.one_mul]
            rw [coef_set (by rw [st.len]; exact al)]
            split
            · omega
            · omega
          · obtain ⟨g', y9, y12, rfl, st, bg'⟩ := hq
            refine ⟨g', xs2, rows2', _, _, _, _, rfl, st, lr2, fun m => ?_⟩
            have h1 := bg' m
            rw [eB, pwB]
            have : (p.toNat + 1) * BB ≤ 64 * BB := Nat.mul_le_mul_right _ (by omega)
            omega
        · obtain ⟨g, xs, rows, z9, z10, z11, z12, rfl, st, lr, bg⟩ := hq
          exact ⟨g, xs, rows, _, _, _, _, _, _, _, rfl, st, by omega, bg, by omega⟩
    · obtain ⟨g, xs, rows, x6, x7, x8, x9, x10, x11, x12, rfl, st, lr, bg, i3⟩ := hP
      have lrn : rows.length ≤ 180 := by omega
      have lxs : xs.length = rows.length := by rw [st.dq.len, List.length_map]
      have dq := dqa_un20 st.dq
      refine s_retPair20 (v := .ref rl) (fun _ _ _ e ⟨s, h1, h2⟩ => ⟨s, h1, e _ _ h2⟩) (ev_var rfl) (evP_sort20 (ev_var rfl) st.ht dq) fun y t H7 e7 hy ht => ?_
      obtain ⟨s, rfl, hs⟩ := hy
      have pm := srtD_perm (xs := xs) (ds := rows.map d3) dq.len
      have ms : ∀ d ∈ srtD xs (rows.map d3), ∃ r ∈ rows, d = d3 r := fun d hd => by
        obtain ⟨r, hr, rfl⟩ := List.mem_map.mp (pm.mem_iff.mp hd)
        exact ⟨r, hr, rfl⟩
      have es := d3_rows20 (ds := srtD xs (rows.map d3)) fun d hd => by
        obtain ⟨r, _, e⟩ := ms d hd
        exact ⟨r, e⟩
      have sd := srt_dqa dq
      rw [es] at sd
      refine q t rl s g (srtV xs (rows.map d3)) ((srtD xs (rows.map d3)).map rowT) _ (st.ex.trans e7) ht (e7 _ _ st.hr) st.len (fun m => Nat.lt_of_lt_of_le (bg m) (Nat.pow_le_pow_right (by decide) (by omega))) hs (sd.mono e7) ⟨?_, fun r hr => ?_⟩
      · have := pm.length_eq
        rw [List.length_map] at this
        rw [List.length_map]
        omega
      · obtain ⟨d, hd, rfl⟩ := List.mem_map.mp hr
        obtain ⟨r', hr', rfl⟩ := ms d hd
        exact st.num r' hr'
end

/-! ### what any rows come to, of the law -/
def spLc20 (K : PySem.W.Frag) : Sp := fun vs H Q _ => ∃ (n : Nat) (a : Addr) (xs : List V) (rows : List I3), vs = [.int (n : Nat), .ref a] ∧ 1 ≤ n ∧ n ≤ 61 ∧ SqL K H a xs ∧ Trs K H xs rows ∧ (∀ r ∈ rows, 1 ≤ r.1 ∧ r.1 ≤ 61 ∧ r.2.1.natAbs ≤ 1000) ∧ ∀ g : List Int, g.length = n → RetL (g.map V.int) H Q
section
variable {P : Program} {w : World} {K : PySem.W.Frag} {mg : Str → Option Value} {base : Heap}
theorem cal_lc20 (nb : Nb mg) (d : Dfn K mg "_law_come_to" ["_law_n", "_law_wheels"] s__law_come_to) : Cal P w K mg base CX0 "_law_come_to" 1 ["_law_n", "_law_wheels"] (spLc20 K) := by
  refine d.cal sc__law_come_to (fun vs H Q E h => ?_) (fun fa cdv A outer s H vs Q E hr h => ?_)
  · obtain ⟨n, a, xs, rows, rfl, _⟩ := h
    rfl
  · obtain ⟨n, a, xs, rows, rfl, n1, n2, hA, hR, hW, q⟩ := h
    refine ⟨_, (pss_cons (ps_set (i := 2) sc__law_come_to.nd rfl (.inl rfl) (pe_op op_rep (pe_lst (pa_cons pe_int pa_nil)) (pv 0)))
      (pss_cons (ps_for PassesOwn.never rfl (pi_list (pv 1)) (pg_tup (by rfl) (pgs_cons (pg_name (i := 3) sc__law_come_to.nd rfl (.inl rfl)) (pgs_cons (pg_name (i := 4) sc__law_come_to.nd rfl (.inl rfl)) (pgs_cons (pg_name (i := 5) sc__law_come_to.nd rfl (.inl rfl)) pgs_nil)))) (pss_one (ps_for PassesOwn.never rfl (pi_range1 (by rfl) nb.range (pa_cons (pv 3) pa_nil)) (pg_name (i := 6) sc__law_come_to.nd rfl (.inl rfl)) (pss_cons (ps_set (i := 7) sc__law_come_to.nd rfl (.inl rfl) (pe_op op_mod (pe_op op_add (pv 4) (pe_op op_mulW (pv 6) (pe_op op_fdivW (pv 0) (pv 3)))) (pv 0)))
      (pss_one (ps_asg (pe_op op_add (pe_ix ix_list (pv 2) (pv 7) (fun _ _ => rfl)) (pv 5)) (pg_sub (pv 2) (pv 7) set_list)))))))
      (pss_one (ps_ret (pv 2))))), ?_⟩
    refine q_asgL (xs := (List.replicate n (0 : Int)).map V.int) (el_is (el_rep (k := (n : Int)) (el_lst (by one_place) (by decide)) (by one_place) (by omega) (by omega)) (by rw [List.map_replicate, Int.toNat_natCast])) fun t H1 nt e1 h1 => ?_
    refine q_forT3 (xs := xs) (rows := rows) (by one_place) (fun i σ' H' => ∃ (T : List Int) (x1 x2 x3 x4 x5 : Option V), σ' = [some (.int (n : Nat)), some (.ref a), some (.ref t), x1, x2, x3, x4, x5] ∧ Ex H H' ∧ H' t = some (.lst (T.map V.int)) ∧ T.length = n)
      (fun H3 e3 => ⟨_, none, none, none, none, none, rfl, e1.trans e3, e3 _ _ h1, List.length_replicate⟩) (fun i σ' H' hp => ?_) (fun i r σ' H' hr hp => ?_) (fun σ' H' hp => ?_)
    · obtain ⟨_, _, _, _, _, _, _, e, _⟩ := hp
      exact ⟨ex_l e hA, hR.mono e⟩
    · obtain ⟨T, x1, x2, x3, x4, x5, rfl, e2, h2, lT⟩ := hp
      obtain ⟨w1, w2, w3⟩ := hW r (List.mem_of_getElem? hr)
      have s1 := Int.ediv_le_self r.1 (show 0 ≤ (n : Int) by omega)
      have s0 := Int.ediv_nonneg (show 0 ≤ (n : Int) by omega) (show 0 ≤ r.1 by omega)
      refine s_forR1 (n := r.1) (by one_place) (by omega) (fun k σ' H' => ∃ (T : List Int) (x4 x5 : Option V), σ' = [some (.int (n : Nat)), some (.ref a), some (.ref t), some (.int r.1), some (.int r.2.1), some (.int r.2.2), x4, x5] ∧ Ex H H' ∧ H' t = some (.lst (T.map V.int)) ∧ T.length = n)
        (fun H3 e3 => ⟨T, _, _, rfl, e2.trans e3, e3 _ _ h2, lT⟩) (fun k σ' H' hk hp => ?_) (fun σ' H' hp => ?_)
      · obtain ⟨T, x4, x5, rfl, e3, h3, lT⟩ := hp
        have a0 := Int.emod_nonneg (r.2.1 + (k : Int) * ((n : Int) / r.1)) (show (n : Int) ≠ 0 by omega)
        have a1 := Int.emod_lt_of_pos (r.2.1 + (k : Int) * ((n : Int) / r.1)) (show 0 < (n : Int) by omega)
        obtain ⟨pos, epos, pl⟩ : ∃ b : Nat, (b : Int) = (r.2.1 + (k : Int) * ((n : Int) / r.1)) % (n : Int) ∧ b < n := ⟨((r.2.1 + (k : Int) * ((n : Int) / r.1)) % (n : Int)).toNat, by omega, by omega⟩
        refine q_asg (v := .int (pos : Nat)) (ev_is (ev_mod (ev_add (ev_var rfl) (ev_mul (ev_var rfl) (ev_div (ev_var rfl) (ev_var rfl) (divW (by omega) (by omega))) (mulW (by omega) (by omega)))) (ev_var rfl) (by omega)) (by rw [epos])) fun H4 e4 => ?_
        exact s_setI (j := pos) (b := coef T pos + r.2.2) (e4 _ _ h3) (by one_place) (by one_place) (by omega) (ev_add (ev_ixI (j := pos) (SqL.of (e4 _ _ h3)) (ev_var rfl) (ev_var rfl) (coef_get (by omega))) (ev_var rfl)) fun H5 e5 => ⟨_, _, _, rfl, Ex.mut ((e3.trans e4).trans e5) nt, upd_same, by rw [List.length_set]; exact lT⟩
      · obtain ⟨T, x4, x5, rfl, e3, h3, lT⟩ := hp
        exact ⟨T, _, _, _, _, _, rfl, e3, h3, lT⟩
    · obtain ⟨T, x1, x2, x3, x4, x5, rfl, e2, h2, lT⟩ := hp
      exact s_ret (v := .ref t) (by one_place) fun H3 e3 => q T lT t H3 nt (e2.trans e3) (e3 _ _ h2)
end

/-! ### drawn sums with bounds -/
theorem bd_mono {a b : Nat} {f : List Int} (h : Bd a f) (l : a ≤ b) : Bd b f := fun m => Nat.lt_of_lt_of_le (h m) (Nat.pow_le_pow_right (by decide) l)
theorem bd_set {b i : Nat} {f : List Int} {x : Int} (h : Bd b f) (hx : x.natAbs < 2 ^ b) : Bd b (f.set i x) := fun m => by
  by_cases hi : i < f.length
  · rw [coef_set hi]
    split
    · exact hx
    · exact h m
  · rw [List.set_eq_of_length_le (by omega)]
    exact h m
theorem cms_bd {n : Nat} {rows : List I3} (ok : RowOk (n : Int) rows) : Bd 120 (cmS n rows) := fun m => by
  have key : ∀ rows : List I3, (∀ r ∈ rows, r.2.2.natAbs < 2 ^ 110) → (cmAt (n : Int) rows m).natAbs ≤ rows.length * 2 ^ 110 := by
    intro rows
    induction rows with
    | nil => intro _; show (0 : Int).natAbs ≤ _; omega
    | cons r rows ih =>
      intro h
      have h1 := ih fun r hr => h r (List.mem_cons_of_mem _ hr)
      have h2 := h r List.mem_cons_self
      show (wh n r m + cmAt n rows m).natAbs ≤ _
      have h3 : (wh n r m).natAbs ≤ 2 ^ 110 := by
        unfold wh
        split
        · omega
        · omega
      rw [List.length_cons, Nat.succ_mul]
      omega
  unfold cmS
  rw [coef_mkL]
  split
  · have h := key rows fun r hr => (ok.num r hr).2
    have l := ok.len
    have : rows.length * 2 ^ 110 ≤ 13 * 2 ^ 110 := Nat.mul_le_mul_right _ l
    omega
  · exact Nat.two_pow_pos _
section
variable {K : PySem.W.Frag} {σ : L2.St} {H : Hp} {t0 te : TE} {D : Ends} {tz : TS} {ta : TE} {tb : TE} {x y z : V} {r : R2}
/-- x = come_to(n, f(..)), f telling drawn rows -/
theorem q_asgCome {spr : Sp} {tr : TA} {vs : List V} {E E2 : XK} {i : Nat} {n : Nat} (h0 : Ev t0 σ H (.int (n : Nat))) (h : EvA tr σ H vs) (hs : ∀ H1, Ex H H1 → ∀ Q : VK, (∀ rows, RowOk n rows → RetT K rows H1 Q) → ∀ E : XK, spr vs H1 Q E) (hn : n ≤ 400)
    (k : ∀ (f : List Int) (p : Addr) (H1 : Hp), f.length = n → Bd 120 f → H p = none → Ex H H1 → H1 p = some (.lst (f.map V.int)) → tz D (σ.set i (some (.ref p))) H1) : tSeq (tAsg (tCall (spCome K) [] E (tCons t0 (tCons (tCall spr [] E2 tr) tNil))) (gName i)) tz D σ H :=
  h0 H (Ex.refl H) _ fun H1 e1 => h H1 e1 _ fun H2 e2 => by
    show spr (vs ++ []) H2 _ E2
    rw [List.append_nil]
    refine hs H2 (e1.trans e2) _ (fun rows ok p xs H3 np e3 h3 R => ?_) E2
    show spCome K ([.int (n : Nat), .ref p] ++ []) H3 _ E
    refine ⟨n, p, xs, rows, rfl, hn, SqL.of h3, R, ok.whl, fun s H4 ns e4 h4 => ?_⟩
    exact k _ s H4 (mkL_len _ _) (cms_bd ok) (fresh_back (e1.trans (e2.trans e3)) ns) (e1.trans (e2.trans (e3.trans e4))) h4
end
/- _law_drawn_sum: slots 0 _law_n, 1 _law_cell, 2 _law_pick, 3 _law_some, 4 _law_at; calls _law_mix, _law_come_to, _law_row, _law_sum -/
abbrev s__law_drawn_sum : Stmt := topS 27
theorem sc__law_drawn_sum : FnScope ["_law_n", "_law_cell", "_law_pick", "_law_some", "_law_at"] ["_law_n", "_law_cell"] (defScope s__law_drawn_sum) := ⟨rfl, rfl, rfl, by decide +kernel, rfl, by decide +kernel, by decide +kernel⟩

def spDrawn : Sp := fun vs H Q _ => ∃ (n : Nat) (c : Int), vs = [.int (n : Nat), .int c] ∧ 1 ≤ n ∧ n ≤ 61 ∧ ∀ f : List Int, f.length = n → Bd 200 f → RetL (f.map V.int) H Q
def oneN (z : Int) : Int := ([1, 0 - 1, 1000000000000000000000000000000] : List Int).getD (z / 1024 % 3).toNat 0
def wideN (m : Int) : Int := ([1, 1000000000000000000000000000000] : List Int).getD (m / 4 % 2).toNat 0
theorem oneN_bd (z : Int) : (oneN z).natAbs < 2 ^ 110 := by
  unfold oneN
  have e : (z / 1024 % 3).toNat = 0 ∨ (z / 1024 % 3).toNat = 1 ∨ (z / 1024 % 3).toNat = 2 := by omega
  rcases e with e | e | e <;> rw [e] <;> decide
theorem wideN_bd (m : Int) : (wideN m).natAbs < 2 ^ 110 := by
  unfold wideN
  have e : (m / 4 % 2).toNat = 0 ∨ (m / 4 % 2).toNat = 1 := by omega
  rcases e with e | e <;> rw [e] <;> decide
section
variable {P : Program} {w : World} {K : PySem.W.Frag} {mg : Str → Option Value} {base : Heap}
theorem cal_drawn (nb : Nb mg) (c__law_mix : Cal P w K mg base CX0 "_law_mix" 1 ["_law_cell", "_law_k"] spMix) (c__law_come_to : Cal P w K mg base CX0 "_law_come_to" 1 ["_law_n", "_law_wheels"] (spCome K)) (c__law_row : Cal P w K mg base CX0 "_law_row" 2 ["_law_n", "_law_cell", "_law_place"] (spLRow K)) (c__law_sum : Cal P w K mg base CX0 "_law_sum" 2 ["_law_n", "_law_cell", "_law_wide"] spLSum)
    (d : Dfn K mg "_law_drawn_sum" ["_law_n", "_law_cell"] s__law_drawn_sum) : Cal P w K mg base CX0 "_law_drawn_sum" 3 ["_law_n", "_law_cell"] spDrawn := by
  refine d.cal sc__law_drawn_sum (fun vs H Q E h => ?_) (fun fa cdv A outer s H vs Q E hr h => ?_)
  · obtain ⟨n, c, rfl, _⟩ := h
    rfl
  · obtain ⟨n, c, rfl, n1, n2, q⟩ := h
    refine ⟨_, (pss_cons (ps_set (i := 2) sc__law_drawn_sum.nd rfl (.inl rfl) (pe_cal c__law_mix (hr.mono (by first | decide | omega)) (by rfl) pass0 (pa_cons (pv 1) (pa_cons pe_int pa_nil))))
      (pss_cons (ps_set (i := 3) sc__law_drawn_sum.nd rfl (.inl rfl) (pe_cal c__law_come_to (hr.mono (by first | decide | omega)) (by rfl) pass0 (pa_cons (pv 0) (pa_cons (pe_cal c__law_row (hr.mono (by first | decide | omega)) (by rfl) pass0 (pa_cons (pv 0) (pa_cons (pv 1) (pa_cons pe_int pa_nil)))) pa_nil))))
      (Evl.pss_cut (ps_if (pt_cmpR op_eq (pe_op op_mod (pv 2) pe_int) pe_int (nomark _)) (pss_one (ps_set (i := 3) sc__law_drawn_sum.nd rfl (.inl rfl) (pe_cal c__law_sum (hr.mono (by first | decide | omega)) (by rfl) pass0 (pa_cons (pv 0) (pa_cons (pv 1) (pa_cons (pe_ix ix_list (pe_lst (pa_cons pe_int (pa_cons (pe_op op_powW pe_int pe_int) pa_nil))) (pe_op op_mod (pe_op op_fdivW (pv 2) pe_int) pe_int) (fun _ _ => rfl)) pa_nil)))))) pss_nil)
      (Evl.pss_cut (ps_if (pt_cmpR op_eq (pe_op op_mod (pv 2) pe_int) pe_int (nomark _)) (pss_cons (ps_set (i := 4) sc__law_drawn_sum.nd rfl (.inl rfl) (pe_op op_mod (pe_op op_fdivW (pv 2) pe_int) (pv 0)))
      (pss_cons (ps_asg (pe_op op_add (pe_ix ix_list (pv 3) (pv 4) (fun _ _ => rfl)) (pe_ix ix_list (pe_lst (pa_cons pe_int (pa_cons (pe_op op_sub pe_int pe_int) (pa_cons (pe_op op_powW pe_int pe_int) pa_nil)))) (pe_op op_mod (pe_op op_fdivW (pv 2) pe_int) pe_int) (fun _ _ => rfl))) (pg_sub (pv 3) (pv 4) set_list))
      (pss_one (ps_asg (pe_op op_add (pe_ix ix_list (pv 3) (pe_op op_mod (pe_op op_fdivW (pv 2) pe_int) (pv 0)) (fun _ _ => rfl)) (pe_op op_mod (pe_op op_fdivW (pv 2) pe_int) pe_int)) (pg_sub (pv 3) (pe_op op_mod (pe_op op_fdivW (pv 2) pe_int) (pv 0)) set_list))))) pss_nil)
      (pss_one (ps_ret (pv 3))))))), ?_⟩
    have z0 := mix_nn c 21
    have z1 := mix_le c 21
    refine q_asg (v := .int (mix c 21)) (ev_cal (by one_place) fun H1 e1 Q k E => ⟨c, 21, rfl, by decide, by decide, k⟩) fun H1 e1 => ?_
    generalize mix c 21 = z at *
    refine q_asgCome (n := n) (vs := [.int (n : Nat), .int c, .int 0]) (by one_place) (by one_place) (fun H2 e2 Q k E => ⟨n, c, 0, rfl, by decide, by decide, by omega, by omega, k⟩) (by omega) fun f p H2 lf bf np e2 h2 => ?_
    have e12 := e1.trans e2
    refine q_cut (M := fun σ' H' => ∃ (f : List Int) (p : Addr), σ' = [some (.int (n : Nat)), some (.int c), some (.int z), some (.ref p), none] ∧ Ex H H' ∧ H p = none ∧ H' p = some (.lst (f.map V.int)) ∧ f.length = n ∧ Bd 120 f) ?_ ?_
    · refine s_when (b := decide (z % 4 = 0)) (by one_place) (fun hb H3 e3 => ?_) (fun hb H3 e3 => ⟨f, p, rfl, e12.trans e3, fresh_back e1 np, e3 _ _ h2, lf, bf⟩)
      refine s_asgL (xs := (lsumF n c (wideN z)).map V.int) (el_cal (vs := [.int (n : Nat), .int c, .int (wideN z)]) (ea_cons (by one_place) (ea_cons (by one_place) (ea_cons (ev_ixN (ns := [1, 1000000000000000000000000000000]) (el_lst (ea_cons (by one_place) (ea_cons (ev_pow (i := 10) (j := 30) ev_c ev_c ⟨by decide, by decide +kernel⟩ (by rfl)) ea_nil)) (by show 2 ≤ 100000; decide)) (fun _ _ => by one_place) (by omega) (by simp; omega)) ea_nil))) fun H4 e4 Q k E => ⟨n, c, wideN z, rfl, by omega, by omega, wideN_bd z, k⟩) fun p H4 np e4 h4 => ⟨_, p, rfl, (e12.trans e3).trans e4, fresh_back (e12.trans e3) np, h4, ?_, lsumF_bd n c _ (wideN_bd z)⟩
      have := lsumF_len n c (wideN z) (by omega)
      omega
    · rintro σ' H3 ⟨f, p, rfl, e3, np, h3, lf, bf⟩
      refine q_cut (M := fun σ' H' => ∃ (f : List Int) (p : Addr) (x : Option V), σ' = [some (.int (n : Nat)), some (.int c), some (.int z), some (.ref p), x] ∧ Ex H H' ∧ H p = none ∧ H' p = some (.lst (f.map V.int)) ∧ f.length = n ∧ Bd 200 f) ?_ ?_
      · refine s_when (b := decide (z % 4 = 1)) (by one_place) (fun hb H4 e4 => ?_) (fun hb H4 e4 => ⟨f, p, _, rfl, e3.trans e4, np, e4 _ _ h3, lf, bd_mono (b := 200) bf (by decide)⟩)
        have a0 := Int.emod_nonneg (z / 8) (show (n : Int) ≠ 0 by omega)
        have a1 := Int.emod_lt_of_pos (z / 8) (show 0 < (n : Int) by omega)
        have b0 := Int.emod_nonneg (z / 64) (show (n : Int) ≠ 0 by omega)
        have b1 := Int.emod_lt_of_pos (z / 64) (show 0 < (n : Int) by omega)
        have ea : (((z / 8 % (n : Int)).toNat : Nat) : Int) = z / 8 % (n : Int) := by omega
        have eb : (((z / 64 % (n : Int)).toNat : Nat) : Int) = z / 64 % (n : Int) := by omega
        refine q_asg (v := .int (((z / 8 % (n : Int)).toNat : Nat) : Int)) (ev_is (ev_mod (ev_div (ev_var rfl) ev_c (divW (by omega) (by omega))) (ev_var rfl) (by omega)) (by rw [ea])) fun H5 e5 => ?_
        have hat : (z / 8 % (n : Int)).toNat < f.length := by omega
        have hbt : (z / 64 % (n : Int)).toNat < f.length := by omega
        generalize (z / 8 % (n : Int)).toNat = at' at *
        generalize hbt' : (z / 64 % (n : Int)).toNat = bt at *
        refine q_setI (j := at') (b := coef f at' + oneN z) (e5 _ _ (e4 _ _ h3)) (ev_var rfl) (ev_var rfl) hat (ev_add (ev_ixI (j := at') (SqL.of (e5 _ _ (e4 _ _ h3))) (ev_var rfl) (ev_var rfl) (coef_get hat)) (ev_ixN (ns := [1, 0 - 1, 1000000000000000000000000000000]) (el_lst (ea_cons (by one_place) (ea_cons (by one_place) (ea_cons (ev_pow (i := 10) (j := 30) ev_c ev_c ⟨by decide, by decide +kernel⟩ (by rfl)) ea_nil))) (by show 3 ≤ 100000; decide)) (fun _ _ => by one_place) (by omega) (by simp; omega))) fun H6 e6 => ?_
        have lf2 : (f.set at' (coef f at' + oneN z)).length = n := by rw [List.length_set]; exact lf
        have bf2 : Bd 130 (f.set at' (coef f at' + oneN z)) := bd_set (bd_mono bf (by decide)) (by
          have h1 := bf at'
          have h2 := oneN_bd z
          omega)
        generalize f.set at' (coef f at' + oneN z) = f2 at *
        have ebt : ∀ {σ : L2.St} {H : Hp}, σ[2]? = some (some (.int z)) → σ[0]? = some (some (.int (n : Nat))) → Ev (tOp (rI (fun _ j => 0 < j) fun i j => .int (i % j)) (tOp (rI CDivW fun i j => .int (i / j)) (tVar 2) (tC (.int 64))) (tVar 0)) σ H (.int (bt : Nat)) := fun h1 h2 => ev_is (ev_mod (ev_div (ev_var h1) ev_c (divW (by omega) (by omega))) (ev_var h2) (by omega)) (by rw [eb])
        refine s_setI (j := bt) (b := coef f2 bt + z / 4 % 2) (ns := f2) upd_same (by one_place) (ebt rfl rfl) (by omega) (ev_add (ev_ixI (j := bt) (ns := f2) (SqL.of upd_same) (ev_var rfl) (ebt rfl rfl) (coef_get (by omega))) (by one_place)) fun H7 e7 => ⟨_, p, _, rfl, Ex.mut ((Ex.mut ((e3.trans e4).trans (e5.trans e6)) np).trans e7) np, np, upd_same, by rw [List.length_set]; exact lf2, bd_mono (bd_set (b := 140) (bd_mono bf2 (by decide)) (by
          have h1 := bf2 bt
          omega)) (by decide)⟩
      · rintro σ' H4 ⟨f, p, x, rfl, e4, np, h4, lf, bf⟩
        exact s_ret (v := .ref p) (by one_place) fun H5 e5 => q f lf bf p H5 np (e4.trans e5) (e5 _ _ h4)
end

/-! ### rows drawn, of the law: told as they stand -/
def RetTD (rows : List I3) (H : Hp) (Q : VK) : Prop := ∀ p xs H2, H p = none → Ex H H2 → H2 p = some (.lst xs) → DqAll H2 xs (rows.map d3) → Q (.ref p) H2
section
variable {K : PySem.W.Frag} {σ : L2.St} {H H' : Hp} {ta tb te tl to ti : TE} {t : TT} {x y z v : V} {D : Ends} {tu tz : TS} {vs : List Nat}
theorem et3_keysD {td t3 : TE} {ta1 : TE} {ta2 : TE} {d : Addr} {ks : List ((Int × Int) × Int)} {j1 j2 : Nat} (hd : H d = some (.dT (ks.map encD))) (hn : (ks.map (·.1)).Nodup) (hz : ks.length ≤ 40000) (ho : Ev td σ H (.ref d)) (hw : ∀ x y, wipe (((wipe σ vs).set j1 (some x)).set j2 (some y)) vs = wipe σ vs)
    (he : ∀ a b c H1, Ex H H1 → ((a, b), c) ∈ ks → Ev ta1 (((wipe σ vs).set j1 (some (.int a))).set j2 (some (.int b))) H1 (.int a) ∧ Ev ta2 (((wipe σ vs).set j1 (some (.int a))).set j2 (some (.int b))) H1 (.int b) ∧ Ev t3 (((wipe σ vs).set j1 (some (.int a))).set j2 (some (.int b))) H1 (.int c))
    (Q : VK) (q : ∀ rows, SortedRows ks rows → RetTD rows H Q) :
    tLc (iList K (tCB rSortKeys (tCons (tBM0 K "dict" rKeysT td) tNil))) (gTup K 2 (gCons (gName j1) (gCons (gName j2) gNil))) tYes (tTup (tCons ta1 (tCons ta2 (tCons t3 tNil)))) vs σ H Q :=
  ho H (Ex.refl H) _ fun H1 e1 => ⟨.inr (.inr (.inl ⟨rfl, .inr ⟨_, e1 _ _ hd⟩⟩)), d, _, rfl, rfl, e1 _ _ hd, fun p np => by
    have ep : Ex H1 (upd H1 p (keysO p d)) := Ex.new np
    refine ⟨p, d, ks.map fun e => (e.1, V.int e.2), rfl, upd_same, ?_, fun zs l hperm hsort hz1 nl => ?_⟩
    · rw [List.map_map]
      exact ep _ _ (e1 _ _ hd)
    rw [List.map_map] at hperm
    -- the values
    have hex : ∀ z ∈ zs, ∃ c, (z.2, c) ∈ ks := fun z hz => by
      have h1 : z.2 ∈ ks.map (·.1) := hperm.mem_iff.mp (List.mem_map_of_mem (f := (·.2)) hz)
      obtain ⟨e, he, h2⟩ := List.mem_map.mp h1
      exact ⟨e.2, by rw [← h2]; exact he⟩
    let val (k : Int × Int) : Int := ((ks.find? fun e => decide (e.1 = k)).map (·.2)).getD 0
    have hval : ∀ {k c}, (k, c) ∈ ks → val k = c := by
      intro k c hm
      have := val_enc hn hm
      have key : ∀ {ks : List ((Int × Int) × Int)}, (ks.map (·.1)).Nodup → (k, c) ∈ ks → ks.find? (fun e => decide (e.1 = k)) = some (k, c) := by
        intro ks
        induction ks with
        | nil => exact fun _ h => nomatch h
        | cons e ks ih =>
          intro hn hm
          rw [List.map_cons, List.nodup_cons] at hn
          rw [List.find?_cons]
          rcases List.mem_cons.mp hm with rfl | hm
          · rw [decide_eq_true rfl]
          · have ne : e.1 ≠ k := fun z => hn.1 (by rw [z]; exact List.mem_map.mpr ⟨(k, c), hm, rfl⟩)
            rw [decide_eq_false ne]
            exact ih hn.2 hm
      show ((ks.find? fun e => decide (e.1 = k)).map (·.2)).getD 0 = c
      rw [key hn hm]
      rfl
    have hvm : ∀ z ∈ zs, ((z.2.1, z.2.2), val z.2) ∈ ks := fun z hz => by
      obtain ⟨c, hc⟩ := hex z hz
      rw [hval hc]
      exact hc
    have hlen : zs.length = ks.length := by
      have := hperm.length_eq
      rwa [List.length_map, List.length_map] at this
    have e2 : Ex H1 (upd (upd H1 p (keysO p d)) l (.lst (zs.map fun z => V.ref z.1))) := ep.trans (Ex.new nl)
    generalize hH2 : upd (upd H1 p (keysO p d)) l (.lst (zs.map fun z => V.ref z.1)) = H2 at e2
    have hl2 : H2 l = some (.lst (zs.map fun z => V.ref z.1)) := by rw [← hH2, upd_same]
    have hz2 : ∀ z ∈ zs, H2 z.1 = some (.tup [.int z.2.1, .int z.2.2]) := fun z hz => by
      rw [← hH2]
      exact Ex.new nl _ _ (hz1 z hz)
    refine ⟨l, rfl, ⟨_, sq_of hl2⟩, fun Dl hD => ?_⟩
    refine lc_list (xs := zs.map fun z => V.ref z.1) (fun n H' => H2 Dl = none ∧ Ex H2 H' ∧ ∃ xs, H' Dl = some (.lst xs) ∧ DqAll (hid [Dl] H') xs (((zs.take n).map fun z => (z.2.1, z.2.2, val z.2)).map d3)) ⟨hD, Ex.new hD, [], upd_same, .nil⟩ (fun n H' _ p => sq_of (p.2.1 _ _ hl2)) (fun n x H' hx p => ?_) (fun H' p => ?_)
    · obtain ⟨p1, p2, xs, p3, p4⟩ := p
      rw [List.getElem?_map] at hx
      obtain ⟨z, hzn, rfl⟩ := Option.map_eq_some_iff.mp hx
      have hm := List.mem_of_getElem? hzn
      have hzt := p2 _ _ (hz2 z hm)
      refine ⟨z.1, _, rfl, SqT.of hzt, rfl, .int z.2.1, [.int z.2.2], rfl, .int z.2.2, [], rfl, rfl, hw _ _, ?_⟩
      refine et_yes (H := H') _ (Ex.refl _) _ fun H3 e3 => ?_
      rw [if_pos rfl]
      have e03 : Ex H H3 := (e1.trans e2).trans (p2.trans e3)
      obtain ⟨g1, g2, g3⟩ := he z.2.1 z.2.2 (val z.2) H3 e03 (hvm z hm)
      refine g1 H3 (Ex.refl _) _ fun H4 e4 => g2 H4 e4 _ fun H5 e5 => g3 H5 (e4.trans e5) _ fun H6 e6 => ⟨sz_of (show 3 ≤ 100000 by decide), fun T nT => ?_⟩
      have e37 : Ex H' (upd H6 T (.tup [.int z.2.1, .int z.2.2, .int (val z.2)])) := (e3.trans (e4.trans (e5.trans e6))).trans (Ex.new nT)
      have hDl := e37 _ _ p3
      refine ⟨_, hDl, ?_, p1, Ex.mut (p2.trans e37) p1, xs ++ [.ref T], upd_same, ?_⟩
      · refine sz_lt ?_
        rw [p4.len, List.length_map, List.length_map, List.length_take]
        omega
      · have et : zs.take (n + 1) = zs.take n ++ [z] := by rw [List.take_add_one, hzn]; rfl
        have TD : T ≠ Dl := fun w => by
          have h := (e3.trans (e4.trans (e5.trans e6))) _ _ p3
          rw [w, h] at nT
          cases nT
        rw [et, List.map_append, List.map_append, hid_upd List.mem_cons_self]
        refine (p4.mono (hid_ex e37)).app (.cons (.tup (xs := [.int z.2.1, .int z.2.2, .int (val z.2)]) ?_ (.cons (.int _) (.cons (.int _) (.cons (.int _) .nil)))) .nil)
        rw [hid_out (fun m => TD (List.mem_singleton.mp m))]
        exact upd_same
    · obtain ⟨p1, p2, xs, p3, p4⟩ := p
      rw [List.length_map, List.take_length] at p4
      refine q _ ⟨?_, ?_⟩ Dl xs H' (fresh_back (e1.trans e2) p1) ((e1.trans e2).trans p2) p3 (dqa_un20 p4)
      · rw [List.map_map]
        have e3 : zs.map ((fun r : I3 => ((r.1, r.2.1), r.2.2)) ∘ fun z => (z.2.1, z.2.2, val z.2)) = (zs.map (·.2)).map fun k => (k, val k) := by
          rw [List.map_map]
          rfl
        rw [e3]
        have e4 : ks = (ks.map (·.1)).map fun k => (k, val k) := by
          rw [List.map_map]
          conv => lhs; rw [← List.map_id ks]
          refine List.map_congr_left fun e he => ?_
          show e = (e.1, val e.1)
          rw [hval (k := e.1) (c := e.2) he]
        have hp2 : (zs.map (·.2)).Perm (ks.map (·.1)) := hperm
        have := hp2.map fun k => (k, val k)
        rwa [← e4] at this
      · rw [List.pairwise_map]
        have hnd : (zs.map (·.2)).Nodup := by
          have hp2 : (zs.map (·.2)).Perm (ks.map (·.1)) := hperm
          exact hp2.nodup_iff.mpr hn
        have h3 := List.pairwise_map.mp hsort
        have h4 := List.pairwise_map.mp hnd
        refine (List.Pairwise.and h3 h4).imp fun {x y} h => ?_
        have h5 := SrtO.lexB_no.mp h.1
        have h6 : ¬ (x.2.1 = y.2.1 ∧ x.2.2 = y.2.2) := fun z => h.2 (Prod.ext z.1 z.2)
        show x.2.1 < y.2.1 ∨ x.2.1 = y.2.1 ∧ x.2.2 < y.2.2
        omega⟩
end
def spLRowD : Sp := fun vs H Q _ => ∃ n c pl : Int, vs = [.int n, .int c, .int pl] ∧ 0 ≤ pl ∧ pl ≤ 20 ∧ 1 ≤ n ∧ n ≤ 61 ∧ ∀ rows, RowOk n rows → RetTD rows H Q
theorem lrow_of {K : PySem.W.Frag} {vs : List V} {H : Hp} {Q : VK} {E : XK} (h : spLRow K vs H Q E) : spLRowD vs H Q E := by
  obtain ⟨n, c, pl, rfl, a, b, c', d, q⟩ := h
  exact ⟨n, c, pl, rfl, a, b, c', d, fun rows ok p xs H2 np e hp g => q rows ok p xs H2 np e hp (trs_d3 g)⟩
section
variable {P : Program} {w : World} {K : PySem.W.Frag} {mg : Str → Option Value} {base : Heap}
theorem cal_lrowD (nb : Nb mg) (c__law_mix : Cal P w K mg base CX0 "_law_mix" 1 ["_law_cell", "_law_k"] spMix) (c__law_parted : Cal P w K mg base CX0 "_law_parted" 1 ["_law_n"] (spLParted K)) (d : Dfn K mg "_law_row" ["_law_n", "_law_cell", "_law_place"] s__law_row) : Cal P w K mg base CX0 "_law_row" 2 ["_law_n", "_law_cell", "_law_place"] spLRowD := by
  refine d.cal sc__law_row (fun vs H Q E h => ?_) (fun fa cdv A outer s H vs Q E hr h => ?_)
  · obtain ⟨n, c, pl, rfl, _⟩ := h
    rfl
  · obtain ⟨n, c, pl, rfl, pl0, pl1, n1, n2, q⟩ := h
    have N := nok n1 n2
    have m0 := mix_nn c pl
    refine ⟨_, (pss_cons (ps_setLc (i := 4) (own := [("_law_p", 3), ("_law_often", 9)]) (g := gTup K 2 (gCons (gName 3) (gCons (gName 9) gNil))) (tt := tYes) (by rfl) sc__law_row.nd rfl rfl (sw_true rfl rfl rfl (by decide +kernel)) (pi_list (pe_cal c__law_parted (hr.mono (by first | decide | omega)) (by rfl) pass0 (pa_cons (pv 0) pa_nil))) (blkOk_by (N := ["_law_n", "_law_cell", "_law_place", "_law_p", "_law_primes", "_law_told", "_law_k", "_law_pick", "_law_c", "_law_often", "_law_j"]) (sc := defScope s__law_row) (by decide +kernel)) (fun _ _ _ _ _ => (pg_tup (by rfl) (pgs_cons (pg_name (i := 3) sc__law_row.nd rfl (Or.inl rfl)) (pgs_cons (pg_name (i := 9) sc__law_row.nd rfl (Or.inl rfl)) pgs_nil)))) (fun _ _ _ _ _ => pts_nil) (fun _ _ _ _ _ => (pv 3)))
      (pss_cons (ps_set (i := 5) sc__law_row.nd rfl (.inr rfl) pe_dnewT)
      (pss_cons (ps_for PassesOwn.never rfl (pi_range1 (by rfl) nb.range (pa_cons (pe_op op_mulW (pe_op op_mod (pe_cal c__law_mix (hr.mono (by first | decide | omega)) (by rfl) pass0 (pa_cons (pv 1) (pa_cons (pv 2) pa_nil))) pe_int) (pe_callTy call_int1 (by rfl) nb.int (by decide +kernel) (pa_cons (pe_cmpR (op_neD hr.units) (pv 4) (pe_lst pa_nil) (nomark _)) pa_nil))) pa_nil)) (pg_name (i := 6) sc__law_row.nd rfl (.inl rfl)) (pss_cons (ps_set (i := 7) sc__law_row.nd rfl (.inl rfl) (pe_cal c__law_mix (hr.mono (by first | decide | omega)) (by rfl) pass0 (pa_cons (pv 1) (pa_cons (pe_op op_add (pe_op op_add (pv 2) pe_int) (pv 6)) pa_nil))))
      (pss_cons (ps_set (i := 3) sc__law_row.nd rfl (.inl rfl) (pe_ix ix_list (pv 4) (pe_op op_mod (pv 7) (pe_callB call_len_seq (by rfl) nb.len PySem.boot_len (pa_cons (pv 4) pa_nil))) (fun _ _ => rfl)))
      (pss_cons (ps_set (i := 8) sc__law_row.nd rfl (.inl rfl) (pe_ix ix_list (pe_lst (pa_cons (pe_op op_sub (pe_op op_mod (pe_op op_fdivW (pv 7) pe_int) pe_int) pe_int) (pa_cons (pe_op op_sub (pe_op op_powW pe_int pe_int) (pv 7)) (pa_cons pe_int pa_nil)))) (pe_op op_mod (pe_op op_fdivW (pv 7) pe_int) pe_int) (fun _ _ => rfl)))
      (pss_one (ps_if (pt_cmpR op_ne (pv 8) pe_int (nomark _)) (pss_one (ps_dput (hu_of hr) (pv 5) (pe_tup (pa_cons (pv 3) (pa_cons (pe_op op_mod (pe_op op_fdivW (pv 7) pe_int) (pe_op op_fdivW (pv 0) (pv 3))) pa_nil))) (pv 8) rfl)) pss_nil))))))
      (pss_one (ps_ret (pe_lc (own := [("_law_p", 3), ("_law_j", 10)]) (g := gTup K 2 (gCons (gName 3) (gCons (gName 10) gNil))) (tt := tYes) (by rfl) sc__law_row.nd (pi_list (pe_callB (cr_sortedKeys (by rfl)) (by rfl) nb.sorted (by decide +kernel) (pa_cons (pe_bm0 PySem.F.plainAttrs_dict PySem.F.slot_dict_keys PySem.F.type_dict_keys mt_keysT (pv 5)) pa_nil))) (blkOk_by (N := ["_law_n", "_law_cell", "_law_place", "_law_p", "_law_primes", "_law_told", "_law_k", "_law_pick", "_law_c", "_law_often", "_law_j"]) (sc := defScope s__law_row) (by decide +kernel)) (fun _ _ _ _ _ => (pg_tup (by rfl) (pgs_cons (pg_name (i := 3) sc__law_row.nd rfl (Or.inl rfl)) (pgs_cons (pg_name (i := 10) sc__law_row.nd rfl (Or.inl rfl)) pgs_nil)))) (fun _ _ _ _ _ => pts_nil) (fun _ _ _ _ _ => (pe_tup (pa_cons (pv 3) (pa_cons (pv 10) (pa_cons (pe_dget (hu_of hr) (pv 5) (pe_tup (pa_cons (pv 3) (pa_cons (pv 10) pa_nil))) (fun _ _ => rfl)) pa_nil))))))))))), ?_⟩
    refine q_asgL (xs := ((lpF n).map fun r => r.1).map V.int) (el_is (el_lcPN (rows := lpF n) (fun r => .int r.1) (ep_cal (by one_place) fun H3 e3 Q k E => ⟨n, rfl, by omega, by omega, k⟩) (by have := N.len; omega) (fun _ _ => rfl) fun r H1 e1 hr => ev_var rfl) (by rw [List.map_map]; rfl)) fun pr H1 npr e1 h1 => ?_
    refine q_asgD fun dd nd => ?_
    have eD : Ex H1 (upd H1 dd (.dT [])) := Ex.new nd
    have ndH : H dd = none := fresh_back e1 nd
    have h1' := eD _ _ h1
    have hll : ((lpF n).map fun r => r.1).length = (lpF n).length := List.length_map _
    refine q_forR1 (n := mix c pl % 13 * (if !decide (((lpF n).map fun r => r.1) = []) then 1 else 0)) (ea_cons (ev_mul (ev_mod (ev_cal (vs := [.int c, .int pl]) (by one_place) fun H2 e2 Q k E => ⟨c, pl, rfl, by omega, by omega, k⟩) ev_c (by decide)) (ev_int1b (ev_opL (xs := []) (ev_var rfl) (el_lst ea_nil (by decide)) fun p H2 hp e2 => rv_neI (ms := []) (SqL.of (e2 _ _ h1')) (SqL.of hp))) (mulW (by omega) (by split <;> decide))) ea_nil) (by split <;> omega)
      (fun i σ' H' => ∃ (ks : List ((Int × Int) × Int)) (x2 x5 x6 x7 : Option V), σ' = [some (.int n), some (.int c), some (.int pl), x2, some (.ref pr), some (.ref dd), x5, x6, x7, none, none] ∧ Ex H H' ∧ H' pr = some (.lst (((lpF n).map fun r => r.1).map V.int)) ∧ H' dd = some (.dT (ks.map encD)) ∧ (ks.map (·.1)).Nodup ∧ (∀ e ∈ ks, EntOk n e) ∧ ks.length ≤ i)
      (fun H2 e2 => ⟨[], none, none, none, none, rfl, (e1.trans eD).trans e2, e2 _ _ h1', e2 _ _ upd_same, List.nodup_nil, (fun _ h => nomatch h), Nat.le_refl _⟩) (fun i σ' H' hi hp => ?_) (fun σ' H' hp => ?_)
    · obtain ⟨ks, x2, x5, x6, x7, rfl, e2, hpr, hdd, hn, hk, hlen⟩ := hp
      have hne : ¬ ((lpF n).map fun r => r.1) = [] := by
        intro h
        rw [decide_eq_true h] at hi
        have : (mix c pl % 13 * 0 : Int) = 0 := Int.mul_zero _
        simp only [Bool.not_true, Bool.false_eq_true, if_false] at hi
        omega
      rw [decide_eq_false hne] at hi
      simp only [Bool.not_false, if_true, Int.mul_one] at hi
      have pos := List.length_pos_iff.mpr hne
      rw [hll] at pos
      have z0 := mix_nn c (pl + 1 + (i : Int))
      have z1 := mix_le c (pl + 1 + (i : Int))
      refine q_asg (v := .int (mix c (pl + 1 + (i : Int)))) (ev_cal (by one_place) fun H3 e3 Q k E => ⟨c, pl + 1 + (i : Int), rfl, by omega, by omega, k⟩) fun H3 e3 => ?_
      generalize mix c (pl + 1 + (i : Int)) = z at *
      have a0 := Int.emod_nonneg z (show ((lpF n).length : Int) ≠ 0 by omega)
      have a1 := Int.emod_lt_of_pos z (show 0 < ((lpF n).length : Int) by omega)
      have hget : (lpF n)[(z % ((lpF n).length : Int)).toNat]? = some ((lpF n)[(z % ((lpF n).length : Int)).toNat]'(by omega)) := List.getElem?_eq_getElem _
      generalize (lpF n)[(z % ((lpF n).length : Int)).toNat]'(by omega) = r at hget
      have hrm := List.mem_of_getElem? hget
      obtain ⟨b1, b2, b3, b4, b5⟩ := N.lp r hrm
      refine q_asg (v := .int r.1) (ev_ixI (j := (z % ((lpF n).length : Int)).toNat) (SqL.of (e3 _ _ hpr)) (ev_var rfl) (ev_is (v := .int (z % ((lpF n).length : Int))) (ev_mod (ev_var rfl) (ev_is (ev_len (ev_var rfl) (SqL.of (e3 _ _ hpr))) (by rw [List.length_map, hll])) (by omega)) (by congr 1; omega)) (by rw [List.getElem?_map, hget]; rfl)) fun H4 e4 => ?_
      refine q_asg (v := .int (cN z)) (ev_ixN (ns := [z / 8 % 19 - 9, 1000000000000000000000000000000 - z, 1]) (el_lst (ea_cons (by one_place) (ea_cons (ev_sub (ev_pow (i := 10) (j := 30) ev_c ev_c ⟨by decide, by decide +kernel⟩ (by rfl)) (ev_var rfl)) (ea_cons (by one_place) ea_nil))) (by show 3 ≤ 100000; decide)) (fun _ _ => by one_place) (by omega) (by simp; omega)) fun H5 e5 => ?_
      have e35 := e3.trans (e4.trans e5)
      have hq : n / r.1 * r.1 = n := by
        have := Int.mul_ediv_add_emod n r.1
        rw [b2, Int.mul_comm] at this
        omega
      have hs1 : 1 ≤ n / r.1 := by
        refine Int.le_of_not_gt fun g => ?_
        have h0 := Int.ediv_nonneg (show 0 ≤ n by omega) (show 0 ≤ r.1 by omega)
        have : n / r.1 = 0 := by omega
        rw [this] at hq
        omega
      have hs2 : n / r.1 ≤ n := Int.ediv_le_self _ (by omega)
      refine s_when (b := !decide (cN z = 0)) (by one_place) (fun hb H6 e6 => ?_) (fun hb H6 e6 => ?_)
      · have hb : cN z ≠ 0 := by simpa using hb
        have m1 := Int.emod_nonneg (z / 64) (show n / r.1 ≠ 0 by omega)
        have m2 := Int.emod_lt_of_pos (z / 64) (show 0 < n / r.1 by omega)
        refine s_dput (ks := ks) (a := r.1) (b := z / 64 % (n / r.1)) (c := cN z) (e6 _ _ (e35 _ _ hdd)) (by one_place) (ea_cons (by one_place) (ea_cons (ev_mod (ev_div (ev_var rfl) ev_c (divW (by omega) (by omega))) (ev_div (ev_var rfl) (ev_var rfl) (divW (by omega) (by omega))) (by omega)) ea_nil)) (by one_place) (by omega) fun H7 e7 => ?_
        obtain ⟨p1, p2⟩ := put_keys ks (r.1, z / 64 % (n / r.1)) (cN z) hn
        refine ⟨_, _, _, _, _, rfl, Ex.mut ((e2.trans e35).trans (e6.trans e7)) ndH, ?_, upd_same, p1, fun e he => ?_, ?_⟩
        · rw [upd_ne (ne_of (e7 _ _ (e6 _ _ (e35 _ _ hpr))) (e7 _ _ (e6 _ _ (e35 _ _ hdd))) (by intro z; cases z))]
          exact e7 _ _ (e6 _ _ (e35 _ _ hpr))
        · rcases p2 e he with he | rfl
          · exact hk e he
          · exact ⟨⟨b1, b2, m1, m2⟩, ⟨r.2, hrm⟩, hb, cN_bd z0 z1⟩
        · have := put_len ks (r.1, z / 64 % (n / r.1)) (cN z)
          omega
      · exact ⟨ks, _, _, _, _, rfl, (e2.trans e35).trans e6, e6 _ _ (e35 _ _ hpr), e6 _ _ (e35 _ _ hdd), hn, hk, by omega⟩
    · obtain ⟨ks, x2, x5, x6, x7, rfl, e2, hpr, hdd, hn, hk, hlen⟩ := hp
      have hl13 : ks.length ≤ 13 := by
        refine Nat.le_trans hlen ?_
        split <;> omega
      show tLc _ _ _ _ _ _ _ _
      refine et3_keysD (ks := ks) hdd hn (by omega) (by one_place) (fun _ _ => rfl) (fun a b c H3 e3 hm => ⟨ev_var rfl, ev_var rfl, ev_dget (e3 _ _ hdd) hn hm (ev_var rfl) (by one_place)⟩) _ fun rows S => ?_
      intro p xs H3 np e3 h3 R
      exact q rows (rowOk_of hk hl13 S) p xs H3 (fresh_back e2 np) (e2.trans e3) h3 R
end

/-! ### the rest bent, of the law -/
/- _law_bent_rest: slots 0 _law_rest, 1 _law_pick, 2 _law_told, 3 _law_way, 4 _law_at; calls  -/
abbrev s__law_bent_rest : Stmt := topS 32
theorem sc__law_bent_rest : FnScope ["_law_rest", "_law_pick", "_law_told", "_law_way", "_law_at"] ["_law_rest", "_law_pick"] (defScope s__law_bent_rest) := ⟨rfl, rfl, rfl, by decide +kernel, rfl, by decide +kernel, by decide +kernel⟩

def spBr21 : Sp := fun vs H Q _ => ∃ (p : Addr) (f : List Int) (z : Int) (A : List Addr), vs = [.ref p, .int z] ∧ H p = some (.lst (f.map V.int)) ∧ Tkn A H ∧ 1 ≤ f.length ∧ f.length ≤ 60 ∧ Bd 1800 f ∧ 0 ≤ z ∧ ∀ x d H1, Ex H H1 → Dq (hid A H1) x d → Ok65 200000 5 d → Q x H1
section
variable {P : Program} {w : World} {K : PySem.W.Frag} {mg : Str → Option Value} {base : Heap}
theorem cal_br21 (nb : Nb mg) (d : Dfn K mg "_law_bent_rest" ["_law_rest", "_law_pick"] s__law_bent_rest) : Cal P w K mg base CX0 "_law_bent_rest" 1 ["_law_rest", "_law_pick"] spBr21 := by
  refine d.cal sc__law_bent_rest (fun vs H Q E h => ?_) (fun fa cdv Ar outer s H vs Q E hr h => ?_)
  · obtain ⟨p, f, z, A, rfl, _⟩ := h
    rfl
  · obtain ⟨p, f, z, A, rfl, hp, tk0, n1, n2, bf, z0, q⟩ := h
    refine ⟨_, (pss_cons (ps_set (i := 2) sc__law_bent_rest.nd rfl (.inl rfl) (pe_callTy call_list_of (by rfl) nb.list (by decide +kernel) (pa_cons (pv 0) pa_nil)))
      (pss_cons (ps_set (i := 3) sc__law_bent_rest.nd rfl (.inl rfl) (pe_op op_mod (pv 1) pe_int))
      (pss_cons (ps_set (i := 4) sc__law_bent_rest.nd rfl (.inl rfl) (pe_op op_mod (pe_op op_fdivW (pv 1) pe_int) (pe_callB call_len_seq (by rfl) nb.len PySem.boot_len (pa_cons (pv 2) pa_nil))))
      (Evl.pss_cut (ps_if (pt_cmpR op_lt (pv 3) pe_int (nomark _)) (pss_one (ps_asg (pe_op op_sub (pe_op op_add (pe_ix ix_list (pv 2) (pv 4) (fun _ _ => rfl)) pe_int) (pe_op op_mulW pe_int (pv 3))) (pg_sub (pv 2) (pv 4) set_list))) pss_nil)
      (Evl.pss_cut (ps_if (pt_cmpR op_eq (pv 3) pe_int (nomark _)) (pss_one (ps_expr (pe_bm PySem.F.plainAttrs_list PySem.F.slot_list_append PySem.F.type_list_append mt_append (pv 2) (pa_cons pe_int pa_nil)))) pss_nil)
      (Evl.pss_cut (ps_if (pt_cmpR op_eq (pv 3) pe_int (nomark _)) (pss_one (ps_expr (pe_bm0 PySem.F.plainAttrs_list PySem.F.slot_list_pop PySem.F.type_list_pop mt_pop (pv 2)))) pss_nil)
      (Evl.pss_cut (ps_if (pt_cmpR op_eq (pv 3) pe_int (nomark _)) (pss_one (ps_asg (pe_ix ix_list (pe_lst (pa_cons pe_bl (pa_cons pe_non (pa_cons pe_str (pa_cons (pe_lst (pa_cons (pe_ix ix_list (pv 2) (pv 4) (fun _ _ => rfl)) pa_nil)) (pa_cons pe_bl pa_nil)))))) (pe_op op_mod (pe_op op_fdivW (pv 1) pe_int) pe_int) (fun _ _ => rfl)) (pg_sub (pv 2) (pv 4) set_list))) pss_nil)
      (pss_cons (ps_if (pt_cmpR op_eq (pv 3) pe_int (nomark _)) (pss_one (ps_ret (pe_callTy call_tuple_of (by rfl) nb.tuple (by decide +kernel) (pa_cons (pv 2) pa_nil)))) pss_nil)
      (pss_one (ps_ret (pv 2))))))))))), ?_⟩
    have fin : ∀ {H' : Hp}, Ex H H' → ∀ x d H1, Ex H' H1 → Dq (hid A H1) x d → Ok65 200000 5 d → Q x H1 := fun e x d H1 e1 hd o => q x d H1 (e.trans e1) hd o
    refine q_asgL (xs := f.map V.int) (el_list (ev_var rfl) (SqL.of hp)) fun l H1 nl e1 hl => ?_
    have nl0 : H l = none := nl
    have lA : l ∉ A := tkn_not tk0 nl0
    refine q_asg (v := .int (z % 8)) (by one_place) fun H2 e2 => ?_
    have w0 : 0 ≤ z % 8 := by omega
    have w1 : z % 8 ≤ 7 := by omega
    generalize z % 8 = way at *
    obtain ⟨j, hj, jl⟩ : ∃ j : Nat, (j : Int) = z / 8 % (f.length : Int) ∧ j < f.length := by
      have a := Int.emod_nonneg (z / 8) (show (f.length : Int) ≠ 0 by omega)
      have b := Int.emod_lt_of_pos (z / 8) (show 0 < (f.length : Int) by omega)
      exact ⟨(z / 8 % (f.length : Int)).toNat, by omega, by omega⟩
    refine q_asg (v := .int (j : Nat)) (ev_is (ev_mod (ev_div (ev_var rfl) ev_c (divW (by decide) (by decide))) (ev_is (ev_len (ev_var rfl) (SqL.of (e2 _ _ hl))) (by rw [List.length_map])) (by omega)) (by rw [hj])) fun H3 e3 => ?_
    obtain ⟨b, hb⟩ : ∃ b, f[j]? = some b := ⟨_, List.getElem?_eq_getElem jl⟩
    have bb : b.natAbs < 2 ^ 1800 := bf.at hb
    have okF : OkA (1923 * 60) 0 (f.map PyData.int) := (okA_ints (fun m => Nat.lt_of_lt_of_le (bf m) (Nat.pow_le_pow_right (by decide) (by decide)))).up (by omega) (Nat.le_refl _)
    let Pm : Hp → Prop := fun H' => Ex H H' ∧ H' l = some (.lst (f.map V.int))
    let Dn : Addr → Hp → Prop := fun _ H' => ∃ (xs : List V) (ds : List PyData), Ex H H' ∧ H' l = some (.lst xs) ∧ DqAll (hid (l :: A) H') xs ds ∧ OkA 190000 3 ds
    have hP : ∀ Ha Hb : Hp, Ex Ha Hb → Pm Ha → Pm Hb := fun _ _ e h => ⟨h.1.trans e, e _ _ h.2⟩
    have hD : ∀ (lt : Addr) (Ha Hb : Hp), Ex Ha Hb → Dn lt Ha → Dn lt Hb := fun _ _ _ e ⟨xs, ds, a, b, c, o⟩ => ⟨xs, ds, a.trans e, e _ _ b, c.mono (hid_ex e), o⟩
    have p3 : Pm H3 := ⟨(e1.trans e2).trans e3, (e2.trans e3) _ _ hl⟩
    let S : Addr → L2.St := fun _ => [some (.ref p), some (.int z), some (.ref l), some (.int way), some (.int (j : Nat))]
    refine q_way20 (S := S) (l := l) (lt0 := l) (way := way) (i := 0) (j := 2) (P := Pm) (Dn := Dn) (decide (way < 2)) (fun _ _ => by one_place) (by rw [decide_eq_true_iff]; omega) hP hD (by decide) (.inl ⟨w0, rfl, p3⟩) (fun a c H4 p4 => ?_) (fun lt4 H4 h4 => ?_)
    · obtain ⟨e4, hl4⟩ := p4
      refine s_setI (j := j) (b := b + 1 - 2 * way) hl4 (ev_var rfl) (ev_var rfl) jl (ev_sub (ev_add (ev_ixI (SqL.of hl4) (ev_var rfl) (ev_var rfl) hb) ev_c) (ev_mul ev_c (ev_var rfl) (mulW (by decide +kernel) (by omega)))) fun H5 e5 => ⟨l, rfl, .inr ⟨by omega, _, (f.set j (b + 1 - 2 * way)).map PyData.int, Ex.mut (e4.trans e5) nl0, upd_same, dqa_ints _ _, ?_⟩⟩
      rw [List.map_set]
      have hn : (b + 1 - 2 * way).natAbs ≤ b.natAbs + 1 := by omega
      exact (OkA.set ((ok_int (i := b + 1 - 2 * way) (Nat.lt_of_le_of_lt (Nat.le_trans hn (Nat.succ_le_of_lt bb)) (Nat.pow_lt_pow_right (by decide) (by decide)))).up (Nat.le_refl _) (Nat.le_refl _)) okF j).up (by decide) (by decide)
    refine q_way20 (S := S) (l := l) (lt0 := lt4) (way := way) (i := 2) (j := 3) (P := Pm) (Dn := Dn) (decide (way = 2)) (fun _ _ => by one_place) (by rw [decide_eq_true_iff]; omega) hP hD (by decide) h4 (fun a c H5 p5 => ?_) (fun lt5 H5 h5 => ?_)
    · obtain ⟨e4, hl4⟩ := p5
      refine s_appQa (A := l :: A) (Pd := Ok65 2000 0) hl4 (ev_var rfl) (qa_flat ev_c (fun _ => .int _) ((ok_int (i := 0) (by decide +kernel)).up (by decide) (by decide))) (by rw [List.length_map]; omega) fun x d H6 e6 gx px => ⟨l, rfl, .inr ⟨by omega, _, f.map PyData.int ++ [d], Ex.mut (e4.trans e6) nl0, upd_same, ?_, (OkA.app okF (OkA.cons px (OkA.nil 0))).up (by decide) (by decide)⟩⟩
      rw [hid_upd List.mem_cons_self]
      exact (dqa_ints _ f).app (.cons gx .nil)
    refine q_way20 (S := S) (l := l) (lt0 := lt5) (way := way) (i := 3) (j := 4) (P := Pm) (Dn := Dn) (decide (way = 3)) (fun _ _ => by one_place) (by rw [decide_eq_true_iff]; omega) hP hD (by decide) h5 (fun a c H6 p6 => ?_) (fun lt6 H6 h6 => ?_)
    · obtain ⟨e4, hl4⟩ := p6
      have ne : f ≠ [] := fun e => by rw [e] at n1; exact absurd n1 (by decide)
      have ef : f.map V.int = f.dropLast.map V.int ++ [V.int (f.getLast ne)] := by
        have := congrArg (List.map V.int) (List.dropLast_concat_getLast ne)
        rw [List.map_append] at this
        exact this.symm
      refine s_pop (xs := f.dropLast.map V.int) (y := .int (f.getLast ne)) (by rw [hl4, ef]) (ev_var rfl) fun H7 e7 => ⟨l, rfl, .inr ⟨by omega, _, f.dropLast.map PyData.int, Ex.mut (e4.trans e7) nl0, upd_same, dqa_ints _ _, ?_⟩⟩
      rw [List.dropLast_eq_take, List.map_take]
      exact (okF.take _).up (by decide) (by decide)
    refine q_way20 (S := S) (l := l) (lt0 := lt6) (way := way) (i := 4) (j := 5) (P := Pm) (Dn := Dn) (decide (way = 4)) (fun _ _ => by one_place) (by rw [decide_eq_true_iff]; omega) hP hD (by decide) h6 (fun a c H7 p7 => ?_) (fun lt7 H7 h7 => ?_)
    · obtain ⟨e4, hl4⟩ := p7
      have tk : Tkn (l :: A) H7 := tkn_cons20 hl4 (tkn_ex e4 tk0)
      have okb : Ok65 1921 0 (.int b) := ok_int (Nat.lt_of_lt_of_le bb (Nat.pow_le_pow_right (by decide) (by decide)))
      refine s_setQa (A := l :: A) (Pd := Ok65 2000 1) (j := j) hl4 (fun _ _ => ev_var rfl) (fun _ _ => ev_var rfl) (by rw [List.length_map]; exact jl) (qa_pick (n := 5) (i := z / 512 % 5) (qas_cons (qa_flat ev_c (fun _ => .bl true) ⟨rfl, (sz_bl true).mono (by decide) (by decide)⟩)
        (qas_cons (qa_flat ev_c (fun _ => .non) ⟨rfl, sz_non.mono (by decide) (by decide)⟩)
        (qas_cons (qa_flat ev_c (fun _ => .str _) (ok_str0.up (by decide) (by decide)))
        (qas_cons (qa_lst tk (Pe := Ok65 1921 0) (n := 1) (qas_cons (qa_flat (ev_ixI (SqL.of hl4) (ev_var rfl) (ev_var rfl) hb) (fun _ => .int _) okb) qas_nil) (by decide) fun ds hl hd => (okA_len hd).list.up (by rw [hl]; decide) (by decide))
        (qas_cons (qa_flat ev_c (fun _ => .bl false) ⟨rfl, (sz_bl false).mono (by decide) (by decide)⟩) qas_nil))))) (by decide) (by one_place) (by omega) (by omega)) fun x d H8 e8 gx px => ⟨l, rfl, .inr ⟨by omega, _, (f.map PyData.int).set j d, Ex.mut (e4.trans e8) nl0, upd_same, ?_, (OkA.set px (okF.up (Nat.le_refl _) (by decide)) j).up (by decide) (by decide)⟩⟩
      rw [hid_upd List.mem_cons_self]
      exact DqAll.set gx (dqa_ints _ f)
    have dn : Dn l H7 := by
      rcases h7 with ⟨_, _, e, hl'⟩ | ⟨_, h⟩
      · exact ⟨_, _, e, hl', dqa_ints _ f, okF.up (by decide) (by decide)⟩
      · exact h
    obtain ⟨xs, ds, e7, hl7, g7, ok⟩ := dn
    refine q_when (b := decide (way = 5)) (by one_place) (fun _ H8 e8 => ?_) (fun _ H8 e8 => ?_)
    · exact s_retQa (A := A) (Pd := Ok65 200000 5) (qa_tupOf (tkn_ex (e7.trans e8) tk0) (ev_var rfl) (e8 _ _ hl7) ((dqa_sub20 g7).mono (hid_ex e8)) (ok.tuple.up (by decide) (by decide))) (fin (e7.trans e8))
    · exact s_retQa (A := A) (Pd := Ok65 200000 5) (qa_val (ev_var rfl) (fun _ e => .lst (by rw [hid_out lA]; exact (e8.trans e) _ _ hl7) ((dqa_sub20 g7).mono (hid_ex (e8.trans e)))) (ok.list.up (by decide) (by decide))) (fin (e7.trans e8))
end

/-! ### a row moved from the rest to the wheels, of the law -/
section
variable {K : PySem.W.Frag} {σ : L2.St} {H : Hp} {te : TE} {tl : TE} {D : Ends} {tz : TS}
theorem lcSt21 {Q : VK} {L : Addr} {xs : List V} {rows : List I3} {j : Nat} {vs : List Nat} (hv : Ev tl σ H (.ref L)) (hL : SqL K H L xs) (hp : Trs K H xs rows) (hz : rows.length ≤ 40000) (hw : ∀ x, wipe ((wipe σ vs).set j (some x)) vs = wipe σ vs) (hj : ∀ x : V, ((wipe σ vs).set j (some x))[j]? = some (some x))
    (k : ∀ Dl (ks : List (Addr × List Int)) H1, H Dl = none → Ex H H1 → H1 Dl = some (.lst (ks.map fun q => V.ref q.1)) → ks.map (fun q => q.2) = rows.map (fun r => [r.1, r.2.1]) → (∀ q ∈ ks, SqT K H1 q.1 (q.2.map V.int)) → Q (.ref Dl) H1) :
    tLc (iList K tl) (gName j) tYes (tSl (rSlT K) (tVar j) tNoPart (tPart (tC (.int 2)))) vs σ H Q :=
  hv H (Ex.refl H) _ fun H1 e1 => ⟨L, rfl, ⟨xs, ex_l e1 hL⟩, fun Dl hD =>
    lc_list (xs := xs) (fun n H' => H1 Dl = none ∧ Ex H1 H' ∧ ∃ ks : List (Addr × List Int), H' Dl = some (.lst (ks.map fun q => V.ref q.1)) ∧ ks.map (fun q => q.2) = (rows.take n).map (fun r => [r.1, r.2.1]) ∧ ∀ q ∈ ks, SqT K H' q.1 (q.2.map V.int)) ⟨hD, Ex.new hD, [], upd_same, rfl, fun _ h => absurd h List.not_mem_nil⟩ (fun n H' _ p => ex_l (e1.trans p.2.1) hL) (fun n x H' hn p => by
      obtain ⟨p1, p2, ks, p3, p4, p5⟩ := p
      obtain ⟨r, u, hr, rfl, hu⟩ := trs_get (hp.mono (e1.trans p2)) hn
      have kl : ks.length ≤ 40000 := by
        have := congrArg List.length p4
        rw [List.length_map, List.length_map, List.length_take] at this
        omega
      refine ⟨hw _, ?_⟩
      refine et_yes (H := H') _ (Ex.refl _) _ fun H3 e3 => ?_
      rw [if_pos rfl]
      show tVar j _ H3 _
      refine (ev_var (hj (.ref u)) : Ev (tVar j) _ H3 (.ref u)) H3 (Ex.refl H3) _ fun H4 e4 => ?_
      refine (eo_none (H := H4)) H4 (Ex.refl H4) _ fun H5 e5 => ?_
      refine (eo_some (H := H5) ev_c) H5 (Ex.refl H5) _ fun H6 e6 => ?_
      have e36 := e3.trans (e4.trans (e5.trans e6))
      obtain ⟨r2, u2, hr2, eu, hu2⟩ := trs_get (hp.mono (e1.trans (p2.trans e36))) hn
      cases eu
      obtain rfl : r2 = r := by
        rw [hr] at hr2
        exact (Option.some.inj hr2).symm
      refine ⟨u, [.int r2.1, .int r2.2.1, .int r2.2.2], rfl, hu2, fun h => absurd (show HT.sIx 3 3 (some 2) = 3 from h.2) (by decide), fun t nt => ?_⟩
      have eN : Ex H6 (upd H6 t (.tup (cutV [.int r2.1, .int r2.2.1, .int r2.2.2] none (some 2)))) := Ex.new nt
      have hD7 := eN Dl _ (e36 Dl _ p3)
      refine ⟨_, hD7, sz_lt (by rw [List.length_map]; omega), p1, Ex.mut ((p2.trans e36).trans eN) p1, ks ++ [(t, [r2.1, r2.2.1])], by rw [upd_same, List.map_append]; rfl, by rw [List.map_append, p4, List.take_add_one, hr, List.map_append]; rfl, fun q hq => sqt_upd hD7 ?_⟩
      rcases List.mem_append.mp hq with m | m
      · exact ex_t (e36.trans eN) (p5 q m)
      · rw [List.mem_singleton.mp m]
        exact SqT.of upd_same) (fun H' p => by
      obtain ⟨p1, p2, ks, p3, p4, p5⟩ := p
      rw [Paired.length hp, List.take_length] at p4
      exact k Dl ks H' (fresh_back e1 p1) (e1.trans p2) p3 p4 p5)⟩
theorem prs_of21 {H : Hp} : ∀ {ks : List (Addr × List Int)} {rows : List I3}, ks.map (fun q => q.2) = rows.map (fun r => [r.1, r.2.1]) → (∀ q ∈ ks, SqT K H q.1 (q.2.map V.int)) → Prs K H (ks.map fun q => V.ref q.1) (rows.map fun r => (r.1, r.2.1))
  | [], [], _, _ => .nil
  | [], _ :: _, h, _ => by simp at h
  | _ :: _, [], h, _ => by simp at h
  | q :: ks, r :: rows, h, hk => by
    rw [List.map_cons, List.map_cons] at h
    obtain ⟨h1, h2⟩ := List.cons.inj h
    have h1 : q.2 = [r.1, r.2.1] := h1
    have t := hk q List.mem_cons_self
    rw [h1] at t
    exact .cons ⟨q.1, rfl, t⟩ (prs_of21 h2 fun q' m => hk q' (List.mem_cons_of_mem _ m))
theorem ev_inSt21 {L t : Addr} {xs : List V} {rows : List I3} {a b c : Int} {j : Nat} {vs : List Nat} (ht : Ev te σ H (.ref t)) (hT : H t = some (.tup [.int a, .int b, .int c])) (hv : ∀ H1, Ex H H1 → Ev tl σ H1 (.ref L)) (hL : H L = some (.lst xs)) (hp : Trs K H xs rows) (hz : rows.length ≤ 40000) (hw : ∀ x, wipe ((wipe σ vs).set j (some x)) vs = wipe σ vs) (hj : ∀ x : V, ((wipe σ vs).set j (some x))[j]? = some (some x)) :
    Ev (tOp (rInD K) (tSl (rSlT K) te tNoPart (tPart (tC (.int 2)))) (tLc (iList K tl) (gName j) tYes (tSl (rSlT K) (tVar j) tNoPart (tPart (tC (.int 2)))) vs)) σ H (.bl (((rows.map fun r => (r.1, r.2.1)).map dP).any fun z => PyData.eqv z (dP (a, b)))) := fun H1 e Q q =>
  ht H1 e _ fun H2 e2 => (eo_none (H := H2)) H2 (Ex.refl H2) _ fun H3 e3 => (eo_some (H := H3) ev_c) H3 (Ex.refl H3) _ fun H4 e4 => ⟨t, [.int a, .int b, .int c], rfl, SqT.of ((e.trans (e2.trans (e3.trans e4))) _ _ hT), fun h => absurd (show HT.sIx 3 3 (some 2) = 3 from h.2) (by decide), fun p np => by
    have eN : Ex H4 (upd H4 p (.tup (cutV [.int a, .int b, .int c] none (some 2)))) := Ex.new np
    have e15 := (e2.trans (e3.trans e4)).trans eN
    have e05 := e.trans e15
    refine lcSt21 (rows := rows) (hv _ e05) (SqL.of (e05 _ _ hL)) (hp.mono e05) hz hw hj fun Dl ks H6 nD e6 hD hm hk => ?_
    exact ⟨dP (a, b), (rows.map fun r => (r.1, r.2.1)).map dP, .tup (SqT.of (e6 _ _ upd_same)) (.cons (.int a) (.cons (.int b) .nil)), dp_prs (SqL.of hD) (prs_of21 hm hk), rfl, dR_sh _, q H6 (e15.trans e6)⟩⟩
/-- f(a, [b]) tells a new list -/
theorem el_calNL21 {sp : Sp} {n : V} {t : V} {xs : List V} {E : XK} {t0 t1 : TE} (h0 : Ev t0 σ H n) (h1 : ∀ H1, Ex H H1 → Ev t1 σ H1 t) (hs : ∀ u H1, Ex H H1 → H1 u = some (.lst [t]) → ∀ Q : VK, RetL xs H1 Q → ∀ E : XK, sp [n, .ref u] H1 Q E) : EvL (tCall sp [] E (tCons t0 (tCons (tLst (tCons t1 tNil)) tNil))) σ H xs := fun H1 e Q q =>
  h0 H1 e _ fun H2 e2 => h1 H2 (e.trans e2) H2 (Ex.refl H2) _ fun H3 e3 => ⟨sz_of (show 1 ≤ 100000 by decide), fun u nu => by
    have eN : Ex H3 (upd H3 u (.lst [t])) := Ex.new nu
    have e14 := (e2.trans e3).trans eN
    show sp ([n, .ref u] ++ []) _ _ E
    rw [List.append_nil]
    exact hs u _ (e.trans e14) upd_same _ (fun p H5 np e5 hp => q p H5 (fresh_back e14 np) (e14.trans e5) hp) E⟩
theorem q_asgD21 {i : Nat} {Pd : PyData → Prop} {A : List Addr} (h : EvQa A Pd te σ H) (k : ∀ x d H1, Ex H H1 → Dq (hid A H1) x d → Pd d → tz D (σ.set i (some x)) H1) : tSeq (tAsg te (gName i)) tz D σ H := h H (Ex.refl H) _ k
end
theorem bd_sub21 {g c : List Int} (h1 : Bd 1800 g) (h2 : Bd 120 c) : Bd 1900 (List.zipWith (fun x y => x - y) g c) := Bd.of fun x hx => by
  obtain ⟨i, hi⟩ := List.mem_iff_getElem?.mp hx
  rw [List.getElem?_zipWith] at hi
  cases ea : g[i]? with
  | none => rw [ea] at hi; simp at hi
  | some a =>
    cases eb : c[i]? with
    | none => rw [ea, eb] at hi; simp at hi
    | some b =>
      rw [ea, eb] at hi
      obtain rfl : a - b = x := by simpa using hi
      have a1 := h1.at ea
      have b1 := Nat.lt_trans (h2.at eb) (show 2 ^ 120 < 2 ^ 1800 from Nat.pow_lt_pow_right (by decide) (by decide))
      have s : (a - b).natAbs < 2 ^ 1800 + 2 ^ 1800 := Nat.lt_of_le_of_lt (Int.natAbs_sub_le a b) (Nat.add_lt_add a1 b1)
      have p : (2 : Nat) ^ 1800 + 2 ^ 1800 = 2 ^ 1801 := by rw [Nat.pow_succ 2 1800, Nat.mul_two]
      rw [p] at s
      exact Nat.lt_of_lt_of_le s (Nat.pow_le_pow_right (by decide) (by decide))

/- _law_moved: slots 0 _law_some, 1 _law_rest, 2 _law_wheels, 3 _law_pick, 4 _law_n, 5 _law_primes, 6 _law_row_here, 7 _law_less, 8 _law_p, 9 _law_often, 10 _law_x, 11 _law_y, 12 _law_one; calls _law_parted, _law_come_to -/
abbrev s__law_moved : Stmt := topS 34
theorem sc__law_moved : FnScope ["_law_some", "_law_rest", "_law_wheels", "_law_pick", "_law_n", "_law_primes", "_law_row_here", "_law_less", "_law_p", "_law_often", "_law_x", "_law_y", "_law_one"] ["_law_some", "_law_rest", "_law_wheels", "_law_pick"] (defScope s__law_moved) := ⟨rfl, rfl, rfl, by decide +kernel, rfl, by decide +kernel, by decide +kernel⟩

def spMv21 : Sp := fun vs H Q _ => ∃ (a gl wl : Addr) (f g : List Int) (n : Nat) (xs : List V) (rows : List I3) (z : Int) (A : List Addr), vs = [.ref a, .ref gl, .ref wl, .int z] ∧ H a = some (.lst (f.map V.int)) ∧ f.length = n ∧ H gl = some (.lst (g.map V.int)) ∧ g.length = n ∧ Bd 1800 g ∧ H wl = some (.lst xs) ∧ Tkn A H ∧ gl ∉ A ∧ wl ∉ A ∧ DqAll (hid A H) xs (rows.map d3) ∧ RwB20 n rows ∧ 1 ≤ n ∧ n ≤ 60 ∧ 0 ≤ z ∧ ∀ x d H1, Ex H H1 → Dq (hid A H1) x d → Ok65 7000000 25 d → Q x H1
section
variable {P : Program} {w : World} {K : PySem.W.Frag} {mg : Str → Option Value} {base : Heap}
theorem cal_mv21 (nb : Nb mg) (c__law_parted : Cal P w K mg base CX0 "_law_parted" 1 ["_law_n"] (spLParted K)) (c__law_come_to : Cal P w K mg base CX0 "_law_come_to" 1 ["_law_n", "_law_wheels"] (spCome K)) (d : Dfn K mg "_law_moved" ["_law_some", "_law_rest", "_law_wheels", "_law_pick"] s__law_moved) : Cal P w K mg base CX0 "_law_moved" 2 ["_law_some", "_law_rest", "_law_wheels", "_law_pick"] spMv21 := by
  refine d.cal sc__law_moved (fun vs H Q E h => ?_) (fun fa cdv Ar outer s H vs Q E hr h => ?_)
  · obtain ⟨a, gl, wl, f, g, n, xs, rows, z, A, rfl, _⟩ := h
    rfl
  · obtain ⟨a, gl, wl, f, g, n, xs, rows, z, A, rfl, hA, lf, hgl, lg, bg, hwl, tk0, gA, wA, dqw, B, n1, n2, z0, q⟩ := h
    refine ⟨_, (pss_cons (ps_set (i := 4) sc__law_moved.nd rfl (.inl rfl) (pe_callB call_len_seq (by rfl) nb.len PySem.boot_len (pa_cons (pv 0) pa_nil)))
      (pss_cons (ps_setLc (i := 5) (own := [("_law_p", 8), ("_law_often", 9)]) (g := gTup K 2 (gCons (gName 8) (gCons (gName 9) gNil))) (tt := tYes) (by rfl) sc__law_moved.nd rfl rfl (sw_true rfl rfl rfl (by decide +kernel)) (pi_list (pe_cal c__law_parted (hr.mono (by first | decide | omega)) (by rfl) pass0 (pa_cons (pv 4) pa_nil))) (blkOk_by (N := ["_law_some", "_law_rest", "_law_wheels", "_law_pick", "_law_n", "_law_primes", "_law_row_here", "_law_less", "_law_p", "_law_often", "_law_x", "_law_y", "_law_one"]) (sc := defScope s__law_moved) (by decide +kernel)) (fun _ _ _ _ _ => (pg_tup (by rfl) (pgs_cons (pg_name (i := 8) sc__law_moved.nd rfl (Or.inl rfl)) (pgs_cons (pg_name (i := 9) sc__law_moved.nd rfl (Or.inl rfl)) pgs_nil)))) (fun _ _ _ _ _ => pts_nil) (fun _ _ _ _ _ => (pv 8)))
      (pss_cons (ps_if (pt_cmpR (op_eqD hr.units) (pv 5) (pe_lst pa_nil) (nomark _)) (pss_one (ps_ret (pe_tup (pa_cons pe_str (pa_cons (pv 1) (pa_cons (pv 2) pa_nil)))))) pss_nil)
      (pss_cons (ps_set (i := 6) sc__law_moved.nd rfl (.inl rfl) (pe_tup (pa_cons (pe_ix ix_list (pv 5) (pe_op op_mod (pv 3) (pe_callB call_len_seq (by rfl) nb.len PySem.boot_len (pa_cons (pv 5) pa_nil))) (fun _ _ => rfl)) (pa_cons (pe_op op_mod (pe_op op_fdivW (pv 3) pe_int) (pe_op op_fdivW (pv 4) (pe_ix ix_list (pv 5) (pe_op op_mod (pv 3) (pe_callB call_len_seq (by rfl) nb.len PySem.boot_len (pa_cons (pv 5) pa_nil))) (fun _ _ => rfl)))) (pa_cons pe_int pa_nil)))))
      (pss_cons (ps_setLc (i := 7) (own := [("_law_x", 10), ("_law_y", 11)]) (g := gTup K 2 (gCons (gName 10) (gCons (gName 11) gNil))) (tt := tYes) (by rfl) sc__law_moved.nd rfl rfl (sw_true rfl rfl rfl (by decide +kernel)) (pi_zip (by rfl) nb.zip (pa_cons (pv 1) (pa_cons (pe_cal c__law_come_to (hr.mono (by first | decide | omega)) (by rfl) pass0 (pa_cons (pv 4) (pa_cons (pe_lst (pa_cons (pv 6) pa_nil)) pa_nil))) pa_nil))) (blkOk_by (N := ["_law_some", "_law_rest", "_law_wheels", "_law_pick", "_law_n", "_law_primes", "_law_row_here", "_law_less", "_law_p", "_law_often", "_law_x", "_law_y", "_law_one"]) (sc := defScope s__law_moved) (by decide +kernel)) (fun _ _ _ _ _ => (pg_tup (by rfl) (pgs_cons (pg_name (i := 10) sc__law_moved.nd rfl (Or.inl rfl)) (pgs_cons (pg_name (i := 11) sc__law_moved.nd rfl (Or.inl rfl)) pgs_nil)))) (fun _ _ _ _ _ => pts_nil) (fun _ _ _ _ _ => (pe_op op_sub (pv 10) (pv 11))))
      (pss_cons (ps_if (pt_cmpR (op_inD (room65 hr)) (pe_slice sl_tup (pv 6) po_none (po_some pe_int)) (pe_lc (own := [("_law_one", 12)]) (g := gName 12) (tt := tYes) (te := (tSl (rSlT K) (tVar 12) tNoPart (tPart (tC (.int 2))))) (by rfl) sc__law_moved.nd (pi_list (pv 2)) (blkOk_by (N := ["_law_some", "_law_rest", "_law_wheels", "_law_pick", "_law_n", "_law_primes", "_law_row_here", "_law_less", "_law_p", "_law_often", "_law_x", "_law_y", "_law_one"]) (sc := defScope s__law_moved) (by decide +kernel)) (fun _ _ _ _ _ => (pg_name (i := 12) sc__law_moved.nd rfl (Or.inl rfl))) (fun _ _ _ _ _ => pts_nil) (fun _ _ _ _ _ => (pe_slice sl_tup (pv 12) po_none (po_some pe_int)))) (by rfl)) (pss_one (ps_ret (pe_tup (pa_cons pe_str (pa_cons (pv 7) (pa_cons (pv 2) pa_nil)))))) pss_nil)
      (pss_one (ps_ret (pe_tup (pa_cons pe_str (pa_cons (pv 7) (pa_cons (pe_callB (cr_sortedD (room110 hr)) (by rfl) nb.sorted (by decide +kernel) (pa_cons (pe_op op_cat (pv 2) (pe_lst (pa_cons (pv 6) pa_nil))) pa_nil)) pa_nil)))))))))))), ?_⟩
    obtain ⟨lp3, lpr⟩ := lpb n1 n2
    have fin : ∀ {H' : Hp}, Ex H H' → ∀ x d H1, Ex H' H1 → Dq (hid A H1) x d → Ok65 7000000 25 d → Q x H1 := fun e x d H1 e1 hd o => q x d H1 (e.trans e1) hd o
    have okW : Ok65 1161003 2 (.list (rows.map d3)) := (ok_rows20 B.g).list
    have okn : Ok65 2000 0 (.str (Str.ofString "not")) := ⟨by decide +kernel, sz_str (by decide +kernel) (by decide +kernel)⟩
    have okT : ∀ {ds : List PyData}, ds.length ≤ 3 → (∀ d ∈ ds, Ok65 1170000 20 d) → Ok65 7000000 25 (.tuple ds) := fun hl hd => ((okA_len hd).tuple).up (by omega) (by decide)
    have okI : ∀ {h : List Int}, h.length = n → Bd 1900 h → Ok65 1170000 20 (dI h) := fun hl hb => ((okA_ints hb).list).up (by omega) (by decide)
    have vS : ∀ {Hx : Hp} {σ : L2.St}, EvQa A (Ok65 1170000 20) (tC (.str (Str.ofString "not"))) σ Hx := qa_flat ev_c (fun _ => .str _) (okn.up (by decide) (by decide))
    have vW : ∀ {Hx : Hp} {σ : L2.St}, Ex H Hx → σ[2]? = some (some (.ref wl)) → EvQa A (Ok65 1170000 20) (tVar 2) σ Hx := fun e h => qa_val (ev_var h) (fun _ e1 => .lst (by rw [hid_out wA]; exact (e.trans e1) _ _ hwl) (dqw.mono (hid_ex (e.trans e1)))) (okW.up (by decide) (by decide))
    have vI : ∀ {Hx : Hp} {σ : L2.St} {i : Nat} {p : Addr} {h : List Int}, p ∉ A → Hx p = some (.lst (h.map V.int)) → h.length = n → Bd 1900 h → σ[i]? = some (some (.ref p)) → EvQa A (Ok65 1170000 20) (tVar i) σ Hx := fun pA hp hl hb hv => qa_val (ev_var hv) (fun _ e1 => .lst (by rw [hid_out pA]; exact e1 _ _ hp) (dqa_ints _ _)) (okI hl hb)
    refine q_asg (v := .int (n : Nat)) (ev_is (ev_len (ev_var rfl) (SqL.of hA)) (by rw [List.length_map, lf])) fun H1 e1 => ?_
    refine q_asgL (xs := ((lpF (n : Int)).map fun r => r.1).map V.int) (el_is (el_lcPN (fun r => .int r.1) (ep_cal (vs := [.int (n : Nat)]) (by one_place) fun H5 e5 Q k E => ⟨n, rfl, by omega, by omega, k⟩) (by omega) (fun _ _ => rfl) fun r H5 e5 hr => ev_var rfl) (by rw [List.map_map]; rfl)) fun pl H2 npl e2 hpl => ?_
    have e02 := e1.trans e2
    refine q_when (b := decide ((lpF (n : Int)).map (fun r => r.1) = [])) (et_test (ev_opL (xs := ([] : List Int).map V.int) (ev_var rfl) (el_lst (vs := []) ea_nil (by decide)) fun u H3 hu e3 => rv_eqI (SqL.of (e3 _ _ hpl)) (SqL.of hu))) (fun hb H3 e3 => ?_) (fun hb H3 e3 => ?_)
    · have e03 := e02.trans e3
      exact s_retQa (A := A) (Pd := Ok65 7000000 25) (qa_tup (tkn_ex e03 tk0) (Pe := Ok65 1170000 20) (n := 3) (qas_cons vS (qas_cons (vI gA (e03 _ _ hgl) lg (fun m => Nat.lt_of_lt_of_le (bg m) (Nat.pow_le_pow_right (by decide) (by decide))) rfl) (qas_cons (vW e03 rfl) qas_nil))) (by decide) fun ds hl hd => okT (by omega) hd) (fin e03)
    have e03 := e02.trans e3
    have hb := of_decide_eq_false hb
    have lpos := List.length_pos_iff.mpr hb
    rw [List.length_map] at lpos
    have hpl3 := e3 _ _ hpl
    obtain ⟨k, hk, kl⟩ : ∃ k : Nat, (k : Int) = z % ((lpF (n : Int)).length : Int) ∧ k < (lpF (n : Int)).length := by
      have a := Int.emod_nonneg z (show ((lpF (n : Int)).length : Int) ≠ 0 by omega)
      have b := Int.emod_lt_of_pos z (show 0 < ((lpF (n : Int)).length : Int) by omega)
      exact ⟨(z % ((lpF (n : Int)).length : Int)).toNat, by omega, by omega⟩
    obtain ⟨⟨p, o⟩, hpo⟩ : ∃ r, (lpF (n : Int))[k]? = some r := ⟨_, List.getElem?_eq_getElem kl⟩
    have pm := List.mem_of_getElem? hpo
    obtain ⟨p2, p60, pd, _, _⟩ := lpr _ pm
    have p2 : 2 ≤ p := p2
    have p60 : p ≤ 60 := p60
    have pd : (n : Int) % p = 0 := pd
    have hpk : ((lpF (n : Int)).map fun r => r.1)[k]? = some p := by rw [List.getElem?_map, hpo]; rfl
    have q1 : 1 ≤ (n : Int) / p := Int.le_ediv_of_mul_le (by omega) (by
      have := Int.mul_ediv_add_emod (n : Int) p
      rw [pd] at this
      have h0 : (n : Int) / p ≠ 0 := fun h => by rw [h] at this; omega
      have h1 := Int.ediv_nonneg (show 0 ≤ (n : Int) by omega) (show 0 ≤ p by omega)
      have := Int.mul_le_mul_of_nonneg_left (show 1 ≤ (n : Int) / p by omega) (show 0 ≤ p by omega)
      omega)
    have q2 : (n : Int) / p ≤ n := Int.ediv_le_self _ (by omega)
    have m0 := Int.emod_nonneg (z / 8) (show (n : Int) / p ≠ 0 by omega)
    have m1 := Int.emod_lt_of_pos (z / 8) (show 0 < (n : Int) / p by omega)
    have pe : ∀ {Hx : Hp} {σ : L2.St}, Ex H3 Hx → σ[3]? = some (some (.int z)) → σ[5]? = some (some (.ref pl)) → Ev (tOp (rIxL K) (tVar 5) (tOp (rI (fun _ j => 0 < j) fun i j => .int (i % j)) (tVar 3) (tCB (rLenS K) (tCons (tVar 5) tNil)))) σ Hx (.int p) := fun e h3 h5 => ev_ixI (j := k) (SqL.of (e _ _ hpl3)) (ev_var h5) (ev_is (ev_mod (ev_var h3) (ev_is (ev_len (ev_var h5) (SqL.of (e _ _ hpl3))) (by rw [List.length_map, List.length_map])) (by omega)) (by rw [hk])) hpk
    refine q_asgD21 (A := A) (Pd := fun d => d = d3 (p, z / 8 % ((n : Int) / p), 1)) (qa_d3 (tkn_ex e03 tk0) (pe (Ex.refl _) rfl rfl) (ev_mod (ev_div (ev_var rfl) ev_c (divW (by decide) (by decide))) (ev_div (ev_var rfl) (pe (Ex.refl _) rfl rfl) (divW (by omega) (by omega))) (by omega)) ev_c) fun x d H4 e4 gx ed => ?_
    subst ed
    generalize z / 8 % ((n : Int) / p) = m at *
    have e04 := e03.trans e4
    have gx0 : Dq H4 x (d3 (p, m, 1)) := by
      have := gx.mono (hid_sub (A := A) (B := []) (H := H4) fun a m => (List.not_mem_nil m).elim)
      rwa [hid_nil] at this
    obtain ⟨t, rfl, ht⟩ := d3_get20 gx0
    have W : Whl (n : Int) (p, m, 1) := ⟨p2, pd, m0, m1⟩
    have okr : RowOk (n : Int) [((p, m, 1) : I3)] := ⟨fun r hr => by rw [List.mem_singleton.mp hr]; exact W, fun r hr => by rw [List.mem_singleton.mp hr]; exact ⟨o, pm⟩, fun r hr => by rw [List.mem_singleton.mp hr]; exact ⟨show (1 : Int) ≠ 0 by decide, show (1 : Int).natAbs < 2 ^ 110 by decide +kernel⟩, List.pairwise_singleton _ _, show 1 ≤ 13 by decide⟩
    have lc : (cmS n [((p, m, 1) : I3)]).length = n := mkL_len _ _
    have bl := bd_sub21 bg (cms_bd okr)
    have ll : (List.zipWith (fun x y => x - y) g (cmS n [((p, m, 1) : I3)])).length = n := by rw [List.length_zipWith, lg, lc, Nat.min_self]
    refine q_asgL (xs := (List.zipWith (fun x y => x - y) g (cmS n [((p, m, 1) : I3)])).map V.int) (el_is (el_lcZ (fun x y => .int (x - y)) (az_vn (ev_var rfl) (SqL.of (e04 _ _ hgl)) (el_calNL21 (n := .int (n : Nat)) (t := .ref t) (ev_var rfl) (fun _ _ => ev_var rfl) fun u H5 e5 hu Q k E => ⟨n, u, [.ref t], [(p, m, 1)], rfl, by omega, SqL.of hu, .cons ⟨t, rfl, SqT.of (e5 _ _ ht)⟩ .nil, fun r hr => by rw [List.mem_singleton.mp hr]; exact W, k⟩)) (by rw [lg, lc]) (by omega) (fun _ _ => rfl) fun x y H5 e5 hx hy => ev_sub (ev_var rfl) (ev_var rfl)) (by rw [List.map_zipWith])) fun lp H5 nlp e5 hlp => ?_
    have e05 := e04.trans e5
    have lpA : lp ∉ A := tkn_not (tkn_ex e04 tk0) nlp
    generalize List.zipWith (fun x y => x - y) g (cmS n [((p, m, 1) : I3)]) = ls at *
    refine q_when (et_test (ev_inSt21 (rows := rows) (ev_var rfl) (e5 _ _ ht) (fun _ _ => ev_var rfl) (e05 _ _ hwl) (trs_d3 ((dqa_un20 dqw).mono e05)) (by have := B.many; omega) (fun _ => rfl) (fun _ => rfl))) (fun _ H6 e6 => ?_) (fun _ H6 e6 => ?_)
    · have e06 := e05.trans e6
      exact s_retQa (A := A) (Pd := Ok65 7000000 25) (qa_tup (tkn_ex e06 tk0) (Pe := Ok65 1170000 20) (n := 3) (qas_cons vS (qas_cons (vI lpA (e6 _ _ hlp) ll bl rfl) (qas_cons (vW e06 rfl) qas_nil))) (by decide) fun ds hl hd => okT (by omega) hd) (fin e06)
    · have e06 := e05.trans e6
      have tk6 := tkn_ex e06 tk0
      have lx : xs.length = rows.length := by rw [dqw.len, List.length_map]
      have G : RwG (rows ++ [((p, m, 1) : I3)]) := ⟨by have := B.many; rw [List.length_append, List.length_singleton]; omega, fun r hr => by
        rcases List.mem_append.mp hr with h | h
        · exact B.g.num r h
        · rw [List.mem_singleton.mp h]
          exact ⟨by show 1 ≤ p; omega, by show p ≤ 61; omega, by show m.natAbs ≤ 1000; omega, Nat.lt_of_le_of_lt (show (1 : Int).natAbs ≤ 1 by decide) (Nat.one_lt_two_pow (by decide))⟩⟩
      refine s_retQa (A := A) (Pd := Ok65 7000000 25) (qa_tup tk6 (Pe := Ok65 1170000 20) (n := 3) (qas_cons vS (qas_cons (vI lpA (e6 _ _ hlp) ll bl rfl) (qas_cons (qa_sortCat20 (r := (p, m, 1)) tk6 (ev_var rfl) (e06 _ _ hwl) (dqw.mono (hid_ex e06)) (by have := B.many; omega) (qa_val (ev_var rfl) (fun _ e7 => gx.mono (hid_ex (e5.trans (e6.trans e7)))) rfl) fun ds perm => ?_) qas_nil))) (by decide) fun ds hl hd => okT (by omega) hd) (fin e06)
      have : OkA ((5773 + 2) * ds.length) 1 ds := okA_len fun d hd => by
        obtain ⟨r, hr, rfl⟩ := List.mem_map.mp (perm.mem_iff.mp hd)
        have := G.num r hr
        exact ok_d3 (p901 (by omega)) (p901 (by omega)) (Nat.lt_of_lt_of_le this.2.2.2 (Nat.pow_le_pow_right (by decide) (by decide)))
      have l := perm.length_eq
      rw [List.length_map] at l
      have := G.many
      exact (OkA.list (by assumption)).up (by omega) (by decide)
end

/-! ### the law of k21 -/
section
variable {K : PySem.W.Frag} {σ : L2.St} {H : Hp} {te ta tb : TE} {tr : TA} {D : Ends} {tu tz : TS} {E : XK} {z : V} {Pd : PyData → Prop} {n : Nat}
/-- l = l + [things], nothing behind it hangs on l -/
theorem q_asgCatN20 {i : Nat} {a : Addr} {xs : List V} {ds : List PyData} (ha : Ev ta σ H (.ref a)) (hx : H a = some (.lst xs)) (g0 : DqAll H xs ds) (h : EvQs Pd tr σ H n) (hn : xs.length ≤ 1000 ∧ n ≤ 1000) (k : ∀ l ys es H1, H l = none → Ex H H1 → H1 l = some (.lst (xs ++ ys)) → DqAll (hid [l] H1) (xs ++ ys) (ds ++ es) → (∀ d ∈ es, Pd d) → ys.length = n → tz D (σ.set i (some (.ref l))) H1) : tSeq (tAsg (tOp rCat ta (tLst tr)) (gName i)) tz D σ H :=
  ha H (Ex.refl H) _ fun H1 e1 => h H1 e1 _ fun ys es H2 e2 g p l => ⟨sz_of (by omega), fun b nb => by
    have e3 : Ex H2 (upd H2 b (.lst ys)) := Ex.new nb
    have e13 := (e1.trans e2).trans e3
    refine ⟨a, b, xs, ys, rfl, rfl, e13 _ _ hx, upd_same, sz_of (by omega), fun c nc => ?_⟩
    have e4 : Ex (upd H2 b (.lst ys)) (upd (upd H2 b (.lst ys)) c (.lst (xs ++ ys))) := Ex.new nc
    refine k c ys es _ (fresh_back e13 nc) (e13.trans e4) upd_same ?_ p l
    rw [hid_upd List.mem_cons_self, hid_all (fun x hx => by rw [List.mem_singleton.mp hx]; exact nc)]
    exact (g0.mono e13).app (g.mono e3)⟩
theorem q_asgPr20 {sp : Sp} {vs : List V} {i : Nat} {Pr : List Int → Prop} (h : EvA tr σ H vs) (hs : ∀ H1, Ex H H1 → ∀ Q : VK, (∀ g : List Int, Pr g → RetL (g.map V.int) H1 Q) → ∀ E : XK, sp vs H1 Q E) (k : ∀ g p H1, Pr g → Ex H H1 → H1 p = some (.lst (g.map V.int)) → tz D (σ.set i (some (.ref p))) H1) : tSeq (tAsg (tCall sp [] E tr) (gName i)) tz D σ H :=
  h H (Ex.refl H) _ fun H1 e1 => by
    show sp (vs ++ []) H1 _ E
    rw [List.append_nil]
    exact hs H1 e1 _ (fun g hg p H2 np e2 hp => k g p H2 hg (e1.trans e2) hp) E
theorem q_asgMp20 {a : Addr} {f : List Int} {n : Nat} {y : Int} {i j : Nat} (h : EvA tr σ H [.ref a, .int y]) (hA : H a = some (.lst (f.map V.int))) (lf : f.length = n) (n1 : 1 ≤ n) (n2 : n ≤ 60) (bf : Bd 200 f) (y0 : 0 ≤ y)
    (k : ∀ gl wl g xs (rows : List I3) H1, Ex H H1 → H1 gl = some (.lst (g.map V.int)) → g.length = n → Bd 1800 g → H1 wl = some (.lst xs) → DqAll H1 xs (rows.map d3) → RwB20 n rows → tz D ((σ.set i (some (.ref gl))).set j (some (.ref wl))) H1) : tSeq (tAsg (tCall spMp20 [] E tr) (gTup K 2 (gCons (gName i) (gCons (gName j) gNil)))) tz D σ H :=
  h H (Ex.refl H) _ fun H1 e1 => ⟨a, f, n, y, rfl, e1 _ _ hA, lf, n1, n2, bf, y0, fun t gl wl g xs rows H2 e2 ht hg lg bg hw dq B => ⟨t, _, rfl, SqT.of ht, rfl, .ref gl, [.ref wl], rfl, .ref wl, [], rfl, rfl, k gl wl g xs rows H2 (e1.trans e2) hg lg bg hw dq B⟩⟩
theorem q_asgRowD20 {n c pl : Int} {i : Nat} (h : EvA tr σ H [.int n, .int c, .int pl]) (p0 : 0 ≤ pl) (p1 : pl ≤ 20) (n1 : 1 ≤ n) (n2 : n ≤ 61) (k : ∀ rows p xs H1, RowOk n rows → Ex H H1 → H1 p = some (.lst xs) → DqAll H1 xs (rows.map d3) → tz D (σ.set i (some (.ref p))) H1) : tSeq (tAsg (tCall spLRowD [] E tr) (gName i)) tz D σ H :=
  h H (Ex.refl H) _ fun H1 e1 => ⟨n, c, pl, rfl, p0, p1, n1, n2, fun rows ok p xs H2 np e2 hp g => k rows p xs H2 ok (e1.trans e2) hp g⟩
theorem ev_calLV20 {sp : Sp} {xs : List V} {v : V} (h : EvL te σ H xs) (h2 : ∀ H1, Ex H H1 → Ev tb σ H1 v) (hs : ∀ p H1, Ex H H1 → H1 p = some (.lst xs) → ∀ Q : VK, RetV z H1 Q → ∀ E : XK, sp [.ref p, v] H1 Q E) : Ev (tCall sp [] E (tCons te (tCons tb tNil))) σ H z := fun H1 e Q q =>
  h H1 e _ fun p H2 np e2 hp => h2 H2 (e.trans e2) H2 (Ex.refl H2) _ fun H3 e3 => by
    show sp ([.ref p, v] ++ []) H3 Q E
    rw [List.append_nil]
    exact hs p H3 ((e.trans e2).trans e3) (e3 _ _ hp) Q (fun H4 e4 => q H4 ((e2.trans e3).trans e4)) E
/-- is(less, ('not', rest, rows)): less by its name -/
theorem ev_is21 {s : Str} {lp gl : Addr} {ls g : List Int} {rows : List I3} {E1 : XK} {t1 t2 t3 : TE} {tr3 : TA} {m : Nat} (h1 : Ev t1 σ H (.ref lp)) (h2 : ∀ H1, Ex H H1 → Ev t2 σ H1 (.str s)) (h3 : ∀ H1, Ex H H1 → Ev t3 σ H1 (.ref gl)) (h4 : ∀ H1, Ex H H1 → EvQs (fun d => d ∈ rows.map d3) tr3 σ H1 m) (hm : m ≤ 1000) (hl : H lp = some (.lst (ls.map V.int))) (hg : H gl = some (.lst (g.map V.int))) (n1 : 1 ≤ ls.length) (n2 : ls.length ≤ 60)
    (ok : ∀ ds : List PyData, ds.length = m → (∀ d ∈ ds, d ∈ rows.map d3) → Ok65 15000000 45 (.tuple [.str s, dI g, .list ds])) : Ev (tCall spIs21 [] E1 (tCons t1 (tCons (tTup (tCons t2 (tCons t3 (tCons (tLst tr3) tNil)))) tNil))) σ H (.bl true) := fun H1 e Q q =>
  h1 H1 e _ fun H2 e2 => h2 H2 (e.trans e2) H2 (Ex.refl H2) _ fun H3 e3 => h3 H3 (e.trans (e2.trans e3)) H3 (Ex.refl H3) _ fun H4 e4 => h4 H4 (e.trans (e2.trans (e3.trans e4))) H4 (Ex.refl H4) _ fun ys ds H5 e5 gd pd ld => ⟨sz_of (by omega), fun u nu => ⟨sz_of (show 3 ≤ 100000 by decide), fun t nt => by
    have e6 : Ex H5 (upd H5 u (.lst ys)) := Ex.new nu
    have e7 : Ex (upd H5 u (.lst ys)) (upd (upd H5 u (.lst ys)) t (.tup [.str s, .ref gl, .ref u])) := Ex.new nt
    have e17 := e2.trans (e3.trans (e4.trans (e5.trans (e6.trans e7))))
    show spIs21 ([.ref lp, .ref t] ++ []) _ Q E1
    rw [List.append_nil]
    exact ⟨lp, .ref t, _, ls, rfl, (e.trans e17) _ _ hl, .tup upd_same (.cons (.str s) (.cons (dq_ints ((e.trans e17) _ _ hg)) (.cons (.lst (e7 _ _ upd_same) (gd.mono (e6.trans e7))) .nil))), ok ds (by rw [← gd.len, ld]) pd, n1, n2, fun H8 e8 => q H8 (e17.trans e8)⟩⟩⟩
/-- i = [e for x, y in zip(a, f(..))], f tells some list of which Pr holds -/
theorem q_lcZ21 {tg : TA} {Pr : List Int → Prop} {ns : List Int} {i j1 j2 : Nat} {vs : List Nat} (w : Int → Int → Int) (h : ∀ Q : List V → Hp → Prop, (∀ a b ms H1, Pr ms → Ex H H1 → H1 a = some (.lst (ns.map V.int)) → H1 b = some (.lst (ms.map V.int)) → Q [.ref a, .ref b] H1) → tg σ H Q) (hl : ∀ ms, Pr ms → ns.length = ms.length) (hz : ns.length ≤ 40000) (hw : ∀ x y, wipe (((wipe σ vs).set j1 (some x)).set j2 (some y)) vs = wipe σ vs)
    (he : ∀ x y H1, Ex H H1 → Ev te (((wipe σ vs).set j1 (some (.int x))).set j2 (some (.int y))) H1 (.int (w x y))) (k : ∀ ms p H1, Pr ms → Ex H H1 → H1 p = some (.lst ((List.zipWith w ns ms).map V.int)) → tz D (σ.set i (some (.ref p))) H1) : tSeq (tAsg (tLc (iZip K tg) (gTup K 2 (gCons (gName j1) (gCons (gName j2) gNil))) tYes te vs) (gName i)) tz D σ H :=
  h _ fun a b ms H1 pm e1 ha hb => (el_lcZ (K := K) (tg := fun σ H Q => Q [.ref a, .ref b] H) (σ := σ) (H := H1) (te := te) (i := j1) (j := j2) (vs := vs) (ns := ns) (ms := ms) (fun x y => .int (w x y)) (fun H2 e2 Q q => q a b H2 (Ex.refl H2) (SqL.of (e2 _ _ ha)) (SqL.of (e2 _ _ hb))) (hl ms pm) hz hw fun x y H2 e2 _ _ => he x y H2 (e1.trans e2)) H1 (Ex.refl H1) (fun x H' => tz D (σ.set i (some x)) H') fun p H2 np e2 hp => k ms p H2 pm (e1.trans e2) (by rw [List.map_zipWith]; exact hp)
/-- zip(rest, come_to(n, [row])) -/
theorem az_call21 {sp : Sp} {Pr : List Int → Prop} {gl : Addr} {ns : List Int} {nv t : V} {E : XK} {t0 t1 t2 : TE} (h0 : Ev t0 σ H (.ref gl)) (h1 : ∀ H1, Ex H H1 → Ev t1 σ H1 nv) (h2 : ∀ H1, Ex H H1 → Ev t2 σ H1 t) (hg : H gl = some (.lst (ns.map V.int))) (hs : ∀ u H1, Ex H H1 → H1 u = some (.lst [t]) → ∀ Q : VK, (∀ ms, Pr ms → RetL (ms.map V.int) H1 Q) → ∀ E : XK, sp [nv, .ref u] H1 Q E) (Q : List V → Hp → Prop) (q : ∀ a b ms H1, Pr ms → Ex H H1 → H1 a = some (.lst (ns.map V.int)) → H1 b = some (.lst (ms.map V.int)) → Q [.ref a, .ref b] H1) : (tCons t0 (tCons (tCall sp [] E (tCons t1 (tCons (tLst (tCons t2 tNil)) tNil))) tNil)) σ H Q :=
  h0 H (Ex.refl H) _ fun H2 e2 => h1 H2 e2 H2 (Ex.refl H2) _ fun H3 e3 => h2 H3 (e2.trans e3) H3 (Ex.refl H3) _ fun H4 e4 => ⟨sz_of (show 1 ≤ 100000 by decide), fun u nu => by
    have eN : Ex H4 (upd H4 u (.lst [t])) := Ex.new nu
    have e04 := (e2.trans (e3.trans e4)).trans eN
    show sp ([nv, .ref u] ++ []) _ _ E
    rw [List.append_nil]
    exact hs u _ e04 upd_same _ (fun ms pm b H5 nb e5 hb => q gl b ms H5 pm (e04.trans e5) ((e04.trans e5) _ _ hg) hb) E⟩
/-- o.append(e), more behind it -/
theorem q_appQa21 {to : TE} {A : List Addr} {l : Addr} {xs : List V} (hl : H l = some (.lst xs)) (ho : Ev to σ H (.ref l)) (he : EvQa A Pd te σ H) (hz : xs.length < 100000) (kk : ∀ x d H1, Ex H H1 → Dq (hid A H1) x d → Pd d → tz D σ (upd H1 l (.lst (xs ++ [x])))) :
    tSeq (tDrop (tBM K "list" rAppend to (tCons te tNil))) tz D σ H := s_appQa (D := { D with nx := tz D }) hl ho he hz kk
theorem tgU21 {b k b' k' : Nat} (h : EvQd (Ok65 b k) te σ H) (hb : b ≤ b') (hk : k ≤ k') : EvQd (Ok65 b' k') te σ H := fun H1 e Q q => h H1 e Q fun x d H2 e2 g o => q x d H2 e2 g (o.up hb hk)
end
/- law: slots 0 _law_script, 1 _law_cell, 2 _law_n, 3 _law_some, 4 _law_pick, 5 _law_rest, 6 _law_wheels, 7 _law_things, 8 _law_k, 9 _law_more, 10 _law_d, 11 _law_row_here, 12 _law_less, 13 _law_thing_here, 14 _law_x, 15 _law_y; calls _law_count, _law_mix, _law_drawn_sum, _law_made_paper, _law_thing, _law_moved, _law_bent_wheels, _law_bent_rest, _law_come_to, _law_is -/
abbrev s_law : Stmt := topS 35
theorem sc_law : FnScope ["_law_script", "_law_cell", "_law_n", "_law_some", "_law_pick", "_law_rest", "_law_wheels", "_law_things", "_law_k", "_law_more", "_law_d", "_law_row_here", "_law_less", "_law_thing_here", "_law_x", "_law_y"] ["_law_script"] (defScope s_law) := ⟨rfl, rfl, rfl, by decide +kernel, rfl, by decide +kernel, by decide +kernel⟩

def spLaw (K : PySem.W.Frag) : Sp := fun vs H Q _ => ∃ (a : Addr) (ns : List Int), vs = [.ref a] ∧ SqL K H a (ns.map V.int) ∧ ns.length ≤ 63 ∧ ∀ H', Q (.bl true) H'
section
variable {P : Program} {w : World} {K : PySem.W.Frag} {mg : Str → Option Value} {base : Heap}
theorem law_ok {f : Addr} {fd : FuncData} (F : Fun K "law" "law" s_law f fd) (nb : Nb mg)
    (d_is_whole : Dfn K mg "is_whole" ["thing"] s_is_whole) (d_are_whole : Dfn K mg "are_whole" ["things"] s_are_whole) (d_parted : Dfn K mg "parted" ["n"] s_parted) (d_sum_plus : Dfn K mg "sum_plus" ["one", "other"] s_sum_plus) (d_powers_of : Dfn K mg "powers_of" ["n"] s_powers_of) (d_ground : Dfn K mg "ground" ["n"] s_ground) (d_come_to : Dfn K mg "come_to" ["n", "wheels"] s_come_to) (d_all_noughts : Dfn K mg "all_noughts" ["numbers"] s_all_noughts) (d_is_turned_wheel : Dfn K mg "is_turned_wheel" ["n", "primes", "thing"] s_is_turned_wheel) (d_are_wheels : Dfn K mg "are_wheels" ["n", "thing"] s_are_wheels) (d_is_rest : Dfn K mg "is_rest" ["n", "thing"] s_is_rest) (d_shows_not : Dfn K mg "shows_not" ["some", "thing"] s_shows_not) (d__law_mix : Dfn K mg "_law_mix" ["_law_cell", "_law_k"] s__law_mix) (d__law_count : Dfn K mg "_law_count" ["_law_pick"] s__law_count) (d__law_parted : Dfn K mg "_law_parted" ["_law_n"] s__law_parted) (d__law_sum : Dfn K mg "_law_sum" ["_law_n", "_law_cell", "_law_wide"] s__law_sum) (d__law_come_to : Dfn K mg "_law_come_to" ["_law_n", "_law_wheels"] s__law_come_to) (d__law_is_ground : Dfn K mg "_law_is_ground" ["_law_n", "_law_j"] s__law_is_ground) (d__law_whole : Dfn K mg "_law_whole" ["_law_got"] s__law_whole) (d__law_in_row : Dfn K mg "_law_in_row" ["_law_n", "_law_wheels"] s__law_in_row) (d__law_row : Dfn K mg "_law_row" ["_law_n", "_law_cell", "_law_place"] s__law_row) (d__law_drawn_sum : Dfn K mg "_law_drawn_sum" ["_law_n", "_law_cell"] s__law_drawn_sum) (d__law_made_paper : Dfn K mg "_law_made_paper" ["_law_some", "_law_turn"] s__law_made_paper) (d__law_thing : Dfn K mg "_law_thing" ["_law_pick"] s__law_thing) (d__law_bent_wheels : Dfn K mg "_law_bent_wheels" ["_law_wheels", "_law_n", "_law_pick"] s__law_bent_wheels) (d__law_due : Dfn K mg "_law_due" ["_law_some", "_law_thing_here"] s__law_due) (d__law_bent_rest : Dfn K mg "_law_bent_rest" ["_law_rest", "_law_pick"] s__law_bent_rest) (d__law_is : Dfn K mg "_law_is" ["_law_some", "_law_thing_here"] s__law_is) (d__law_moved : Dfn K mg "_law_moved" ["_law_some", "_law_rest", "_law_wheels", "_law_pick"] s__law_moved) :
    FnG P w K mg base 8 f fd ["_law_script"] (spLaw K) := by
  have c_parted : Cal P w K mg base CX0 "parted" 1 ["n"] (spParted K) := cal_parted nb d_parted
  have c_come_to : Cal P w K mg base CX0 "come_to" 1 ["n", "wheels"] (spCome K) := cal_come nb d_come_to
  have c_are_whole : Cal P w K mg base CX0 "are_whole" 2 ["things"] spAreW20 := cal_arew20 nb (cal_isw nb d_is_whole) d_are_whole
  have c_are_wheels : Cal P w K mg base CX0 "are_wheels" 4 ["n", "thing"] (spAW20 K) := cal_aw20 nb c_parted (cal_tw20 nb c_are_whole d_is_turned_wheel) d_are_wheels
  have c_is_rest : Cal P w K mg base CX0 "is_rest" 4 ["n", "thing"] spIr21 := cal_ir21 nb c_are_whole (cal_ground nb (cal_powers nb c_parted d_powers_of) d_ground) (cal_allz nb d_all_noughts) d_is_rest
  have c_shows_not : Cal P w K mg base CX0 "shows_not" 5 ["some", "thing"] spSt21 := cal_st21 nb c_is_rest c_are_wheels (cal_splus nb d_sum_plus) c_come_to d_shows_not
  have c__law_mix : Cal P w K mg base CX0 "_law_mix" 1 ["_law_cell", "_law_k"] spMix := cal_mix nb d__law_mix
  have c__law_count : Cal P w K mg base CX0 "_law_count" 1 ["_law_pick"] spCount := cal_count nb d__law_count
  have c_lparted : Cal P w K mg base CX0 "_law_parted" 1 ["_law_n"] (spLParted K) := cal_lparted nb d__law_parted
  have c_lcome : Cal P w K mg base CX0 "_law_come_to" 1 ["_law_n", "_law_wheels"] (spCome K) := cal_lcome nb d__law_come_to
  have c__law_come_to : Cal P w K mg base CX0 "_law_come_to" 1 ["_law_n", "_law_wheels"] (spLc20 K) := cal_lc20 nb d__law_come_to
  have c__law_row : Cal P w K mg base CX0 "_law_row" 2 ["_law_n", "_law_cell", "_law_place"] spLRowD := cal_lrowD nb c__law_mix c_lparted d__law_row
  have c_lrow : Cal P w K mg base CX0 "_law_row" 2 ["_law_n", "_law_cell", "_law_place"] (spLRow K) := c__law_row.imp fun vs H Q E h => lrow_of h
  have c__law_drawn_sum : Cal P w K mg base CX0 "_law_drawn_sum" 3 ["_law_n", "_law_cell"] spDrawn := cal_drawn nb c__law_mix c_lcome c_lrow (cal_lsum nb c__law_mix d__law_sum) d__law_drawn_sum
  have c__law_made_paper : Cal P w K mg base CX0 "_law_made_paper" 2 ["_law_some", "_law_turn"] spMp20 := cal_mp20 nb c_lparted d__law_made_paper
  have c__law_thing : Cal P w K mg base CX0 "_law_thing" 1 ["_law_pick"] spTg20 := cal_tg20 nb d__law_thing
  have c__law_bent_wheels : Cal P w K mg base CX0 "_law_bent_wheels" 2 ["_law_wheels", "_law_n", "_law_pick"] spBw20 := cal_bw20 nb c__law_thing d__law_bent_wheels
  have c__law_bent_rest : Cal P w K mg base CX0 "_law_bent_rest" 1 ["_law_rest", "_law_pick"] spBr21 := cal_br21 nb d__law_bent_rest
  have c__law_moved : Cal P w K mg base CX0 "_law_moved" 2 ["_law_some", "_law_rest", "_law_wheels", "_law_pick"] spMv21 := cal_mv21 nb c_lparted c_lcome d__law_moved
  have c_lwhole : Cal P w K mg base CX0 "_law_whole" 1 ["_law_got"] spLW21 := cal_lw21 nb d__law_whole
  have c__law_due : Cal P w K mg base CX0 "_law_due" 3 ["_law_some", "_law_thing_here"] spDue21 := cal_due21 nb c_lwhole (cal_ir20 nb c_lwhole c_lparted d__law_in_row) (cal_ig21 nb c_lparted d__law_is_ground) c_lcome d__law_due
  have c__law_is : CalG P w K mg base "_law_is" 6 ["_law_some", "_law_thing_here"] spIs21 := cal_is21 nb c_shows_not c__law_due d__law_is
  refine Fun.okG F sc_law (fun vs H Q E h => ?_) (fun cdv A outer s H vs Q E hr hg h => ?_)
  · obtain ⟨a, ns, rfl, _⟩ := h
    rfl
  · obtain ⟨a, ns, rfl, hS, hlen, q⟩ := h
    refine ⟨_, (pss_cons (ps_for PassesOwn.never rfl (pi_list (pe_op op_cat (pe_slice sl_list (pv 0) po_none (po_some pe_int)) (pe_lst (pa_cons pe_int pa_nil)))) (pg_name (i := 1) sc_law.nd rfl (.inl rfl)) (pss_cons (ps_set (i := 2) sc_law.nd rfl (.inl rfl) (pe_cal c__law_count (hr.mono (by first | decide | omega)) (by rfl) pass0 (pa_cons (pe_cal c__law_mix (hr.mono (by first | decide | omega)) (by rfl) pass0 (pa_cons (pv 1) (pa_cons pe_int pa_nil))) pa_nil)))
      (pss_cons (ps_set (i := 3) sc_law.nd rfl (.inl rfl) (pe_cal c__law_drawn_sum (hr.mono (by first | decide | omega)) (by rfl) pass0 (pa_cons (pv 2) (pa_cons (pv 1) pa_nil))))
      (pss_cons (ps_set (i := 4) sc_law.nd rfl (.inl rfl) (pe_cal c__law_mix (hr.mono (by first | decide | omega)) (by rfl) pass0 (pa_cons (pv 1) (pa_cons pe_int pa_nil))))
      (pss_cons (ps_asg (pe_cal c__law_made_paper (hr.mono (by first | decide | omega)) (by rfl) pass0 (pa_cons (pv 3) (pa_cons (pv 4) pa_nil))) (pg_tup (by rfl) (pgs_cons (pg_name (i := 5) sc_law.nd rfl (.inl rfl)) (pgs_cons (pg_name (i := 6) sc_law.nd rfl (.inl rfl)) pgs_nil))))
      (pss_cons (ps_set (i := 7) sc_law.nd rfl (.inl rfl) (pe_lst (pa_cons (pe_tup (pa_cons pe_str (pa_cons (pv 5) (pa_cons (pv 6) pa_nil)))) (pa_cons (pe_tup (pa_cons pe_str (pa_cons (pv 5) pa_nil))) (pa_cons (pe_tup (pa_cons pe_str (pa_cons (pv 6) (pa_cons (pv 5) pa_nil)))) (pa_cons (pe_lst (pa_cons pe_str (pa_cons (pv 5) (pa_cons (pv 6) pa_nil)))) pa_nil))))))
      (pss_cons (ps_set (i := 7) sc_law.nd rfl (.inl rfl) (pe_op op_cat (pv 7) (pe_lst (pa_cons (pe_tup (pa_cons pe_str (pa_cons (pv 5) (pa_cons (pv 6) pa_nil)))) (pa_cons (pe_tup (pa_cons pe_str (pa_cons (pv 5) (pa_cons (pv 6) (pa_cons pe_int pa_nil))))) (pa_cons (pe_tup (pa_cons pe_str (pa_cons (pv 6) pa_nil))) (pa_cons (pe_tup (pa_cons (pv 5) (pa_cons (pv 6) pa_nil))) pa_nil)))))))
      (pss_cons (ps_set (i := 7) sc_law.nd rfl (.inl rfl) (pe_op op_cat (pv 7) (pe_lst (pa_cons (pe_cal c__law_thing (hr.mono (by first | decide | omega)) (by rfl) pass0 (pa_cons (pv 4) pa_nil)) (pa_cons (pe_tup (pa_cons pe_str (pa_cons (pe_cal c__law_thing (hr.mono (by first | decide | omega)) (by rfl) pass0 (pa_cons (pe_op op_fdivW (pv 4) pe_int) pa_nil)) (pa_cons (pv 6) pa_nil)))) (pa_cons (pe_tup (pa_cons pe_str (pa_cons (pv 3) (pa_cons (pe_lst pa_nil) pa_nil)))) pa_nil))))))
      (pss_cons (ps_expr (pe_bm PySem.F.plainAttrs_list PySem.F.slot_list_append PySem.F.type_list_append mt_append (pv 7) (pa_cons (pe_cal c__law_moved (hr.mono (by first | decide | omega)) (by rfl) pass0 (pa_cons (pv 3) (pa_cons (pv 5) (pa_cons (pv 6) (pa_cons (pv 4) pa_nil))))) pa_nil)))
      (pss_cons (ps_for PassesOwn.never rfl (pi_range1 (by rfl) nb.range (pa_cons pe_int pa_nil)) (pg_name (i := 8) sc_law.nd rfl (.inl rfl)) (pss_cons (ps_set (i := 9) sc_law.nd rfl (.inl rfl) (pe_cal c__law_mix (hr.mono (by first | decide | omega)) (by rfl) pass0 (pa_cons (pv 1) (pa_cons (pe_op op_add pe_int (pv 8)) pa_nil))))
      (pss_cons (ps_expr (pe_bm PySem.F.plainAttrs_list PySem.F.slot_list_append PySem.F.type_list_append mt_append (pv 7) (pa_cons (pe_tup (pa_cons pe_str (pa_cons (pv 5) (pa_cons (pe_cal c__law_bent_wheels (hr.mono (by first | decide | omega)) (by rfl) pass0 (pa_cons (pv 6) (pa_cons (pv 2) (pa_cons (pv 9) pa_nil)))) pa_nil)))) pa_nil)))
      (pss_one (ps_expr (pe_bm PySem.F.plainAttrs_list PySem.F.slot_list_append PySem.F.type_list_append mt_append (pv 7) (pa_cons (pe_tup (pa_cons pe_str (pa_cons (pe_cal c__law_bent_rest (hr.mono (by first | decide | omega)) (by rfl) pass0 (pa_cons (pv 5) (pa_cons (pe_op op_fdivW (pv 9) pe_int) pa_nil))) (pa_cons (pv 6) pa_nil)))) pa_nil)))))))
      (pss_cons (ps_for PassesOwn.never rfl (pi_range2 (by rfl) nb.range (pa_cons pe_int (pa_cons (pe_op op_add (pv 2) pe_int) pa_nil))) (pg_name (i := 10) sc_law.nd rfl (.inl rfl)) (pss_cons (ps_set (i := 11) sc_law.nd rfl (.inl rfl) (pe_tup (pa_cons (pv 10) (pa_cons (pe_op op_mod (pv 4) (pe_op op_fdivW (pv 2) (pv 10))) (pa_cons pe_int pa_nil)))))
      (pss_cons (ps_setLc (i := 12) (own := [("_law_x", 14), ("_law_y", 15)]) (g := gTup K 2 (gCons (gName 14) (gCons (gName 15) gNil))) (tt := tYes) (by rfl) sc_law.nd rfl rfl (sw_true rfl rfl rfl (by decide +kernel)) (pi_zip (by rfl) nb.zip (pa_cons (pv 5) (pa_cons (pe_cal c__law_come_to (hr.mono (by first | decide | omega)) (by rfl) pass0 (pa_cons (pv 2) (pa_cons (pe_lst (pa_cons (pv 11) pa_nil)) pa_nil))) pa_nil))) (blkOk_by (N := ["_law_script", "_law_cell", "_law_n", "_law_some", "_law_pick", "_law_rest", "_law_wheels", "_law_things", "_law_k", "_law_more", "_law_d", "_law_row_here", "_law_less", "_law_thing_here", "_law_x", "_law_y"]) (sc := defScope s_law) (by decide +kernel)) (fun _ _ _ _ _ => (pg_tup (by rfl) (pgs_cons (pg_name (i := 14) sc_law.nd rfl (Or.inl rfl)) (pgs_cons (pg_name (i := 15) sc_law.nd rfl (Or.inl rfl)) pgs_nil)))) (fun _ _ _ _ _ => pts_nil) (fun _ _ _ _ _ => (pe_op op_add (pv 14) (pv 15))))
      (pss_one (ps_if (PW.pt (pw_or (pt_not (pt_val (pe_calG c__law_is (hr.mono (by first | decide | omega)) hg (by rfl) pass0 (pa_cons (pv 12) (pa_cons (pe_tup (pa_cons pe_str (pa_cons (pv 5) (pa_cons (pe_lst (pa_cons (pv 11) pa_nil)) pa_nil)))) pa_nil))))) (pw_or1 (pt_not (pt_val (pe_calG c__law_is (hr.mono (by first | decide | omega)) hg (by rfl) pass0 (pa_cons (pv 12) (pa_cons (pe_tup (pa_cons pe_str (pa_cons (pv 5) (pa_cons (pe_lst (pa_cons (pv 11) (pa_cons (pv 11) pa_nil))) pa_nil)))) pa_nil)))))))) (pss_one (ps_ret pe_bl)) pss_nil)))))
      (pss_one (ps_for PassesOwn.never rfl (pi_list (pv 7)) (pg_name (i := 13) sc_law.nd rfl (.inl rfl)) (pss_one (ps_if (pt_not (pt_val (pe_calG c__law_is (hr.mono (by first | decide | omega)) hg (by rfl) pass0 (pa_cons (pv 3) (pa_cons (pv 13) pa_nil))))) (pss_one (ps_ret pe_bl)) pss_nil)))))))))))))))
      (pss_one (ps_ret pe_bl))), ?_⟩
    refine q_forNLn (xs := (ns.take 8 ++ ([0] : List Int)).map V.int) (el_is (el_cat (xs := (ns.take 8).map V.int) (ys := ([0] : List Int).map V.int) (el_is (el_sl (hi := some ((8 : Nat) : Int)) (ev_var rfl) eo_none (eo_some ev_c) hS) (by rw [cut_take, List.map_take])) (el_lst (vs := [.int 0]) (by one_place) (by show 1 ≤ 100000; decide)) (by rw [List.length_map, List.length_map, List.length_take]; show _ + 1 ≤ _; omega)) (by rw [List.map_append]))
      (fun p i σ' H' => H' p = some (.lst ((ns.take 8 ++ ([0] : List Int)).map V.int)) ∧ ∃ (x1 x2 x3 x4 x5 x6 x7 x8 x9 x10 x11 x12 x13 x14 x15 : Option V), σ' = [some (.ref a), x1, x2, x3, x4, x5, x6, x7, x8, x9, x10, x11, x12, x13, x14, x15] ∧ Ex H H')
      (fun p H2 np e2 hp => ⟨hp, none, none, none, none, none, none, none, none, none, none, none, none, none, none, none, rfl, e2⟩) (fun p i σ' H' _ hq => SqL.of hq.1) (fun p i x σ' H2 hx hq => ?_) (fun p σ' H2 hq => ?_)
    · obtain ⟨hp, x1, x2, x3, x4, x5, x6, x7, x8, x9, x10, x11, x12, x13, x14, x15, rfl, e2⟩ := hq
      obtain ⟨c, hc, rfl⟩ := map_get hx
      obtain ⟨cb1, cb2⟩ := cnt_bd (mix c 22)
      obtain ⟨n, hn⟩ : ∃ n : Nat, (n : Int) = cnt (mix c 22) := ⟨(cnt (mix c 22)).toNat, by omega⟩
      have n1 : 1 ≤ n := by omega
      have n2 : n ≤ 60 := by omega
      refine q_asg (v := .int (n : Nat)) (ev_is (ev_cal (vs := [.int (mix c 22)]) (z := .int (cnt (mix c 22))) (ea_cons (ev_cal (vs := [.int c, .int 22]) (by one_place) fun H3 e3 Q k E => ⟨c, 22, rfl, by decide, by decide, k⟩) ea_nil) fun H3 e3 Q k E => ⟨_, rfl, mix_nn _ _, k⟩) (by rw [hn])) fun H3 e3 => ?_
      refine q_asgPr20 (vs := [.int (n : Nat), .int c]) (Pr := fun f => f.length = n ∧ Bd 200 f) (by one_place) (fun H4 e4 Q k E => ⟨n, c, rfl, n1, by omega, fun f lf bf => k f ⟨lf, bf⟩⟩) fun f sm H4 hf e4 hsm => ?_
      obtain ⟨lf, bf⟩ := hf
      have y0 := mix_nn c 23
      refine q_asg (v := .int (mix c 23)) (ev_cal (vs := [.int c, .int 23]) (by one_place) fun H5 e5 Q k E => ⟨c, 23, rfl, by decide, by decide, k⟩) fun H5 e5 => ?_
      generalize mix c 23 = y at *
      refine q_asgMp20 (a := sm) (f := f) (n := n) (y := y) (by one_place) (e5 _ _ hsm) lf n1 n2 bf y0 fun gl wl g wxs rows H6 e6 hgl lg bg hwl dqw B => ?_
      have hsm6 := (e5.trans e6) _ _ hsm
      have okW : Ok65 1161003 2 (.list (rows.map d3)) := (ok_rows20 B.g).list
      have okG : Ok65 115400 1 (dI g) := (okA_ints (ns := g) (fun m => Nat.lt_of_lt_of_le (bg m) (Nat.pow_le_pow_right (by decide) (by decide)))).list.up (by omega) (by decide)
      have okF : Ok65 115400 1 (dI f) := (okA_ints (ns := f) (fun m => Nat.lt_of_lt_of_le (bf m) (Nat.pow_le_pow_right (by decide) (by decide)))).list.up (by omega) (by decide)
      have vW : ∀ {Hx : Hp} {σ : L2.St}, Ex H6 Hx → σ[6]? = some (some (.ref wl)) → EvQd (Ok65 1170000 20) (tVar 6) σ Hx := fun e h => eq_val (ev_var h) (fun _ e1 => .lst ((e.trans e1) _ _ hwl) (dqw.mono (e.trans e1))) (okW.up (by decide) (by decide))
      have vG : ∀ {Hx : Hp} {σ : L2.St}, Ex H6 Hx → σ[5]? = some (some (.ref gl)) → EvQd (Ok65 1170000 20) (tVar 5) σ Hx := fun e h => eq_val (ev_var h) (fun _ e1 => dq_ints ((e.trans e1) _ _ hgl)) (okG.up (by decide) (by decide))
      have vF : ∀ {Hx : Hp} {σ : L2.St}, Ex H6 Hx → σ[3]? = some (some (.ref sm)) → EvQd (Ok65 1170000 20) (tVar 3) σ Hx := fun e h => eq_val (ev_var h) (fun _ e1 => dq_ints ((e.trans e1) _ _ hsm6)) (okF.up (by decide) (by decide))
      have okN : Ok65 2000 0 (.str (Str.ofString "nought")) := ⟨by decide +kernel, sz_str (by decide +kernel) (by decide +kernel)⟩
      have okn : Ok65 2000 0 (.str (Str.ofString "not")) := ⟨by decide +kernel, sz_str (by decide +kernel) (by decide +kernel)⟩
      have vS : ∀ {Hx : Hp} {σ : L2.St} {s : Str}, Ok65 2000 0 (.str s) → EvQd (Ok65 1170000 20) (tC (.str s)) σ Hx := fun o => eq_val ev_c (fun _ _ => .str _) (o.up (by decide) (by decide))
      have v0 : ∀ {Hx : Hp} {σ : L2.St}, EvQd (Ok65 1170000 20) (tC (.int 0)) σ Hx := eq_val ev_c (fun _ _ => .int _) ((ok_int (i := 0) (by decide +kernel)).up (by decide) (by decide))
      have okT : ∀ {ds : List PyData}, ds.length ≤ 4 → (∀ d ∈ ds, Ok65 1170000 20 d) → Ok65 12000000 25 (.tuple ds) := fun hl hd => ((okA_len hd).tuple).up (by omega) (by decide)
      have okL : ∀ {ds : List PyData}, ds.length ≤ 4 → (∀ d ∈ ds, Ok65 1170000 20 d) → Ok65 12000000 25 (.list ds) := fun hl hd => ((okA_len hd).list).up (by omega) (by decide)
      have nilQ : ∀ {Hx : Hp} {σ : L2.St}, EvQd (Ok65 1170000 20) (tLst tNil) σ Hx := eq_ints (ns := []) (el_lst (vs := []) ea_nil (by decide)) ((OkA.nil 0).list.up (by decide) (by decide))
      have e0 := Ex.refl H6
      refine q_asgQs (Pd := Ok65 12000000 25) (n := 4) (eqs_cons (eq_tup (Pe := Ok65 1170000 20) (n := 3) (eqs_cons (vS okn) (eqs_cons (vG e0 rfl) (eqs_cons (vW e0 rfl) eqs_nil))) (by decide) fun ds hl hd => okT (by omega) hd)
        (eqs_cons (eq_tup (Pe := Ok65 1170000 20) (n := 2) (eqs_cons (vS okn) (eqs_cons (vG e0 rfl) eqs_nil)) (by decide) fun ds hl hd => okT (by omega) hd)
        (eqs_cons (eq_tup (Pe := Ok65 1170000 20) (n := 3) (eqs_cons (vS okn) (eqs_cons (vW e0 rfl) (eqs_cons (vG e0 rfl) eqs_nil))) (by decide) fun ds hl hd => okT (by omega) hd)
        (eqs_cons (eq_lst (Pe := Ok65 1170000 20) (n := 3) (eqs_cons (vS okn) (eqs_cons (vG e0 rfl) (eqs_cons (vW e0 rfl) eqs_nil))) (by decide) fun ds hl hd => okL (by omega) hd) eqs_nil)))) (by decide) fun l0 xs0 ds0 H7 e7 hl0 g0 p0 n0 => ?_
      refine q_asgCatN20 (Pd := Ok65 12000000 25) (n := 4) (ev_var rfl) hl0 g0 (eqs_cons (eq_tup (Pe := Ok65 1170000 20) (n := 3) (eqs_cons (vS okN) (eqs_cons (vG e7 rfl) (eqs_cons (vW e7 rfl) eqs_nil))) (by decide) fun ds hl hd => okT (by omega) hd)
        (eqs_cons (eq_tup (Pe := Ok65 1170000 20) (n := 4) (eqs_cons (vS okn) (eqs_cons (vG e7 rfl) (eqs_cons (vW e7 rfl) (eqs_cons v0 eqs_nil)))) (by decide) fun ds hl hd => okT (by omega) hd)
        (eqs_cons (eq_tup (Pe := Ok65 1170000 20) (n := 2) (eqs_cons (vS okN) (eqs_cons (vW e7 rfl) eqs_nil)) (by decide) fun ds hl hd => okT (by omega) hd)
        (eqs_cons (eq_tup (Pe := Ok65 1170000 20) (n := 2) (eqs_cons (vG e7 rfl) (eqs_cons (vW e7 rfl) eqs_nil)) (by decide) fun ds hl hd => okT (by omega) hd) eqs_nil)))) ⟨by omega, by decide⟩ fun l1 ys1 es1 H8 nl1 e8 hl1 g1 p1 m1 => ?_
      have e68 := e7.trans e8
      have tg : ∀ {Hx : Hp} {σ : L2.St} {tt : TE} {v : Int}, Ev tt σ Hx (.int v) → 0 ≤ v → ∀ {E : XK}, EvQd (Ok65 12000 3) (tCall spTg20 [] E (tCons tt tNil)) σ Hx := fun {Hx σ tt v} h v0 {E} => eq_callP (vs := [.int v]) (ea_cons h ea_nil) fun H9 e9 Q k E => ⟨v, [], rfl, v0, fun x hx => absurd hx List.not_mem_nil, fun x d H10 e10 gx ox => k x d H10 e10 (by rw [hid_nil] at gx; exact gx) ox⟩
      refine q_asgCatN20 (Pd := Ok65 12000000 25) (n := 3) (ev_var rfl) hl1 (dqa_un20 g1) (eqs_cons (tgU21 (tg (ev_var rfl) y0) (by decide) (by decide))
        (eqs_cons (eq_tup (Pe := Ok65 1170000 20) (n := 3) (eqs_cons (vS okn) (eqs_cons (tgU21 (tg (v := y / 12) (by one_place) (by omega)) (by decide) (by decide)) (eqs_cons (vW e68 rfl) eqs_nil))) (by decide) fun ds hl hd => okT (by omega) hd)
        (eqs_cons (eq_tup (Pe := Ok65 1170000 20) (n := 3) (eqs_cons (vS okn) (eqs_cons (vF e68 rfl) (eqs_cons nilQ eqs_nil))) (by decide) fun ds hl hd => okT (by omega) hd) eqs_nil))) ⟨by rw [List.length_append]; omega, by decide⟩ fun l2 ys2 es2 H9 nl2 e9 hl2 g2 p2 m2 => ?_
      have pA : ∀ d ∈ (ds0 ++ es1) ++ es2, Ok65 12000000 25 d := fun d hd => by
        rcases List.mem_append.mp hd with h | h
        · rcases List.mem_append.mp h with h | h
          · exact p0 d h
          · exact p1 d h
        · exact p2 d h
      have lA : ((xs0 ++ ys1) ++ ys2).length ≤ 11 := by rw [List.length_append, List.length_append]; omega
      generalize (xs0 ++ ys1) ++ ys2 = xsA at *
      generalize (ds0 ++ es1) ++ es2 = dsA at *
      have hwl8 := e68 _ _ hwl
      have hgl8 := e68 _ _ hgl
      have dqw8 := dqw.mono e68
      have hsm8 := e68 _ _ hsm6
      have e28 : Ex H2 H8 := e3.trans (e4.trans (e5.trans (e6.trans e68)))
      have hp8 := e28 _ _ hp
      have glA : gl ∉ [l2] := fun h => by rw [List.mem_singleton.mp h, nl2] at hgl8; cases hgl8
      have wlA : wl ∉ [l2] := fun h => by rw [List.mem_singleton.mp h, nl2] at hwl8; cases hwl8
      have dqh : ∀ {Hx : Hp}, Ex H8 Hx → DqAll (hid [l2] Hx) wxs (rows.map d3) := fun e => dqa_old20 dqw8 (fun x hx => by rw [List.mem_singleton.mp hx]; exact nl2) e
      refine q_appQa21 (A := [l2]) (Pd := Ok65 12000000 25) hl2 (ev_var rfl) (qa_callP (vs := [.ref sm, .ref gl, .ref wl, .int y]) (by one_place) fun H10 e10 Q k2 E => ⟨sm, gl, wl, f, g, n, wxs, rows, y, [l2], rfl, (e9.trans e10) _ _ hsm8, lf, (e9.trans e10) _ _ hgl8, lg, bg, (e9.trans e10) _ _ hwl8, tkn_ex e10 (tkn_one hl2), glA, wlA, dqh (e9.trans e10), B, n1, n2, y0, fun x d H11 e11 gx o => k2 x d H11 e11 gx (o.up (by decide) (by decide))⟩) (by omega) fun x1' d1' H10 e10 gx1 px1 => ?_
      have g10 : DqAll (hid [l2] (upd H10 l2 (.lst (xsA ++ [x1'])))) (xsA ++ [x1']) (dsA ++ [d1']) := by
        rw [hid_upd List.mem_cons_self]
        exact (g2.mono (hid_ex e10)).app (.cons gx1 .nil)
      have e8c : Ex H8 (upd H10 l2 (.lst (xsA ++ [x1']))) := Ex.mut (e9.trans e10) nl2
      have hlc : upd H10 l2 (.lst (xsA ++ [x1'])) l2 = some (.lst (xsA ++ [x1'])) := upd_same
      have pB : ∀ d ∈ dsA ++ [d1'], Ok65 12000000 25 d := fun d hd => by
        rcases List.mem_append.mp hd with h | h
        · exact pA d h
        · rw [List.mem_singleton.mp h]
          exact px1
      have lB : (xsA ++ [x1']).length ≤ 12 := by rw [List.length_append, List.length_singleton]; omega
      generalize upd H10 l2 (.lst (xsA ++ [x1'])) = Hc at *
      generalize xsA ++ [x1'] = xsB at *
      generalize dsA ++ [d1'] = dsB at *
      refine q_forR1 (n := 5) (by one_place) (by decide) (fun k σ' H' => ∃ (xs : List V) (ds : List PyData) (y8 y9 : Option V), σ' = [some (.ref a), some (.int c), some (.int (n : Nat)), some (.ref sm), some (.int y), some (.ref gl), some (.ref wl), some (.ref l2), y8, y9, x10, x11, x12, x13, x14, x15] ∧ Ex H8 H' ∧ H' l2 = some (.lst xs) ∧ DqAll (hid [l2] H') xs ds ∧ (∀ d ∈ ds, Ok65 12000000 25 d) ∧ xs.length ≤ 12 + 2 * k)
        (fun H11 e11 => ⟨xsB, dsB, _, _, rfl, e8c.trans e11, e11 _ _ hlc, g10.mono (hid_ex e11), pB, lB⟩) (fun k σ' H10 hk hq => ?_) (fun σ' H10 hq => ?_)
      · obtain ⟨xs, ds, y8, y9, rfl, e10, hl, g, pd, lx⟩ := hq
        refine q_asg (v := .int (mix c (24 + (k : Int)))) (ev_cal (vs := [.int c, .int (24 + (k : Int))]) (by one_place) fun H11 e11 Q k2 E => ⟨c, _, rfl, by omega, by omega, k2⟩) fun H11 e11 => ?_
        have z0 := mix_nn c (24 + (k : Int))
        have z1 := mix_le c (24 + (k : Int))
        generalize mix c (24 + (k : Int)) = z at *
        have e811 := e10.trans e11
        have hl11 := e11 _ _ hl
        have tk : Tkn [l2] H11 := tkn_one hl11
        refine q_appQa21 (A := [l2]) (Pd := Ok65 12000000 25) hl11 (ev_var rfl) (qa_tup tk (Pe := Ok65 3000000 20) (n := 3) (qas_cons (qa_flat ev_c (fun _ => .str _) (okn.up (by decide) (by decide))) (qas_cons (qa_val (ev_var rfl) (fun _ e1 => .lst (by rw [hid_out glA]; exact (e811.trans e1) _ _ hgl8) (dqa_ints _ _)) (okG.up (by decide) (by decide))) (qas_cons (qa_callP (vs := [.ref wl, .int (n : Nat), .int z]) (by one_place) fun H12 e12 Q k2 E => ⟨wl, wxs, rows, n, _, [l2], rfl, (e811.trans e12) _ _ hwl8, tkn_ex e12 tk, dqh (e811.trans e12), B, n1, by omega, z0, z1, k2⟩) qas_nil))) (by decide) fun ds hl hd => ((okA_len hd).tuple).up (by rw [hl]; decide) (by decide)) (by omega) fun x d H12 e12 gx px => ?_
        have e813 : Ex H8 (upd H12 l2 (.lst (xs ++ [x]))) := Ex.mut (e811.trans e12) nl2
        have hl13 : upd H12 l2 (.lst (xs ++ [x])) l2 = some (.lst (xs ++ [x])) := upd_same
        have g13 : DqAll (hid [l2] (upd H12 l2 (.lst (xs ++ [x])))) (xs ++ [x]) (ds ++ [d]) := by
          rw [hid_upd List.mem_cons_self]
          exact (g.mono (hid_ex (e11.trans e12))).app (.cons gx .nil)
        generalize upd H12 l2 (.lst (xs ++ [x])) = H13 at *
        have tk13 : Tkn [l2] H13 := tkn_one hl13
        refine s_appQa (A := [l2]) (Pd := Ok65 12000000 25) hl13 (ev_var rfl) (qa_tup tk13 (Pe := Ok65 3000000 20) (n := 3) (qas_cons (qa_flat ev_c (fun _ => .str _) (okn.up (by decide) (by decide))) (qas_cons (qa_callP (vs := [.ref gl, .int (z / 7)]) (by one_place) fun H14 e14 Q k2 E => ⟨gl, _, _, [l2], rfl, (e813.trans e14) _ _ hgl8, tkn_ex e14 tk13, by omega, by omega, bg, by omega, fun x d H15 e15 gx o => k2 x d H15 e15 gx (o.up (by decide) (by decide))⟩) (qas_cons (qa_val (ev_var rfl) (fun _ e1 => .lst (by rw [hid_out wlA]; exact (e813.trans e1) _ _ hwl8) (dqh (e813.trans e1))) (okW.up (by decide) (by decide))) qas_nil))) (by decide) fun ds hl hd => ((okA_len hd).tuple).up (by rw [hl]; decide) (by decide)) (by rw [List.length_append, List.length_singleton]; omega) fun x' d' H14 e14 gx' px' => ⟨(xs ++ [x]) ++ [x'], (ds ++ [d]) ++ [d'], _, _, rfl, Ex.mut (e813.trans e14) nl2, upd_same, ?_, fun d2 hd2 => ?_, by rw [List.length_append, List.length_append, List.length_singleton, List.length_singleton]; omega⟩
        · rw [hid_upd List.mem_cons_self]
          exact (g13.mono (hid_ex e14)).app (.cons gx' .nil)
        · rcases List.mem_append.mp hd2 with h | h
          · rcases List.mem_append.mp h with h | h
            · exact pd d2 h
            · rw [List.mem_singleton.mp h]
              exact px
          · rw [List.mem_singleton.mp h]
            exact px'
      · obtain ⟨xs, ds, y8, y9, rfl, e10, hl, g', pd, lx⟩ := hq
        have gd := dqa_un20 g'
        have hsm10 := e10 _ _ hsm8
        have hgl10 := e10 _ _ hgl8
        refine q_forR2 (lo := 2) (n := (n : Int) + 1) (by one_place) (by omega) (fun i σ' H' => ∃ (y10 y11 y12 y14 y15 : Option V), σ' = [some (.ref a), some (.int c), some (.int (n : Nat)), some (.ref sm), some (.int y), some (.ref gl), some (.ref wl), some (.ref l2), y8, y9, y10, y11, y12, x13, y14, y15] ∧ Ex H10 H') (fun H14 e14 => ⟨_, _, _, _, _, rfl, e14⟩) (fun i σ' H14 hi hq => ?_) (fun σ' H14 hq => ?_)
        · obtain ⟨y10, y11, y12, y14, y15, rfl, e14⟩ := hq
          have q1 : 1 ≤ (n : Int) / (2 + (i : Int)) := Int.le_ediv_of_mul_le (by omega) (by omega)
          have q2 : (n : Int) / (2 + (i : Int)) ≤ n := Int.ediv_le_self _ (by omega)
          have m0 := Int.emod_nonneg y (show (n : Int) / (2 + (i : Int)) ≠ 0 by omega)
          have m1 := Int.emod_lt_of_pos y (show 0 < (n : Int) / (2 + (i : Int)) by omega)
          refine q_asgD21 (A := []) (Pd := fun d => d = d3 (2 + (i : Int), y % ((n : Int) / (2 + (i : Int))), 1)) (qa_d3 (A := []) (fun x hx => absurd hx List.not_mem_nil) (ev_var rfl) (ev_mod (ev_var rfl) (ev_div (ev_var rfl) (ev_var rfl) (divW (by omega) (by omega))) (by omega)) ev_c) fun x d H15 e15 gx ed => ?_
          subst ed
          rw [hid_nil] at gx
          have r1 : 1 ≤ 2 + (i : Int) ∧ 2 + (i : Int) ≤ 61 := by omega
          have r2 : (y % ((n : Int) / (2 + (i : Int)))).natAbs ≤ 1000 := by omega
          generalize y % ((n : Int) / (2 + (i : Int))) = m at *
          generalize 2 + (i : Int) = dd at *
          obtain ⟨t, rfl, ht⟩ := d3_get20 gx
          have e1015 := e14.trans e15
          refine q_lcZ21 (Pr := fun ms => ms.length = n) (ns := g) (fun x y => x + y) (az_call21 (nv := .int (n : Nat)) (t := .ref t) (ev_var rfl) (fun _ _ => ev_var rfl) (fun _ _ => ev_var rfl) (e1015 _ _ hgl10) fun u H16 e16 hu Q k E => ⟨n, u, [.ref t], [(dd, m, 1)], rfl, n1, by omega, SqL.of hu, .cons ⟨t, rfl, SqT.of (e16 _ _ ht)⟩ .nil, fun r hr => by rw [List.mem_singleton.mp hr]; exact ⟨r1.1, r1.2, r2⟩, fun ms lm => k ms lm⟩) (fun ms lm => by rw [lg, lm]) (by omega) (fun _ _ => rfl) (fun x y H16 e16 => ev_add (ev_var rfl) (ev_var rfl)) fun ms lp H16 lm e16 hlp => ?_
          have ll : (List.zipWith (fun x y => x + y) g ms).length = n := by rw [List.length_zipWith, lg, lm, Nat.min_self]
          generalize List.zipWith (fun x y => x + y) g ms = ls at *
          have okd : Ok65 5773 1 (d3 (dd, m, 1)) := ok_d3 (p901 (by show dd.natAbs ≤ 100000; omega)) (p901 (by show m.natAbs ≤ 100000; omega)) (p901 (by show (1 : Int).natAbs ≤ 100000; decide))
          have okds : ∀ {k : Nat}, k ≤ 2 → ∀ es : List PyData, es.length = k → (∀ d ∈ es, d ∈ [((dd, m, 1) : I3)].map d3) → Ok65 15000000 45 (.tuple [.str (Str.ofString "not"), dI g, .list es]) := fun hk es le me => by
            have o : OkA ((5773 + 2) * es.length) 1 es := okA_len fun d hd => by
              have := me d hd
              rw [List.map_cons, List.map_nil] at this
              rw [List.mem_singleton.mp this]
              exact okd
            exact (OkA.cons (okn.up (Nat.le_refl _) (show 0 ≤ 2 by decide)) (OkA.cons (okG.up (Nat.le_refl _) (show 1 ≤ 2 by decide)) (OkA.cons o.list (OkA.nil 2)))).tuple.up (by omega) (by decide)
          have gx16 := gx.mono e16
          have one : ∀ {Hx : Hp} {σ : L2.St}, Ex H16 Hx → σ[11]? = some (some (.ref t)) → EvQd (fun d => d ∈ [((dd, m, 1) : I3)].map d3) (tVar 11) σ Hx := fun e h => eq_val (ev_var h) (fun _ e1 => gx16.mono (e.trans e1)) (by rw [List.map_cons]; exact List.mem_cons_self)
          exact s_when (b := false) (et_is (et_or (et_not (et_B (ev_is21 (m := 1) (rows := [(dd, m, 1)]) (ev_var rfl) (fun _ _ => ev_c) (fun _ _ => ev_var rfl) (fun _ e => eqs_cons (one e rfl) eqs_nil) (by decide) hlp ((e1015.trans e16) _ _ hgl10) (by omega) (by omega) (okds (by decide))))) fun _ => et_not (et_B (ev_is21 (m := 2) (rows := [(dd, m, 1)]) (ev_var rfl) (fun _ _ => ev_c) (fun _ _ => ev_var rfl) (fun _ e => eqs_cons (one e rfl) (eqs_cons (one e rfl) eqs_nil)) (by decide) hlp ((e1015.trans e16) _ _ hgl10) (by omega) (by omega) (okds (by decide))))) rfl) (fun hb => nomatch hb) (fun _ H17 e17 => ⟨_, _, _, _, _, rfl, e1015.trans (e16.trans e17)⟩)
        · obtain ⟨y10, y11, y12, y14, y15, rfl, e14⟩ := hq
          refine s_forLn (xs := xs) (by one_place) (SqL.of (e14 _ _ hl)) (fun i σ' H' => ∃ y13, σ' = [some (.ref a), some (.int c), some (.int (n : Nat)), some (.ref sm), some (.int y), some (.ref gl), some (.ref wl), some (.ref l2), y8, y9, y10, y11, y12, y13, y14, y15] ∧ Ex H14 H') (fun H11 e11 => ⟨_, rfl, e11⟩) (fun i σ' H' _ h => SqL.of (h.choose_spec.2 _ _ (e14 _ _ hl))) (fun i x σ' H11 hx hq => ?_) (fun σ' H11 hq => ?_)
          · obtain ⟨y13, rfl, e11⟩ := hq
            have e1411 := e14.trans e11
            obtain ⟨d, hd, gx⟩ := (gd.mono e1411).at hx
            have okd := pd d (List.mem_of_getElem? hd)
            exact s_when (b := false) (et_is (et_not (et_B (ev_cal (vs := [.ref sm, x]) (z := .bl true) (by one_place) fun H12 e12 Q k E => ⟨sm, x, d, f, rfl, (e1411.trans e12) _ _ hsm10, gx.mono e12, okd.up (by decide) (by decide), by omega, by omega, k⟩))) rfl) (fun hb => nomatch hb) (fun _ H12 e12 => ⟨_, rfl, e11.trans e12⟩)
          · obtain ⟨y13, rfl, e11⟩ := hq
            exact ⟨(e10.trans (e14.trans e11)) _ _ hp8, _, _, _, _, _, _, _, _, _, _, _, _, _, _, _, rfl, e2.trans (e28.trans (e10.trans (e14.trans e11)))⟩
    · obtain ⟨hp, x1, x2, x3, x4, x5, x6, x7, x8, x9, x10, x11, x12, x13, x14, x15, rfl, e2⟩ := hq
      exact s_ret (v := .bl true) ev_c fun H4 e4 => q H4
end
theorem all_mk {l : PySem.W.OpenLaw} {w : World} {K : PySem.W.Frag} {h : Heap} {mg : Str → Option Value} {fa : Addr} (X : K.In h) (G : h.Ns mainGlobals mg) (hfa : mg "law" = some (.ref fa))
    {f0 f1 f2 f3 f4 f5 f6 f7 f8 f9 f10 f11 f12 f13 f14 f15 f16 f17 f18 f19 f20 f21 f22 f23 f24 f25 f26 f27 f28 f29 : Addr} {od0 an0 od1 an1 od2 an2 od3 an3 od4 an4 od5 an5 od6 an6 od7 an7 od8 an8 od9 an9 od10 an10 od11 an11 od12 an12 od13 an13 od14 an14 od15 an15 od16 an16 od17 an17 od18 an18 od19 an19 od20 an20 od21 an21 od22 an22 od23 an23 od24 an24 od25 an25 od26 an26 od27 an27 od28 an28 od29 an29 : Option Addr} {sl0 sl1 sl2 sl3 sl4 sl5 sl6 sl7 sl8 sl9 sl10 sl11 sl12 sl13 sl14 sl15 sl16 sl17 sl18 sl19 sl20 sl21 sl22 sl23 sl24 sl25 sl26 sl27 sl28 sl29 : Array (Option Value)} {oc0 kV0 dc0 pm0 cd0 ct0 oc1 kV1 dc1 pm1 cd1 ct1 oc2 kV2 dc2 pm2 cd2 ct2 oc3 kV3 dc3 pm3 cd3 ct3 oc4 kV4 dc4 pm4 cd4 ct4 oc5 kV5 dc5 pm5 cd5 ct5 oc6 kV6 dc6 pm6 cd6 ct6 oc7 kV7 dc7 pm7 cd7 ct7 oc8 kV8 dc8 pm8 cd8 ct8 oc9 kV9 dc9 pm9 cd9 ct9 oc10 kV10 dc10 pm10 cd10 ct10 oc11 kV11 dc11 pm11 cd11 ct11 oc12 kV12 dc12 pm12 cd12 ct12 oc13 kV13 dc13 pm13 cd13 ct13 oc14 kV14 dc14 pm14 cd14 ct14 oc15 kV15 dc15 pm15 cd15 ct15 oc16 kV16 dc16 pm16 cd16 ct16 oc17 kV17 dc17 pm17 cd17 ct17 oc18 kV18 dc18 pm18 cd18 ct18 oc19 kV19 dc19 pm19 cd19 ct19 oc20 kV20 dc20 pm20 cd20 ct20 oc21 kV21 dc21 pm21 cd21 ct21 oc22 kV22 dc22 pm22 cd22 ct22 oc23 kV23 dc23 pm23 cd23 ct23 oc24 kV24 dc24 pm24 cd24 ct24 oc25 kV25 dc25 pm25 cd25 ct25 oc26 kV26 dc26 pm26 cd26 ct26 oc27 kV27 dc27 pm27 cd27 ct27 oc28 kV28 dc28 pm28 cd28 ct28 oc29 kV29 dc29 pm29 cd29 ct29 : Value}
    (a0 : PySem.W.nsIn K mainGlobals "is_whole" = some (some (.ref f0))) (l0 : K.lookup f0 = some ⟨oc0, od0, .func (PySem.W.fnOf "is_whole" "is_whole" (defArgs s_is_whole) (defBody s_is_whole) (defScope s_is_whole) .none kV0 dc0 pm0 an0 cd0 ct0), sl0⟩) (c0 : PySem.W.codeIn K cd0 "is_whole" = true) (k0 : PySem.W.keepIn K (.ref f0) = true)
    (a1 : PySem.W.nsIn K mainGlobals "are_whole" = some (some (.ref f1))) (l1 : K.lookup f1 = some ⟨oc1, od1, .func (PySem.W.fnOf "are_whole" "are_whole" (defArgs s_are_whole) (defBody s_are_whole) (defScope s_are_whole) .none kV1 dc1 pm1 an1 cd1 ct1), sl1⟩) (c1 : PySem.W.codeIn K cd1 "are_whole" = true) (k1 : PySem.W.keepIn K (.ref f1) = true)
    (a2 : PySem.W.nsIn K mainGlobals "parted" = some (some (.ref f2))) (l2 : K.lookup f2 = some ⟨oc2, od2, .func (PySem.W.fnOf "parted" "parted" (defArgs s_parted) (defBody s_parted) (defScope s_parted) .none kV2 dc2 pm2 an2 cd2 ct2), sl2⟩) (c2 : PySem.W.codeIn K cd2 "parted" = true) (k2 : PySem.W.keepIn K (.ref f2) = true)
    (a3 : PySem.W.nsIn K mainGlobals "sum_plus" = some (some (.ref f3))) (l3 : K.lookup f3 = some ⟨oc3, od3, .func (PySem.W.fnOf "sum_plus" "sum_plus" (defArgs s_sum_plus) (defBody s_sum_plus) (defScope s_sum_plus) .none kV3 dc3 pm3 an3 cd3 ct3), sl3⟩) (c3 : PySem.W.codeIn K cd3 "sum_plus" = true) (k3 : PySem.W.keepIn K (.ref f3) = true)
    (a4 : PySem.W.nsIn K mainGlobals "powers_of" = some (some (.ref f4))) (l4 : K.lookup f4 = some ⟨oc4, od4, .func (PySem.W.fnOf "powers_of" "powers_of" (defArgs s_powers_of) (defBody s_powers_of) (defScope s_powers_of) .none kV4 dc4 pm4 an4 cd4 ct4), sl4⟩) (c4 : PySem.W.codeIn K cd4 "powers_of" = true) (k4 : PySem.W.keepIn K (.ref f4) = true)
    (a5 : PySem.W.nsIn K mainGlobals "ground" = some (some (.ref f5))) (l5 : K.lookup f5 = some ⟨oc5, od5, .func (PySem.W.fnOf "ground" "ground" (defArgs s_ground) (defBody s_ground) (defScope s_ground) .none kV5 dc5 pm5 an5 cd5 ct5), sl5⟩) (c5 : PySem.W.codeIn K cd5 "ground" = true) (k5 : PySem.W.keepIn K (.ref f5) = true)
    (a6 : PySem.W.nsIn K mainGlobals "come_to" = some (some (.ref f6))) (l6 : K.lookup f6 = some ⟨oc6, od6, .func (PySem.W.fnOf "come_to" "come_to" (defArgs s_come_to) (defBody s_come_to) (defScope s_come_to) .none kV6 dc6 pm6 an6 cd6 ct6), sl6⟩) (c6 : PySem.W.codeIn K cd6 "come_to" = true) (k6 : PySem.W.keepIn K (.ref f6) = true)
    (a7 : PySem.W.nsIn K mainGlobals "all_noughts" = some (some (.ref f7))) (l7 : K.lookup f7 = some ⟨oc7, od7, .func (PySem.W.fnOf "all_noughts" "all_noughts" (defArgs s_all_noughts) (defBody s_all_noughts) (defScope s_all_noughts) .none kV7 dc7 pm7 an7 cd7 ct7), sl7⟩) (c7 : PySem.W.codeIn K cd7 "all_noughts" = true) (k7 : PySem.W.keepIn K (.ref f7) = true)
    (a8 : PySem.W.nsIn K mainGlobals "is_turned_wheel" = some (some (.ref f8))) (l8 : K.lookup f8 = some ⟨oc8, od8, .func (PySem.W.fnOf "is_turned_wheel" "is_turned_wheel" (defArgs s_is_turned_wheel) (defBody s_is_turned_wheel) (defScope s_is_turned_wheel) .none kV8 dc8 pm8 an8 cd8 ct8), sl8⟩) (c8 : PySem.W.codeIn K cd8 "is_turned_wheel" = true) (k8 : PySem.W.keepIn K (.ref f8) = true)
    (a9 : PySem.W.nsIn K mainGlobals "are_wheels" = some (some (.ref f9))) (l9 : K.lookup f9 = some ⟨oc9, od9, .func (PySem.W.fnOf "are_wheels" "are_wheels" (defArgs s_are_wheels) (defBody s_are_wheels) (defScope s_are_wheels) .none kV9 dc9 pm9 an9 cd9 ct9), sl9⟩) (c9 : PySem.W.codeIn K cd9 "are_wheels" = true) (k9 : PySem.W.keepIn K (.ref f9) = true)
    (a10 : PySem.W.nsIn K mainGlobals "is_rest" = some (some (.ref f10))) (l10 : K.lookup f10 = some ⟨oc10, od10, .func (PySem.W.fnOf "is_rest" "is_rest" (defArgs s_is_rest) (defBody s_is_rest) (defScope s_is_rest) .none kV10 dc10 pm10 an10 cd10 ct10), sl10⟩) (c10 : PySem.W.codeIn K cd10 "is_rest" = true) (k10 : PySem.W.keepIn K (.ref f10) = true)
    (a11 : PySem.W.nsIn K mainGlobals "shows_not" = some (some (.ref f11))) (l11 : K.lookup f11 = some ⟨oc11, od11, .func (PySem.W.fnOf "shows_not" "shows_not" (defArgs s_shows_not) (defBody s_shows_not) (defScope s_shows_not) .none kV11 dc11 pm11 an11 cd11 ct11), sl11⟩) (c11 : PySem.W.codeIn K cd11 "shows_not" = true) (k11 : PySem.W.keepIn K (.ref f11) = true)
    (a12 : PySem.W.nsIn K mainGlobals "_law_mix" = some (some (.ref f12))) (l12 : K.lookup f12 = some ⟨oc12, od12, .func (PySem.W.fnOf "_law_mix" "_law_mix" (defArgs s__law_mix) (defBody s__law_mix) (defScope s__law_mix) .none kV12 dc12 pm12 an12 cd12 ct12), sl12⟩) (c12 : PySem.W.codeIn K cd12 "_law_mix" = true) (k12 : PySem.W.keepIn K (.ref f12) = true)
    (a13 : PySem.W.nsIn K mainGlobals "_law_count" = some (some (.ref f13))) (l13 : K.lookup f13 = some ⟨oc13, od13, .func (PySem.W.fnOf "_law_count" "_law_count" (defArgs s__law_count) (defBody s__law_count) (defScope s__law_count) .none kV13 dc13 pm13 an13 cd13 ct13), sl13⟩) (c13 : PySem.W.codeIn K cd13 "_law_count" = true) (k13 : PySem.W.keepIn K (.ref f13) = true)
    (a14 : PySem.W.nsIn K mainGlobals "_law_parted" = some (some (.ref f14))) (l14 : K.lookup f14 = some ⟨oc14, od14, .func (PySem.W.fnOf "_law_parted" "_law_parted" (defArgs s__law_parted) (defBody s__law_parted) (defScope s__law_parted) .none kV14 dc14 pm14 an14 cd14 ct14), sl14⟩) (c14 : PySem.W.codeIn K cd14 "_law_parted" = true) (k14 : PySem.W.keepIn K (.ref f14) = true)
    (a15 : PySem.W.nsIn K mainGlobals "_law_sum" = some (some (.ref f15))) (l15 : K.lookup f15 = some ⟨oc15, od15, .func (PySem.W.fnOf "_law_sum" "_law_sum" (defArgs s__law_sum) (defBody s__law_sum) (defScope s__law_sum) .none kV15 dc15 pm15 an15 cd15 ct15), sl15⟩) (c15 : PySem.W.codeIn K cd15 "_law_sum" = true) (k15 : PySem.W.keepIn K (.ref f15) = true)
    (a16 : PySem.W.nsIn K mainGlobals "_law_come_to" = some (some (.ref f16))) (l16 : K.lookup f16 = some ⟨oc16, od16, .func (PySem.W.fnOf "_law_come_to" "_law_come_to" (defArgs s__law_come_to) (defBody s__law_come_to) (defScope s__law_come_to) .none kV16 dc16 pm16 an16 cd16 ct16), sl16⟩) (c16 : PySem.W.codeIn K cd16 "_law_come_to" = true) (k16 : PySem.W.keepIn K (.ref f16) = true)
    (a17 : PySem.W.nsIn K mainGlobals "_law_is_ground" = some (some (.ref f17))) (l17 : K.lookup f17 = some ⟨oc17, od17, .func (PySem.W.fnOf "_law_is_ground" "_law_is_ground" (defArgs s__law_is_ground) (defBody s__law_is_ground) (defScope s__law_is_ground) .none kV17 dc17 pm17 an17 cd17 ct17), sl17⟩) (c17 : PySem.W.codeIn K cd17 "_law_is_ground" = true) (k17 : PySem.W.keepIn K (.ref f17) = true)
    (a18 : PySem.W.nsIn K mainGlobals "_law_whole" = some (some (.ref f18))) (l18 : K.lookup f18 = some ⟨oc18, od18, .func (PySem.W.fnOf "_law_whole" "_law_whole" (defArgs s__law_whole) (defBody s__law_whole) (defScope s__law_whole) .none kV18 dc18 pm18 an18 cd18 ct18), sl18⟩) (c18 : PySem.W.codeIn K cd18 "_law_whole" = true) (k18 : PySem.W.keepIn K (.ref f18) = true)
    (a19 : PySem.W.nsIn K mainGlobals "_law_in_row" = some (some (.ref f19))) (l19 : K.lookup f19 = some ⟨oc19, od19, .func (PySem.W.fnOf "_law_in_row" "_law_in_row" (defArgs s__law_in_row) (defBody s__law_in_row) (defScope s__law_in_row) .none kV19 dc19 pm19 an19 cd19 ct19), sl19⟩) (c19 : PySem.W.codeIn K cd19 "_law_in_row" = true) (k19 : PySem.W.keepIn K (.ref f19) = true)
    (a20 : PySem.W.nsIn K mainGlobals "_law_row" = some (some (.ref f20))) (l20 : K.lookup f20 = some ⟨oc20, od20, .func (PySem.W.fnOf "_law_row" "_law_row" (defArgs s__law_row) (defBody s__law_row) (defScope s__law_row) .none kV20 dc20 pm20 an20 cd20 ct20), sl20⟩) (c20 : PySem.W.codeIn K cd20 "_law_row" = true) (k20 : PySem.W.keepIn K (.ref f20) = true)
    (a21 : PySem.W.nsIn K mainGlobals "_law_drawn_sum" = some (some (.ref f21))) (l21 : K.lookup f21 = some ⟨oc21, od21, .func (PySem.W.fnOf "_law_drawn_sum" "_law_drawn_sum" (defArgs s__law_drawn_sum) (defBody s__law_drawn_sum) (defScope s__law_drawn_sum) .none kV21 dc21 pm21 an21 cd21 ct21), sl21⟩) (c21 : PySem.W.codeIn K cd21 "_law_drawn_sum" = true) (k21 : PySem.W.keepIn K (.ref f21) = true)
    (a22 : PySem.W.nsIn K mainGlobals "_law_made_paper" = some (some (.ref f22))) (l22 : K.lookup f22 = some ⟨oc22, od22, .func (PySem.W.fnOf "_law_made_paper" "_law_made_paper" (defArgs s__law_made_paper) (defBody s__law_made_paper) (defScope s__law_made_paper) .none kV22 dc22 pm22 an22 cd22 ct22), sl22⟩) (c22 : PySem.W.codeIn K cd22 "_law_made_paper" = true) (k22 : PySem.W.keepIn K (.ref f22) = true)
    (a23 : PySem.W.nsIn K mainGlobals "_law_thing" = some (some (.ref f23))) (l23 : K.lookup f23 = some ⟨oc23, od23, .func (PySem.W.fnOf "_law_thing" "_law_thing" (defArgs s__law_thing) (defBody s__law_thing) (defScope s__law_thing) .none kV23 dc23 pm23 an23 cd23 ct23), sl23⟩) (c23 : PySem.W.codeIn K cd23 "_law_thing" = true) (k23 : PySem.W.keepIn K (.ref f23) = true)
    (a24 : PySem.W.nsIn K mainGlobals "_law_bent_wheels" = some (some (.ref f24))) (l24 : K.lookup f24 = some ⟨oc24, od24, .func (PySem.W.fnOf "_law_bent_wheels" "_law_bent_wheels" (defArgs s__law_bent_wheels) (defBody s__law_bent_wheels) (defScope s__law_bent_wheels) .none kV24 dc24 pm24 an24 cd24 ct24), sl24⟩) (c24 : PySem.W.codeIn K cd24 "_law_bent_wheels" = true) (k24 : PySem.W.keepIn K (.ref f24) = true)
    (a25 : PySem.W.nsIn K mainGlobals "_law_due" = some (some (.ref f25))) (l25 : K.lookup f25 = some ⟨oc25, od25, .func (PySem.W.fnOf "_law_due" "_law_due" (defArgs s__law_due) (defBody s__law_due) (defScope s__law_due) .none kV25 dc25 pm25 an25 cd25 ct25), sl25⟩) (c25 : PySem.W.codeIn K cd25 "_law_due" = true) (k25 : PySem.W.keepIn K (.ref f25) = true)
    (a26 : PySem.W.nsIn K mainGlobals "_law_bent_rest" = some (some (.ref f26))) (l26 : K.lookup f26 = some ⟨oc26, od26, .func (PySem.W.fnOf "_law_bent_rest" "_law_bent_rest" (defArgs s__law_bent_rest) (defBody s__law_bent_rest) (defScope s__law_bent_rest) .none kV26 dc26 pm26 an26 cd26 ct26), sl26⟩) (c26 : PySem.W.codeIn K cd26 "_law_bent_rest" = true) (k26 : PySem.W.keepIn K (.ref f26) = true)
    (a27 : PySem.W.nsIn K mainGlobals "_law_is" = some (some (.ref f27))) (l27 : K.lookup f27 = some ⟨oc27, od27, .func (PySem.W.fnOf "_law_is" "_law_is" (defArgs s__law_is) (defBody s__law_is) (defScope s__law_is) .none kV27 dc27 pm27 an27 cd27 ct27), sl27⟩) (c27 : PySem.W.codeIn K cd27 "_law_is" = true) (k27 : PySem.W.keepIn K (.ref f27) = true)
    (a28 : PySem.W.nsIn K mainGlobals "_law_moved" = some (some (.ref f28))) (l28 : K.lookup f28 = some ⟨oc28, od28, .func (PySem.W.fnOf "_law_moved" "_law_moved" (defArgs s__law_moved) (defBody s__law_moved) (defScope s__law_moved) .none kV28 dc28 pm28 an28 cd28 ct28), sl28⟩) (c28 : PySem.W.codeIn K cd28 "_law_moved" = true) (k28 : PySem.W.keepIn K (.ref f28) = true)
    (a29 : PySem.W.nsIn K mainGlobals "law" = some (some (.ref f29))) (l29 : K.lookup f29 = some ⟨oc29, od29, .func (PySem.W.fnOf "law" "law" (defArgs s_law) (defBody s_law) (defScope s_law) .none kV29 dc29 pm29 an29 cd29 ct29), sl29⟩) (c29 : PySem.W.codeIn K cd29 "law" = true) (k29 : PySem.W.keepIn K (.ref f29) = true)
    (z_len : PySem.W.nsIn K mainGlobals "len" = some none)    (z_range : PySem.W.nsIn K mainGlobals "range" = some none)    (z_max : PySem.W.nsIn K mainGlobals "max" = some none)    (z_list : PySem.W.nsIn K mainGlobals "list" = some none)    (z_int : PySem.W.nsIn K mainGlobals "int" = some none)    (z_bool : PySem.W.nsIn K mainGlobals "bool" = some none)    (z_tuple : PySem.W.nsIn K mainGlobals "tuple" = some none)    (z_isinstance : PySem.W.nsIn K mainGlobals "isinstance" = some none)    (z_enumerate : PySem.W.nsIn K mainGlobals "enumerate" = some none)    (z_reversed : PySem.W.nsIn K mainGlobals "reversed" = some none)    (z_sorted : PySem.W.nsIn K mainGlobals "sorted" = some none)    (z_zip : PySem.W.nsIn K mainGlobals "zip" = some none)    (z_all : PySem.W.nsIn K mainGlobals "all" = some none)    (z_str : PySem.W.nsIn K mainGlobals "str" = some none)    (z_min : PySem.W.nsIn K mainGlobals "min" = some none)    (z_sum : PySem.W.nsIn K mainGlobals "sum" = some none)    (z_any : PySem.W.nsIn K mainGlobals "any" = some none)    (z_set : PySem.W.nsIn K mainGlobals "set" = some none)    (z_abs : PySem.W.nsIn K mainGlobals "abs" = some none)    (z_dict : PySem.W.nsIn K mainGlobals "dict" = some none) :
    ∃ fd : FuncData, (∀ (s : Shared) (v : Value), BindsTo s fd ⟨[v], []⟩ [("_law_script", v)]) ∧ ∀ base : Heap, K.In base → base.Ns mainGlobals mg → FnG l.prog w K mg base 8 fa fd ["_law_script"] (spLaw K) := by
  have e := hfa.symm.trans (PySem.W.mg_of X G a29)
  cases e
  have nb : Nb mg := ⟨PySem.W.mg_none_of X G z_len, PySem.W.mg_none_of X G z_range, PySem.W.mg_none_of X G z_max, PySem.W.mg_none_of X G z_list, PySem.W.mg_none_of X G z_int, PySem.W.mg_none_of X G z_bool, PySem.W.mg_none_of X G z_tuple, PySem.W.mg_none_of X G z_isinstance, PySem.W.mg_none_of X G z_enumerate, PySem.W.mg_none_of X G z_reversed, PySem.W.mg_none_of X G z_sorted, PySem.W.mg_none_of X G z_zip, PySem.W.mg_none_of X G z_all, PySem.W.mg_none_of X G z_str, PySem.W.mg_none_of X G z_min, PySem.W.mg_none_of X G z_sum, PySem.W.mg_none_of X G z_any, PySem.W.mg_none_of X G z_set, PySem.W.mg_none_of X G z_abs, PySem.W.mg_none_of X G z_dict⟩
  have d_is_whole : Dfn K mg "is_whole" ["thing"] s_is_whole := by
    have F := fun_mk (st := s_is_whole) l0 c0 k0
    exact ⟨_, _, F, PySem.W.mg_of X G a0, F.binds (ps := ["thing"]) fun _ _ _ _ _ _ us hl => match us, hl with | [_], _ => rfl⟩
  have d_are_whole : Dfn K mg "are_whole" ["things"] s_are_whole := by
    have F := fun_mk (st := s_are_whole) l1 c1 k1
    exact ⟨_, _, F, PySem.W.mg_of X G a1, F.binds (ps := ["things"]) fun _ _ _ _ _ _ us hl => match us, hl with | [_], _ => rfl⟩
  have d_parted : Dfn K mg "parted" ["n"] s_parted := by
    have F := fun_mk (st := s_parted) l2 c2 k2
    exact ⟨_, _, F, PySem.W.mg_of X G a2, F.binds (ps := ["n"]) fun _ _ _ _ _ _ us hl => match us, hl with | [_], _ => rfl⟩
  have d_sum_plus : Dfn K mg "sum_plus" ["one", "other"] s_sum_plus := by
    have F := fun_mk (st := s_sum_plus) l3 c3 k3
    exact ⟨_, _, F, PySem.W.mg_of X G a3, F.binds (ps := ["one", "other"]) fun _ _ _ _ _ _ us hl => match us, hl with | [_, _], _ => rfl⟩
  have d_powers_of : Dfn K mg "powers_of" ["n"] s_powers_of := by
    have F := fun_mk (st := s_powers_of) l4 c4 k4
    exact ⟨_, _, F, PySem.W.mg_of X G a4, F.binds (ps := ["n"]) fun _ _ _ _ _ _ us hl => match us, hl with | [_], _ => rfl⟩
  have d_ground : Dfn K mg "ground" ["n"] s_ground := by
    have F := fun_mk (st := s_ground) l5 c5 k5
    exact ⟨_, _, F, PySem.W.mg_of X G a5, F.binds (ps := ["n"]) fun _ _ _ _ _ _ us hl => match us, hl with | [_], _ => rfl⟩
  have d_come_to : Dfn K mg "come_to" ["n", "wheels"] s_come_to := by
    have F := fun_mk (st := s_come_to) l6 c6 k6
    exact ⟨_, _, F, PySem.W.mg_of X G a6, F.binds (ps := ["n", "wheels"]) fun _ _ _ _ _ _ us hl => match us, hl with | [_, _], _ => rfl⟩
  have d_all_noughts : Dfn K mg "all_noughts" ["numbers"] s_all_noughts := by
    have F := fun_mk (st := s_all_noughts) l7 c7 k7
    exact ⟨_, _, F, PySem.W.mg_of X G a7, F.binds (ps := ["numbers"]) fun _ _ _ _ _ _ us hl => match us, hl with | [_], _ => rfl⟩
  have d_is_turned_wheel : Dfn K mg "is_turned_wheel" ["n", "primes", "thing"] s_is_turned_wheel := by
    have F := fun_mk (st := s_is_turned_wheel) l8 c8 k8
    exact ⟨_, _, F, PySem.W.mg_of X G a8, F.binds (ps := ["n", "primes", "thing"]) fun _ _ _ _ _ _ us hl => match us, hl with | [_, _, _], _ => rfl⟩
  have d_are_wheels : Dfn K mg "are_wheels" ["n", "thing"] s_are_wheels := by
    have F := fun_mk (st := s_are_wheels) l9 c9 k9
    exact ⟨_, _, F, PySem.W.mg_of X G a9, F.binds (ps := ["n", "thing"]) fun _ _ _ _ _ _ us hl => match us, hl with | [_, _], _ => rfl⟩
  have d_is_rest : Dfn K mg "is_rest" ["n", "thing"] s_is_rest := by
    have F := fun_mk (st := s_is_rest) l10 c10 k10
    exact ⟨_, _, F, PySem.W.mg_of X G a10, F.binds (ps := ["n", "thing"]) fun _ _ _ _ _ _ us hl => match us, hl with | [_, _], _ => rfl⟩
  have d_shows_not : Dfn K mg "shows_not" ["some", "thing"] s_shows_not := by
    have F := fun_mk (st := s_shows_not) l11 c11 k11
    exact ⟨_, _, F, PySem.W.mg_of X G a11, F.binds (ps := ["some", "thing"]) fun _ _ _ _ _ _ us hl => match us, hl with | [_, _], _ => rfl⟩
  have d__law_mix : Dfn K mg "_law_mix" ["_law_cell", "_law_k"] s__law_mix := by
    have F := fun_mk (st := s__law_mix) l12 c12 k12
    exact ⟨_, _, F, PySem.W.mg_of X G a12, F.binds (ps := ["_law_cell", "_law_k"]) fun _ _ _ _ _ _ us hl => match us, hl with | [_, _], _ => rfl⟩
  have d__law_count : Dfn K mg "_law_count" ["_law_pick"] s__law_count := by
    have F := fun_mk (st := s__law_count) l13 c13 k13
    exact ⟨_, _, F, PySem.W.mg_of X G a13, F.binds (ps := ["_law_pick"]) fun _ _ _ _ _ _ us hl => match us, hl with | [_], _ => rfl⟩
  have d__law_parted : Dfn K mg "_law_parted" ["_law_n"] s__law_parted := by
    have F := fun_mk (st := s__law_parted) l14 c14 k14
    exact ⟨_, _, F, PySem.W.mg_of X G a14, F.binds (ps := ["_law_n"]) fun _ _ _ _ _ _ us hl => match us, hl with | [_], _ => rfl⟩
  have d__law_sum : Dfn K mg "_law_sum" ["_law_n", "_law_cell", "_law_wide"] s__law_sum := by
    have F := fun_mk (st := s__law_sum) l15 c15 k15
    exact ⟨_, _, F, PySem.W.mg_of X G a15, F.binds (ps := ["_law_n", "_law_cell", "_law_wide"]) fun _ _ _ _ _ _ us hl => match us, hl with | [_, _, _], _ => rfl⟩
  have d__law_come_to : Dfn K mg "_law_come_to" ["_law_n", "_law_wheels"] s__law_come_to := by
    have F := fun_mk (st := s__law_come_to) l16 c16 k16
    exact ⟨_, _, F, PySem.W.mg_of X G a16, F.binds (ps := ["_law_n", "_law_wheels"]) fun _ _ _ _ _ _ us hl => match us, hl with | [_, _], _ => rfl⟩
  have d__law_is_ground : Dfn K mg "_law_is_ground" ["_law_n", "_law_j"] s__law_is_ground := by
    have F := fun_mk (st := s__law_is_ground) l17 c17 k17
    exact ⟨_, _, F, PySem.W.mg_of X G a17, F.binds (ps := ["_law_n", "_law_j"]) fun _ _ _ _ _ _ us hl => match us, hl with | [_, _], _ => rfl⟩
  have d__law_whole : Dfn K mg "_law_whole" ["_law_got"] s__law_whole := by
    have F := fun_mk (st := s__law_whole) l18 c18 k18
    exact ⟨_, _, F, PySem.W.mg_of X G a18, F.binds (ps := ["_law_got"]) fun _ _ _ _ _ _ us hl => match us, hl with | [_], _ => rfl⟩
  have d__law_in_row : Dfn K mg "_law_in_row" ["_law_n", "_law_wheels"] s__law_in_row := by
    have F := fun_mk (st := s__law_in_row) l19 c19 k19
    exact ⟨_, _, F, PySem.W.mg_of X G a19, F.binds (ps := ["_law_n", "_law_wheels"]) fun _ _ _ _ _ _ us hl => match us, hl with | [_, _], _ => rfl⟩
  have d__law_row : Dfn K mg "_law_row" ["_law_n", "_law_cell", "_law_place"] s__law_row := by
    have F := fun_mk (st := s__law_row) l20 c20 k20
    exact ⟨_, _, F, PySem.W.mg_of X G a20, F.binds (ps := ["_law_n", "_law_cell", "_law_place"]) fun _ _ _ _ _ _ us hl => match us, hl with | [_, _, _], _ => rfl⟩
  have d__law_drawn_sum : Dfn K mg "_law_drawn_sum" ["_law_n", "_law_cell"] s__law_drawn_sum := by
    have F := fun_mk (st := s__law_drawn_sum) l21 c21 k21
    exact ⟨_, _, F, PySem.W.mg_of X G a21, F.binds (ps := ["_law_n", "_law_cell"]) fun _ _ _ _ _ _ us hl => match us, hl with | [_, _], _ => rfl⟩
  have d__law_made_paper : Dfn K mg "_law_made_paper" ["_law_some", "_law_turn"] s__law_made_paper := by
    have F := fun_mk (st := s__law_made_paper) l22 c22 k22
    exact ⟨_, _, F, PySem.W.mg_of X G a22, F.binds (ps := ["_law_some", "_law_turn"]) fun _ _ _ _ _ _ us hl => match us, hl with | [_, _], _ => rfl⟩
  have d__law_thing : Dfn K mg "_law_thing" ["_law_pick"] s__law_thing := by
    have F := fun_mk (st := s__law_thing) l23 c23 k23
    exact ⟨_, _, F, PySem.W.mg_of X G a23, F.binds (ps := ["_law_pick"]) fun _ _ _ _ _ _ us hl => match us, hl with | [_], _ => rfl⟩
  have d__law_bent_wheels : Dfn K mg "_law_bent_wheels" ["_law_wheels", "_law_n", "_law_pick"] s__law_bent_wheels := by
    have F := fun_mk (st := s__law_bent_wheels) l24 c24 k24
    exact ⟨_, _, F, PySem.W.mg_of X G a24, F.binds (ps := ["_law_wheels", "_law_n", "_law_pick"]) fun _ _ _ _ _ _ us hl => match us, hl with | [_, _, _], _ => rfl⟩
  have d__law_due : Dfn K mg "_law_due" ["_law_some", "_law_thing_here"] s__law_due := by
    have F := fun_mk (st := s__law_due) l25 c25 k25
    exact ⟨_, _, F, PySem.W.mg_of X G a25, F.binds (ps := ["_law_some", "_law_thing_here"]) fun _ _ _ _ _ _ us hl => match us, hl with | [_, _], _ => rfl⟩
  have d__law_bent_rest : Dfn K mg "_law_bent_rest" ["_law_rest", "_law_pick"] s__law_bent_rest := by
    have F := fun_mk (st := s__law_bent_rest) l26 c26 k26
    exact ⟨_, _, F, PySem.W.mg_of X G a26, F.binds (ps := ["_law_rest", "_law_pick"]) fun _ _ _ _ _ _ us hl => match us, hl with | [_, _], _ => rfl⟩
  have d__law_is : Dfn K mg "_law_is" ["_law_some", "_law_thing_here"] s__law_is := by
    have F := fun_mk (st := s__law_is) l27 c27 k27
    exact ⟨_, _, F, PySem.W.mg_of X G a27, F.binds (ps := ["_law_some", "_law_thing_here"]) fun _ _ _ _ _ _ us hl => match us, hl with | [_, _], _ => rfl⟩
  have d__law_moved : Dfn K mg "_law_moved" ["_law_some", "_law_rest", "_law_wheels", "_law_pick"] s__law_moved := by
    have F := fun_mk (st := s__law_moved) l28 c28 k28
    exact ⟨_, _, F, PySem.W.mg_of X G a28, F.binds (ps := ["_law_some", "_law_rest", "_law_wheels", "_law_pick"]) fun _ _ _ _ _ _ us hl => match us, hl with | [_, _, _, _], _ => rfl⟩
  have F := fun_mk (st := s_law) l29 c29 k29
  exact ⟨PySem.W.fnOf "law" "law" (defArgs s_law) (defBody s_law) (defScope s_law) .none kV29 dc29 pm29 an29 cd29 ct29, fun s v => .of_eq rfl, fun base _ _ => law_ok F nb  d_is_whole d_are_whole d_parted d_sum_plus d_powers_of d_ground d_come_to d_all_noughts d_is_turned_wheel d_are_wheels d_is_rest d_shows_not d__law_mix d__law_count d__law_parted d__law_sum d__law_come_to d__law_is_ground d__law_whole d__law_in_row d__law_row d__law_drawn_sum d__law_made_paper d__law_thing d__law_bent_wheels d__law_due d__law_bent_rest d__law_is d__law_moved⟩
end Own
open PySem PySem.W PyProof.Rows
set_option maxHeartbeats 0 in
theorem PySem.Challenge.cw_rootwheel_k21_others_looked_at_holds : PySem.Challenge.rw_rootwheel_k21_others_looked_at.Holds := by
  w_on; o_law; k_head; (case hw => w_witness2)
  k_fill
  refine Kp.walk_ofG (l := PySem.Challenge.rw_rootwheel_k21_others_looked_at) (n := 63) (k := 8) (x := "_law_script") (spw := fun w => Own.spLaw _) rfl (by decide) rfl ⟨rfl, by decide, by decide⟩ (fun w h Y => PySem.W.kIn_of Y) ?F (fun _ _ a ns hl hS => ⟨a, ns, rfl, hS, hl, fun _ => rfl⟩)
  case F =>
    intro w mg fa h KX G hmg
    refine' Own.all_mk KX G hmg ?a0 ?l0 ?c0 ?k0 ?a1 ?l1 ?c1 ?k1 ?a2 ?l2 ?c2 ?k2 ?a3 ?l3 ?c3 ?k3 ?a4 ?l4 ?c4 ?k4 ?a5 ?l5 ?c5 ?k5 ?a6 ?l6 ?c6 ?k6 ?a7 ?l7 ?c7 ?k7 ?a8 ?l8 ?c8 ?k8 ?a9 ?l9 ?c9 ?k9 ?a10 ?l10 ?c10 ?k10 ?a11 ?l11 ?c11 ?k11 ?a12 ?l12 ?c12 ?k12 ?a13 ?l13 ?c13 ?k13 ?a14 ?l14 ?c14 ?k14 ?a15 ?l15 ?c15 ?k15 ?a16 ?l16 ?c16 ?k16 ?a17 ?l17 ?c17 ?k17 ?a18 ?l18 ?c18 ?k18 ?a19 ?l19 ?c19 ?k19 ?a20 ?l20 ?c20 ?k20 ?a21 ?l21 ?c21 ?k21 ?a22 ?l22 ?c22 ?k22 ?a23 ?l23 ?c23 ?k23 ?a24 ?l24 ?c24 ?k24 ?a25 ?l25 ?c25 ?k25 ?a26 ?l26 ?c26 ?k26 ?a27 ?l27 ?c27 ?k27 ?a28 ?l28 ?c28 ?k28 ?a29 ?l29 ?c29 ?k29 ?z_len ?z_range ?z_max ?z_list ?z_int ?z_bool ?z_tuple ?z_isinstance ?z_enumerate ?z_reversed ?z_sorted ?z_zip ?z_all ?z_str ?z_min ?z_sum ?z_any ?z_set ?z_abs ?z_dict
    (case a0 => k_is)
    (case l0 => k_is)
    (case c0 => k_is)
    (case k0 => k_is)
    (case a1 => k_is)
    (case l1 => k_is)
    (case c1 => k_is)
    (case k1 => k_is)
    (case a2 => k_is)
    (case l2 => k_is)
    (case c2 => k_is)
    (case k2 => k_is)
    (case a3 => k_is)
    (case l3 => k_is)
    (case c3 => k_is)
    (case k3 => k_is)
    (case a4 => k_is)
    (case l4 => k_is)
    (case c4 => k_is)
    (case k4 => k_is)
    (case a5 => k_is)
    (case l5 => k_is)
    (case c5 => k_is)
    (case k5 => k_is)
    (case a6 => k_is)
    (case l6 => k_is)
    (case c6 => k_is)
    (case k6 => k_is)
    (case a7 => k_is)
    (case l7 => k_is)
    (case c7 => k_is)
    (case k7 => k_is)
    (case a8 => k_is)
    (case l8 => k_is)
    (case c8 => k_is)
    (case k8 => k_is)
    (case a9 => k_is)
    (case l9 => k_is)
    (case c9 => k_is)
    (case k9 => k_is)
    (case a10 => k_is)
    (case l10 => k_is)
    (case c10 => k_is)
    (case k10 => k_is)
    (case a11 => k_is)
    (case l11 => k_is)
    (case c11 => k_is)
    (case k11 => k_is)
    (case a12 => k_is)
    (case l12 => k_is)
    (case c12 => k_is)
    (case k12 => k_is)
    (case a13 => k_is)
    (case l13 => k_is)
    (case c13 => k_is)
    (case k13 => k_is)
    (case a14 => k_is)
    (case l14 => k_is)
    (case c14 => k_is)
    (case k14 => k_is)
    (case a15 => k_is)
    (case l15 => k_is)
    (case c15 => k_is)
    (case k15 => k_is)
    (case a16 => k_is)
    (case l16 => k_is)
    (case c16 => k_is)
    (case k16 => k_is)
    (case a17 => k_is)
    (case l17 => k_is)
    (case c17 => k_is)
    (case k17 => k_is)
    (case a18 => k_is)
    (case l18 => k_is)
    (case c18 => k_is)
    (case k18 => k_is)
    (case a19 => k_is)
    (case l19 => k_is)
    (case c19 => k_is)
    (case k19 => k_is)
    (case a20 => k_is)
    (case l20 => k_is)
    (case c20 => k_is)
    (case k20 => k_is)
    (case a21 => k_is)
    (case l21 => k_is)
    (case c21 => k_is)
    (case k21 => k_is)
    (case a22 => k_is)
    (case l22 => k_is)
    (case c22 => k_is)
    (case k22 => k_is)
    (case a23 => k_is)
    (case l23 => k_is)
    (case c23 => k_is)
    (case k23 => k_is)
    (case a24 => k_is)
    (case l24 => k_is)
    (case c24 => k_is)
    (case k24 => k_is)
    (case a25 => k_is)
    (case l25 => k_is)
    (case c25 => k_is)
    (case k25 => k_is)
    (case a26 => k_is)
    (case l26 => k_is)
    (case c26 => k_is)
    (case k26 => k_is)
    (case a27 => k_is)
    (case l27 => k_is)
    (case c27 => k_is)
    (case k27 => k_is)
    (case a28 => k_is)
    (case l28 => k_is)
    (case c28 => k_is)
    (case k28 => k_is)
    (case a29 => k_is)
    (case l29 => k_is)
    (case c29 => k_is)
    (case k29 => k_is)
    (case z_len => k_is)
    (case z_range => k_is)
    (case z_max => k_is)
    (case z_list => k_is)
    (case z_int => k_is)
    (case z_bool => k_is)
    (case z_tuple => k_is)
    (case z_isinstance => k_is)
    (case z_enumerate => k_is)
    (case z_reversed => k_is)
    (case z_sorted => k_is)
    (case z_zip => k_is)
    (case z_all => k_is)
    (case z_str => k_is)
    (case z_min => k_is)
    (case z_sum => k_is)
    (case z_any => k_is)
    (case z_set => k_is)
    (case z_abs => k_is)
    (case z_dict => k_is)


