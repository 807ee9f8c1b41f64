import PyProof.Rows.All
import Wide.All
import OpenK.AllK
import Wide.FinOn
import HandS.ForMost
import HandS.Evl
import HandS.Wide
import HandS.WideMore
import HandS.Gcd
import HandS.IsInst
import HandS.SortInts
import HandS.Rev
import HandS.ForExc
import HandS.ExcIs
import HandS.ExcValue
import HandS.Walk
import HandS.SortRule
import HandS.DictTup
import HandS.Conv
import KE.KDictCopyH
import KE.KDictSum
import HandS.TupLe
import HandS.Zip
import HandS.Deep
import HandS.RaiseMore
import PySem.Challenge.RW_rootwheel_k63_cosine_polynomials_looked
set_option Elab.async false
set_option linter.all false
set_option maxRecDepth 100000
set_option maxHeartbeats 4000000
/-! What every proof of ours leans on: calls by a promise that stands for a name, rules of ours, words for the readings. -/
namespace Kp
open PySem PySem.Spec PyProof.Rows L2 Evl

/-! ### the names of Python that a text leaves as they are -/
structure Nb (mg : Str → Option Value) : Prop where
  len : mg "len" = none
  range : mg "range" = none
  max : mg "max" = none
  list : mg "list" = none
  int : mg "int" = none
  bool : mg "bool" = none
  tuple : mg "tuple" = none
  isinstance : mg "isinstance" = none
  enumerate : mg "enumerate" = none
  reversed : mg "reversed" = none
  sorted : mg "sorted" = none
  zip : mg "zip" = none
  all : mg "all" = none
  str : mg "str" = none
  min : mg "min" = none
  sum : mg "sum" = none
  any : mg "any" = none
  set : mg "set" = none
  abs : mg "abs" = none
  dict : mg "dict" = none

/-! ### a def by its name -/
/-- by the name x the module holds a def that keeps the promise sp, at the level k -/
def Cal (P : Program) (w : World) (K : PySem.W.Frag) (mg : Str → Option Value) (base : Heap) (CX : CXT) (x : Str) (k : Nat) (ps : List Str) (sp : Sp) : Prop :=
  ∃ (f : Addr) (fd : FuncData), FnOk P w K mg base CX k f fd ps sp ∧ mg x = some (.ref f) ∧ PySem.W.keepIn K (.ref f) = true ∧ Binds K fd ps []
/-- by the name x the module holds the def that st writes -/
def Dfn (K : PySem.W.Frag) (mg : Str → Option Value) (x : Str) (ps : List Str) (st : Stmt) : Prop :=
  ∃ (f : Addr) (fd : FuncData), Fun K x x st f fd ∧ mg x = some (.ref f) ∧ Binds K fd ps []
section
variable {P : Program} {w : World} {K : PySem.W.Frag} {mg : Str → Option Value} {base : Heap} {CX : CXT} {x : Str} {k : Nat} {ps N : List Str} {sp : Sp} {st : Stmt}
theorem Dfn.cal (d : Dfn K mg x ps st) (S : FnScope N ps (defScope st)) (len : ∀ vs H Q E, sp vs H Q E → vs.length = ps.length)
    (hbody : ∀ (f : Addr) (cdv : Value) (A : Around) (outer : List Env) (s : Shared) (H : Hp) (vs : List V) (Q : VK) (E : XK), Room k (A.deeper (envOfC x (defScope st) s.heap.objs.size f cdv)) → sp vs H Q E →
      ∃ t, PSs (cxOf CX0 P w K mg base N x (defScope st) f cdv A outer s H E).nox (defBody st) t ∧ t { nx := fun _ H' => Q .non H', rt := Q } (start N vs) H) : Cal P w K mg base CX0 x (k + 1) ps sp := by
  obtain ⟨f, fd, F, g, b⟩ := d
  exact ⟨f, fd, F.ok S len (hbody f), g, F.kp, b⟩
end
section
variable {X : Cx} {CX : CXT} {k : Nat} {ps : List Str} {sp : Sp} {E : XK} {x : Str} {p pos : Pos} {e : Expr} {es : List Expr} {t : TA}
theorem pe_cal (c : Cal X.prog X.w X.K X.mg X.base CX x k ps sp) (hr : Room k X.A) (hg : Gl X x) (hx : Passes CX X E)
    (ha : PA X (e :: es) t) (hdb : (x == ("__debug__" : Str)) = false := by decide) (he : starEach (e :: es) X.env = (false, eval e X.env) :: starEach es X.env := by rfl) (hpl : (backTo pos (starEach es X.env)).any (·.1) = false := by rfl) :
    PE X (.Call (.Name x p) (e :: es) [] pos) (tCall sp [] E t) := by
  obtain ⟨f, fd, F, g, kp, b⟩ := c
  exact pe_call F hr hg g kp b .nil hx ha hdb he hpl
end

/-! ### rules of ours -/
def CPowW (i j : Int) : Prop := 0 ≤ j ∧ (Builtin.Int.intBits i : Int) * j ≤ 2 ^ 27
section
variable {X : Cx}
theorem op_powW : OpR X (binaryOp .Pow) (rI CPowW fun i j => .int (i ^ j.toNat)) := opI fun _ _ _ _ _ _ _ hc q => pow_int hc.1 hc.2 q
/-- what stands at a place of a list, for o[i] op= e -/
def rGetL (K : PySem.W.Frag) : V → V → Hp → VK → Prop := fun o i H Q => ∃ p xs j v, o = .ref p ∧ i = .int ((j : Nat) : Int) ∧ SqL K H p xs ∧ xs[j]? = some v ∧ Q v H
theorem get_list : PGet X (rGetL X.K) := by
  intro pins s σ H o i ov iv Q I ro ri h
  obtain ⟨p, xs, j, z, rfl, rfl, hq, he, q⟩ := h
  cases ro
  obtain ⟨t, rfl⟩ := ri
  obtain ⟨its, r, pl, hz⟩ := I.list hq
  obtain ⟨w, ew, rw'⟩ := r.get he
  have hj : j < xs.length := (List.getElem?_eq_some_iff.mp he).1
  have hn := line63
  have hl := r.length
  exact wpAny_getItem_list pl.isList (by omega) (by omega) (by simpa using ew) ⟨z, H, I, rw', q⟩
theorem pip_of {op : Operator} {r : R2} (ho : OpR X (inplaceOp op) r) : PIp X op r := fun pins s σ H x y v u Q I rx ry h => ho pins s σ H x y v u Q I rx ry h
/-- math.isqrt -/
def rIsqrt : List V → Hp → VK → Prop := fun vs H Q => ∃ a : Int, vs = [.int a] ∧ 0 ≤ a ∧ a < 2 ^ 64 ∧ Q (.int ((Float64.isqrt a.toNat : Nat) : Int)) H
theorem cr_isqrt : CallR X (.builtin "math.isqrt") rIsqrt := by
  intro pins s σ H vs us Q I r h
  obtain ⟨a, rfl, h0, h1, q⟩ := h
  obtain ⟨u, rfl, t, rfl⟩ := vals1 r
  exact PySem.W.mg_isqrt h0 h1 ⟨.int _, H, I.tok _, ⟨_, rfl⟩, q⟩
end

/-! ### what evaluates to what, by operators -/
section
variable {K : PySem.W.Frag} {σ : L2.St} {H : Hp} {ta tb te : TE} {i j : Int}
theorem ev_add (ha : Ev ta σ H (.int i)) (hb : Ev tb σ H (.int j)) : Ev (tOp (rI0 fun i j => .int (i + j)) ta tb) σ H (.int (i + j)) := ev_op ha hb rv_I0
theorem ev_sub (ha : Ev ta σ H (.int i)) (hb : Ev tb σ H (.int j)) : Ev (tOp (rI0 fun i j => .int (i - j)) ta tb) σ H (.int (i - j)) := ev_op ha hb rv_I0
theorem ev_mul (ha : Ev ta σ H (.int i)) (hb : Ev tb σ H (.int j)) (h : CMulW i j) : Ev (tOp (rI CMulW fun i j => .int (i * j)) ta tb) σ H (.int (i * j)) := ev_op ha hb (rv_I h)
theorem ev_div (ha : Ev ta σ H (.int i)) (hb : Ev tb σ H (.int j)) (h : CDivW i j) : Ev (tOp (rI CDivW fun i j => .int (i / j)) ta tb) σ H (.int (i / j)) := ev_op ha hb (rv_I h)
theorem ev_mod (ha : Ev ta σ H (.int i)) (hb : Ev tb σ H (.int j)) (h : 0 < j) : Ev (tOp (rI (fun _ j => 0 < j) fun i j => .int (i % j)) ta tb) σ H (.int (i % j)) := ev_op ha hb (rv_I (C := fun _ j => 0 < j) h)
theorem ev_pow {c : Int} (ha : Ev ta σ H (.int i)) (hb : Ev tb σ H (.int j)) (h : CPowW i j) (hc : i ^ j.toNat = c) : Ev (tOp (rI CPowW fun i j => .int (i ^ j.toNat)) ta tb) σ H (.int c) := by
  rw [← hc]
  exact ev_op ha hb (rv_I h)
theorem ev_neg (ha : Ev ta σ H (.int i)) : Ev (tUn (rU fun i => .int (-i)) ta) σ H (.int (-i)) := ev_un ha ru_neg
theorem ev_lt (ha : Ev ta σ H (.int i)) (hb : Ev tb σ H (.int j)) : Ev (tOp (rI0 fun i j => .bl (decide (i < j))) ta tb) σ H (.bl (decide (i < j))) := ev_op ha hb rv_I0
theorem ev_le (ha : Ev ta σ H (.int i)) (hb : Ev tb σ H (.int j)) : Ev (tOp (rI0 fun i j => .bl (decide (i ≤ j))) ta tb) σ H (.bl (decide (i ≤ j))) := ev_op ha hb rv_I0
theorem ev_gt (ha : Ev ta σ H (.int i)) (hb : Ev tb σ H (.int j)) : Ev (tOp (rI0 fun i j => .bl (decide (j < i))) ta tb) σ H (.bl (decide (j < i))) := ev_op ha hb rv_I0
theorem ev_ge (ha : Ev ta σ H (.int i)) (hb : Ev tb σ H (.int j)) : Ev (tOp (rI0 fun i j => .bl (decide (j ≤ i))) ta tb) σ H (.bl (decide (j ≤ i))) := ev_op ha hb rv_I0
theorem dec_int (i j : Int) : decide (V.int i = V.int j) = decide (i = j) := decide_eq_decide.mpr ⟨V.int.inj, fun e => by rw [e]⟩
theorem ev_eqI (ha : Ev ta σ H (.int i)) (hb : Ev tb σ H (.int j)) : Ev (tOp rEq ta tb) σ H (.bl (decide (i = j))) := by
  rw [← dec_int]
  exact ev_op ha hb (rv_eq rfl)
theorem ev_neI (ha : Ev ta σ H (.int i)) (hb : Ev tb σ H (.int j)) : Ev (tOp rNe ta tb) σ H (.bl (!decide (i = j))) := by
  rw [← dec_int]
  exact ev_op ha hb (rv_ne rfl)
theorem ev_isN {v : V} (ha : Ev ta σ H v) : Ev (tOp (fun x y H Q => y = .non ∧ Q (.bl (decide (x = .non))) H) ta (tC .non)) σ H (.bl (decide (v = .non))) := ev_op ha ev_c fun H1 _ _ q => ⟨rfl, q H1 (Ex.refl H1)⟩
theorem ev_notN {v : V} (ha : Ev ta σ H v) : Ev (tOp (fun x y H Q => y = .non ∧ Q (.bl (!decide (x = .non))) H) ta (tC .non)) σ H (.bl (!decide (v = .non))) := ev_op ha ev_c fun H1 _ _ q => ⟨rfl, q H1 (Ex.refl H1)⟩
/-- numbers of some hundred bits -/
theorem mulW {i j : Int} (hi : i.natAbs < 2 ^ 300) (hj : j.natAbs < 2 ^ 300) : CMulW i j := wide_mul hi hj (by decide) (by decide) (by decide)
theorem divW {i j : Int} (h : 0 < j) (hj : j < 2 ^ 300) : CDivW i j := wide_div (b := 300) h (by omega) (by decide) (by decide)
/-- no reading is this: a goal that takes it has not been told yet which reading it speaks of -/
def tProbe : TE := fun _ _ _ => False
def tProbeT : TT := fun _ _ _ => False
def tProbeA : TA := fun _ _ _ => False
theorem probe {v : V} (h : False) : Ev tProbe σ H v := h.elim
theorem probeT {b : Bool} (h : False) : EvT tProbeT σ H b := h.elim
theorem probeA {vs : List V} (h : False) : EvA tProbeA σ H vs := h.elim
/-- a call's promise: one value -/
theorem ev_cal {sp : Sp} {vs : List V} {E : XK} {ta : TA} {z : V} (h : EvA ta σ H vs) (hs : ∀ H1, Ex H H1 → ∀ Q : VK, RetV z H1 Q → ∀ E : XK, sp vs H1 Q E) : Ev (tCall sp [] E ta) σ H z := fun H1 e Q q =>
  h H1 e _ fun H2 e2 => by
    show sp (vs ++ []) H2 Q E
    rw [List.append_nil]
    exact hs H2 (e.trans e2) Q (fun H3 e3 => q H3 (e2.trans e3)) E
/-- one new list -/
theorem el_cal {sp : Sp} {vs xs : List V} {E : XK} {ta : TA} (h : EvA ta σ H vs) (hs : ∀ H1, Ex H H1 → ∀ Q : VK, RetL xs H1 Q → ∀ E : XK, sp vs H1 Q E) : EvL (tCall sp [] E ta) σ H xs := fun H1 e Q q =>
  h H1 e _ fun H2 e2 => by
    show sp (vs ++ []) H2 Q E
    rw [List.append_nil]
    exact hs H2 (e.trans e2) Q (fun p H3 hp e3 h3 => q p H3 (fresh_back e2 hp) (e2.trans e3) h3) E
end
end Kp

/-! Data as a whole; lists of pairs; comprehensions; new lists. -/
namespace Kp
open PySem PySem.Spec PyProof.Rows L2 Evl

/-! ### == of data without truths, texts and dicts -/
mutual
def okD : PyData → Bool
  | .none => true
  | .int _ => true
  | .list xs => okA xs
  | .tuple xs => okA xs
  | .bool _ => false
  | .str _ => false
  | .dict _ => false
def okA : List PyData → Bool
  | [] => true
  | x :: xs => okD x && okA xs
end
mutual
theorem eqv_ok : ∀ d e : PyData, okD d = true → okD e = true → (PyData.eqv d e = true ↔ d = e)
  | .none, e, _, h => by cases e <;> simp_all [okD, PyData.eqv]
  | .int i, e, _, h => by cases e <;> simp_all [okD, PyData.eqv]
  | .list xs, e, h1, h => by
    cases e with
    | list ys =>
      unfold okD at h1 h
      unfold PyData.eqv
      rw [eqvA_ok xs ys h1 h]
      exact ⟨fun e => by rw [e], PyData.list.inj⟩
    | _ => simp_all [okD, PyData.eqv]
  | .tuple xs, e, h1, h => by
    cases e with
    | tuple ys =>
      unfold okD at h1 h
      unfold PyData.eqv
      rw [eqvA_ok xs ys h1 h]
      exact ⟨fun e => by rw [e], PyData.tuple.inj⟩
    | _ => simp_all [okD, PyData.eqv]
  | .bool _, _, h, _ => by simp [okD] at h
  | .str _, _, h, _ => by simp [okD] at h
  | .dict _, _, h, _ => by simp [okD] at h
theorem eqvA_ok : ∀ ds es : List PyData, okA ds = true → okA es = true → (PyData.eqvAll ds es = true ↔ ds = es)
  | [], [], _, _ => by simp [PyData.eqvAll]
  | [], _ :: _, _, _ => by simp [PyData.eqvAll]
  | _ :: _, [], _, _ => by simp [PyData.eqvAll]
  | d :: ds, e :: es, h1, h2 => by
    unfold okA at h1 h2
    rw [Bool.and_eq_true] at h1 h2
    unfold PyData.eqvAll
    rw [Bool.and_eq_true, eqv_ok d e h1.1 h2.1, eqvA_ok ds es h1.2 h2.2]
    simp
end
theorem eqv_dec {α : Type} [DecidableEq α] (enc : α → PyData) (ok : ∀ a, okD (enc a) = true) (inj : ∀ a b, enc a = enc b → a = b) (a b : α) : PyData.eqv (enc a) (enc b) = decide (a = b) := by
  have h := eqv_ok (enc a) (enc b) (ok a) (ok b)
  by_cases e : a = b
  · subst e
    rw [decide_eq_true rfl]
    exact h.mpr rfl
  · rw [decide_eq_false e]
    cases q : PyData.eqv (enc a) (enc b) with
    | false => rfl
    | true => exact absurd (inj _ _ (h.mp q)) e
theorem okA_map {α : Type} (f : α → PyData) (h : ∀ a, okD (f a) = true) : ∀ l : List α, okA (l.map f) = true
  | [] => rfl
  | a :: l => by
    rw [List.map_cons]
    unfold okA
    rw [h a, okA_map f h l]
    rfl
theorem lay_map {α : Type} (f : α → PyData) (h : ∀ a, PyData.canLay0 (f a) = true) : ∀ l : List α, PyData.canLayAll0 (l.map f) = true
  | [] => rfl
  | a :: l => by
    rw [List.map_cons]
    unfold PyData.canLayAll0
    rw [h a, lay_map f h l]
    rfl
theorem dep_map {α : Type} (f : α → PyData) (k : Nat) (h : ∀ a, PyData.depth (f a) ≤ k) : ∀ l : List α, PyData.depthAll (l.map f) ≤ k
  | [] => Nat.zero_le _
  | a :: l => by
    rw [List.map_cons]
    unfold PyData.depthAll
    exact Nat.max_le.mpr ⟨h a, dep_map f k h l⟩
theorem shaped_of {d : PyData} (h : PyData.canLay0 d = true) (k : PyData.depth d ≤ 64) : SeqAt.shaped d = true := by
  unfold SeqAt.shaped
  rw [h, decide_eq_true k]
  rfl
/-- a list of ints, a pair of ints, a list of such -/
def dI (ns : List Int) : PyData := .list (ns.map .int)
def dP (r : Int × Int) : PyData := .tuple [.int r.1, .int r.2]
def dR (rows : List (Int × Int)) : PyData := .list (rows.map dP)
theorem map_inj {α β : Type} {f : α → β} (h : ∀ a b, f a = f b → a = b) : ∀ l m : List α, l.map f = m.map f → l = m
  | [], [], _ => rfl
  | [], _ :: _, e => by simp at e
  | _ :: _, [], e => by simp at e
  | a :: l, b :: m, e => by
    rw [List.map_cons, List.map_cons] at e
    injection e with e1 e2
    rw [h _ _ e1, map_inj h l m e2]
theorem dI_sh (ns : List Int) : SeqAt.shaped (dI ns) = true := shaped_of (lay_map _ (fun _ => rfl) ns) (Nat.le_trans (Nat.succ_le_succ (dep_map PyData.int 0 (fun _ => Nat.le_refl 0) ns)) (by decide))
theorem dR_sh (rows : List (Int × Int)) : SeqAt.shaped (dR rows) = true := shaped_of (lay_map _ (fun _ => rfl) rows) (Nat.le_trans (Nat.succ_le_succ (dep_map dP 1 (fun _ => Nat.le_refl 1) rows)) (by decide))
theorem dI_eqv (ns ms : List Int) : PyData.eqv (dI ns) (dI ms) = decide (ns = ms) := eqv_dec dI (fun l => by unfold dI okD; exact okA_map _ (fun _ => rfl) l) (fun a b e => map_inj (fun _ _ q => PyData.int.inj q) a b (PyData.list.inj e)) ns ms
theorem dP_inj (a b : Int × Int) (e : dP a = dP b) : a = b := by
  obtain ⟨a1, a2⟩ := a
  obtain ⟨b1, b2⟩ := b
  simp [dP] at e
  rw [e.1, e.2]
theorem dR_eqv (rs qs : List (Int × Int)) : PyData.eqv (dR rs) (dR qs) = decide (rs = qs) := eqv_dec dR (fun l => by unfold dR okD; exact okA_map _ (fun _ => rfl) l) (fun a b e => map_inj dP_inj a b (PyData.list.inj e)) rs qs

section
variable {K : PySem.W.Frag} {σ : L2.St} {H H' : Hp} {ta tb te tl : TE} {t : TT} {x y z v : V} {D : Ends} {tz : TS} {vs : List Nat}
theorem dpa_ints (K : PySem.W.Frag) (H : Hp) : ∀ ns : List Int, DpAll K H (ns.map V.int) (ns.map PyData.int)
  | [] => .nil
  | n :: ns => .cons (.int n) (dpa_ints K H ns)
theorem dp_ints {a : Addr} {ns : List Int} (h : SqL K H a (ns.map V.int)) : Dp K H (.ref a) (dI ns) := .lst h (dpa_ints K H ns)

/-! ### lists of pairs -/
/-- each item a tuple of the pair's two ints -/
def Prs (K : PySem.W.Frag) (H : Hp) : List V → List (Int × Int) → Prop := Paired fun v r => ∃ t, v = .ref t ∧ SqT K H t [.int r.1, .int r.2]
theorem Prs.mono {xs : List V} {rows : List (Int × Int)} (e : Ex H H') (h : Prs K H xs rows) : Prs K H' xs rows := Paired.mapP h fun v r ⟨t, q, s⟩ => ⟨t, q, ex_t e s⟩
theorem sqt_upd {l t : Addr} {xs ys ts : List V} (hl : H l = some (.lst xs)) (h : SqT K H t ts) : SqT K (upd H l (.lst ys)) t ts := by
  rcases h with h | h
  · refine .inl ?_
    rcases h with h | ⟨o, h⟩
    · refine .inl ?_
      rw [upd_ne (ne_of h hl (by intro z; cases z))]
      exact h
    · refine .inr ⟨o, ?_⟩
      rw [upd_ne (ne_of h hl (by intro z; cases z))]
      exact h
  · exact .inr h
theorem Prs.upd {l : Addr} {us ys xs : List V} {rows : List (Int × Int)} (hl : H l = some (.lst us)) (h : Prs K H xs rows) : Prs K (upd H l (.lst ys)) xs rows := Paired.mapP h fun v r ⟨t, q, s⟩ => ⟨t, q, sqt_upd hl s⟩
theorem Prs.snoc {xs : List V} {rows : List (Int × Int)} {t : Addr} {a b : Int} (h : Prs K H xs rows) (ht : SqT K H t [.int a, .int b]) : Prs K H (xs ++ [.ref t]) (rows ++ [(a, b)]) := Paired.snoc h ⟨t, rfl, ht⟩
theorem prs_get : ∀ {xs : List V} {rows : List (Int × Int)} {i : Nat} {x : V}, Prs K H xs rows → xs[i]? = some x → ∃ r t, rows[i]? = some r ∧ x = .ref t ∧ SqT K H t [.int r.1, .int r.2]
  | _, _, _, _, .nil, h => by simp at h
  | _, _, 0, _, .cons (b := r) q _, h => by
    obtain ⟨t, q1, q2⟩ := q
    have e := Option.some.inj h
    exact ⟨r, t, rfl, e ▸ q1, q2⟩
  | _, _, i + 1, _, .cons _ q, h => prs_get (i := i) q h
theorem dpa_prs : ∀ {xs : List V} {rows : List (Int × Int)}, Prs K H xs rows → DpAll K H xs (rows.map dP)
  | _, _, .nil => .nil
  | _, _, .cons q r => by
    obtain ⟨t, rfl, q2⟩ := q
    exact .cons (.tup q2 (.cons (.int _) (.cons (.int _) .nil))) (dpa_prs r)
theorem dp_prs {a : Addr} {xs : List V} {rows : List (Int × Int)} (h : SqL K H a xs) (p : Prs K H xs rows) : Dp K H (.ref a) (dR rows) := .lst h (dpa_prs p)

/-! ### == and != -/
theorem rv_eqD {d e : PyData} {b : Bool} (h1 : Dp K H x d) (h2 : Dp K H y e) (m1 : ∀ H1, Ex H H1 → Dp K H1 x d) (m2 : ∀ H1, Ex H H1 → Dp K H1 y e) (s1 : SeqAt.shaped d = true) (s2 : SeqAt.shaped e = true) (hb : PyData.eqv d e = b) : RV (rEqD K) x y H (.bl b) := by
  subst hb
  exact fun H1 e1 Q q => ⟨d, e, m1 H1 e1, m2 H1 e1, s1, s2, q H1 (Ex.refl H1)⟩
theorem rv_neD {d e : PyData} {b : Bool} (m1 : ∀ H1, Ex H H1 → Dp K H1 x d) (m2 : ∀ H1, Ex H H1 → Dp K H1 y e) (s1 : SeqAt.shaped d = true) (s2 : SeqAt.shaped e = true) (hb : (!PyData.eqv d e) = b) : RV (rNeD K) x y H (.bl b) := by
  subst hb
  exact fun H1 e1 Q q => ⟨d, e, m1 H1 e1, m2 H1 e1, s1, s2, q H1 (Ex.refl H1)⟩
theorem rv_eqI {p q : Addr} {ns ms : List Int} (h1 : SqL K H p (ns.map V.int)) (h2 : SqL K H q (ms.map V.int)) : RV (rEqD K) (.ref p) (.ref q) H (.bl (decide (ns = ms))) :=
  rv_eqD (dp_ints h1) (dp_ints h2) (fun _ e => dp_ints (ex_l e h1)) (fun _ e => dp_ints (ex_l e h2)) (dI_sh _) (dI_sh _) (dI_eqv _ _)
theorem rv_neI {p q : Addr} {ns ms : List Int} (h1 : SqL K H p (ns.map V.int)) (h2 : SqL K H q (ms.map V.int)) : RV (rNeD K) (.ref p) (.ref q) H (.bl (!decide (ns = ms))) :=
  rv_neD (fun _ e => dp_ints (ex_l e h1)) (fun _ e => dp_ints (ex_l e h2)) (dI_sh _) (dI_sh _) (by rw [dI_eqv])
theorem rv_neR {p q : Addr} {xs ys : List V} {rs qs : List (Int × Int)} (h1 : SqL K H p xs) (p1 : Prs K H xs rs) (h2 : SqL K H q ys) (p2 : Prs K H ys qs) : RV (rNeD K) (.ref p) (.ref q) H (.bl (!decide (rs = qs))) :=
  rv_neD (fun _ e => dp_prs (ex_l e h1) (p1.mono e)) (fun _ e => dp_prs (ex_l e h2) (p2.mono e)) (dR_sh _) (dR_sh _) (by rw [dR_eqv])

/-! ### new lists -/
theorem el_is {xs ys : List V} (h : EvL te σ H xs) (e : xs = ys) : EvL te σ H ys := by
  rw [← e]
  exact h
theorem el_cat {xs ys : List V} (ha : EvL ta σ H xs) (hb : EvL tb σ H ys) (hz : xs.length + ys.length ≤ 100000) : EvL (tOp rCat ta tb) σ H (xs ++ ys) := fun H1 e Q q =>
  ha H1 e _ fun p H2 np e2 hp => hb H2 (e.trans e2) _ fun r H3 nr e3 hr => ⟨p, r, xs, ys, rfl, rfl, e3 p _ hp, hr, sz_of hz, fun l hl => q l _ (fresh_back (e2.trans e3) hl) ((e2.trans e3).trans (Ex.new hl)) upd_same⟩
theorem el_rep {k : Int} (ha : EvL ta σ H [x]) (hb : Ev tb σ H (.int k)) (h0 : 0 ≤ k) (hz : k ≤ 100000) : EvL (tOp rRep ta tb) σ H (List.replicate k.toNat x) := fun H1 e Q q =>
  ha H1 e _ fun p H2 np e2 hp => hb H2 (e.trans e2) _ fun H3 e3 => ⟨p, k, [x], rfl, rfl, e3 p _ hp, by omega, by omega, sz_of (by rw [List.length_singleton]; omega), fun l hl => q l _ (fresh_back (e2.trans e3) hl) ((e2.trans e3).trans (Ex.new hl)) (by
    rw [upd_same]
    congr 2
    generalize k.toNat = n
    induction n with
    | zero => rfl
    | succ n ih => rw [List.replicate_succ, List.flatten_cons, ih, List.replicate_succ]; rfl)⟩
/-- an item of a new list of ints -/
theorem ev_ixN {ns : List Int} {i : Int} (ha : EvL ta σ H (ns.map V.int)) (hb : ∀ H1, Ex H H1 → Ev tb σ H1 (.int i)) (h0 : 0 ≤ i) (h1 : i < (ns.length : Int)) : Ev (tOp (rIxL K) ta tb) σ H (.int (ns.getD i.toNat 0)) :=
  ev_opL1 ha hb fun p H1 hp _ => rv_ixL (sq_of hp) (by
    obtain ⟨j, rfl⟩ := Int.eq_ofNat_of_zero_le h0
    refine atI_nat ?_
    have hj : j < ns.length := by omega
    rw [List.getElem?_map, List.getElem?_eq_getElem hj, Int.toNat_natCast, List.getD_eq_getElem?_getD, List.getElem?_eq_getElem hj]
    rfl)
/-- an append to a new list that is thrown away -/
theorem s_appN {xs : List V} (h : EvL ta σ H xs) (hv : ∀ H1, Ex H H1 → Ev te σ H1 v) (hz : xs.length < 100000) (k : ∀ H1, Ex H H1 → D.nx σ H1) : tDrop (tBM K "list" rAppend ta (tCons te tNil)) D σ H := h H (Ex.refl H) _ fun p H1 np e1 hp =>
  ⟨Or.inl ⟨rfl, xs, sq_of hp⟩, hv H1 e1 H1 (Ex.refl _) _ fun H2 e2 => ⟨p, xs, v, rfl, rfl, e2 p _ hp, sz_lt hz, k _ (Ex.mut (e1.trans e2) np)⟩⟩
theorem q_appN {xs : List V} (h : EvL ta σ H xs) (hv : ∀ H1, Ex H H1 → Ev te σ H1 v) (hz : xs.length < 100000) (k : ∀ H1, Ex H H1 → tz D σ H1) : tSeq (tDrop (tBM K "list" rAppend ta (tCons te tNil))) tz D σ H := s_appN (D := { D with nx := tz D }) h hv hz k
theorem cut_mem {xs : List V} {lo hi : Option Int} {x : V} (h : x ∈ cutV xs lo hi) : x ∈ xs := List.mem_of_mem_drop (List.mem_of_mem_take h)
theorem int_of_mem {ns : List Int} {x : V} (h : x ∈ ns.map V.int) : ∃ i, x = .int i := by
  obtain ⟨i, _, rfl⟩ := List.mem_map.mp h
  exact ⟨i, rfl⟩

/-! ### a new list of pairs -/
def RetP (K : PySem.W.Frag) (rows : List (Int × Int)) (H : Hp) (Q : VK) : Prop := ∀ p xs H2, H p = none → Ex H H2 → H2 p = some (.lst xs) → Prs K H2 xs rows → Q (.ref p) H2
def EvP (K : PySem.W.Frag) (te : TE) (σ : L2.St) (H : Hp) (rows : List (Int × Int)) : Prop := ∀ H1, Ex H H1 → ∀ Q : VK, (∀ p xs H2, H1 p = none → Ex H1 H2 → H2 p = some (.lst xs) → Prs K H2 xs rows → Q (.ref p) H2) → te σ H1 Q
theorem ep_cal {sp : Sp} {vs : List V} {E : XK} {ta : TA} {rows : List (Int × Int)} (h : EvA ta σ H vs) (hs : ∀ H1, Ex H H1 → ∀ Q : VK, RetP K rows H1 Q → ∀ E : XK, sp vs H1 Q E) : EvP K (tCall sp [] E ta) σ H rows := fun H1 e Q q =>
  h H1 e _ fun H2 e2 => by
    show sp (vs ++ []) H2 Q E
    rw [List.append_nil]
    exact hs H2 (e.trans e2) Q (fun p xs H3 hp e3 h3 p3 => q p xs H3 (fresh_back e2 hp) (e2.trans e3) h3 p3) E
theorem q_asgP {i : Nat} {rows : List (Int × Int)} (h : EvP K te σ H rows) (k : ∀ p xs H1, H p = none → Ex H H1 → H1 p = some (.lst xs) → Prs K H1 xs rows → tz D (σ.set i (some (.ref p))) H1) : tSeq (tAsg te (gName i)) tz D σ H :=
  h H (Ex.refl H) _ fun p xs H1 hp e h1 p1 => k p xs H1 hp e h1 p1
theorem s_appNP {rows : List (Int × Int)} (h : EvP K ta σ H rows) (hv : ∀ H1, Ex H H1 → Ev te σ H1 v) (hz : rows.length < 100000) (k : ∀ H1, Ex H H1 → D.nx σ H1) : tDrop (tBM K "list" rAppend ta (tCons te tNil)) D σ H := h H (Ex.refl H) _ fun p xs H1 np e1 hp pp =>
  ⟨Or.inl ⟨rfl, xs, sq_of hp⟩, hv H1 e1 H1 (Ex.refl _) _ fun H2 e2 => ⟨p, xs, v, rfl, rfl, e2 p _ hp, sz_lt (by rw [Paired.length pp]; exact hz), k _ (Ex.mut (e1.trans e2) np)⟩⟩
theorem q_appNP {rows : List (Int × Int)} (h : EvP K ta σ H rows) (hv : ∀ H1, Ex H H1 → Ev te σ H1 v) (hz : rows.length < 100000) (k : ∀ H1, Ex H H1 → tz D σ H1) : tSeq (tDrop (tBM K "list" rAppend ta (tCons te tNil))) tz D σ H := s_appNP (D := { D with nx := tz D }) h hv hz k

/-! ### isinstance -/
theorem ev_isi {n s : String} {b : Bool} (ha : Ev ta σ H x) (ty : ∀ H1, Ex H H1 → TyX K H1 x (.type s)) (hk : kitB s n = some b) : Ev (tCB (rIsi K) (tCons ta (tCons (tC (.ty n)) tNil))) σ H (.bl b) := fun H1 e Q q =>
  ha H1 e _ fun H2 e2 => ⟨x, .ty n, .type s, .type n, b, rfl, .ty n, ty H2 (e.trans e2), kit_ty hk, q H2 e2⟩
theorem tx_int {i : Int} : ∀ H1, Ex H H1 → TyX K H1 (.int i) (.type "int") := fun _ _ => .base (.int i)
theorem tx_lst {p : Addr} {xs : List V} (h : H p = some (.lst xs)) : ∀ H1, Ex H H1 → TyX K H1 (.ref p) (.type "list") := fun _ e => .base (.lst (e p _ h))
theorem tx_tup {p : Addr} {xs : List V} (h : H p = some (.tup xs)) : ∀ H1, Ex H H1 → TyX K H1 (.ref p) (.type "tuple") := fun _ e => .base (.tup (e p _ h))

/-! ### comprehensions -/
/-- over a list of pairs, its target a pair of names -/
theorem el_lcP {a : Addr} {xs : List V} {rows : List (Int × Int)} {i j : Nat} (f : Int × Int → Bool) (w : Int × Int → V) (h : Ev tl σ H (.ref a)) (hx : SqL K H a xs) (hp : Prs K H xs rows) (hz : rows.length ≤ 40000)
    (hw : ∀ x y, wipe (((wipe σ vs).set i (some x)).set j (some y)) vs = wipe σ vs)
    (ht : ∀ r H1, Ex H H1 → r ∈ rows → EvT t (((wipe σ vs).set i (some (.int r.1))).set j (some (.int r.2))) H1 (f r)) (he : ∀ r H1, Ex H H1 → r ∈ rows → f r = true → Ev te (((wipe σ vs).set i (some (.int r.1))).set j (some (.int r.2))) H1 (w r)) :
    EvL (tLc (iList K tl) (gTup K 2 (gCons (gName i) (gCons (gName j) gNil))) t te vs) σ H ((rows.filter f).map w) := fun H0 e Q q => h H0 e _ fun H1 e1 => ⟨a, rfl, ⟨xs, ex_l (e.trans e1) hx⟩, fun Dl hD =>
  lc_list (xs := xs) (fun n H' => H1 Dl = none ∧ Ex H1 H' ∧ H' Dl = some (.lst (((rows.take n).filter f).map w))) ⟨hD, Ex.new hD, upd_same⟩ (fun n H' _ p => ex_l ((e.trans e1).trans p.2.1) hx) (fun n x H' hn p => by
    obtain ⟨p1, p2, p3⟩ := p
    obtain ⟨r, u, hr, rfl, hu⟩ := prs_get (hp.mono ((e.trans e1).trans p2)) hn
    have hm : r ∈ rows := List.mem_of_getElem? hr
    have hlen : (((rows.take n).filter f).map w).length < 100000 := by
      rw [List.length_map]
      have h1 := List.length_filter_le f (rows.take n)
      rw [List.length_take] at h1
      omega
    refine ⟨u, _, rfl, hu, rfl, .int r.1, [.int r.2], rfl, .int r.2, [], rfl, rfl, hw _ _, ?_⟩
    refine ht r H1 (e.trans e1) hm H' p2 _ fun H3 e3 => ?_
    have et : rows.take (n + 1) = rows.take n ++ [r] := by rw [List.take_add_one, hr]; rfl
    cases hf : f r with
    | true =>
      show te _ H3 _
      refine he r H1 (e.trans e1) hm hf H3 (p2.trans e3) _ fun H4 e4 => ⟨_, e4 Dl _ (e3 Dl _ p3), sz_lt hlen, p1, Ex.mut ((p2.trans e3).trans e4) p1, ?_⟩
      rw [upd_same, et, List.filter_append, List.map_append, List.filter_cons, if_pos hf]
      rfl
    | false =>
      refine ⟨p1, p2.trans e3, ?_⟩
      rw [et, List.filter_append, List.map_append, List.filter_cons, if_neg (by rw [hf]; decide)]
      show _ = some (HO.lst (_ ++ []))
      rw [List.append_nil]
      exact e3 Dl _ p3) (fun H' p => by
    have q1 := p.2.2
    rw [Paired.length hp, List.take_length] at q1
    exact q Dl H' (fresh_back e1 p.1) (e1.trans p.2.1) q1)⟩
/-- over a list of ints -/
theorem el_lcI {a : Addr} {ns : List Int} {j : Nat} (f : Int → Bool) (w : Int → V) (h : Ev tl σ H (.ref a)) (hx : SqL K H a (ns.map V.int)) (hz : ns.length ≤ 40000)
    (hw : ∀ x, wipe ((wipe σ vs).set j (some x)) vs = wipe σ vs)
    (ht : ∀ r H1, Ex H H1 → r ∈ ns → EvT t ((wipe σ vs).set j (some (.int r))) H1 (f r)) (he : ∀ r H1, Ex H H1 → r ∈ ns → f r = true → Ev te ((wipe σ vs).set j (some (.int r))) H1 (w r)) :
    EvL (tLc (iList K tl) (gName j) t te vs) σ H ((ns.filter f).map w) := fun H0 e Q q => h H0 e _ fun H1 e1 => ⟨a, rfl, ⟨_, ex_l (e.trans e1) hx⟩, fun Dl hD =>
  lc_list (xs := ns.map V.int) (fun n H' => H1 Dl = none ∧ Ex H1 H' ∧ H' Dl = some (.lst (((ns.take n).filter f).map w))) ⟨hD, Ex.new hD, upd_same⟩ (fun n H' _ p => ex_l ((e.trans e1).trans p.2.1) hx) (fun n x H' hn p => by
    obtain ⟨p1, p2, p3⟩ := p
    rw [List.getElem?_map] at hn
    obtain ⟨r, hr, rfl⟩ := Option.map_eq_some_iff.mp hn
    have hm : r ∈ ns := List.mem_of_getElem? hr
    have hlen : (((ns.take n).filter f).map w).length < 100000 := by
      rw [List.length_map]
      have h1 := List.length_filter_le f (ns.take n)
      rw [List.length_take] at h1
      omega
    refine ⟨hw _, ?_⟩
    refine ht r H1 (e.trans e1) hm H' p2 _ fun H3 e3 => ?_
    have et : ns.take (n + 1) = ns.take n ++ [r] := by rw [List.take_add_one, hr]; rfl
    cases hf : f r with
    | true =>
      show te _ H3 _
      refine he r H1 (e.trans e1) hm hf H3 (p2.trans e3) _ fun H4 e4 => ⟨_, e4 Dl _ (e3 Dl _ p3), sz_lt hlen, p1, Ex.mut ((p2.trans e3).trans e4) p1, ?_⟩
      rw [upd_same, et, List.filter_append, List.map_append, List.filter_cons, if_pos hf]
      rfl
    | false =>
      refine ⟨p1, p2.trans e3, ?_⟩
      rw [et, List.filter_append, List.map_append, List.filter_cons, if_neg (by rw [hf]; decide)]
      show _ = some (HO.lst (_ ++ []))
      rw [List.append_nil]
      exact e3 Dl _ p3) (fun H' p => by
    have q1 := p.2.2
    rw [List.length_map, List.take_length] at q1
    exact q Dl H' (fresh_back e1 p.1) (e1.trans p.2.1) q1)⟩
theorem et_yes : EvT tYes σ H true := fun H1 _ _ q => q H1 (Ex.refl H1)
theorem ev_gcd {a b : Int} (ha : Ev ta σ H (.int a)) (hb : Ev tb σ H (.int b)) : Ev (tCB rGcd (tCons ta (tCons tb tNil))) σ H (.int ((Nat.gcd a.natAbs b.natAbs : Nat) : Int)) :=
  ev_cb (ea_cons ha (ea_cons hb ea_nil)) fun H1 _ _ q => ⟨a, b, rfl, q H1 (Ex.refl H1)⟩
end
end Kp

/-! Loops over enumerate and reversed; what stands at a place of a list, changed; many new lists at once. -/
namespace Kp
open PySem PySem.Spec PyProof.Rows L2 Evl
section
variable {K : PySem.W.Frag} {σ : L2.St} {H H' : Hp} {ta tb te tl to ti : TE} {t : TT} {x y z v : V} {D : Ends} {tu tz : TS} {vs : List Nat}
/-- for i, x in enumerate(xs) -/
theorem s_forE {a : Addr} {xs : List V} {tl : TA} {j1 j2 : Nat} (h : EvA tl σ H [.ref a]) (hx : SqL K H a xs) (Pv : Nat → L2.St → Hp → Prop) (h0 : ∀ H1, Ex H H1 → Pv 0 σ H1) (hl : ∀ i σ' H', i ≤ xs.length → Pv i σ' H' → SqL K H' a xs)
    (hs : ∀ i x σ' H', xs[i]? = some x → Pv i σ' H' → ∀ H2, Ex H' H2 → tu { D with nx := Pv (i + 1), ct := Pv (i + 1), bk := D.nx } ((σ'.set j1 (some (.int (i : Nat)))).set j2 (some x)) H2) (hd : ∀ σ' H', Pv xs.length σ' H' → D.nx σ' H') :
    tFor (iEnum K tl) (gTup K 2 (gCons (gName j1) (gCons (gName j2) gNil))) tu D σ H :=
  h H (Ex.refl H) _ fun H1 e => ⟨a, xs, rfl, ex_l e hx, fun i m σ' H' => m = xs.length - i ∧ i ≤ xs.length ∧ Pv i σ' H', ⟨xs.length, rfl, Nat.zero_le _, h0 H1 e⟩, fun i m σ' H' hW => by
    obtain ⟨rfl, hi, p⟩ := hW
    have q := hl i σ' H' hi p
    by_cases hlt : i < xs.length
    · refine .inr ⟨⟨xs, xs[i], q, List.getElem?_eq_getElem hlt⟩, Pv (i + 1), fun σ2 H2 p' => ⟨xs.length - (i + 1), by omega, rfl, hlt, p'⟩, fun w H2 hy => ?_⟩
      obtain ⟨T, x, rfl, hT, rfl, fx⟩ := hy
      exact ⟨T, _, rfl, .inl (.inl upd_same), rfl, .int (i : Nat), [x], rfl, x, [], rfl, rfl, hs i x σ' H' (fx xs q) p _ (Ex.new hT)⟩
    · have e : i = xs.length := by omega
      subst e
      exact .inl ⟨⟨xs, q, Nat.le_refl _⟩, hd σ' H' p⟩⟩
theorem q_forE {a : Addr} {xs : List V} {tl : TA} {j1 j2 : Nat} (h : EvA tl σ H [.ref a]) (hx : SqL K H a xs) (Pv : Nat → L2.St → Hp → Prop) (h0 : ∀ H1, Ex H H1 → Pv 0 σ H1) (hl : ∀ i σ' H', i ≤ xs.length → Pv i σ' H' → SqL K H' a xs)
    (hs : ∀ i x σ' H', xs[i]? = some x → Pv i σ' H' → ∀ H2, Ex H' H2 → tu { D with nx := Pv (i + 1), ct := Pv (i + 1), bk := tz D } ((σ'.set j1 (some (.int (i : Nat)))).set j2 (some x)) H2) (hd : ∀ σ' H', Pv xs.length σ' H' → tz D σ' H') :
    tSeq (tFor (iEnum K tl) (gTup K 2 (gCons (gName j1) (gCons (gName j2) gNil))) tu) tz D σ H := s_forE (D := { D with nx := tz D }) h hx Pv h0 hl hs hd
/-- for x in reversed(xs) -/
theorem s_forV {a : Addr} {xs : List V} {tl : TA} {j : Nat} (h : EvA tl σ H [.ref a]) (hx : SqL K H a xs) (Pv : Nat → L2.St → Hp → Prop) (h0 : ∀ H1, Ex H H1 → Pv 0 σ H1) (hl : ∀ i σ' H', i ≤ xs.length → Pv i σ' H' → SqL K H' a xs)
    (hs : ∀ i x σ' H', i < xs.length → xs[xs.length - 1 - i]? = some x → Pv i σ' H' → tu { D with nx := Pv (i + 1), ct := Pv (i + 1), bk := D.nx } (σ'.set j (some x)) H') (hd : ∀ σ' H', Pv xs.length σ' H' → D.nx σ' H') :
    tFor (iRev K tl) (gName j) tu D σ H :=
  h H (Ex.refl H) _ fun H1 e => ⟨a, xs, rfl, ex_l e hx, fun i m σ' H' => m = xs.length - i ∧ i ≤ xs.length ∧ Pv i σ' H', ⟨xs.length, rfl, Nat.zero_le _, h0 H1 e⟩, fun i m σ' H' hW => by
    obtain ⟨rfl, hi, p⟩ := hW
    have q := hl i σ' H' hi p
    by_cases hlt : i < xs.length
    · have hlt2 : xs.length - 1 - i < xs.length := by omega
      refine .inr ⟨⟨hlt, xs, xs[xs.length - 1 - i], q, List.getElem?_eq_getElem hlt2⟩, Pv (i + 1), fun σ2 H2 p' => ⟨xs.length - (i + 1), by omega, rfl, hlt, p'⟩, fun w H2 hy => ?_⟩
      obtain ⟨rfl, fx⟩ := hy
      exact hs i w σ' H2 hlt (fx xs q) p
    · have e : i = xs.length := by omega
      subst e
      exact .inl ⟨Nat.le_refl _, hd σ' H' p⟩⟩
theorem q_forV {a : Addr} {xs : List V} {tl : TA} {j : Nat} (h : EvA tl σ H [.ref a]) (hx : SqL K H a xs) (Pv : Nat → L2.St → Hp → Prop) (h0 : ∀ H1, Ex H H1 → Pv 0 σ H1) (hl : ∀ i σ' H', i ≤ xs.length → Pv i σ' H' → SqL K H' a xs)
    (hs : ∀ i x σ' H', i < xs.length → xs[xs.length - 1 - i]? = some x → Pv i σ' H' → tu { D with nx := Pv (i + 1), ct := Pv (i + 1), bk := tz D } (σ'.set j (some x)) H') (hd : ∀ σ' H', Pv xs.length σ' H' → tz D σ' H') :
    tSeq (tFor (iRev K tl) (gName j) tu) tz D σ H := s_forV (D := { D with nx := tz D }) h hx Pv h0 hl hs hd
/-- o[i] += e, of a list of ints -/
theorem s_augL {l : Addr} {ns : List Int} {j : Nat} {f : Int → Int → Int} {a b : Int} (hl : H l = some (.lst (ns.map V.int))) (ho : Ev to σ H (.ref l)) (hi : Ev ti σ H (.int (j : Nat))) (hj : ns[j]? = some a) (he : Ev te σ H (.int b))
    (k : ∀ H1, Ex H H1 → D.nx σ (upd H1 l (.lst ((ns.set j (f a b)).map V.int)))) : tAugS to ti te (rGetL K) (ipI f) rSetL D σ H := ho H (Ex.refl H) _ fun H1 e1 => hi H1 e1 _ fun H2 e2 =>
  ⟨l, ns.map V.int, j, .int a, rfl, rfl, sq_of ((e1.trans e2) l _ hl), by rw [List.getElem?_map, hj]; rfl, he H2 (e1.trans e2) _ fun H3 e3 => ⟨a, b, rfl, rfl, l, ns.map V.int, (j : Nat), j, rfl, rfl, ((e1.trans e2).trans e3) l _ hl,
    ixN_nat (by rw [List.length_map]; exact (List.getElem?_eq_some_iff.mp hj).1), by
      have q := k H3 ((e1.trans e2).trans e3)
      rw [List.map_set] at q
      exact q⟩⟩
/-- the same with an operator that asks something of its two ints -/
theorem s_augLC {l : Addr} {ns : List Int} {j : Nat} {C : Int → Int → Prop} {f : Int → Int → Int} {a b : Int} (hl : H l = some (.lst (ns.map V.int))) (ho : Ev to σ H (.ref l)) (hi : Ev ti σ H (.int (j : Nat))) (hj : ns[j]? = some a) (he : Ev te σ H (.int b))
    (k : ∀ H1, Ex H H1 → D.nx σ (upd H1 l (.lst ((ns.set j (f a b)).map V.int)))) : tAugS to ti te (rGetL K) (rI0 fun i j => .int (f i j)) rSetL D σ H := s_augL hl ho hi hj he k
/-- o[i] = e, of a list of ints -/
theorem s_setI {l : Addr} {ns : List Int} {j : Nat} {b : Int} (hl : H l = some (.lst (ns.map V.int))) (ho : Ev to σ H (.ref l)) (hi : Ev ti σ H (.int (j : Nat))) (hj : j < ns.length) (he : Ev te σ H (.int b))
    (k : ∀ H1, Ex H H1 → D.nx σ (upd H1 l (.lst ((ns.set j b).map V.int)))) : tAsg te (gSub to ti rSetL) D σ H :=
  s_setL hl he ho hi (by rw [List.length_map]; exact hj) fun H1 e1 => by
    have q := k H1 e1
    rw [List.map_set] at q
    exact q
/-- xs[i], of a list of ints -/
theorem ev_ixI {a : Addr} {ns : List Int} {j : Nat} {b : Int} (hl : SqL K H a (ns.map V.int)) (ho : Ev ta σ H (.ref a)) (hi : Ev tb σ H (.int (j : Nat))) (hj : ns[j]? = some b) : Ev (tOp (rIxL K) ta tb) σ H (.int b) :=
  ev_op ho hi (rv_ixL hl (atI_nat (by rw [List.getElem?_map, hj]; rfl)))
/-- t[i], of a tuple -/
theorem ev_ixT {a : Addr} {xs : List V} {j : Nat} (hl : SqT K H a xs) (ho : Ev ta σ H (.ref a)) (hi : Ev tb σ H (.int (j : Nat))) (hj : xs[j]? = some v) : Ev (tOp (rIxT K) ta tb) σ H v :=
  ev_op ho hi (rv_ixT hl (atI_nat hj))
/-- xs.pop() as a statement -/
theorem s_pop {l : Addr} {xs : List V} {y : V} (hl : H l = some (.lst (xs ++ [y]))) (ha : Ev ta σ H (.ref l)) (k : ∀ H1, Ex H H1 → D.nx σ (upd H1 l (.lst xs))) : tDrop (tBM0 K "list" rPop ta) D σ H := ha H (Ex.refl H) _ fun H1 e1 =>
  ⟨Or.inl ⟨rfl, _, sq_of (e1 l _ hl)⟩, l, xs ++ [y], y, rfl, rfl, e1 l _ hl, by simp, by
    rw [List.dropLast_concat]
    exact k H1 e1⟩

/-! ### many new lists -/
def EvNs (n : Nat) (ta : TA) (σ : L2.St) (H : Hp) : Prop := ∀ H1, Ex H H1 → ∀ Q : List V → Hp → Prop, (∀ (ps : List Addr) H2, ps.length = n → Ex H1 H2 → (∀ p ∈ ps, H1 p = none ∧ ∃ xs, H2 p = some (.lst xs) ∧ xs.length < 50000) → Q (ps.map V.ref) H2) → ta σ H1 Q
theorem en_nil : EvNs 0 tNil σ H := fun H1 _ Q q => q [] H1 rfl (Ex.refl H1) fun _ h => nomatch h
theorem en_cons {tr : TA} {xs : List V} {n : Nat} (h : EvL te σ H xs) (hz : xs.length < 50000) (hr : EvNs n tr σ H) : EvNs (n + 1) (tCons te tr) σ H := fun H1 e Q q =>
  h H1 e _ fun p H2 np e2 hp => hr H2 (e.trans e2) _ fun ps H3 hl e3 hps => q (p :: ps) H3 (by rw [List.length_cons, hl]) (e2.trans e3) fun r hr' => by
    rcases List.mem_cons.mp hr' with rfl | hm
    · exact ⟨np, xs, e3 _ _ hp, hz⟩
    · obtain ⟨n1, n2⟩ := hps r hm
      exact ⟨fresh_back e2 n1, n2⟩
/-- for x in [new, new, ..]: x.append(e) -/
theorem s_forNs {tr : TA} {n j : Nat} {u : V} (h : EvNs n tr σ H) (hn : n ≤ 1000) (hj : j < σ.length) (k : ∀ σ' H1, (∃ x, σ' = σ.set j x) → Ex H H1 → D.nx σ' H1) :
    tFor (iList K (tLst tr)) (gName j) (tDrop (tBM K "list" rAppend (tVar j) (tCons (tC u) tNil))) D σ H :=
  h H (Ex.refl H) _ fun ps H2 hl e2 hps => ⟨sz_of (by rw [List.length_map]; omega), fun L nL => ⟨L, rfl, ⟨_, SqL.of upd_same⟩, for_list (xs := ps.map V.ref)
    (fun i σ' H' => (∃ x, σ' = σ.set j x) ∧ Ex H H' ∧ H' L = some (.lst (ps.map V.ref)) ∧ ∀ p ∈ ps, ∃ xs, H' p = some (.lst xs) ∧ xs.length < 50000 + i)
    ⟨⟨σ[j], (List.set_getElem_self hj).symm⟩, e2.trans (Ex.new nL), upd_same, fun p hp => by
      obtain ⟨xs, q1, q2⟩ := (hps p hp).2
      exact ⟨xs, by rw [upd_ne (ne_of_none q1 nL)]; exact q1, by omega⟩⟩
    (fun i σ' H' _ p => SqL.of p.2.2.1) (fun i x σ' H' hx p => by
      obtain ⟨⟨y, rfl⟩, p2, p3, p4⟩ := p
      rw [List.getElem?_map] at hx
      obtain ⟨r, hr, rfl⟩ := Option.map_eq_some_iff.mp hx
      have hm := List.mem_of_getElem? hr
      have hi : i < ps.length := (List.getElem?_eq_some_iff.mp hr).1
      obtain ⟨xs, q1, q2⟩ := p4 r hm
      have nLr : L ≠ r := fun e => by
        obtain ⟨zs, z1, _⟩ := (hps r hm).2
        rw [← e, nL] at z1
        cases z1
      refine s_app q1 (ev_var (by rw [List.getElem?_set_self (by rw [List.length_set]; exact hj)])) ev_c (by omega) fun H3 e3 => ⟨⟨_, List.set_set ..⟩, Ex.mut (p2.trans e3) (hps r hm).1, ?_, fun p hp => ?_⟩
      · rw [upd_ne nLr]
        exact e3 _ _ p3
      · by_cases e : p = r
        · subst e
          exact ⟨_, upd_same, by rw [List.length_append, List.length_singleton]; omega⟩
        · obtain ⟨ys, z1, z2⟩ := p4 p hp
          exact ⟨ys, by rw [upd_ne e]; exact e3 _ _ z1, by omega⟩) (fun σ' H' p => k σ' H' p.1 p.2.1)⟩⟩
theorem q_forNs {tr : TA} {n j : Nat} {u : V} (h : EvNs n tr σ H) (hn : n ≤ 1000) (hj : j < σ.length) (k : ∀ σ' H1, (∃ x, σ' = σ.set j x) → Ex H H1 → tz D σ' H1) :
    tSeq (tFor (iList K (tLst tr)) (gName j) (tDrop (tBM K "list" rAppend (tVar j) (tCons (tC u) tNil)))) tz D σ H := s_forNs (D := { D with nx := tz D }) h hn hj k
end
end Kp
namespace Kp
open PySem PySem.Spec PyProof.Rows L2 Evl
section
variable {K : PySem.W.Frag} {σ : L2.St} {H H' : Hp} {ta tb te tl to ti : TE} {t : TT} {x y z v : V} {D : Ends} {tu tz : TS} {vs : List Nat}
/-- (a new list, a new list) -/
theorem q_asgT2 {i : Nat} {xs ys : List V} (h1 : EvL ta σ H xs) (h2 : EvL tb σ H ys) (k : ∀ t p q H1, Ex H H1 → H1 t = some (.tup [.ref p, .ref q]) → H1 p = some (.lst xs) → H1 q = some (.lst ys) → tz D (σ.set i (some (.ref t))) H1) :
    tSeq (tAsg (tTup (tCons ta (tCons tb tNil))) (gName i)) tz D σ H :=
  h1 H (Ex.refl H) _ fun p H1 np e1 hp => h2 H1 e1 _ fun q H2 nq e2 hq => ⟨sz_of (show 2 ≤ 100000 by decide), fun t nt =>
    k t p q _ ((e1.trans e2).trans (Ex.new nt)) upd_same (by rw [upd_ne (ne_of_none (e2 _ _ hp) nt)]; exact e2 _ _ hp) (by rw [upd_ne (ne_of_none hq nt)]; exact hq)⟩
/-- a call upon one new list, one value back -/
theorem ev_calL1 {sp : Sp} {xs : List V} {E : XK} (h : EvL ta σ H xs) (hs : ∀ p H1, Ex H H1 → H1 p = some (.lst xs) → ∀ Q : VK, RetV z H1 Q → ∀ E : XK, sp [.ref p] H1 Q E) : Ev (tCall sp [] E (tCons ta tNil)) σ H z := fun H1 e Q q =>
  h H1 e _ fun p H2 np e2 hp => hs p H2 (e.trans e2) hp Q (fun H3 e3 => q H3 (e2.trans e3)) E
/-- a list by its name and a new one, glued -/
theorem el_cat1 {l : Addr} {xs ys : List V} (ha : Ev ta σ H (.ref l)) (hl : H l = some (.lst xs)) (hb : EvL tb σ H ys) (hz : xs.length + ys.length ≤ 100000) : EvL (tOp rCat ta tb) σ H (xs ++ ys) := fun H1 e Q q =>
  ha H1 e _ fun H2 e2 => hb H2 (e.trans e2) _ fun r H3 nr e3 hr => ⟨l, r, xs, ys, rfl, rfl, (e.trans (e2.trans e3)) _ _ hl, hr, sz_of hz, fun l hl => q l _ (fresh_back (e2.trans e3) hl) ((e2.trans e3).trans (Ex.new hl)) upd_same⟩
theorem cut_take (xs : List V) (m : Nat) : cutV xs none (some (m : Int)) = xs.take m := by
  unfold cutV
  rw [HT.sIx_none, HT.sIx_nat, Nat.sub_zero, List.drop_zero]
  by_cases h : m ≤ xs.length
  · rw [Nat.min_eq_left h]
  · rw [Nat.min_eq_right (by omega), List.take_of_length_le (Nat.le_refl _), List.take_of_length_le (by omega)]
theorem map_get {ns : List Int} {i : Nat} {x : V} (h : (ns.map V.int)[i]? = some x) : ∃ a, ns[i]? = some a ∧ x = .int a := by
  rw [List.getElem?_map] at h
  obtain ⟨a, h1, h2⟩ := Option.map_eq_some_iff.mp h
  exact ⟨a, h1, h2.symm⟩
end
end Kp

/-! More of loops, comprehensions and lists. -/
namespace Kp
open PySem PySem.Spec PyProof.Rows L2 Evl
theorem filter_yes {α : Type} (l : List α) : l.filter (fun _ => true) = l := List.filter_eq_self.mpr fun _ _ => rfl
section
variable {K : PySem.W.Frag} {σ : L2.St} {H H' : Hp} {ta tb te tl to ti : TE} {t : TT} {x y z v : V} {D : Ends} {tu tz : TS} {vs : List Nat}
/-- [e for x in range(a, b) if t] -/
theorem el_lcR2 {tg : TA} {j : Nat} {lo hi : Int} (f : Nat → Bool) (w : Nat → V) (h : EvA tg σ H [.int lo, .int hi]) (hb : 0 ≤ lo ∧ lo ≤ 40000 ∧ -40000 ≤ hi ∧ hi ≤ 40000) (hw : ∀ x, wipe ((wipe σ vs).set j (some x)) vs = wipe σ vs)
    (ht : ∀ (i : Nat) H1, Ex H H1 → lo + (i : Int) < hi → EvT t ((wipe σ vs).set j (some (.int (lo + (i : Int))))) H1 (f i)) (he : ∀ (i : Nat) H1, Ex H H1 → lo + (i : Int) < hi → f i = true → Ev te ((wipe σ vs).set j (some (.int (lo + (i : Int))))) H1 (w i)) :
    EvL (tLc (iRng2 tg) (gName j) t te vs) σ H (((List.range (hi - lo).toNat).filter f).map w) := fun H0 e Q q => h H0 e _ fun H1 e1 => ⟨lo, hi, rfl, ⟨by omega, by omega, by omega, by omega⟩, fun Dl hD =>
  lc_range (lo := lo) (n := (hi - lo).toNat) (Cw H1 f w Dl) ⟨hD, Ex.new hD, upd_same⟩ (fun i H' hi p => ⟨hw _, cw_turn p (by omega) (ht i H1 (e.trans e1) (by omega)) (fun hf => he i H1 (e.trans e1) (by omega) hf)⟩) (fun H' p => q Dl H' (fresh_back e1 p.1) (e1.trans p.2.1) p.2.2)⟩
/-- [e for x in reversed(xs) if t], xs ints -/
theorem el_lcV {tg : TA} {a : Addr} {ns : List Int} {j : Nat} (f : Int → Bool) (w : Int → V) (h : EvA tg σ H [.ref a]) (hx : SqL K H a (ns.map V.int)) (hz : ns.length ≤ 40000)
    (hw : ∀ x, wipe ((wipe σ vs).set j (some x)) vs = wipe σ vs)
    (ht : ∀ r H1, Ex H H1 → r ∈ ns → EvT t ((wipe σ vs).set j (some (.int r))) H1 (f r)) (he : ∀ r H1, Ex H H1 → r ∈ ns → f r = true → Ev te ((wipe σ vs).set j (some (.int r))) H1 (w r)) :
    EvL (tLc (iRev K tg) (gName j) t te vs) σ H ((ns.reverse.filter f).map w) := fun H0 e Q q => h H0 e _ fun H1 e1 => ⟨a, _, rfl, ex_l (e.trans e1) hx, fun Dl hD =>
  ⟨fun n m H' => m = ns.length - n ∧ n ≤ ns.length ∧ H1 Dl = none ∧ Ex H1 H' ∧ H' Dl = some (.lst (((ns.reverse.take n).filter f).map w)), ⟨ns.length, rfl, Nat.zero_le _, hD, Ex.new hD, upd_same⟩, fun n m H' hW => by
    obtain ⟨rfl, hn, p1, p2, p3⟩ := hW
    by_cases hlt : n < ns.length
    · have hlt2 : ns.length - 1 - n < ns.length := by omega
      have hlm : (ns.map V.int).length = ns.length := List.length_map _
      refine .inr ⟨⟨by rw [hlm]; exact hlt, ns.map V.int, _, ex_l ((e.trans e1).trans p2) hx, List.getElem?_eq_getElem (by rw [hlm]; omega)⟩, fun H2 => n + 1 ≤ ns.length ∧ H1 Dl = none ∧ Ex H1 H2 ∧ H2 Dl = some (.lst (((ns.reverse.take (n + 1)).filter f).map w)), fun H2 ⟨q1, q2, q3, q4⟩ => ⟨ns.length - (n + 1), by omega, rfl, q1, q2, q3, q4⟩, fun x H2 hy => ?_⟩
      obtain ⟨rfl, fx⟩ := hy
      have gx := fx _ (ex_l ((e.trans e1).trans p2) hx)
      rw [hlm] at gx
      rw [List.getElem?_map] at gx
      obtain ⟨r, hr, rfl⟩ := Option.map_eq_some_iff.mp gx
      have hm : r ∈ ns := List.mem_of_getElem? hr
      have hlen : (((ns.reverse.take n).filter f).map w).length < 100000 := by
        rw [List.length_map]
        have h1 := List.length_filter_le f (ns.reverse.take n)
        rw [List.length_take, List.length_reverse] at h1
        omega
      have et : ns.reverse.take (n + 1) = ns.reverse.take n ++ [r] := by
        rw [List.take_add_one, List.getElem?_reverse hlt, hr]
        rfl
      refine ⟨hw _, ?_⟩
      refine ht r H1 (e.trans e1) hm H2 p2 _ fun H3 e3 => ?_
      cases hf : f r with
      | true =>
        show te _ H3 _
        refine he r H1 (e.trans e1) hm hf H3 (p2.trans e3) _ fun H4 e4 => ⟨_, e4 Dl _ (e3 Dl _ p3), sz_lt hlen, hlt, p1, Ex.mut ((p2.trans e3).trans e4) p1, ?_⟩
        rw [upd_same, et, List.filter_append, List.map_append, List.filter_cons, if_pos hf]
        rfl
      | false =>
        refine ⟨hlt, p1, p2.trans e3, ?_⟩
        rw [et, List.filter_append, List.map_append, List.filter_cons, if_neg (by rw [hf]; decide)]
        show _ = some (HO.lst (_ ++ []))
        rw [List.append_nil]
        exact e3 Dl _ p3
    · have en : n = ns.length := by omega
      subst en
      rw [List.take_of_length_le (by rw [List.length_reverse]; exact Nat.le_refl _)] at p3
      exact .inl ⟨by show (ns.map V.int).length ≤ _; rw [List.length_map]; exact Nat.le_refl _, q Dl H' (fresh_back e1 p1) (e1.trans p2) p3⟩⟩⟩
/-- two lists by their names, glued -/
theorem el_cat2 {l b : Addr} {xs ys : List V} (ha : Ev ta σ H (.ref l)) (hl : H l = some (.lst xs)) (hb : Ev tb σ H (.ref b)) (hlb : H b = some (.lst ys)) (hz : xs.length + ys.length ≤ 100000) : EvL (tOp rCat ta tb) σ H (xs ++ ys) := fun H1 e Q q =>
  ha H1 e _ fun H2 e2 => hb H2 (e.trans e2) _ fun H3 e3 => ⟨l, b, xs, ys, rfl, rfl, (e.trans (e2.trans e3)) _ _ hl, (e.trans (e2.trans e3)) _ _ hlb, sz_of hz, fun l hl => q l _ (fresh_back (e2.trans e3) hl) ((e2.trans e3).trans (Ex.new hl)) upd_same⟩
/-- for i, x in enumerate(a new list) -/
theorem s_forEN {xs : List V} {j1 j2 : Nat} (h : EvL te σ H xs) (Pv : Addr → Nat → L2.St → Hp → Prop) (h0 : ∀ a H1, H a = none → Ex H H1 → H1 a = some (.lst xs) → Pv a 0 σ H1) (hl : ∀ a i σ' H', i ≤ xs.length → Pv a i σ' H' → SqL K H' a xs)
    (hs : ∀ a i x σ' H', xs[i]? = some x → Pv a i σ' H' → ∀ H2, Ex H' H2 → tu { D with nx := Pv a (i + 1), ct := Pv a (i + 1), bk := D.nx } ((σ'.set j1 (some (.int (i : Nat)))).set j2 (some x)) H2) (hd : ∀ a σ' H', Pv a xs.length σ' H' → D.nx σ' H') :
    tFor (iEnum K (tCons te tNil)) (gTup K 2 (gCons (gName j1) (gCons (gName j2) gNil))) tu D σ H :=
  h H (Ex.refl H) _ fun a H1 na e ha => ⟨a, xs, rfl, sq_of ha, fun i m σ' H' => m = xs.length - i ∧ i ≤ xs.length ∧ Pv a i σ' H', ⟨xs.length, rfl, Nat.zero_le _, h0 a H1 na e ha⟩, fun i m σ' H' hW => by
    obtain ⟨rfl, hi, p⟩ := hW
    have q := hl a i σ' H' hi p
    by_cases hlt : i < xs.length
    · refine .inr ⟨⟨xs, xs[i], q, List.getElem?_eq_getElem hlt⟩, Pv a (i + 1), fun σ2 H2 p' => ⟨xs.length - (i + 1), by omega, rfl, hlt, p'⟩, fun w H2 hy => ?_⟩
      obtain ⟨T, x, rfl, hT, rfl, fx⟩ := hy
      exact ⟨T, _, rfl, .inl (.inl upd_same), rfl, .int (i : Nat), [x], rfl, x, [], rfl, rfl, hs a i x σ' H' (fx xs q) p _ (Ex.new hT)⟩
    · have e : i = xs.length := by omega
      subst e
      exact .inl ⟨⟨xs, q, Nat.le_refl _⟩, hd a σ' H' p⟩⟩
theorem q_forEN {xs : List V} {j1 j2 : Nat} (h : EvL te σ H xs) (Pv : Addr → Nat → L2.St → Hp → Prop) (h0 : ∀ a H1, H a = none → Ex H H1 → H1 a = some (.lst xs) → Pv a 0 σ H1) (hl : ∀ a i σ' H', i ≤ xs.length → Pv a i σ' H' → SqL K H' a xs)
    (hs : ∀ a i x σ' H', xs[i]? = some x → Pv a i σ' H' → ∀ H2, Ex H' H2 → tu { D with nx := Pv a (i + 1), ct := Pv a (i + 1), bk := tz D } ((σ'.set j1 (some (.int (i : Nat)))).set j2 (some x)) H2) (hd : ∀ a σ' H', Pv a xs.length σ' H' → tz D σ' H') :
    tSeq (tFor (iEnum K (tCons te tNil)) (gTup K 2 (gCons (gName j1) (gCons (gName j2) gNil))) tu) tz D σ H := s_forEN (D := { D with nx := tz D }) h Pv h0 hl hs hd
/-- for a, b in a new list of pairs -/
theorem q_forP {rows : List (Int × Int)} {j1 j2 : Nat} (h : EvP K te σ H rows) (Pv : Hp → Nat → L2.St → Hp → Prop) (h0 : ∀ H1, Ex H H1 → Pv H1 0 σ H1) (hl : ∀ H1 i σ' H', Pv H1 i σ' H' → Ex H1 H')
    (hs : ∀ H1 i r σ' H', Ex H H1 → rows[i]? = some r → Pv H1 i σ' H' → tu { D with nx := Pv H1 (i + 1), ct := Pv H1 (i + 1), bk := tz D } ((σ'.set j1 (some (.int r.1))).set j2 (some (.int r.2))) H') (hd : ∀ H1 σ' H', Ex H H1 → Pv H1 rows.length σ' H' → tz D σ' H') :
    tSeq (tFor (iList K te) (gTup K 2 (gCons (gName j1) (gCons (gName j2) gNil))) tu) tz D σ H :=
  h H (Ex.refl H) _ fun p xs H1 np e hp pr => ⟨p, rfl, ⟨xs, sq_of hp⟩, for_list (xs := xs) (Pv H1) (h0 H1 e) (fun i σ' H' _ q => sq_of (hl _ _ _ _ q _ _ hp)) (fun i x σ' H' hx q => by
    obtain ⟨r, t, hr, rfl, ht⟩ := prs_get (pr.mono (hl _ _ _ _ q)) hx
    exact ⟨t, _, rfl, ht, rfl, .int r.1, [.int r.2], rfl, .int r.2, [], rfl, rfl, hs H1 i r σ' H' e hr q⟩) (fun σ' H' q => by
    rw [Paired.length pr] at q
    exact hd H1 σ' H' e q)⟩
/-- a list by its name, beside a new list of pairs -/
theorem ev_opLP {r : R2} {rows : List (Int × Int)} (ha : Ev ta σ H x) (hb : EvP K tb σ H rows) (hr : ∀ p xs H1, H1 p = some (.lst xs) → Prs K H1 xs rows → Ex H H1 → RV r x (.ref p) H1 z) : Ev (tOp r ta tb) σ H z := fun H1 e Q q =>
  ha H1 e _ fun H2 e2 => hb H2 (e.trans e2) _ fun p xs H3 np e3 hp pr => hr p xs H3 hp pr ((e.trans e2).trans e3) H3 (Ex.refl H3) Q fun H4 e4 => q H4 ((e2.trans e3).trans e4)
theorem inV_int (x : Int) : ∀ ns : List Int, inV (.int x) (ns.map V.int) = decide (x ∈ ns)
  | [] => rfl
  | n :: ns => by
    have ih := inV_int x ns
    show ((n == x) || inV (.int x) (ns.map V.int)) = _
    rw [ih, Bool.eq_iff_iff, Bool.or_eq_true, beq_iff_eq, decide_eq_true_iff, decide_eq_true_iff, List.mem_cons]
    constructor
    · rintro (h | h)
      · exact .inl h.symm
      · exact .inr h
    · rintro (h | h)
      · exact .inl h.symm
      · exact .inr h
theorem flat_ints : ∀ ns : List Int, (ns.map V.int).all flatV = true
  | [] => rfl
  | n :: ns => by
    rw [List.map_cons, List.all_cons, flat_ints ns]
    rfl
theorem ev_notIn {a : Addr} {x : Int} {ns : List Int} (ha : Ev ta σ H (.int x)) (hb : Ev tb σ H (.ref a)) (hl : SqL K H a (ns.map V.int)) : Ev (tOp (rIn K true) ta tb) σ H (.bl (!decide (x ∈ ns))) := by
  have := rv_niL (K := K) (x := .int x) hl rfl (flat_ints ns)
  rw [inV_int] at this
  exact ev_op ha hb this
/-- sorted(xs), ints -/
theorem el_sorted {a : Addr} {ns ms : List Int} (ha : Ev ta σ H (.ref a)) (hl : SqL K H a (ns.map V.int)) (hu : ∀ ns' : List Int, ns'.Perm ns → ns'.Pairwise (· ≤ ·) → ns' = ms) : EvL (tCB (rSortedI K) (tCons ta tNil)) σ H (ms.map V.int) := fun H1 e Q q =>
  ha H1 e _ fun H2 e2 => ⟨a, ns, rfl, ex_l (e.trans e2) hl, fun ns' p hp hs np => by
    rw [hu ns' hp hs]
    exact q p _ (fresh_back e2 np) (e2.trans (Ex.new np)) upd_same⟩
/-- list(t), t a tuple -/
theorem el_listT {p : Addr} {xs : List V} (ha : Ev ta σ H (.ref p)) (h : SqT K H p xs) : EvL (tCB (rListS K) (tCons ta tNil)) σ H xs := fun H1 e Q q =>
  ha H1 e _ fun H2 e2 => ⟨p, xs, rfl, Or.inr (ex_t (e.trans e2) h), fun l hl => q l _ (fresh_back e2 hl) (e2.trans (Ex.new hl)) upd_same⟩
theorem ev_int1b {b : Bool} (ha : Ev ta σ H (.bl b)) : Ev (tCB (fun xs H Q => (∃ i, xs = [.int i] ∧ Q (.int i) H) ∨ ∃ k, xs = [.bl k] ∧ Q (.int (if k then 1 else 0)) H) (tCons ta tNil)) σ H (.int (if b then 1 else 0)) := fun H1 e Q q =>
  ha H1 e _ fun H2 e2 => .inr ⟨b, rfl, q H2 e2⟩
theorem ev_isqrt {n : Nat} (ha : Ev ta σ H (.int (n : Nat))) (hn : n < 2 ^ 64) : Ev (tCB rIsqrt (tCons ta tNil)) σ H (.int ((Float64.isqrt n : Nat) : Int)) := fun H1 e Q q =>
  ha H1 e _ fun H2 e2 => ⟨(n : Nat), rfl, by omega, by omega, by rw [Int.toNat_natCast]; exact q H2 e2⟩
theorem tx_sqt {p : Addr} {xs : List V} (h : SqT K H p xs) : ∀ H1, Ex H H1 → TyX K H1 (.ref p) (.type "tuple") := fun H1 e => by
  rcases ex_t e h with (h | ⟨o, h⟩) | h
  · exact .base (.tup h)
  · exact .fTuple h
  · obtain ⟨o, its, n, h1, h2, _⟩ := h
    exact .kTuple h1 h2
end
end Kp

/-! Polynomials as lists: the number of each power, noughts cut off at the end, products, other powers of x, values. -/
namespace Kp
/-- the number of the m-th power -/
def coef (l : List Int) (m : Nat) : Int := l.getD m 0
theorem coef_lt {l : List Int} {m : Nat} (h : m < l.length) : coef l m = l[m] := by
  unfold coef
  rw [List.getD_eq_getElem?_getD, List.getElem?_eq_getElem h]
  rfl
theorem coef_ge {l : List Int} {m : Nat} (h : l.length ≤ m) : coef l m = 0 := by
  unfold coef
  rw [List.getD_eq_getElem?_getD, List.getElem?_eq_none h]
  rfl
theorem coef_get {l : List Int} {m : Nat} (h : m < l.length) : l[m]? = some (coef l m) := by
  rw [coef_lt h, List.getElem?_eq_getElem h]
theorem coef_of {l : List Int} {m : Nat} {x : Int} (h : l[m]? = some x) : coef l m = x := by
  unfold coef
  rw [List.getD_eq_getElem?_getD, h]
  rfl
theorem coef_nil (m : Nat) : coef [] m = 0 := coef_ge (Nat.zero_le _)
theorem ext_of {a b : List Int} (hl : a.length = b.length) (h : ∀ m, m < a.length → coef a m = coef b m) : a = b := by
  refine List.ext_getElem hl fun i h1 h2 => ?_
  have := h i h1
  rwa [coef_lt h1, coef_lt h2] at this
theorem coef_set {l : List Int} {j m : Nat} {x : Int} (hj : j < l.length) : coef (l.set j x) m = if m = j then x else coef l m := by
  unfold coef
  rw [List.getD_eq_getElem?_getD, List.getD_eq_getElem?_getD, List.getElem?_set]
  by_cases e : j = m
  · subst e
    rw [if_pos rfl, if_pos hj, if_pos rfl]
    rfl
  · rw [if_neg e, if_neg (fun q => e q.symm)]
theorem coef_app {a b : List Int} {m : Nat} : coef (a ++ b) m = if m < a.length then coef a m else coef b (m - a.length) := by
  unfold coef
  rw [List.getD_eq_getElem?_getD, List.getElem?_append]
  split <;> rw [List.getD_eq_getElem?_getD]
theorem coef_rep {n m : Nat} : coef (List.replicate n 0) m = 0 := by
  by_cases h : m < n
  · rw [coef_lt (by rw [List.length_replicate]; exact h), List.getElem_replicate]
  · exact coef_ge (by rw [List.length_replicate]; omega)
theorem coef_take {l : List Int} {n m : Nat} : coef (l.take n) m = if m < n then coef l m else 0 := by
  unfold coef
  rw [List.getD_eq_getElem?_getD, List.getElem?_take]
  split
  · rw [List.getD_eq_getElem?_getD]
  · rfl
def mkL (n : Nat) (h : Nat → Int) : List Int := (List.range n).map h
theorem mkL_len (n : Nat) (h : Nat → Int) : (mkL n h).length = n := by
  unfold mkL
  rw [List.length_map, List.length_range]
theorem coef_mkL {n m : Nat} {h : Nat → Int} : coef (mkL n h) m = if m < n then h m else 0 := by
  split
  · rename_i q
    rw [coef_lt (by rw [mkL_len]; exact q)]
    unfold mkL
    rw [List.getElem_map, List.getElem_range]
  · rename_i q
    exact coef_ge (by rw [mkL_len]; omega)
theorem mkL_of {l : List Int} {n : Nat} {h : Nat → Int} (hl : l.length = n) (e : ∀ m, m < n → coef l m = h m) : l = mkL n h := by
  refine ext_of (by rw [mkL_len, hl]) fun m hm => ?_
  rw [hl] at hm
  rw [e m hm, coef_mkL, if_pos hm]

/-! ### without a nought at the end -/
def Tr (l : List Int) : Prop := l ≠ [] → coef l (l.length - 1) ≠ 0
theorem Tr.nil : Tr [] := fun h => absurd rfl h
theorem tr_uniq {a b : List Int} (ha : Tr a) (hb : Tr b) (h : ∀ m, coef a m = coef b m) : a = b := by
  have key : ∀ {a b : List Int}, Tr b → (∀ m, coef a m = coef b m) → ¬ a.length < b.length := fun {a b} hb h q => by
    refine hb (fun e => by rw [e] at q; exact absurd q (Nat.not_lt_zero _)) ?_
    rw [← h]
    exact coef_ge (by omega)
  have h1 := key hb h
  have h2 := key ha (fun m => (h m).symm)
  exact ext_of (by omega) fun m _ => h m
/-- how many of the first n numbers stay -/
def tlen (l : List Int) : Nat → Nat
  | 0 => 0
  | n + 1 => if coef l n = 0 then tlen l n else n + 1
def trim (l : List Int) : List Int := l.take (tlen l l.length)
theorem tlen_le (l : List Int) : ∀ n, tlen l n ≤ n
  | 0 => Nat.le_refl _
  | n + 1 => by
    unfold tlen
    have := tlen_le l n
    split <;> omega
theorem tlen_zero (l : List Int) : ∀ n m, tlen l n ≤ m → m < n → coef l m = 0
  | 0, m, _, h => absurd h (Nat.not_lt_zero _)
  | n + 1, m, h1, h2 => by
    unfold tlen at h1
    split at h1
    · rename_i q
      by_cases e : m = n
      · rw [e]; exact q
      · exact tlen_zero l n m h1 (by omega)
    · omega
theorem tlen_last (l : List Int) : ∀ n, tlen l n ≠ 0 → coef l (tlen l n - 1) ≠ 0
  | 0, h => absurd rfl h
  | n + 1, h => by
    unfold tlen at h ⊢
    split
    · rename_i q
      rw [if_pos q] at h
      exact tlen_last l n h
    · rename_i q
      rw [Nat.add_sub_cancel]
      exact q
theorem trim_len (l : List Int) : (trim l).length = tlen l l.length := by
  unfold trim
  rw [List.length_take]
  have := tlen_le l l.length
  omega
theorem coef_trim (l : List Int) (m : Nat) : coef (trim l) m = coef l m := by
  unfold trim
  rw [coef_take]
  split
  · rfl
  · rename_i h
    by_cases q : m < l.length
    · exact (tlen_zero l _ m (by omega) q).symm
    · exact (coef_ge (by omega)).symm
theorem tr_trim (l : List Int) : Tr (trim l) := fun h => by
  have e := trim_len l
  have n0 : tlen l l.length ≠ 0 := fun q => h (List.eq_nil_of_length_eq_zero (by omega))
  rw [coef_trim, e]
  exact tlen_last l _ n0
theorem trim_of_tr {l : List Int} (h : Tr l) : trim l = l := tr_uniq (tr_trim l) h (coef_trim l)
theorem trim_ext {a b : List Int} (h : ∀ m, coef a m = coef b m) : trim a = trim b := tr_uniq (tr_trim a) (tr_trim b) fun m => by rw [coef_trim, coef_trim, h]
theorem trim_eq {a b : List Int} (hb : Tr b) (h : ∀ m, coef a m = coef b m) : trim a = b := tr_uniq (tr_trim a) hb fun m => by rw [coef_trim, h]

/-! ### sums -/
def addL (c : Int) (f g : List Int) : List Int := mkL (max f.length g.length) fun m => coef f m + c * coef g m
theorem coef_addL (c : Int) (f g : List Int) (m : Nat) : coef (addL c f g) m = coef f m + c * coef g m := by
  unfold addL
  rw [coef_mkL]
  split
  · rfl
  · rename_i h
    rw [coef_ge (show f.length ≤ m by omega), coef_ge (show g.length ≤ m by omega)]
    simp
def addP (c : Int) (f g : List Int) : List Int := trim (addL c f g)
theorem coef_addP (c : Int) (f g : List Int) (m : Nat) : coef (addP c f g) m = coef f m + c * coef g m := by
  unfold addP
  rw [coef_trim, coef_addL]
theorem coef_neg (g : List Int) (m : Nat) : coef (g.map fun x => -x) m = -coef g m := by
  by_cases h : m < g.length
  · rw [coef_lt (by rw [List.length_map]; exact h), coef_lt h, List.getElem_map]
  · rw [coef_ge (by rw [List.length_map]; omega), coef_ge (by omega)]
    rfl
theorem addP_neg (f g : List Int) : addP 1 f (g.map fun x => -x) = addP (0 - 1) f g := trim_ext fun m => by
  rw [coef_addL, coef_addL, coef_neg]
  omega

/-! ### products -/
/-- the number of the m-th power in the product of the first i numbers of f, and g -/
def cv (f g : List Int) : Nat → Nat → Int
  | 0, _ => 0
  | i + 1, m => cv f g i m + if i ≤ m then coef f i * coef g (m - i) else 0
theorem cv_far (f g : List Int) (m : Nat) : ∀ i, i + g.length ≤ m + 1 → cv f g i m = 0
  | 0, _ => rfl
  | i + 1, h => by
    unfold cv
    rw [cv_far f g m i (by omega), if_pos (by omega), coef_ge (show g.length ≤ m - i by omega)]
    simp
theorem cv_last {f g : List Int} (hf : f ≠ []) (hg : g ≠ []) : cv f g f.length (f.length + g.length - 2) = coef f (f.length - 1) * coef g (g.length - 1) := by
  have l1 := List.length_pos_iff.mpr hf
  have l2 := List.length_pos_iff.mpr hg
  obtain ⟨n, e⟩ : ∃ n, f.length = n + 1 := ⟨f.length - 1, by omega⟩
  rw [e]
  unfold cv
  rw [cv_far f g _ n (by omega), if_pos (by omega), Nat.add_sub_cancel, show n + 1 + g.length - 2 - n = g.length - 1 by omega]
  simp
/-- as the program multiplies, as the law does -/
def mulP (f g : List Int) : List Int := if f = [] ∨ g = [] then [] else mkL (f.length + g.length - 1) (cv f g f.length)
def mulL (f g : List Int) : List Int := trim (mkL (f.length + g.length) (cv f g f.length))
theorem coef_mulP (f g : List Int) (m : Nat) : coef (mulP f g) m = cv f g f.length m := by
  unfold mulP
  split
  · rename_i h
    rw [coef_nil]
    rcases h with h | h
    · rw [h]
      rfl
    · subst h
      symm
      have : ∀ i, cv f [] i m = 0 := fun i => by
        induction i with
        | zero => rfl
        | succ i ih =>
          unfold cv
          rw [ih, coef_nil]
          simp
      exact this _
  · rename_i h
    rw [coef_mkL]
    split
    · rfl
    · rename_i q
      exact (cv_far f g m _ (by omega)).symm
theorem coef_mulL (f g : List Int) (m : Nat) : coef (mulL f g) m = cv f g f.length m := by
  unfold mulL
  rw [coef_trim, coef_mkL]
  split
  · rfl
  · rename_i q
    exact (cv_far f g m _ (by omega)).symm
theorem tr_mulP {f g : List Int} (hf : Tr f) (hg : Tr g) : Tr (mulP f g) := by
  intro h
  unfold mulP at h ⊢
  split
  · rename_i q
    rw [if_pos q] at h
    exact absurd rfl h
  · rename_i q
    have q1 : f ≠ [] := fun e => q (.inl e)
    have q2 : g ≠ [] := fun e => q (.inr e)
    have l1 := List.length_pos_iff.mpr q1
    have l2 := List.length_pos_iff.mpr q2
    rw [mkL_len, coef_mkL, if_pos (by omega), show f.length + g.length - 1 - 1 = f.length + g.length - 2 by omega, cv_last q1 q2]
    exact Int.mul_ne_zero (hf q1) (hg q2)
theorem mul_eq {f g : List Int} (hf : Tr f) (hg : Tr g) : mulL f g = mulP f g := by
  unfold mulL
  refine trim_eq (tr_mulP hf hg) fun m => ?_
  rw [coef_mulP, ← coef_mulL]
  unfold mulL
  rw [coef_trim]

/-! ### at a power -/
def pw (f : List Int) (k m : Nat) : Int := if m % k = 0 then coef f (m / k) else 0
def atP (f : List Int) (k : Nat) : List Int := if f = [] then [] else mkL ((f.length - 1) * k + 1) (pw f k)
def wideL (k : Nat) : List Int → List Int
  | [] => []
  | x :: f => x :: List.replicate (k - 1) 0 ++ wideL k f
theorem pw_far {f : List Int} {k m : Nat} (hk : 1 ≤ k) (h : (f.length - 1) * k < m) : pw f k m = 0 := by
  unfold pw
  split
  · rename_i q
    refine coef_ge (Nat.le_of_not_lt fun r => ?_)
    have e := Nat.div_add_mod m k
    rw [q, Nat.add_zero] at e
    have : k * (m / k) ≤ k * (f.length - 1) := Nat.mul_le_mul_left k (by omega)
    rw [e, Nat.mul_comm] at this
    omega
  · rfl
theorem coef_atP {f : List Int} {k : Nat} (hk : 1 ≤ k) (m : Nat) : coef (atP f k) m = pw f k m := by
  unfold atP
  split
  · rename_i h
    subst h
    rw [coef_nil]
    unfold pw
    rw [coef_nil]
    split <;> rfl
  · rw [coef_mkL]
    split
    · rfl
    · exact (pw_far hk (by omega)).symm
theorem tr_atP {f : List Int} {k : Nat} (hk : 1 ≤ k) (hf : Tr f) : Tr (atP f k) := by
  intro h
  unfold atP at h ⊢
  split
  · rename_i q
    rw [if_pos q] at h
    exact absurd rfl h
  · rename_i q
    rw [mkL_len, Nat.add_sub_cancel, coef_mkL, if_pos (by omega)]
    unfold pw
    rw [Nat.mul_mod_left, if_pos rfl, Nat.mul_div_cancel _ (by omega)]
    exact hf q
theorem coef_wide {k : Nat} (hk : 1 ≤ k) : ∀ (f : List Int) (m : Nat), coef (wideL k f) m = pw f k m
  | [], m => by
    unfold pw
    rw [coef_nil]
    show coef [] m = _
    rw [coef_nil]
    split <;> rfl
  | x :: f, m => by
    have hl : (x :: List.replicate (k - 1) (0 : Int)).length = k := by
      rw [List.length_cons, List.length_replicate]
      omega
    show coef ((x :: List.replicate (k - 1) 0) ++ wideL k f) m = _
    rw [coef_app, hl]
    split
    · rename_i h
      unfold pw
      cases m with
      | zero =>
        rw [Nat.zero_mod, if_pos rfl, Nat.zero_div]
        rfl
      | succ m =>
        rw [Nat.mod_eq_of_lt h, if_neg (by omega)]
        show coef (List.replicate (k - 1) 0) m = 0
        exact coef_rep
    · rename_i h
      rw [coef_wide hk f (m - k)]
      unfold pw
      obtain ⟨d, rfl⟩ : ∃ d, m = k + d := ⟨m - k, by omega⟩
      rw [Nat.add_sub_cancel_left, Nat.add_mod_left, Nat.add_div_left _ (by omega)]
      rfl
theorem wide_eq {f : List Int} {k : Nat} (hk : 1 ≤ k) (hf : Tr f) : trim (wideL k f) = atP f k := trim_eq (tr_atP hk hf) fun m => by rw [coef_wide hk, coef_atP hk]
theorem wide_snoc (k : Nat) : ∀ (f : List Int) (x : Int), wideL k (f ++ [x]) = wideL k f ++ (x :: List.replicate (k - 1) 0)
  | [], x => by
    show x :: List.replicate (k - 1) 0 ++ [] = [] ++ _
    rw [List.append_nil, List.nil_append]
  | y :: f, x => by
    show y :: List.replicate (k - 1) 0 ++ wideL k (f ++ [x]) = (y :: List.replicate (k - 1) 0 ++ wideL k f) ++ _
    rw [wide_snoc k f x, List.append_assoc]
theorem wide_len {k : Nat} (hk : 1 ≤ k) : ∀ f : List Int, (wideL k f).length = f.length * k
  | [] => by
    show 0 = 0 * k
    omega
  | x :: f => by
    show (x :: List.replicate (k - 1) 0 ++ wideL k f).length = (f.length + 1) * k
    rw [List.length_append, List.length_cons, List.length_replicate, wide_len hk f, Nat.add_mul]
    omega

/-! ### values -/
def valP (x : Int) : List Int → Int
  | [] => 0
  | a :: f => a + x * valP x f
theorem val_drop {x : Int} {f : List Int} {i : Nat} {a : Int} (h : f[i]? = some a) : valP x (f.drop i) = a + x * valP x (f.drop (i + 1)) := by
  have hi := (List.getElem?_eq_some_iff.mp h).1
  rw [List.drop_eq_getElem_cons hi]
  have e : f[i] = a := (List.getElem?_eq_some_iff.mp h).2
  rw [e]
  rfl
end Kp

/-! Whole numbers: the whole root, primes, how a number is parted, its divisors. -/
namespace Kp
theorem sq_nn (a : Int) : 0 ≤ a * a := by
  rcases Int.le_total 0 a with h | h
  · exact Int.mul_nonneg h h
  · have := Int.mul_nonneg (show 0 ≤ -a by omega) (show 0 ≤ -a by omega)
    rwa [Int.neg_mul_neg] at this
theorem sq_sub (a b : Int) : (a - b) * (a - b) = a * a - 2 * (a * b) + b * b := by
  rw [Int.sub_mul, Int.mul_sub, Int.mul_sub, Int.mul_comm b a]
  omega
theorem sq_add (a b : Int) : (a + b) * (a + b) = a * a + 2 * (a * b) + b * b := by
  rw [Int.add_mul, Int.mul_add, Int.mul_add, Int.mul_comm b a]
  omega
theorem sq_lt {a b : Int} (ha : 0 ≤ a) (hb : 0 ≤ b) (h : a * a < b * b) : a < b := by
  refine Int.lt_of_not_ge fun q => ?_
  have := Int.mul_le_mul q q hb ha
  omega
/-- the whole root by one step from a whole root of a part -/
theorem newton {n x e : Int} (hx : 0 < x) (he : 1 ≤ e) (h1 : n < x * x) (h2 : (x - e) * (x - e) ≤ n) (h0 : e ≤ x) (h3 : (e * e) * (e * e) ≤ 2 * n) (hn : 0 < n) :
    n < ((x + n / x) / 2 + 1) * ((x + n / x) / 2 + 1) ∧ 0 < (x + n / x) / 2 ∧ ((x + n / x) / 2 - 1) * ((x + n / x) / 2 - 1) ≤ n := by
  have d1 := Int.mul_ediv_add_emod n x
  have d2 := Int.emod_nonneg n (show x ≠ 0 by omega)
  have d3 := Int.emod_lt_of_pos n hx
  have dq : 0 ≤ n / x := Int.ediv_nonneg (by omega) (by omega)
  generalize hq : n / x = q at *
  generalize hy : (x + q) / 2 = y at *
  have y1 : 2 * y ≤ x + q := by omega
  have y2 : x + q ≤ 2 * y + 1 := by omega
  have y0 : 0 ≤ y := by omega
  -- 2 y x <= x x + n and 2 (y + 1) x >= x x + n + 1
  have a1 : 2 * (y * x) ≤ x * x + x * q := by
    have := Int.mul_le_mul_of_nonneg_right y1 (show 0 ≤ x by omega)
    rw [Int.add_mul, Int.mul_assoc, Int.mul_comm q x] at this
    exact this
  have a2 : x * x + x * q + x ≤ 2 * ((y + 1) * x) := by
    have := Int.mul_le_mul_of_nonneg_right (show x + q + 1 ≤ 2 * (y + 1) by omega) (show 0 ≤ x by omega)
    rw [Int.add_mul, Int.add_mul, Int.mul_assoc, Int.mul_comm q x, Int.one_mul] at this
    exact this
  have up : n < (y + 1) * (y + 1) := by
    have s := sq_nn (y + 1 - x)
    rw [sq_sub] at s
    omega
  have qx : q < x := by
    refine Int.lt_of_not_ge fun r => ?_
    have := Int.mul_le_mul_of_nonneg_left r (show 0 ≤ x by omega)
    omega
  have yx : y < x := by omega
  refine ⟨up, ?_, ?_⟩
  · refine Int.lt_of_not_ge fun r => ?_
    have : y = 0 := by omega
    subst this
    rw [Int.zero_add, Int.one_mul] at up
    omega
  · refine Int.le_of_not_gt fun r => ?_
    -- z = y - 1 > root: x - z < e, its square beyond 2 x, so 2 x < e e, but e e e e <= 2 n < 4 x x
    have z0 : 0 ≤ y - 1 := by
      refine Int.le_of_not_gt fun r2 => ?_
      have : y = 0 := by omega
      subst this
      rw [Int.zero_add, Int.one_mul] at up
      omega
    have b1 : x - e < y - 1 := sq_lt (by omega) z0 (by omega)
    have b2 : x * x - 2 * (x * (y - 1)) + (y - 1) * (y - 1) > 2 * x := by
      have : x * (y - 1) = y * x - x := by rw [Int.mul_sub, Int.mul_one, Int.mul_comm]
      omega
    rw [← sq_sub] at b2
    have b3 : (x - (y - 1)) * (x - (y - 1)) ≤ e * e := Int.mul_le_mul (by omega) (by omega) (by omega) (by omega)
    have b4 : 2 * x < e * e := by omega
    have b5 : (2 * x) * (2 * x) < (e * e) * (e * e) := Int.mul_lt_mul b4 (Int.le_of_lt b4) (by omega) (by omega)
    have b6 : (2 * x) * (2 * x) = 4 * (x * x) := by
      rw [Int.mul_assoc, Int.mul_left_comm x 2 x]
      omega
    omega
open PySem.Float64 in
theorem root_ok : ∀ (L n : Nat), n.log2 ≤ L → rootByHalves L n * rootByHalves L n ≤ n ∧ n < (rootByHalves L n + 1) * (rootByHalves L n + 1) := by
  have small : ∀ n, n < 8 → rootBelow8 n * rootBelow8 n ≤ n ∧ n < (rootBelow8 n + 1) * (rootBelow8 n + 1) := by decide
  intro L
  induction L with
  | zero =>
    intro n h
    have : n < 2 := by
      by_cases h0 : n = 0
      · omega
      · exact (Nat.log2_lt h0).mp (by omega : n.log2 < 1)
    exact small n (by omega)
  | succ L ih =>
    intro n h
    unfold rootByHalves
    by_cases h8 : n < 8
    · rw [if_pos h8]
      exact small n h8
    · rw [if_neg h8]
      have l3 : 3 ≤ n.log2 := (Nat.le_log2 (by omega)).mpr (by omega)
      simp only
      generalize hk : (n.log2 + 1) / 4 = k
      have k1 : 1 ≤ k := by omega
      have p4 : 0 < 4 ^ k := Nat.pow_pos (by decide)
      have e4 : (4 : Nat) ^ k = 2 ^ k * 2 ^ k := by
        rw [← Nat.mul_pow]
      have hlog : (n / 4 ^ k).log2 ≤ L := by
        by_cases h0 : n / 4 ^ k = 0
        · rw [h0]
          exact Nat.zero_le _
        · have : (n / 4 ^ k).log2 < L + 1 := (Nat.log2_lt h0).mpr (by
            have h1 : n < 2 ^ (L + 2) := (Nat.log2_lt (by omega)).mp (by omega)
            refine Nat.div_lt_of_lt_mul ?_
            have h2 : (4 : Nat) ^ 1 ≤ 4 ^ k := Nat.pow_le_pow_right (by decide) k1
            have h3 : 2 * 2 ^ (L + 1) ≤ 4 ^ k * 2 ^ (L + 1) := Nat.mul_le_mul_right _ (by omega)
            rw [show L + 2 = (L + 1) + 1 from rfl, Nat.pow_succ] at h1
            omega)
          omega
      obtain ⟨s1, s2⟩ := ih (n / 4 ^ k) hlog
      generalize rootByHalves L (n / 4 ^ k) = s at *
      have two : 0 < 2 ^ k := Nat.pow_pos (by decide)
      -- e ^ 4 <= 2 n
      have hee : (2 ^ k * 2 ^ k) * (2 ^ k * 2 ^ k) ≤ 2 * n := by
        rw [← Nat.pow_add, ← Nat.pow_add]
        have h1 : 2 ^ n.log2 ≤ n := Nat.log2_self_le (by omega)
        have h2 : 2 ^ (k + k + (k + k)) ≤ 2 ^ (n.log2 + 1) := Nat.pow_le_pow_right (by decide) (by omega)
        rw [Nat.pow_succ] at h2
        omega
      have d1 := Nat.div_add_mod n (4 ^ k)
      have d2 := Nat.mod_lt n p4
      have hs1 : (s * 2 ^ k) * (s * 2 ^ k) ≤ n := by
        have : s * 2 ^ k * (s * 2 ^ k) = (s * s) * 4 ^ k := by
          rw [e4, Nat.mul_mul_mul_comm]
        rw [this]
        have h1 := Nat.mul_le_mul_right (4 ^ k) s1
        rw [Nat.mul_comm (n / 4 ^ k)] at h1
        omega
      have hs2 : n < ((s + 1) * 2 ^ k) * ((s + 1) * 2 ^ k) := by
        have : (s + 1) * 2 ^ k * ((s + 1) * 2 ^ k) = ((s + 1) * (s + 1)) * 4 ^ k := by
          rw [e4, Nat.mul_mul_mul_comm]
        rw [this]
        have h1 := Nat.mul_le_mul_right (4 ^ k) (show n / 4 ^ k + 1 ≤ (s + 1) * (s + 1) by omega)
        rw [Nat.add_mul, Nat.one_mul, Nat.mul_comm (n / 4 ^ k)] at h1
        omega
      generalize hx : (s + 1) * 2 ^ k = x at *
      generalize hE : 2 ^ k = e at *
      have hxe : x = s * e + e := by rw [← hx, Nat.add_mul, Nat.one_mul]
      have N := newton (n := (n : Int)) (x := (x : Int)) (e := (e : Int)) (by omega) (by omega) (by exact_mod_cast hs2) (by
        have : (x : Int) - (e : Int) = ((s * e : Nat) : Int) := by omega
        rw [this]
        exact_mod_cast hs1) (by omega) (by exact_mod_cast hee) (by omega)
      have ec : (((x + n / x) / 2 : Nat) : Int) = ((x : Int) + (n : Int) / (x : Int)) / 2 := by
        rw [Int.natCast_ediv, Int.natCast_add, Int.natCast_ediv]
        rfl
      rw [← ec] at N
      generalize (x + n / x) / 2 = y at *
      obtain ⟨N1, N2, N3⟩ := N
      have N1' : n < (y + 1) * (y + 1) := by exact_mod_cast N1
      have y1 : 1 ≤ y := by omega
      have N3' : (y - 1) * (y - 1) ≤ n := by
        have : ((y - 1 : Nat) : Int) = (y : Int) - 1 := by omega
        rw [← this] at N3
        exact_mod_cast N3
      split
      · rename_i hy
        refine ⟨N3', ?_⟩
        rw [Nat.sub_add_cancel y1]
        exact hy
      · rename_i hy
        exact ⟨Nat.le_of_not_gt hy, N1'⟩
theorem isqrt_ok (n : Nat) : PySem.Float64.isqrt n * PySem.Float64.isqrt n ≤ n ∧ n < (PySem.Float64.isqrt n + 1) * (PySem.Float64.isqrt n + 1) := root_ok n.log2 n (Nat.le_refl _)
end Kp

/-! An error of the text's own that an except suite keeps by a name, to be asked of behind the try. -/
namespace Kp
open PySem PySem.Spec PyProof.Rows L2 Evl

/-- at a stands an error of the class cls that has no dict of its own -/
def ExV (cls : Value) (a : Addr) : HO := .ext fun h => ∃ (o : Obj) (fs : Array Value), h.get? a = some o ∧ o.cls = cls ∧ o.dict = none ∧ o.data = .fields fs
section
variable {X : Cx} {pins : List (Addr × Obj)} {σ : L2.St} {H : Hp} {s : Shared}
/-- an object of ours that was pinned and not tracked is tracked from here on -/
theorem track {a : Addr} {o : Obj} {fs : Array Value} {cls : Value} (I : Inv X ((a, o) :: pins) σ H s) (n0 : X.s_0.heap.get? a = none) (nP : ∀ p ∈ X.pn ++ pins, p.1 ≠ a) (h1 : o.cls = cls) (h2 : o.dict = none) (h3 : o.data = .fields fs) :
    Inv X pins σ (upd H a (ExV cls a)) s := by
  obtain ⟨pa, pn, pl, pf, pc⟩ := I.pin (a, o) (List.mem_append_right _ (List.mem_cons_self ..))
  have old : ∀ {b : Addr} {u : Obj}, X.s_0.heap.get? b = some u → b ≠ a := fun {b u} e z => by
    subst z
    rw [n0] at e
    cases e
  have tr : ∀ {b : Addr} {u : HO}, H b = some u → b ≠ a := fun {b u} e => ne_of_none e pn
  exact {
    ok := I.ok
    os := I.os
    bare := I.bare
    base := {
      keep := I.base.keep
      slot := I.base.slot
      free := fun b u e n x => (upd_ne (old e)).trans (I.base.free b u e n x)
      there := I.base.there
      tups := fun b xs e => (upd_ne (tr (I.base.tups b xs e))).trans (I.base.tups b xs e)
      frzs := fun b u xs e => (upd_ne (tr (I.base.frzs b u xs e))).trans (I.base.frzs b u xs e)
      tbls := fun b ps e => by
        obtain ⟨m, q⟩ := I.base.tbls b ps e
        exact ⟨m, (upd_ne (tr q)).trans q⟩ }
    loc := I.loc
    cell := I.cell
    free := (upd_ne (Ne.symm pl)).trans I.free
    freeC := fun y c e => by
      have nc : c ≠ a := fun z => by
        obtain ⟨v, ⟨u, hu, du⟩⟩ := I.cell y c e
        rw [z] at hu
        have q : some u = some o := hu.symm.trans pa
        cases q
        exact pc _ du
      exact (upd_ne nc).trans (I.freeC y c e)
    pin := fun p hp => by
      have q := I.pin p (by
        rcases List.mem_append.mp hp with z | z
        · exact List.mem_append_left _ z
        · exact List.mem_append_right _ (List.mem_cons_of_mem _ z))
      exact ⟨q.1, (upd_ne (nP p hp)).trans q.2.1, q.2.2⟩
    hok := I.hok.laidN (fun _ _ e => e) pn ⟨⟨o, fs, pa, h1, h2, h3⟩, ⟨o, pa⟩, fun g g' ⟨u, us, q, r⟩ k => ⟨u, us, k u q, r⟩⟩
    len := I.len }
end

/-- what is wished of an error of the body where the suite is «y = n»: slot i is n's, slot j is y's; the clause always meets -/
def wKeep (K : PySem.W.Frag) (c : Value) (i j : Nat) (D : Ends) : WX := fun cls d σ H => PySem.W.exmOne K cls c = some true ∧ d = none ∧
  ∀ a, H a = none → D.nx (((σ.set i (some (.ref a))).set j (some (.ref a))).set i none) (upd H a (ExV cls a))
section
variable {X : Cx} {x n : Str} {c : Value} {i j : Nat} {body : List Stmt} {st : Stmt} {np pos pos' : Pos} {tb : WX → TS}
theorem keep_caught {pins : List (Addr × Obj)} {D : Ends} {u : Value} {s' : Shared} {xe : Value → Shared → Prop} (ok : X.Ok) (hs : X.stack = X.env :: X.outer) (hf : X.env.frame = some X.env.locals) (hex : X.ex = []) (hN : X.N.Nodup) (hi : X.N[i]? = some n) (hln : X.env.kindOf n = some .local) (hc : Names X x c)
    (hsu : ∀ (a : Addr) (o : Obj) (pn : List (Addr × Obj)), PSs (X.suite a ((a, o) :: pn)) [st] (tAsg (tVar i) (gName j))) (hij : i < X.N.length)
    (xx : XE (X.tr (X.pn ++ pins) xe) (wKeep X.K c i j D) u s') :
    wpAny (model X.prog X.w) X.A (noteFrame u X.env) (fun _ s₂ => wpAny (model X.prog X.w) X.A (setFlight u none) (fun _ s₃ => wpAny (model X.prog X.w) X.A (handleBy u X.env [.ExceptHandler (some (.Name x np)) (some n) [st] pos']) (SP X pins D) X.xe s₃) X.xe s₂) X.xe s' := by
  obtain ⟨a, B, sI, pins', σ', H', cls, d, rfl, JJ, nb, up, sky, na, os, ag, meets, rfl, wish⟩ := xx
  have J : Inv X pins σ' H' sI := Inv.ofTry JJ ok
  have frames : X.A.frames = some (X.env :: X.outer) := ok.frames.trans (congrArg some hs)
  have ground : B.get? a = none := by
    rcases sky with q | q | q
    · exact q.2.1
    · exact q.2.1
    · exact q.2.1
  have sky2 : Sky B (X.env :: X.outer) a (Zc cls none) X.env.locals s'.heap := hs ▸ sky
  refine Sky.land Zc.steady frames hf sky2 fun g fl upg => ?_
  -- the error is no frame's object
  obtain ⟨o, fs, ho, hz, hd⟩ := fl.there
  have noFrame : a ∉ frs (X.env :: X.outer) := fun m => by
    obtain ⟨_, o2, e2, no⟩ := fl.2.2.1.mem m
    have q := Option.some.inj (e2.symm.trans ho)
    exact no fs (q ▸ hd)
  have nL : a ≠ X.env.locals := fun z => noFrame (List.mem_filterMap.mpr ⟨X.env, List.mem_cons_self .., by rw [hf, z]⟩)
  have nF : a ∉ X.fs := fun m => by
    obtain ⟨e, he, q⟩ := List.mem_filterMap.mp m
    exact noFrame (List.mem_filterMap.mpr ⟨e, List.mem_cons_of_mem _ he, q⟩)
  have newI : sI.heap.get? a = none := by
    cases q : sI.heap.get? a with
    | none => rfl
    | some w =>
      have z := nb a w q (by
        show a ∉ frs X.stack
        rw [hs]
        exact noFrame)
      rw [ground] at z
      cases z
  have new0 : X.s_0.heap.get? a = none := by
    cases q : X.s_0.heap.get? a with
    | none => rfl
    | some w =>
      obtain ⟨w2, q2⟩ := J.base.there a w q (by
        rw [hex]
        exact fun z => nomatch z)
      rw [newI] at q2
      cases q2
  have newP : ∀ p ∈ X.pn ++ pins, p.1 ≠ a := fun p hp z => by
    have q := (J.pin p hp).1
    rw [z, newI] at q
    cases q
  have JG : Inv X pins σ' H' { s' with heap := g } := J.landed nb fl.1 (up.trans upg) os ag
  have SG := JG.suite ho hd na nL nF
  -- the clause's class is asked
  refine wpAny_handleBy_cons (codeAny_handlers_test ?_) (fun z => nomatch z)
  have kind : PySem.W.Looks (model X.prog X.w) g (typeOf (.ref a)) cls := fun A Q E t k q => wpAny_typeOf_ref (k _ _ ho) (by
    rw [hz.1]
    exact q)
  have ask := PySem.W.exm_one (M := model X.prog X.w) JG.kIn kind meets
  have named : ∀ {Q E : Value → Shared → Prop}, Q c { s' with heap := g } → wpAny (model X.prog X.w) (X.A.mark (some (.ref a))) (eval (.Name x np) X.env) Q E { s' with heap := g } := fun {Q E} q => by
    obtain ⟨g1, g2, g3⟩ := hc
    rcases g3 with m | ⟨m1, m2, m3⟩
    · exact ld_glob (X := X.suite a ((a, o) :: (X.pn ++ pins))) SG g1 m q g2
    · exact ld_blt (X := X.suite a ((a, o) :: (X.pn ++ pins))) SG g1 m1 m2 q m3 g2
  refine named (ask.here ?_)
  -- the suite
  refine codeAny_handlers_suite_as (HandSPX.lands_againZ fl fun g2 fl2 up2 => ?_)
  have J2 : Inv X pins σ' H' { s' with heap := g2 } := J.landed nb fl2.1 ((up.trans upg).trans up2) os ag
  obtain ⟨o2, fs2, ho2, hz2, hd2⟩ := fl2.there
  have S2 := J2.suite ho2 hd2 na nL nF
  refine store_ok (X := X.suite a ((a, o2) :: (X.pn ++ pins))) (v := .ref a) S2 hN hi (.inl hln) rfl (fun s5 S5 => ?_) (.inr hln)
  have len : i < σ'.length := by
    rw [J.len]
    exact hij
  have reads : tAsg (tVar i) (gName j) { nx := fun σ2 H2 => σ2 = (σ'.set i (some (.ref a))).set j (some (.ref a)) ∧ H2 = H', rt := fun _ _ => False } (σ'.set i (some (.ref a))) H' :=
    ⟨.ref a, List.getElem?_set_self len, rfl, rfl⟩
  refine wpAny_mono ((hsu a o2 (X.pn ++ pins)).run [] s5 _ H' _ S5 reads) (fun f s6 q => ?_) (fun _ _ z => z.elim)
  cases f with
  | next =>
    obtain ⟨σ6, H6, S6, rfl, rfl⟩ := q
    obtain ⟨t1, t2, t3, t4, t5⟩ := S6.pin (a, o2) (List.mem_append_left _ (List.mem_cons_self ..))
    have U6 : Inv X pins _ _ s6 := S6.unsuite ok
    have P6 : Inv X ((a, o2) :: pins) _ _ s6 := U6.pins_of fun p hp => by
      rcases List.mem_cons.mp hp with rfl | m
      · exact ⟨t1, t2, t3, t4, t5⟩
      · exact U6.pin p (List.mem_append_right _ m)
    exact gone_ok P6 hN hi hln fun s7 J7 => ⟨_, _, track J7 new0 newP hz2.1 hz2.2 hd2, wish a na⟩
  | brk =>
    obtain ⟨_, _, _, z⟩ := q
    exact z.elim
  | cont =>
    obtain ⟨_, _, _, z⟩ := q
    exact z.elim
  | ret v =>
    obtain ⟨_, _, _, _, _, z⟩ := q
    exact z.elim
theorem ps_try_keep (hs : X.stack = X.env :: X.outer) (hf : X.env.frame = some X.env.locals) (hex : X.ex = []) (hN : X.N.Nodup) (hi : X.N[i]? = some n) (hln : X.env.kindOf n = some .local) (hc : Names X x c) (hij : i < X.N.length)
    (hb : ∀ (W : WX) (pn : List (Addr × Obj)) (xe : Value → Shared → Prop), Takes (X.tr pn xe) W → PassesOwn (model X.prog X.w) X.A X.env xe → PSs (X.tr pn xe) body (tb W))
    (hsu : ∀ (a : Addr) (o : Obj) (pn : List (Addr × Obj)), PSs (X.suite a ((a, o) :: pn)) [st] (tAsg (tVar i) (gName j))) :
    PS X (.Try body [.ExceptHandler (some (.Name x np)) (some n) [st] pos'] [] [] pos) (fun D σ H => tb (wKeep X.K c i j D) D σ H) := by
  refine ⟨fun pins s σ H D I h => wpAny_Try_except ?_⟩
  have ok := I.ok
  have run := (hb (wKeep X.K c i j D) (X.pn ++ pins) _ (fun u s' xx => keep_caught (np := np) (pos' := pos') ok hs hf hex hN hi hln hc hsu hij xx) PassesOwn.looking).run [] s σ H D (I.toTry _) h
  refine wpAny_mono run (fun f s1 q => ?_) (fun _ _ z => z)
  cases f with
  | next =>
    obtain ⟨σ1, H1, J, z⟩ := q
    exact wpAny_execs_nil ⟨σ1, H1, J.ofTry ok, z⟩
  | brk =>
    obtain ⟨σ1, H1, J, z⟩ := q
    exact ⟨σ1, H1, J.ofTry ok, z⟩
  | cont =>
    obtain ⟨σ1, H1, J, z⟩ := q
    exact ⟨σ1, H1, J.ofTry ok, z⟩
  | ret v =>
    obtain ⟨v1, σ1, H1, J, r, z⟩ := q
    exact ⟨v1, σ1, H1, J.ofTry ok, r, z⟩
end

/-! ### isinstance of such an error -/
section
variable {X : Cx}
/-- isinstance(e, c); isinstance(e, (c1, c2, ..)) -/
def rIsX (K : PySem.W.Frag) (C : Addr) : List V → Hp → VK → Prop := fun xs H Q => ∃ (a : Addr) (c : V) (u : Value) (b : Bool), xs = [.ref a, c] ∧ H a = some (ExV (.ref C) a) ∧ ClsV c u ∧ PySem.W.kitOne K (.ref C) u = some b ∧ Q (.bl b) H
def rIsXT (K : PySem.W.Frag) (C : Addr) : List V → Hp → VK → Prop := fun xs H Q => ∃ (a tp : Addr) (cs : List V) (us : List Value) (b : Bool), xs = [.ref a, .ref tp] ∧ H a = some (ExV (.ref C) a) ∧ H tp = some (.tup cs) ∧ Paired ClsV cs us ∧ PySem.W.kitAny K (.ref C) us = some b ∧ Q (.bl b) H
theorem inst_of {pins : List (Addr × Obj)} {σ : L2.St} {H : Hp} {s : Shared} {a C : Addr} (I : Inv X pins σ H s) (h : H a = some (ExV (.ref C) a)) : ∃ o, PySem.W.InstAt s.heap a o C none := by
  obtain ⟨⟨o, fs, h1, h2, h3, h4⟩, _⟩ := I.hok a _ h
  obtain ⟨oc, od, dt, sl⟩ := o
  dsimp only at h2 h3 h4
  subst h2 h3 h4
  exact ⟨_, h1, rfl, rfl, trivial⟩
theorem call_isX {C : Addr} (T : ExcC X.K C) : CallR X (.builtin "isinstance") (rIsX X.K C) := by
  intro pins s σ H xs us Q I r h
  obtain ⟨a, c, u, b, rfl, ha, k, e, q⟩ := h
  obtain ⟨u1, u2, rfl, r1, r2⟩ := vals2 r
  obtain rfl := k.eq r2
  cases (show u1 = Value.ref a from r1)
  obtain ⟨o, J⟩ := inst_of I ha
  exact PySem.W.kia_one (PySem.W.handS_kitx_exc T.hg T.hk T.hs T.hd T.ha T.hn T.ht T.hm) I.kIn J e (fun z => nomatch z) fun tk => ⟨.bl b, H, I.tok tk, rfl, q⟩
theorem call_isXT {C : Addr} (T : ExcC X.K C) : CallR X (.builtin "isinstance") (rIsXT X.K C) := by
  intro pins s σ H xs us Q I r h
  obtain ⟨a, tp, cs, ws, b, rfl, ha, hT, k, e, q⟩ := h
  obtain ⟨u1, u2, rfl, r1, r2⟩ := vals2 r
  cases (show u1 = Value.ref a from r1)
  cases (show u2 = Value.ref tp from r2)
  obtain ⟨o, J⟩ := inst_of I ha
  obtain ⟨_, its, rv, ot, h1, h2, n, h3⟩ := I.hok tp _ hT
  obtain rfl := ClsV.all k rv
  obtain ⟨oc, od, dt, sl⟩ := ot
  dsimp only at h2 h3
  subst h2 h3
  exact PySem.W.kia_tup (PySem.W.handS_kitx_exc T.hg T.hk T.hs T.hd T.ha T.hn T.ht T.hm) I.kIn J h1 e (fun z => nomatch z) fun tk => ⟨.bl b, H, I.tok tk, rfl, q⟩
variable {K : PySem.W.Frag} {σ : L2.St} {H : Hp} {ta tb : TE} {C a : Addr}
theorem ev_isX {c : V} {u : Value} {b : Bool} (ha : Ev ta σ H (.ref a)) (hb : Ev tb σ H c) (h : H a = some (ExV (.ref C) a)) (k : ClsV c u) (e : PySem.W.kitOne K (.ref C) u = some b) : Ev (tCB (rIsX K C) (tCons ta (tCons tb tNil))) σ H (.bl b) := fun H1 e1 Q q =>
  ha H1 e1 _ fun H2 e2 => hb H2 (e1.trans e2) _ fun H3 e3 => ⟨a, c, u, b, rfl, (e1.trans (e2.trans e3)) _ _ h, k, e, q H3 (e2.trans e3)⟩
theorem ev_isXT {cs : List V} {us : List Value} {b : Bool} (ha : Ev ta σ H (.ref a)) (hb : EvU tb σ H cs) (h : H a = some (ExV (.ref C) a)) (k : Paired ClsV cs us) (e : PySem.W.kitAny K (.ref C) us = some b) : Ev (tCB (rIsXT K C) (tCons ta (tCons tb tNil))) σ H (.bl b) := fun H1 e1 Q q =>
  ha H1 e1 _ fun H2 e2 => hb H2 (e1.trans e2) _ fun p H3 np e3 hp => ⟨a, p, cs, us, b, rfl, (e1.trans (e2.trans e3)) _ _ h, hp, k, e, q H3 (e2.trans e3)⟩
end
end Kp

/-! Defs that raise; calls to them in a try; more of lists; one polynomial parted by another. -/
namespace Kp
open PySem PySem.Spec PyProof.Rows L2 Evl
/-- the class C, by the name x, straight under WheelError -/
structure OwnX (K : PySem.W.Frag) (mg : Str → Option Value) (x : Str) (C : Addr) : Prop where
  g : mg x = some (.ref C)
  kp : PySem.W.keepIn K (.ref C) = true
  xi : PySem.W.excIn K C [.type "ValueError", .type "Exception", .type "BaseException", .type "object"] "ValueError.__new__" = true
  ty : PySem.W.typeIn K (.ref C) = some (.type "type")
  e : ExcC K C
section
variable {P : Program} {w : World} {K : PySem.W.Frag} {mg : Str → Option Value} {base : Heap} {x : Str} {k : Nat} {ps N : List Str} {sp : Sp} {st : Stmt}
theorem Dfn.calX (d : Dfn K mg x ps st) (S : FnScope N ps (defScope st)) (len : ∀ vs H Q E, sp vs H Q E → vs.length = ps.length)
    (hbody : ∀ (f : Addr) (cdv : Value) (A : Around) (outer : List Env) (s : Shared) (H : Hp) (vs : List V) (Q : VK) (E : XK), Room k (A.deeper (envOfC x (defScope st) s.heap.objs.size f cdv)) → sp vs H Q E →
      ∃ t, PSs (cxOf (L2.CX P w) P w K mg base N x (defScope st) f cdv A outer s H E) (defBody st) t ∧ t { nx := fun _ H' => Q .non H', rt := Q } (start N vs) H) : Cal P w K mg base (L2.CX P w) x (k + 1) ps sp := by
  obtain ⟨f, fd, F, g, b⟩ := d
  exact ⟨f, fd, F.okX S len (hbody f), g, F.kp, b⟩
end
section
variable {X : Cx} {k : Nat} {ps : List Str} {sp : Sp} {W : WX} {x : Str} {p pos : Pos} {e : Expr} {es : List Expr} {t : TA}
theorem pe_calS (c : Cal X.prog X.w X.K X.mg X.base (L2.CX X.prog X.w) x k ps sp) (hr : Room k X.A) (hg : Gl X x) (tk : Takes X W)
    (ha : PA X (e :: es) t) (hdb : (x == ("__debug__" : Str)) = false := by decide) (he : starEach (e :: es) X.env = (false, eval e X.env) :: starEach es X.env := by rfl) (hpl : (backTo pos (starEach es X.env)).any (·.1) = false := by rfl) :
    PE X (.Call (.Name x p) (e :: es) [] pos) (tCallS sp (WE W) t) := by
  obtain ⟨f, fd, F, g, kp, b⟩ := c
  exact pe_callS F hr hg g kp b (fun σ => passAt tk σ) ha hdb he hpl
theorem pe_cls {C : Addr} (hg : Gl X x) (hm : X.mg x = some (.ref C)) (hd : (x == ("__debug__" : Str)) = false := by decide) : PE X (.Name x pos) (tC (.ref C)) := pe_glob hg hm rfl hd
theorem pmk_of {C : Addr} {m : Str} {j : Nat} {p2 : Pos} (T : OwnX X.K X.mg x C) (hg : Gl X x) (hdb : (x == ("__debug__" : Str)) = false := by decide) : PMk X (.Call (.Name x p) [.Constant (.str m) j p2] [] pos) (fun _ H Q => Q (.ref C) none H) :=
  pmk_own PySem.F.excBase_ValueError T.xi T.g T.kp (raises_own T.e.hs T.ty) hg hdb
end

/-! ### the class is asked -/
theorem exm_own {K : PySem.W.Frag} {mg : Str → Option Value} {x : Str} {B C : Addr} {b : Bool} (T : OwnX K mg x B) (h : PySem.W.subIn K (.ref C) (.ref B) = some b) : PySem.W.exmOne K (.ref C) (.ref B) = some b := PySem.W.exm_ref T.e.hs T.e.hd T.ty h

/-- by the name x the class D -/
structure GlX (mg : Str → Option Value) (x : Str) (D : Addr) : Prop where
  g : mg x = some (.ref D)
theorem kit_ref {K : PySem.W.Frag} {C D : Addr} {b : Bool} (hd : PySem.W.hasDictIn K D = true) (ht : PySem.W.typeIn K (.ref D) = some (.type "type")) (ne : C ≠ D) (h : PySem.W.subIn K (.ref C) (.ref D) = some b) : PySem.W.kitOne K (.ref C) (.ref D) = some b := by
  obtain ⟨cd, hc, _⟩ := PySem.W.any_some hd
  have e2 : ((PySem.W.clsIn K D).isSome && PySem.W.typeIn K (.ref D) == some (.type "type")) = true := by rw [hc, ht] <;> rfl
  unfold PySem.W.kitOne
  rw [if_neg (by simpa using ne)]
  show (if ((PySem.W.clsIn K D).isSome && PySem.W.typeIn K (.ref D) == some (.type "type")) = true then PySem.W.subIn K (.ref C) (.ref D) else none) = some b
  rw [if_pos e2]
  exact h
theorem kit_VE {K : PySem.W.Frag} {C : Addr} {b : Bool} (h : PySem.W.subIn K (.ref C) (.type "ValueError") = some b) : PySem.W.kitOne K (.ref C) (.type "ValueError") = some b := by
  unfold PySem.W.kitOne
  rw [if_neg (by simp)]
  show (if PySem.W.kitMeta "ValueError" = true then PySem.W.subIn K (.ref C) (.type "ValueError") else none) = some b
  rw [if_pos (by decide +kernel)]
  exact h
theorem cls_ne {K : PySem.W.Frag} {C D : Addr} (h1 : PySem.W.subIn K (.ref C) (.ref C) = some true) (h2 : PySem.W.subIn K (.ref C) (.ref D) = some false) : C ≠ D := fun e => by
  subst e
  rw [h1] at h2
  exact nomatch h2

/-! ### lists once more -/
section
variable {K : PySem.W.Frag} {D : Ends} {σ : L2.St} {H : Hp} {ta : TA} {tz : TS} {i : Nat}
theorem q_asgPop {te : TE} {l : Addr} {xs : List V} {y : V} (hl : H l = some (.lst (xs ++ [y]))) (ha : Ev te σ H (.ref l)) (k : ∀ H1, Ex H H1 → tz D (σ.set i (some y)) (upd H1 l (.lst xs))) :
    tSeq (tAsg (tBM0 K "list" rPop te) (gName i)) tz D σ H := ha H (Ex.refl H) _ fun H1 e1 =>
  ⟨Or.inl ⟨rfl, _, sq_of (e1 l _ hl)⟩, l, xs ++ [y], y, rfl, rfl, e1 l _ hl, by simp, by
    rw [List.dropLast_concat]
    exact k H1 e1⟩
theorem q_rev {te : TE} {l : Addr} {xs : List V} (hl : H l = some (.lst xs)) (ha : Ev te σ H (.ref l)) (k : ∀ H1, Ex H H1 → tz D σ (upd H1 l (.lst xs.reverse))) :
    tSeq (tDrop (tBM0 K "list" rReverse te)) tz D σ H := ha H (Ex.refl H) _ fun H1 e1 =>
  ⟨Or.inl ⟨rfl, _, sq_of (e1 l _ hl)⟩, l, xs, rfl, rfl, e1 l _ hl, k H1 e1⟩
theorem atI_last {α : Type} {xs : List α} {v : α} (h : xs[xs.length - 1]? = some v) : atI xs (-1) = some v := by
  have hj := (List.getElem?_eq_some_iff.mp h).1
  unfold atI ixN
  rw [if_neg (by omega), if_pos (by omega)]
  show xs[((-1 : Int) + (xs.length : Int)).toNat]? = some v
  rw [show ((-1 : Int) + (xs.length : Int)).toNat = xs.length - 1 by omega]
  exact h
theorem cut_init (xs : List V) : cutV xs none (some (-1)) = xs.take (xs.length - 1) := by
  unfold cutV
  rw [HT.sIx_none]
  show List.take ((if (-1 : Int) < 0 then ((-1 : Int) + (xs.length : Int)).toNat else min (-1 : Int).toNat xs.length) - 0) (xs.drop 0) = _
  rw [if_pos (by decide), Nat.sub_zero, List.drop_zero, show ((-1 : Int) + (xs.length : Int)).toNat = xs.length - 1 by omega]
end


section
variable {K : PySem.W.Frag} {D : Ends} {σ : L2.St} {H : Hp}
theorem ev_lenT {te : TE} {p : Addr} {xs : List V} (ha : Ev te σ H (.ref p)) (h : SqT K H p xs) : Ev (tCB (rLenS K) (tCons te tNil)) σ H (.int (xs.length : Int)) := fun H1 e Q q =>
  ha H1 e _ fun H2 e2 => ⟨p, xs, rfl, Or.inr (ex_t (e.trans e2) h), q H2 e2⟩
/-- a call whose first argument is a new list -/
theorem el_calL {sp : Sp} {t1 : TE} {ta : TA} {xs ys vs : List V} {E : XK} (h : EvL t1 σ H xs) (h2 : EvA ta σ H vs) (hs : ∀ p H1, Ex H H1 → H1 p = some (.lst xs) → ∀ Q : VK, RetL ys H1 Q → ∀ E : XK, sp (.ref p :: vs) H1 Q E) : EvL (tCall sp [] E (tCons t1 ta)) σ H ys := fun H1 e Q q =>
  h H1 e _ fun p H2 np e2 hp => h2 H2 (e.trans e2) _ fun H3 e3 => by
    show sp ((.ref p :: vs) ++ []) H3 Q E
    rw [List.append_nil]
    exact hs p H3 ((e.trans e2).trans e3) (e3 _ _ hp) Q (fun p' H4 hp' e4 h4 => q p' H4 (fresh_back (e2.trans e3) hp') ((e2.trans e3).trans e4) h4) E
theorem s_retVL {ta tb : TE} {v : V} {ys : List V} (h1 : Ev ta σ H v) (h2 : EvL tb σ H ys) (k : ∀ t q H1, H t = none → H q = none → Ex H H1 → H1 t = some (.tup [v, .ref q]) → H1 q = some (.lst ys) → D.rt (.ref t) H1) : tRet (tTup (tCons ta (tCons tb tNil))) D σ H :=
  h1 H (Ex.refl H) _ fun H1 e1 => h2 H1 e1 _ fun q H2 nq e2 hq => ⟨sz_of (show 2 ≤ 100000 by decide), fun t nt =>
    k t q _ (fresh_back (e1.trans e2) nt) (fresh_back e1 nq) ((e1.trans e2).trans (Ex.new nt)) upd_same (by rw [upd_ne (ne_of_none hq nt)]; exact hq)⟩
end

/-! ### parting -/
theorem cv_congr {a b g : List Int} {m : Nat} : ∀ i, (∀ j, j < i → coef a j = coef b j) → cv a g i m = cv b g i m
  | 0, _ => rfl
  | i + 1, h => by
    unfold cv
    rw [cv_congr i fun j hj => h j (by omega), h i (by omega)]
theorem cv_set {a b g : List Int} {m s : Nat} {x : Int} (h0 : coef a s = 0) (hs : coef b s = x) (h : ∀ j, j ≠ s → coef b j = coef a j) : ∀ i, s < i → cv b g i m = cv a g i m + if s ≤ m then x * coef g (m - s) else 0
  | 0, q => absurd q (Nat.not_lt_zero _)
  | i + 1, q => by
    unfold cv
    by_cases e : s = i
    · subst e
      rw [cv_congr s fun j hj => h j (by omega), hs, h0]
      split <;> simp
    · rw [cv_set h0 hs h i (by omega), h i (by omega)]
      omega
theorem cv_none {a g : List Int} {m : Nat} : ∀ i, (∀ j, j < i → coef a j = 0) → cv a g i m = 0
  | 0, _ => rfl
  | i + 1, h => by
    unfold cv
    rw [cv_none i fun j hj => h j (by omega), h i (by omega)]
    split <;> simp
end Kp

/-! Sums round n as lists: products by places, turned, spread. -/
namespace Kp
theorem addmod {i j n : Nat} (hi : i < n) (hj : j < n) : (i + j) % n = if i + j < n then i + j else i + j - n := by
  split
  · rename_i h
    exact Nat.mod_eq_of_lt h
  · rename_i h
    rw [Nat.mod_eq_sub_mod (by omega), Nat.mod_eq_of_lt (by omega)]
theorem submod {m i n : Nat} (hm : m < n) (hi : i < n) : (m + n - i) % n = if i ≤ m then m - i else m + n - i := by
  split
  · rename_i h
    rw [Nat.mod_eq_sub_mod (by omega), show m + n - i - n = m - i by omega, Nat.mod_eq_of_lt (by omega)]
  · rename_i h
    exact Nat.mod_eq_of_lt (by omega)
theorem addmod_eq {i j m n : Nat} (hi : i < n) (hj : j < n) (hm : m < n) : m = (i + j) % n ↔ (m + n - i) % n = j := by
  rw [addmod hi hj, submod hm hi]
  split <;> split <;> omega
/-- the number at the place m of the product of the first i numbers of f, and g -/
def cs (f g : List Int) (n : Nat) : Nat → Nat → Int
  | 0, _ => 0
  | i + 1, m => cs f g n i m + coef f i * coef g ((m + n - i) % n)
def mulS (f g : List Int) : List Int := mkL f.length (cs f g f.length f.length)
def addS (f g : List Int) : List Int := List.zipWith (· + ·) f g
theorem addS_len {f g : List Int} (h : f.length = g.length) : (addS f g).length = f.length := by
  unfold addS
  rw [List.length_zipWith]
  omega
theorem coef_addS {f g : List Int} (h : f.length = g.length) (m : Nat) : coef (addS f g) m = coef f m + coef g m := by
  by_cases q : m < f.length
  · rw [coef_lt (by rw [addS_len h]; exact q), coef_lt q, coef_lt (by omega)]
    unfold addS
    rw [List.getElem_zipWith]
  · rw [coef_ge (by rw [addS_len h]; omega), coef_ge (by omega), coef_ge (by omega)]
    rfl
theorem mulS_len (f g : List Int) : (mulS f g).length = f.length := mkL_len _ _
def turnS (f : List Int) (j : Int) : List Int := mkL f.length fun m => coef f (((m : Int) - j) % (f.length : Int)).toNat
theorem turn_eq {a m n : Nat} {j : Int} (ha : a < n) (hm : m < n) : (m : Int) = ((a : Int) + j) % (n : Int) ↔ (((m : Int) - j) % (n : Int)).toNat = a := by
  have e1 := Int.emod_add_mul_ediv ((a : Int) + j) n
  have e2 := Int.emod_add_mul_ediv ((m : Int) - j) n
  have b2 := Int.emod_nonneg ((m : Int) - j) (show (n : Int) ≠ 0 by omega)
  constructor
  · intro h
    rw [← h] at e1
    have : (m : Int) - j = (a : Int) + (n : Int) * (-(((a : Int) + j) / (n : Int))) := by
      rw [Int.mul_neg]
      omega
    rw [this, Int.add_mul_emod_self_left, Int.emod_eq_of_lt (by omega) (by omega)]
    omega
  · intro h
    have h2 : ((m : Int) - j) % (n : Int) = (a : Int) := by omega
    rw [h2] at e2
    have : (a : Int) + j = (m : Int) + (n : Int) * (-(((m : Int) - j) / (n : Int))) := by
      rw [Int.mul_neg]
      omega
    rw [this, Int.add_mul_emod_self_left, Int.emod_eq_of_lt (by omega) (by omega)]
def spreadS (f : List Int) (k : Nat) : List Int := mkL (k * f.length) (pw f k)
theorem spread_eq {a m k : Nat} (hk : 1 ≤ k) : m = k * a ↔ m % k = 0 ∧ m / k = a := by
  constructor
  · rintro rfl
    exact ⟨Nat.mul_mod_right _ _, Nat.mul_div_cancel_left _ (by omega)⟩
  · rintro ⟨h1, h2⟩
    have := Nat.div_add_mod m k
    rw [h1, h2] at this
    omega
theorem spread_lt {a k n : Nat} (hk : 1 ≤ k) (ha : a < n) : k * a < k * n := (Nat.mul_lt_mul_left (by omega)).mpr ha
theorem pw_lt {f : List Int} {k m : Nat} (hk : 1 ≤ k) : pw f k m = if m % k = 0 ∧ m / k < f.length then coef f (m / k) else 0 := by
  unfold pw
  by_cases h : m % k = 0
  · rw [if_pos h]
    by_cases q : m / k < f.length
    · rw [if_pos ⟨h, q⟩]
    · rw [if_neg (fun z => q z.2), coef_ge (by omega)]
  · rw [if_neg h, if_neg (fun z => h z.1)]
end Kp

/-! Comprehensions over zip; lists of new lists; == of lists of lists. -/
namespace Kp
open PySem PySem.Spec PyProof.Rows L2 Evl
section
variable {K : PySem.W.Frag} {σ : L2.St} {H H' : Hp} {ta tb te tl to ti : TE} {t : TT} {x y z v : V} {D : Ends} {tu tz : TS} {vs : List Nat}
/-- two arguments, lists of ints, either by its name or new -/
def EvAZ (K : PySem.W.Frag) (tg : TA) (σ : L2.St) (H : Hp) (ns ms : List Int) : Prop := ∀ H1, Ex H H1 → ∀ Q : List V → Hp → Prop, (∀ a b H2, Ex H1 H2 → SqL K H2 a (ns.map V.int) → SqL K H2 b (ms.map V.int) → Q [.ref a, .ref b] H2) → tg σ H1 Q
theorem az_vv {a b : Addr} {ns ms : List Int} (ha : Ev ta σ H (.ref a)) (hb : Ev tb σ H (.ref b)) (hx : SqL K H a (ns.map V.int)) (hy : SqL K H b (ms.map V.int)) : EvAZ K (tCons ta (tCons tb tNil)) σ H ns ms := fun H1 e Q q =>
  ha H1 e _ fun H2 e2 => hb H2 (e.trans e2) _ fun H3 e3 => q a b H3 (e2.trans e3) (ex_l ((e.trans e2).trans e3) hx) (ex_l ((e.trans e2).trans e3) hy)
theorem az_vn {a : Addr} {ns ms : List Int} (ha : Ev ta σ H (.ref a)) (hx : SqL K H a (ns.map V.int)) (hb : EvL tb σ H (ms.map V.int)) : EvAZ K (tCons ta (tCons tb tNil)) σ H ns ms := fun H1 e Q q =>
  ha H1 e _ fun H2 e2 => hb H2 (e.trans e2) _ fun b H3 nb e3 h3 => q a b H3 (e2.trans e3) (ex_l ((e.trans e2).trans e3) hx) (sq_of h3)
theorem az_nn {ns ms : List Int} (ha : EvL ta σ H (ns.map V.int)) (hb : EvL tb σ H (ms.map V.int)) : EvAZ K (tCons ta (tCons tb tNil)) σ H ns ms := fun H1 e Q q =>
  ha H1 e _ fun a H2 na e2 h2 => hb H2 (e.trans e2) _ fun b H3 nb e3 h3 => q a b H3 (e2.trans e3) (sq_of (e3 _ _ h2)) (sq_of h3)
/-- [e for x, y in zip(a, b)] -/
theorem el_lcZ {tg : TA} {ns ms : List Int} {i j : Nat} (w : Int → Int → V) (h : EvAZ K tg σ H ns ms) (hl : ns.length = ms.length) (hz : ns.length ≤ 40000) (hw : ∀ x y, wipe (((wipe σ vs).set i (some x)).set j (some y)) vs = wipe σ vs)
    (he : ∀ x y H1, Ex H H1 → x ∈ ns → y ∈ ms → Ev te (((wipe σ vs).set i (some (.int x))).set j (some (.int y))) H1 (w x y)) :
    EvL (tLc (iZip K tg) (gTup K 2 (gCons (gName i) (gCons (gName j) gNil))) tYes te vs) σ H (List.zipWith w ns ms) := fun H0 e Q q => h H0 e _ fun a b H1 e1 ha hb => ⟨a, b, _, _, rfl, ha, hb, fun Dl hD =>
  lc_it (n := ns.length) (walk_zip (by rw [List.length_map, List.length_map]; omega)) (fun n H' => H1 Dl = none ∧ Ex H1 H' ∧ H' Dl = some (.lst ((List.zipWith w ns ms).take n))) ⟨hD, Ex.new hD, upd_same⟩ (fun n H' _ p => ⟨ex_l p.2.1 ha, ex_l p.2.1 hb⟩) (fun n v H' H'' hn p y => by
    obtain ⟨p1, p2, p3⟩ := p
    obtain ⟨T, x, y, rfl, hT, rfl, hx, hy⟩ := y
    obtain ⟨r, hr, rfl⟩ := map_get hx
    obtain ⟨s, hs, rfl⟩ := map_get hy
    have e2 : Ex H' (upd H' T (.tup [V.int r, V.int s])) := Ex.new hT
    refine ⟨T, _, rfl, .inl (.inl upd_same), rfl, .int r, [.int s], rfl, .int s, [], rfl, rfl, hw _ _, ?_⟩
    refine et_yes (H := H') _ e2 _ fun H3 e3 => ?_
    show te _ H3 _
    refine he r s H1 (e.trans e1) (List.mem_of_getElem? hr) (List.mem_of_getElem? hs) H3 (p2.trans (e2.trans e3)) _ fun H4 e4 => ⟨_, e4 Dl _ (e3 Dl _ (e2 Dl _ p3)), ?_, p1, Ex.mut (((p2.trans e2).trans e3).trans e4) p1, ?_⟩
    · refine sz_lt ?_
      rw [List.length_take, List.length_zipWith]
      omega
    · rw [upd_same, List.take_add_one, List.getElem?_zipWith, hr, hs]
      rfl) (fun H' p => by
    have q1 := p.2.2
    rw [List.take_of_length_le (by rw [List.length_zipWith]; omega)] at q1
    exact q Dl H' (fresh_back e1 p.1) (e1.trans p.2.1) q1)⟩

/-! ### many new lists, each known -/
def NewL (H H' : Hp) (ps : List Addr) (xss : List (List V)) : Prop := Paired (fun p xs => H p = none ∧ H' p = some (.lst xs)) ps xss ∧ ps.Nodup
theorem NewL.fresh : ∀ {ps : List Addr} {xss : List (List V)}, Paired (fun p xs => H p = none ∧ H' p = some (.lst xs)) ps xss → ∀ p ∈ ps, H p = none
  | _, _, .nil, p, h => nomatch h
  | _, _, .cons a r, p, h => by
    rcases List.mem_cons.mp h with rfl | h
    · exact a.1
    · exact NewL.fresh r p h
theorem NewL.got : ∀ {ps : List Addr} {xss : List (List V)}, Paired (fun p xs => H p = none ∧ H' p = some (.lst xs)) ps xss → ∀ p ∈ ps, ∃ xs, H' p = some (.lst xs)
  | _, _, .nil, p, h => nomatch h
  | _, _, .cons a r, p, h => by
    rcases List.mem_cons.mp h with rfl | h
    · exact ⟨_, a.2⟩
    · exact NewL.got r p h
theorem NewL.mono {H'' : Hp} {ps : List Addr} {xss : List (List V)} (e : Ex H' H'') (h : NewL H H' ps xss) : NewL H H'' ps xss := ⟨Paired.mapP h.1 fun _ _ ⟨q1, q2⟩ => ⟨q1, e _ _ q2⟩, h.2⟩
theorem NewL.back {H0 : Hp} {ps : List Addr} {xss : List (List V)} (e : Ex H0 H) (h : NewL H H' ps xss) : NewL H0 H' ps xss := ⟨Paired.mapP h.1 fun _ _ ⟨q1, q2⟩ => ⟨fresh_back e q1, q2⟩, h.2⟩
theorem NewL.nil : NewL H H' [] [] := ⟨.nil, List.nodup_nil⟩
theorem paired_app {α β : Type} {F : α → β → Prop} : ∀ {l1 : List α} {m1 : List β} {l2 : List α} {m2 : List β}, Paired F l1 m1 → Paired F l2 m2 → Paired F (l1 ++ l2) (m1 ++ m2)
  | _, _, _, _, .nil, h => h
  | _, _, _, _, .cons a r, h => .cons a (paired_app r h)
theorem NewL.app {H1 H2 : Hp} {ps qs : List Addr} {xss yss : List (List V)} (h1 : NewL H H1 ps xss) (e : Ex H H1) (h2 : NewL H1 H2 qs yss) (e2 : Ex H1 H2) : NewL H H2 (ps ++ qs) (xss ++ yss) := by
  refine ⟨paired_app (h1.mono e2).1 (h2.back e).1, List.nodup_append.mpr ⟨h1.2, h2.2, fun a ha b hb he => ?_⟩⟩
  subst he
  obtain ⟨xs, g⟩ := NewL.got h1.1 a ha
  have := NewL.fresh h2.1 a hb
  rw [g] at this
  cases this
def EvNL (ta : TA) (σ : L2.St) (H : Hp) (xss : List (List V)) : Prop := ∀ H1, Ex H H1 → ∀ Q : List V → Hp → Prop, (∀ (ps : List Addr) H2, Ex H1 H2 → NewL H1 H2 ps xss → Q (ps.map V.ref) H2) → ta σ H1 Q
theorem enl_nil : EvNL tNil σ H [] := fun H1 _ Q q => q [] H1 (Ex.refl H1) NewL.nil
theorem enl_cons {tr : TA} {xs : List V} {xss : List (List V)} (h : EvL te σ H xs) (hr : EvNL tr σ H xss) : EvNL (tCons te tr) σ H (xs :: xss) := fun H1 e Q q =>
  h H1 e _ fun p H2 np e2 hp => hr H2 (e.trans e2) _ fun ps H3 e3 N => q (p :: ps) H3 (e2.trans e3) ⟨.cons ⟨np, e3 _ _ hp⟩ (N.back e2).1, List.nodup_cons.mpr ⟨fun hm => absurd (hp.symm.trans (NewL.fresh N.1 p hm)) (fun z => nomatch z), N.2⟩⟩
theorem NewL.len {ps : List Addr} {xss : List (List V)} (h : NewL H H' ps xss) : ps.length = xss.length := Paired.length h.1
theorem NewL.out {p : Addr} {o : HO} {ps : List Addr} {xss : List (List V)} (h : NewL H H' ps xss) (hp : H' p = none) : NewL H (upd H' p o) ps xss ∧ p ∉ ps := by
  have hn : p ∉ ps := fun hm => by
    obtain ⟨xs, g⟩ := NewL.got h.1 p hm
    rw [hp] at g
    cases g
  exact ⟨h.mono (Ex.new hp), hn⟩
/-- x = [new, new, ..] -/
theorem q_asgNL {tr : TA} {xss : List (List V)} {i : Nat} (h : EvNL tr σ H xss) (hz : xss.length ≤ 100000) (k : ∀ L ps H1, H L = none → Ex H H1 → H1 L = some (.lst (ps.map V.ref)) → NewL H H1 ps xss → L ∉ ps → tz D (σ.set i (some (.ref L))) H1) :
    tSeq (tAsg (tLst tr) (gName i)) tz D σ H := h H (Ex.refl H) _ fun ps H1 e1 N => ⟨sz_of (by rw [List.length_map, N.len]; exact hz), fun L nL => by
  obtain ⟨N2, nm⟩ := N.out (o := .lst (ps.map V.ref)) nL
  exact k L ps _ (fresh_back e1 nL) (e1.trans (Ex.new nL)) upd_same N2 nm⟩
/-- x = x + [new, new, ..], what x held new too -/
theorem q_catNL {H0 : Hp} {tr : TA} {xss yss : List (List V)} {i j : Nat} {l : Addr} {ps : List Addr} (N : NewL H0 H ps xss) (e0 : Ex H0 H) (hv : σ[j]? = some (some (.ref l))) (hl : H l = some (.lst (ps.map V.ref))) (h : EvNL tr σ H yss) (hz : xss.length + yss.length ≤ 100000)
    (k : ∀ L qs H1, H L = none → Ex H H1 → H1 L = some (.lst (qs.map V.ref)) → NewL H0 H1 qs (xss ++ yss) → L ∉ qs → tz D (σ.set i (some (.ref L))) H1) :
    tSeq (tAsg (tOp rCat (tVar j) (tLst tr)) (gName i)) tz D σ H := ⟨_, hv, h H (Ex.refl H) _ fun qs H1 e1 M => ⟨sz_of (by rw [List.length_map, M.len]; omega), fun r nr => by
  obtain ⟨M2, nm⟩ := M.out (o := .lst (qs.map V.ref)) nr
  have e2 : Ex H (upd H1 r (.lst (qs.map V.ref))) := e1.trans (Ex.new nr)
  have hz2 : (ps.map V.ref).length + (qs.map V.ref).length ≤ 100000 := by
    rw [List.length_map, List.length_map, N.len, M.len]
    exact hz
  refine ⟨l, r, _, _, rfl, rfl, e2 _ _ hl, upd_same, sz_of hz2, fun L nL => ?_⟩
  obtain ⟨A, na⟩ := (N.app e0 M2 e2).out (o := .lst (ps.map V.ref ++ qs.map V.ref)) nL
  refine k L (ps ++ qs) _ (fresh_back e2 nL) (e2.trans (Ex.new nL)) (by rw [upd_same, List.map_append]) A na⟩⟩
theorem paired_get {α β : Type} {F : α → β → Prop} : ∀ {l : List α} {m : List β} {i : Nat} {a : α}, Paired F l m → l[i]? = some a → ∃ b, m[i]? = some b ∧ F a b
  | _, _, _, _, .nil, h => by simp at h
  | _, _, 0, _, .cons (b := b) q _, h => ⟨b, rfl, by
    have e := Option.some.inj h
    exact e ▸ q⟩
  | _, _, i + 1, _, .cons _ q, h => paired_get (i := i) q h
/-- for row in xs: .., what stands in xs new and each turn changing its own row alone -/
theorem s_forRows {H0 : Hp} {L : Addr} {ps : List Addr} {xss : List (List V)} {j : Nat} (hv : Ev tl σ H (.ref L)) (hL : H L = some (.lst (ps.map V.ref))) (N : NewL H0 H ps xss) (e0 : Ex H0 H) (nL : L ∉ ps) (hj : j < σ.length)
    (hs : ∀ p xs H' (D' : Ends), xs ∈ xss → H' p = some (.lst xs) → Ex H0 H' → D'.rt = D.rt → (∀ H3 o, Ex H' H3 → D'.nx (σ.set j (some (.ref p))) (upd H3 p o)) → tu D' (σ.set j (some (.ref p))) H')
    (hd : ∀ y H', Ex H0 H' → D.nx (σ.set j y) H') :
    tFor (iList K tl) (gName j) tu D σ H := by
  refine s_forLn (xs := ps.map V.ref) hv (SqL.of hL) (fun i σ' H' => (∃ y, σ' = σ.set j y) ∧ Ex H0 H' ∧ H' L = some (.lst (ps.map V.ref)) ∧ ∀ k p xs, i ≤ k → ps[k]? = some p → xss[k]? = some xs → H' p = some (.lst xs))
    (fun H1 e1 => ⟨⟨σ[j], (List.set_getElem_self hj).symm⟩, e0.trans e1, e1 _ _ hL, fun k p xs _ hp hx => ?_⟩) (fun i σ' H' _ hp => SqL.of hp.2.2.1) (fun i x σ' H' hx hp => ?_) (fun σ' H' hp => ?_)
  · obtain ⟨b, hb, hF⟩ := paired_get N.1 hp
    rw [hx] at hb
    cases hb
    exact e1 _ _ hF.2
  · obtain ⟨⟨y, rfl⟩, p2, p3, p4⟩ := hp
    rw [List.getElem?_map] at hx
    obtain ⟨p, hp, rfl⟩ := Option.map_eq_some_iff.mp hx
    obtain ⟨xs, hxs, hF⟩ := paired_get N.1 hp
    have hLp : L ≠ p := fun e => nL (e ▸ List.mem_of_getElem? hp)
    rw [List.set_set]
    refine hs p xs H' _ (List.mem_of_getElem? hxs) (p4 i p xs (Nat.le_refl i) hp hxs) p2 rfl fun H3 o e3 => ⟨⟨_, rfl⟩, Ex.mut (p2.trans e3) hF.1, ?_, fun k p' xs' hk hp' hx' => ?_⟩
    · rw [upd_ne hLp]
      exact e3 _ _ p3
    · have ne : p' ≠ p := fun e => by
        subst e
        obtain ⟨h1, g1⟩ := List.getElem?_eq_some_iff.mp hp
        obtain ⟨h2, g2⟩ := List.getElem?_eq_some_iff.mp hp'
        exact List.pairwise_iff_getElem.mp N.2 i k h1 h2 (by omega) (g1.trans g2.symm)
      rw [upd_ne ne]
      exact e3 _ _ (p4 k p' xs' (by omega) hp' hx')
  · obtain ⟨⟨y, rfl⟩, p2, _, _⟩ := hp
    exact hd y H' p2

/-! ### == of lists of lists of ints -/
def dLL (nss : List (List Int)) : PyData := .list (nss.map dI)
theorem dI_inj (a b : List Int) (e : dI a = dI b) : a = b := map_inj (fun _ _ q => PyData.int.inj q) a b (PyData.list.inj e)
theorem dI_ok (a : List Int) : okD (dI a) = true := by
  unfold dI okD
  exact okA_map _ (fun _ => rfl) a
theorem dI_dep (a : List Int) : (dI a).depth ≤ 1 := Nat.succ_le_succ (dep_map PyData.int 0 (fun _ => Nat.le_refl 0) a)
theorem dI_lay (a : List Int) : PyData.canLay0 (dI a) = true := lay_map _ (fun _ => rfl) a
theorem dLL_sh (nss : List (List Int)) : SeqAt.shaped (dLL nss) = true := shaped_of (lay_map _ dI_lay nss) (Nat.le_trans (Nat.succ_le_succ (dep_map dI 1 dI_dep nss)) (by decide))
theorem dLL_eqv (nss mss : List (List Int)) : PyData.eqv (dLL nss) (dLL mss) = decide (nss = mss) := eqv_dec dLL (fun l => by unfold dLL okD; exact okA_map _ dI_ok l) (fun a b e => map_inj dI_inj a b (PyData.list.inj e)) nss mss
theorem dpa_lists : ∀ {ps : List Addr} {nss : List (List Int)}, Paired (fun p ns => SqL K H p (ns.map V.int)) ps nss → DpAll K H (ps.map V.ref) (nss.map dI)
  | _, _, .nil => .nil
  | _, _, .cons q r => .cons (dp_ints q) (dpa_lists r)
theorem dp_lists {a : Addr} {ps : List Addr} {nss : List (List Int)} (h : SqL K H a (ps.map V.ref)) (p : Paired (fun p ns => SqL K H p (ns.map V.int)) ps nss) : Dp K H (.ref a) (dLL nss) := .lst h (dpa_lists p)
theorem paired_map {α β γ : Type} {F : α → β → Prop} {f : γ → β} : ∀ {l : List α} {m : List γ}, Paired F l (m.map f) → Paired (fun a c => F a (f c)) l m
  | [], [], .nil => .nil
  | _ :: _, _ :: _, .cons a r => .cons a (paired_map r)
theorem NewL.sq {ps : List Addr} {nss : List (List Int)} (h : NewL H H' ps (nss.map fun ns => ns.map V.int)) : Paired (fun p ns => SqL K H' p (ns.map V.int)) ps nss := Paired.mapP (paired_map h.1) fun _ _ q => sq_of q.2
theorem rv_neLL {p q : Addr} {ps qs : List Addr} {nss mss : List (List Int)} (h1 : SqL K H p (ps.map V.ref)) (p1 : Paired (fun p ns => SqL K H p (ns.map V.int)) ps nss) (h2 : SqL K H q (qs.map V.ref)) (p2 : Paired (fun p ns => SqL K H p (ns.map V.int)) qs mss) : RV (rNeD K) (.ref p) (.ref q) H (.bl (!decide (nss = mss))) :=
  rv_neD (fun _ e => dp_lists (ex_l e h1) (Paired.mapP p1 fun _ _ z => ex_l e z)) (fun _ e => dp_lists (ex_l e h2) (Paired.mapP p2 fun _ _ z => ex_l e z)) (dLL_sh _) (dLL_sh _) (by rw [dLL_eqv])
/-! tuples of lists of ints -/
def dTL (nss : List (List Int)) : PyData := .tuple (nss.map dI)
theorem dTL_sh (nss : List (List Int)) : SeqAt.shaped (dTL nss) = true := shaped_of (lay_map _ dI_lay nss) (Nat.le_trans (Nat.succ_le_succ (dep_map dI 1 dI_dep nss)) (by decide))
theorem dTL_eqv (nss mss : List (List Int)) : PyData.eqv (dTL nss) (dTL mss) = decide (nss = mss) := eqv_dec dTL (fun l => by unfold dTL okD; exact okA_map _ dI_ok l) (fun a b e => map_inj dI_inj a b (PyData.tuple.inj e)) nss mss
theorem dp_tlists {a : Addr} {ps : List Addr} {nss : List (List Int)} (h : SqT K H a (ps.map V.ref)) (p : Paired (fun p ns => SqL K H p (ns.map V.int)) ps nss) : Dp K H (.ref a) (dTL nss) := .tup h (dpa_lists p)
theorem rv_neTL {p q : Addr} {ps qs : List Addr} {nss mss : List (List Int)} (h1 : SqT K H p (ps.map V.ref)) (p1 : Paired (fun p ns => SqL K H p (ns.map V.int)) ps nss) (h2 : SqT K H q (qs.map V.ref)) (p2 : Paired (fun p ns => SqL K H p (ns.map V.int)) qs mss) : RV (rNeD K) (.ref p) (.ref q) H (.bl (!decide (nss = mss))) :=
  rv_neD (fun _ e => dp_tlists (ex_t e h1) (Paired.mapP p1 fun _ _ z => ex_l e z)) (fun _ e => dp_tlists (ex_t e h2) (Paired.mapP p2 fun _ _ z => ex_l e z)) (dTL_sh _) (dTL_sh _) (by rw [dTL_eqv])
end
end Kp
namespace Kp
open PySem PySem.Spec PyProof.Rows L2 Evl
section
variable {K : PySem.W.Frag} {σ : L2.St} {H H' : Hp} {ta tb tc td : TE} {y z : V} {D : Ends} {tz : TS}
/-- x = [new, new, told, told] -/
theorem q_asgL4 {i : Nat} {xs ys : List V} (h1 : EvL ta σ H xs) (h2 : EvL tb σ H ys) (h3 : Ev tc σ H y) (h4 : Ev td σ H z) (k : ∀ L p q H1, Ex H H1 → H L = none → H1 L = some (.lst [.ref p, .ref q, y, z]) → H1 p = some (.lst xs) → H1 q = some (.lst ys) → tz D (σ.set i (some (.ref L))) H1) :
    tSeq (tAsg (tLst (tCons ta (tCons tb (tCons tc (tCons td tNil))))) (gName i)) tz D σ H :=
  h1 H (Ex.refl H) _ fun p H1 np e1 hp => h2 H1 e1 _ fun q H2 nq e2 hq => h3 H2 (e1.trans e2) _ fun H3 e3 => h4 H3 ((e1.trans e2).trans e3) _ fun H4 e4 => ⟨sz_of (show 4 ≤ 100000 by decide), fun L nL => by
    have e34 := e3.trans e4
    have e04 := (e1.trans e2).trans e34
    have eN : Ex H4 (upd H4 L (.lst [.ref p, .ref q, y, z])) := Ex.new nL
    exact k L p q _ (e04.trans eN) (fresh_back e04 nL) upd_same (eN _ _ (e34 _ _ (e2 _ _ hp))) (eN _ _ (e34 _ _ hq))⟩
/-- o[i] = e, of a list of ints, and on -/
theorem q_setI {te to ti : TE} {l : Addr} {ns : List Int} {j : Nat} {b : Int} (hl : H l = some (.lst (ns.map V.int))) (ho : Ev to σ H (.ref l)) (hi : Ev ti σ H (.int (j : Nat))) (hj : j < ns.length) (he : Ev te σ H (.int b))
    (k : ∀ H1, Ex H H1 → tz D σ (upd H1 l (.lst ((ns.set j b).map V.int)))) : tSeq (tAsg te (gSub to ti rSetL)) tz D σ H := s_setI (D := { D with nx := tz D }) hl ho hi hj he k
end
end Kp

/-! Products of polynomials told by their value at one great number. -/
namespace Kp
def addK : List Int → List Int → List Int
  | [], g => g
  | a :: f, [] => a :: f
  | a :: f, b :: g => (a + b) :: addK f g
def mulK : List Int → List Int → List Int
  | [], _ => []
  | a :: f, g => addK (g.map fun x => a * x) (0 :: mulK f g)
def l1 : List Int → Nat
  | [] => 0
  | a :: f => a.natAbs + l1 f
theorem coef_cons (a : Int) (f : List Int) (m : Nat) : coef (a :: f) (m + 1) = coef f m := rfl
theorem coef_cons0 (a : Int) (f : List Int) : coef (a :: f) 0 = a := rfl
theorem coef_addK : ∀ (f g : List Int) (m : Nat), coef (addK f g) m = coef f m + coef g m
  | [], g, m => by
    show coef g m = _
    rw [coef_nil, Int.zero_add]
  | a :: f, [], m => by
    show coef (a :: f) m = _
    rw [coef_nil, Int.add_zero]
  | a :: f, b :: g, 0 => rfl
  | a :: f, b :: g, m + 1 => coef_addK f g m
theorem coef_scale (a : Int) (g : List Int) (m : Nat) : coef (g.map fun x => a * x) m = a * coef g m := by
  by_cases h : m < g.length
  · rw [coef_lt (by rw [List.length_map]; exact h), coef_lt h, List.getElem_map]
  · rw [coef_ge (by rw [List.length_map]; omega), coef_ge (by omega), Int.mul_zero]
theorem cv_cons (a : Int) (f g : List Int) : ∀ (i m : Nat), cv (a :: f) g (i + 1) m = a * coef g m + if 1 ≤ m then cv f g i (m - 1) else 0
  | 0, m => by
    show 0 + (if 0 ≤ m then a * coef g (m - 0) else 0) = a * coef g m + if 1 ≤ m then 0 else 0
    rw [if_pos (Nat.zero_le m), Nat.sub_zero]
    split <;> omega
  | i + 1, m => by
    rw [cv, cv_cons a f g i m, cv]
    by_cases h1 : 1 ≤ m
    · rw [if_pos h1, if_pos h1, coef_cons]
      by_cases h2 : i + 1 ≤ m
      · rw [if_pos h2, if_pos (show i ≤ m - 1 by omega), show m - 1 - i = m - (i + 1) by omega]
        omega
      · rw [if_neg h2, if_neg (show ¬ i ≤ m - 1 by omega)]
        omega
    · rw [if_neg h1, if_neg h1, if_neg (by omega)]
      omega
theorem cv_nil (g : List Int) (m : Nat) : cv [] g 0 m = 0 := rfl
theorem coef_mulK : ∀ (f g : List Int) (m : Nat), coef (mulK f g) m = cv f g f.length m
  | [], g, m => coef_nil m
  | a :: f, g, m => by
    show coef (addK (g.map fun x => a * x) (0 :: mulK f g)) m = cv (a :: f) g (f.length + 1) m
    rw [coef_addK, coef_scale, cv_cons]
    cases m with
    | zero => rfl
    | succ m =>
      rw [coef_cons, coef_mulK f g m, if_pos (by omega)]
      rfl
theorem val_addK (x : Int) : ∀ f g : List Int, valP x (addK f g) = valP x f + valP x g
  | [], g => by
    show valP x g = 0 + _
    omega
  | a :: f, [] => by
    show valP x (a :: f) = _ + 0
    omega
  | a :: f, b :: g => by
    show (a + b) + x * valP x (addK f g) = (a + x * valP x f) + (b + x * valP x g)
    rw [val_addK x f g, Int.mul_add]
    omega
theorem val_scale (x a : Int) : ∀ g : List Int, valP x (g.map fun y => a * y) = a * valP x g
  | [] => by
    show 0 = a * 0
    omega
  | b :: g => by
    show a * b + x * valP x (g.map fun y => a * y) = a * (b + x * valP x g)
    rw [val_scale x a g, Int.mul_add, Int.mul_left_comm]
theorem val_mulK (x : Int) : ∀ f g : List Int, valP x (mulK f g) = valP x f * valP x g
  | [], g => by
    show 0 = 0 * _
    omega
  | a :: f, g => by
    show valP x (addK (g.map fun y => a * y) (0 :: mulK f g)) = (a + x * valP x f) * valP x g
    rw [val_addK, val_scale]
    show a * valP x g + (0 + x * valP x (mulK f g)) = _
    rw [val_mulK x f g, Int.add_mul, Int.zero_add, Int.mul_assoc]
theorem l1_addK : ∀ f g : List Int, l1 (addK f g) ≤ l1 f + l1 g
  | [], g => by
    show l1 g ≤ 0 + l1 g
    omega
  | a :: f, [] => by
    show l1 (a :: f) ≤ _
    omega
  | a :: f, b :: g => by
    show (a + b).natAbs + l1 (addK f g) ≤ (a.natAbs + l1 f) + (b.natAbs + l1 g)
    have := l1_addK f g
    have := Int.natAbs_add_le a b
    omega
theorem l1_scale (a : Int) : ∀ g : List Int, l1 (g.map fun y => a * y) = a.natAbs * l1 g
  | [] => rfl
  | b :: g => by
    show (a * b).natAbs + l1 (g.map fun y => a * y) = a.natAbs * (b.natAbs + l1 g)
    rw [l1_scale a g, Int.natAbs_mul, Nat.mul_add]
theorem l1_mulK : ∀ f g : List Int, l1 (mulK f g) ≤ l1 f * l1 g
  | [], g => by
    show 0 ≤ 0 * _
    omega
  | a :: f, g => by
    show l1 (addK (g.map fun y => a * y) (0 :: mulK f g)) ≤ (a.natAbs + l1 f) * l1 g
    have h1 := l1_addK (g.map fun y => a * y) (0 :: mulK f g)
    have h2 : l1 (0 :: mulK f g) = l1 (mulK f g) := by
      show (0 : Int).natAbs + _ = _
      rw [Int.natAbs_zero, Nat.zero_add]
    have h3 := l1_mulK f g
    rw [l1_scale, h2] at h1
    rw [Nat.add_mul]
    omega
theorem coef_l1 : ∀ (f : List Int) (m : Nat), (coef f m).natAbs ≤ l1 f
  | [], m => by
    rw [coef_nil]
    exact Nat.le_refl 0
  | a :: f, 0 => by
    rw [coef_cons0]
    exact Nat.le_add_right _ _
  | a :: f, m + 1 => by
    rw [coef_cons]
    exact Nat.le_trans (coef_l1 f m) (Nat.le_add_left _ _)
theorem len_addK : ∀ f g : List Int, (addK f g).length = max f.length g.length
  | [], g => by
    show g.length = max 0 g.length
    omega
  | a :: f, [] => by
    show (a :: f).length = max (f.length + 1) 0
    rw [List.length_cons]
    omega
  | a :: f, b :: g => by
    show (addK f g).length + 1 = max (f.length + 1) (g.length + 1)
    rw [len_addK f g]
    omega
theorem len_mulK : ∀ f g : List Int, f ≠ [] → g ≠ [] → (mulK f g).length = f.length + g.length - 1
  | [], g, h, _ => absurd rfl h
  | [a], g, _, hg => by
    show (addK (g.map fun x => a * x) [0]).length = 1 + g.length - 1
    have := List.length_pos_iff.mpr hg
    rw [len_addK, List.length_map, List.length_singleton]
    omega
  | a :: b :: f, g, _, hg => by
    show (addK (g.map fun x => a * x) (0 :: mulK (b :: f) g)).length = (f.length + 1 + 1) + g.length - 1
    rw [len_addK, List.length_map, List.length_cons, len_mulK (b :: f) g (fun h => nomatch h) hg, List.length_cons]
    omega
/-- who agrees at a great number agrees -/
theorem lift {B : Nat} : ∀ P Q : List Int, l1 P + l1 Q < B → valP (B : Int) P = valP (B : Int) Q → ∀ m, coef P m = coef Q m := by
  intro P
  induction P with
  | nil =>
    intro Q
    induction Q with
    | nil => exact fun _ _ _ => rfl
    | cons b Q ih =>
      intro h e m
      have h2 : l1 [] + l1 (b :: Q) = b.natAbs + l1 Q := by
        show 0 + (b.natAbs + l1 Q) = _
        omega
      have e2 : (0 : Int) = b + (B : Int) * valP (B : Int) Q := e
      have hb : b = 0 := by
        refine Int.natAbs_eq_zero.mp (Nat.eq_zero_of_dvd_of_lt ?_ (show b.natAbs < B by omega))
        have : b = (B : Int) * (-valP (B : Int) Q) := by
          rw [Int.mul_neg]
          omega
        rw [this, Int.natAbs_mul]
        exact Nat.dvd_mul_right _ _
      subst hb
      have B0 : (B : Int) ≠ 0 := by omega
      have e3 : valP (B : Int) [] = valP (B : Int) Q := by
        show 0 = _
        have : (B : Int) * valP (B : Int) Q = 0 := by omega
        rcases Int.mul_eq_zero.mp this with h | h
        · exact absurd h B0
        · exact h.symm
      cases m with
      | zero => rfl
      | succ m =>
        rw [coef_cons, coef_nil, ← ih (by show 0 + l1 Q < B; omega) e3 m, coef_nil]
  | cons a P ih =>
    intro Q h e m
    cases Q with
    | nil =>
      have h2 : l1 (a :: P) + l1 [] = a.natAbs + l1 P := rfl
      have e2 : a + (B : Int) * valP (B : Int) P = 0 := e
      have ha : a = 0 := by
        refine Int.natAbs_eq_zero.mp (Nat.eq_zero_of_dvd_of_lt ?_ (show a.natAbs < B by omega))
        have : a = (B : Int) * (-valP (B : Int) P) := by
          rw [Int.mul_neg]
          omega
        rw [this, Int.natAbs_mul]
        exact Nat.dvd_mul_right _ _
      subst ha
      have B0 : (B : Int) ≠ 0 := by omega
      have e3 : valP (B : Int) P = valP (B : Int) [] := by
        show _ = 0
        have : (B : Int) * valP (B : Int) P = 0 := by omega
        rcases Int.mul_eq_zero.mp this with h | h
        · exact absurd h B0
        · exact h
      cases m with
      | zero => rfl
      | succ m =>
        rw [coef_cons, coef_nil, ih [] (by show l1 P + 0 < B; omega) e3 m, coef_nil]
    | cons b Q =>
      have h2 : l1 (a :: P) + l1 (b :: Q) = a.natAbs + l1 P + (b.natAbs + l1 Q) := rfl
      have e2 : a + (B : Int) * valP (B : Int) P = b + (B : Int) * valP (B : Int) Q := e
      have hab : a - b = 0 := by
        refine Int.natAbs_eq_zero.mp (Nat.eq_zero_of_dvd_of_lt ?_ (show (a - b).natAbs < B by omega))
        have : a - b = (B : Int) * (valP (B : Int) Q - valP (B : Int) P) := by
          rw [Int.mul_sub]
          omega
        rw [this, Int.natAbs_mul]
        exact Nat.dvd_mul_right _ _
      have B0 : (B : Int) ≠ 0 := by omega
      have e3 : valP (B : Int) P = valP (B : Int) Q := by
        have : (B : Int) * (valP (B : Int) P - valP (B : Int) Q) = 0 := by
          rw [Int.mul_sub]
          omega
        rcases Int.mul_eq_zero.mp this with h | h
        · exact absurd h B0
        · omega
      cases m with
      | zero =>
        rw [coef_cons0, coef_cons0]
        omega
      | succ m =>
        rw [coef_cons, coef_cons]
        exact ih Q (by omega) e3 m
theorem val_wide (x : Int) {k : Nat} (hk : 1 ≤ k) : ∀ f : List Int, valP x (wideL k f) = valP (x ^ k) f := by
  have rep : ∀ (n : Nat) (g : List Int), valP x (List.replicate n 0 ++ g) = x ^ n * valP x g := by
    intro n g
    induction n with
    | zero => rw [Int.pow_zero, Int.one_mul]; rfl
    | succ n ih =>
      show 0 + x * valP x (List.replicate n 0 ++ g) = _
      rw [ih, Int.pow_succ, Int.zero_add, ← Int.mul_assoc, Int.mul_comm x]
  intro f
  induction f with
  | nil => rfl
  | cons a f ih =>
    show a + x * valP x (List.replicate (k - 1) 0 ++ wideL k f) = a + x ^ k * valP (x ^ k) f
    rw [rep, ih, ← Int.mul_assoc, show x * x ^ (k - 1) = x ^ k by rw [Int.mul_comm, ← Int.pow_succ, Nat.succ_eq_add_one, Nat.sub_add_cancel hk]]
theorem l1_wide (k : Nat) : ∀ f : List Int, l1 (wideL k f) = l1 f := by
  have rep : ∀ (n : Nat) (g : List Int), l1 (List.replicate n 0 ++ g) = l1 g := by
    intro n g
    induction n with
    | zero => rfl
    | succ n ih =>
      show (0 : Int).natAbs + l1 (List.replicate n 0 ++ g) = _
      rw [ih, Int.natAbs_zero, Nat.zero_add]
  intro f
  induction f with
  | nil => rfl
  | cons a f ih =>
    show a.natAbs + l1 (List.replicate (k - 1) 0 ++ wideL k f) = a.natAbs + l1 f
    rw [rep, ih]
/-- f times g is h at k, all told by values -/
theorem times_at {B : Nat} {f g h : List Int} {k : Nat} (hk : 1 ≤ k) (hf : f ≠ []) (hg : g ≠ []) (hh : h ≠ []) (hl : f.length + g.length = (h.length - 1) * k + 2) (hb : l1 f * l1 g + l1 h < B) (e : valP (B : Int) f * valP (B : Int) g = valP ((B : Int) ^ k) h) : mulK f g = atP h k := by
  have key := lift (B := B) (mulK f g) (wideL k h) (by have := l1_mulK f g; rw [l1_wide]; omega) (by rw [val_mulK, val_wide _ hk, e])
  refine ext_of ?_ fun m _ => ?_
  · rw [len_mulK f g hf hg]
    unfold atP
    rw [if_neg hh, mkL_len]
    omega
  · rw [key, coef_wide hk, coef_atP hk]

/-! ### many factors -/
def prodR : List (List Int) → List Int
  | [] => [1]
  | g :: r => mulK (prodR r) g
def valR (x : Int) : List (List Int) → Int
  | [] => 1
  | g :: r => valR x r * valP x g
def l1R : List (List Int) → Nat
  | [] => 1
  | g :: r => l1R r * l1 g
def lenR : List (List Int) → Nat
  | [] => 0
  | g :: r => lenR r + (g.length - 1)
theorem prodR_val (x : Int) : ∀ l, valP x (prodR l) = valR x l
  | [] => by
    show 1 + x * 0 = 1
    omega
  | g :: r => by
    show valP x (mulK (prodR r) g) = valR x r * valP x g
    rw [val_mulK, prodR_val x r]
theorem prodR_l1 : ∀ l, l1 (prodR l) ≤ l1R l
  | [] => Nat.le_refl 1
  | g :: r => by
    show l1 (mulK (prodR r) g) ≤ l1R r * l1 g
    exact Nat.le_trans (l1_mulK _ _) (Nat.mul_le_mul_right _ (prodR_l1 r))
theorem prodR_len : ∀ l : List (List Int), (∀ g ∈ l, g ≠ []) → prodR l ≠ [] ∧ (prodR l).length = lenR l + 1
  | [], _ => ⟨(fun h => nomatch h), rfl⟩
  | g :: r, h => by
    obtain ⟨i1, i2⟩ := prodR_len r fun z hz => h z (List.mem_cons_of_mem _ hz)
    have hg := h g (List.mem_cons_self ..)
    have e : (prodR (g :: r)).length = lenR (g :: r) + 1 := by
      show (mulK (prodR r) g).length = lenR r + (g.length - 1) + 1
      have := List.length_pos_iff.mpr hg
      rw [len_mulK _ _ i1 hg, i2]
      omega
    exact ⟨fun z => absurd (z ▸ e : ([] : List Int).length = lenR (g :: r) + 1) (by simp), e⟩
theorem prodR_one {g : List Int} (h : g ≠ []) : prodR [g] = g := by
  show addK (g.map fun x => 1 * x) [0] = g
  refine ext_of ?_ fun m _ => ?_
  · have := List.length_pos_iff.mpr h
    rw [len_addK, List.length_map, List.length_singleton]
    omega
  · rw [coef_addK, coef_scale]
    cases m with
    | zero =>
      rw [coef_cons0]
      omega
    | succ m =>
      rw [coef_cons, coef_nil]
      omega
/-- x to the d, less 1 -/
def xd1 (d : Nat) : List Int := [-1] ++ List.replicate (d - 1) 0 ++ [1]
theorem xd1_len {d : Nat} (h : 1 ≤ d) : (xd1 d).length = d + 1 := by
  unfold xd1
  rw [List.length_append, List.length_append, List.length_replicate, List.length_singleton, List.length_singleton]
  omega
theorem xd1_wide {d : Nat} (h : 1 ≤ d) (m : Nat) : coef (xd1 d) m = coef (wideL d [-1, 1]) m := by
  have e : wideL d [-1, 1] = xd1 d ++ List.replicate (d - 1) 0 := by
    show -1 :: List.replicate (d - 1) 0 ++ (1 :: List.replicate (d - 1) 0 ++ []) = _
    unfold xd1
    simp
  rw [e, coef_app]
  split
  · rfl
  · rename_i q
    rw [coef_rep, coef_ge (by omega)]
theorem prod_xd1 {B d : Nat} {l : List (List Int)} (hd : 1 ≤ d) (hl : ∀ g ∈ l, g ≠ []) (hn : lenR l = d) (hb : l1R l + 2 < B) (e : valR (B : Int) l = (B : Int) ^ d - 1) : prodR l = xd1 d := by
  have key := lift (B := B) (prodR l) (wideL d [-1, 1]) (by
    have := prodR_l1 l
    rw [l1_wide]
    show l1 (prodR l) + 2 < B
    omega) (by
    rw [prodR_val, val_wide _ hd, e]
    show _ = -1 + (B : Int) ^ d * (1 + (B : Int) ^ d * 0)
    rw [Int.mul_zero, Int.add_zero, Int.mul_one]
    omega)
  refine ext_of ?_ fun m _ => ?_
  · rw [(prodR_len l hl).2, xd1_len hd, hn]
  · rw [key, xd1_wide hd]
/-- the numbers of a great one, by 2 to the 32, the least first -/
def dec : Nat → Int → List Int
  | 0, _ => []
  | k + 1, N => ((N + 2147483648) % 4294967296 - 2147483648) :: dec k ((N - ((N + 2147483648) % 4294967296 - 2147483648)) / 4294967296)
theorem dec_len : ∀ (k : Nat) (N : Int), (dec k N).length = k
  | 0, _ => rfl
  | k + 1, N => by
    show (dec k _).length + 1 = k + 1
    rw [dec_len k]
/-- f at p, through f -/
def stepF (f : List Int) (p : Nat) : List Int := dec ((f.length - 1) * (p - 1) + 1) (valP ((4294967296 : Int) ^ p) f / valP 4294967296 f)
end Kp

/-! How a number is parted, as the program does; the root polynomials up to 420, told by their values at one great number. -/
namespace Kp
/-! ### how often p divides, and what is left -/
def strip (p : Int) : Nat → Int → Int → Int × Int
  | 0, l, t => (l, t)
  | m + 1, l, t => if l % p = 0 then strip p m (l / p) (t + 1) else (l, t)
theorem strip_stop {p l t : Int} {m : Nat} (h : ¬ l % p = 0) : strip p m l t = (l, t) := by
  cases m with
  | zero => rfl
  | succ m =>
    unfold strip
    rw [if_neg h]
theorem strip_go {p l t : Int} {m : Nat} (h : l % p = 0) : strip p (m + 1) l t = strip p m (l / p) (t + 1) := by
  rw [strip, if_pos h]
theorem half_lt {p l : Int} {m : Nat} (hp : 2 ≤ p) (h0 : 0 < l) (h : l < 2 ^ (m + 1)) (hd : l % p = 0) : 0 < l / p ∧ l / p < 2 ^ m ∧ l / p ≤ l := by
  have e : p * (l / p) + l % p = l := Int.mul_ediv_add_emod l p
  have e2 : p * (l / p) = l := by omega
  have p0 : 0 < l / p := by
    refine Int.lt_of_not_ge fun q => ?_
    have := Int.mul_nonneg (show 0 ≤ p by omega) (show 0 ≤ -(l / p) by omega)
    rw [Int.mul_neg] at this
    omega
  have e3 : 2 * (l / p) ≤ p * (l / p) := Int.mul_le_mul_of_nonneg_right hp (Int.le_of_lt p0)
  rw [Int.pow_succ] at h
  generalize (2 : Int) ^ m = M at *
  omega
def pLoop : Nat → Int → Int → List (Int × Int) → Int × List (Int × Int)
  | 0, _, l, rows => (l, rows)
  | m + 1, p, l, rows => if p * p ≤ l then pLoop m (p + 1) (strip p 64 l 0).1 (if 0 < (strip p 64 l 0).2 then rows ++ [(p, (strip p 64 l 0).2)] else rows) else (l, rows)
/-- the rows of n's primes, as the program makes them -/
def partedF (n : Int) : List (Int × Int) := if 1 < (pLoop n.toNat 2 n []).1 then (pLoop n.toNat 2 n []).2 ++ [((pLoop n.toNat 2 n []).1, 1)] else (pLoop n.toNat 2 n []).2
theorem pLoop_stop {p l : Int} {rows : List (Int × Int)} {m : Nat} (h : ¬ p * p ≤ l) : pLoop m p l rows = (l, rows) := by
  cases m with
  | zero => rfl
  | succ m =>
    unfold pLoop
    rw [if_neg h]
theorem pLoop_go {p l : Int} {rows : List (Int × Int)} {m : Nat} (h : p * p ≤ l) : pLoop (m + 1) p l rows = pLoop m (p + 1) (strip p 64 l 0).1 (if 0 < (strip p 64 l 0).2 then rows ++ [(p, (strip p 64 l 0).2)] else rows) := by
  rw [pLoop, if_pos h]
theorem sq_le {p l : Int} (h : p * p ≤ l) (hl : l ≤ 1000000000) : p ≤ 31622 := by
  refine Int.le_of_not_gt fun q => ?_
  have := Int.mul_le_mul (show 31623 ≤ p by omega) (show 31623 ≤ p by omega) (by decide) (by omega)
  omega

def GF (n : Nat) : List Int := (partedF n).foldl (fun f r => stepF f r.1.toNat) [-1, 1]
def LF (n : Nat) : Nat := (partedF n).foldl (fun l r => l / r.1.toNat) n
def BB : Nat := 2 ^ 256
def chkA : List (Int × Int) → List Int → Bool
  | [], _ => true
  | r :: ps, f => decide (1 ≤ r.1) && (decide ((f.length - 1) * r.1.toNat ≤ 420) && (decide (valP BB (stepF f r.1.toNat) * valP BB f = valP ((BB : Int) ^ r.1.toNat) f) && (decide (l1 (stepF f r.1.toNat) * l1 f + l1 f < BB) && chkA ps (stepF f r.1.toNat))))
def eval1 (n : Nat) : Int × Nat × Nat := (valP ((BB : Int) ^ LF n) (GF n), l1 (GF n), ((GF n).length - 1) * LF n)
def eT : List (Int × Nat × Nat) := (List.range 420).map fun i => eval1 (i + 1)
def dvs (d : Nat) : List Nat := (List.range d).filter fun i => decide (d % (i + 1) = 0)
def vR3 : List (Int × Nat × Nat) → Int × Nat × Nat
  | [] => (1, 1, 0)
  | t :: r => ((vR3 r).1 * t.1, (vR3 r).2.1 * t.2.1, (vR3 r).2.2 + t.2.2)
def chkD (d : Nat) : Bool := decide ((vR3 ((dvs d).map fun i => eT.getD i (0, 0, 0))).1 = (BB : Int) ^ d - 1) && (decide ((vR3 ((dvs d).map fun i => eT.getD i (0, 0, 0))).2.1 + 2 < BB) && (decide ((vR3 ((dvs d).map fun i => eT.getD i (0, 0, 0))).2.2 = d) && decide (1 ≤ LF d)))
end Kp

namespace Kp
theorem all_A : ((List.range 420).all fun i => chkA (partedF (i + 1 : Nat)) [-1, 1]) = true := by decide +kernel
theorem all_D : ((List.range 420).all fun i => chkD (i + 1)) = true := by decide +kernel
end Kp

/-! Calls that are known not to raise; lists of new pairs of a number and a new list; loops over zip. -/
namespace Kp
open PySem PySem.Spec PyProof.Rows L2 Evl
section
variable {P : Program} {w : World} {K : PySem.W.Frag} {mg : Str → Option Value} {base : Heap} {x : Str} {k : Nat} {ps : List Str} {sp : Sp}
/-- a def that may raise, where nothing is wanted of what it raises -/
theorem Cal.calm (c : Cal P w K mg base (L2.CX P w) x k ps sp) : Cal P w K mg base CX0 x k ps (fun vs H Q _ => sp vs H Q (fun _ _ _ => False)) := by
  obtain ⟨f, fd, F, g, kp, b⟩ := c
  refine ⟨f, fd, ⟨fun vs H Q E h => F.len vs H Q _ h, fun A outer s H args us vs Q E hr e hb hv hs => ?_⟩, g, kp, b⟩
  refine codeAny_mono (F.run A outer s H args us vs Q (fun _ _ _ => False) hr e hb hv hs) fun r s' hq => ?_
  cases r with
  | error e =>
    obtain ⟨_, _, _, _, _, _, _, _, _, _, _, _, z⟩ := hq
    exact z.elim
  | ok fl =>
    cases fl with
    | ret u => exact hq
    | next => exact hq
    | brk => exact hq
    | cont => exact hq
theorem Cal.imp {CX : CXT} {sp' : Sp} (c : Cal P w K mg base CX x k ps sp) (h : ∀ vs H Q E, sp' vs H Q E → sp vs H Q E) : Cal P w K mg base CX x k ps sp' := by
  obtain ⟨f, fd, F, g, kp, b⟩ := c
  exact ⟨f, fd, F.imp h, g, kp, b⟩
end
section
variable {K : PySem.W.Frag} {σ : L2.St} {H H' : Hp} {ta tb te tl to ti : TE} {t : TT} {x y z v : V} {D : Ends} {tu tz : TS} {vs : List Nat}
/-- tuples of a number and a list, all new, no list the one at p -/
def RwsN (p : Addr) (H0 H : Hp) : List Addr → List (Int × List Int) → Prop := Paired (fun t r => ∃ q, q ≠ p ∧ H0 t = none ∧ H0 q = none ∧ H t = some (.tup [.int r.1, .ref q]) ∧ H q = some (.lst (r.2.map V.int)))
/-- the same, whoever made them -/
def Rws (K : PySem.W.Frag) (H : Hp) : List Addr → List (Int × List Int) → Prop := Paired (fun t r => ∃ q, SqT K H t [.int r.1, .ref q] ∧ SqL K H q (r.2.map V.int))
theorem RwsN.rws {p : Addr} {H0 : Hp} {ts : List Addr} {rows : List (Int × List Int)} (h : RwsN p H0 H ts rows) : Rws K H ts rows := Paired.mapP h fun _ _ ⟨q, _, _, _, h1, h2⟩ => ⟨q, SqT.of h1, SqL.of h2⟩
theorem Rws.mono {ts : List Addr} {rows : List (Int × List Int)} (e : Ex H H') (h : Rws K H ts rows) : Rws K H' ts rows := Paired.mapP h fun _ _ ⟨q, h1, h2⟩ => ⟨q, ex_t e h1, ex_l e h2⟩
theorem RwsN.mono {p : Addr} {H0 : Hp} {ts : List Addr} {rows : List (Int × List Int)} (e : Ex H H') (h : RwsN p H0 H ts rows) : RwsN p H0 H' ts rows := Paired.mapP h fun _ _ ⟨q, a, b, c, h1, h2⟩ => ⟨q, a, b, c, e _ _ h1, e _ _ h2⟩
theorem RwsN.back {p : Addr} {H0 H1 : Hp} {ts : List Addr} {rows : List (Int × List Int)} (e : Ex H0 H1) (h : RwsN p H1 H ts rows) : RwsN p H0 H ts rows := Paired.mapP h fun _ _ ⟨q, a, b, c, h1, h2⟩ => ⟨q, a, fresh_back e b, fresh_back e c, h1, h2⟩
def RetRws (rows : List (Int × List Int)) (H : Hp) (Q : VK) : Prop := ∀ p ts H2, H p = none → Ex H H2 → H2 p = some (.lst (ts.map V.ref)) → RwsN p H H2 ts rows → Q (.ref p) H2
theorem RetRws.go {rows : List (Int × List Int)} {Q : VK} (q : RetRws rows H Q) {H1 : Hp} (e : Ex H H1) {p : Addr} {ts : List Addr} {H2 : Hp} (np : H1 p = none) (e2 : Ex H1 H2) (h : H2 p = some (.lst (ts.map V.ref))) (r : RwsN p H1 H2 ts rows) : Q (.ref p) H2 :=
  q p ts H2 (fresh_back e np) (e.trans e2) h (r.back e)
def EvR (te : TE) (σ : L2.St) (H : Hp) (rows : List (Int × List Int)) : Prop := ∀ H1, Ex H H1 → ∀ Q : VK, RetRws rows H1 Q → te σ H1 Q
theorem evR_cal {sp : Sp} {vs : List V} {E : XK} {ta : TA} {rows : List (Int × List Int)} (h : EvA ta σ H vs) (hs : ∀ H1, Ex H H1 → ∀ Q : VK, RetRws rows H1 Q → ∀ E : XK, sp vs H1 Q E) : EvR (tCall sp [] E ta) σ H rows := fun H1 e Q q =>
  h H1 e _ fun H2 e2 => by
    show sp (vs ++ []) H2 Q E
    rw [List.append_nil]
    exact hs H2 (e.trans e2) Q (fun p ts H3 np e3 h3 r => q p ts H3 (fresh_back e2 np) (e2.trans e3) h3 (r.back e2)) E
theorem q_asgR {i : Nat} {rows : List (Int × List Int)} (h : EvR te σ H rows) (k : ∀ p ts H1, H p = none → Ex H H1 → H1 p = some (.lst (ts.map V.ref)) → RwsN p H H1 ts rows → tz D (σ.set i (some (.ref p))) H1) : tSeq (tAsg te (gName i)) tz D σ H :=
  h H (Ex.refl H) _ fun p ts H1 np e h1 r => k p ts H1 np e h1 r
theorem q_appR {rows : List (Int × List Int)} (h : EvR ta σ H rows) (hv : ∀ H1, Ex H H1 → Ev te σ H1 v) (hz : rows.length < 100000) (k : ∀ H1, Ex H H1 → tz D σ H1) : tSeq (tDrop (tBM K "list" rAppend ta (tCons te tNil))) tz D σ H := h H (Ex.refl H) _ fun p ts H1 np e1 hp r =>
  ⟨Or.inl ⟨rfl, _, sq_of hp⟩, hv H1 e1 H1 (Ex.refl _) _ fun H2 e2 => ⟨p, _, v, rfl, rfl, e2 p _ hp, sz_lt (by rw [List.length_map, Paired.length r]; exact hz), k _ (Ex.mut (e1.trans e2) np)⟩⟩
/-- [(d, a new list) for d in a new list of ints] -/
theorem evR_lc {ns : List Int} {j : Nat} {t1 t2 : TE} (w : Int → List Int) (h : EvL tl σ H (ns.map V.int)) (hz : ns.length ≤ 40000) (hw : ∀ x, wipe ((wipe σ vs).set j (some x)) vs = wipe σ vs)
    (he : ∀ r H1, Ex H H1 → r ∈ ns → Ev t1 ((wipe σ vs).set j (some (.int r))) H1 (.int r) ∧ EvL t2 ((wipe σ vs).set j (some (.int r))) H1 ((w r).map V.int)) :
    EvR (tLc (iList K tl) (gName j) tYes (tTup (tCons t1 (tCons t2 tNil))) vs) σ H (ns.map fun r => (r, w r)) := fun H0 e Q q => h H0 e _ fun a H1 na e1 ha => ⟨a, rfl, ⟨_, sq_of ha⟩, fun Dl hD =>
  lc_list (xs := ns.map V.int) (fun n H' => H1 Dl = none ∧ Ex H1 H' ∧ ∃ ts, H' Dl = some (.lst (ts.map V.ref)) ∧ RwsN Dl H1 H' ts ((ns.take n).map fun r => (r, w r))) ⟨hD, Ex.new hD, [], upd_same, .nil⟩ (fun n H' _ p => sq_of (p.2.1 _ _ ha)) (fun n x H' hn p => by
    obtain ⟨p1, p2, ts, p3, p4⟩ := p
    obtain ⟨r, hr, rfl⟩ := map_get hn
    have hm : r ∈ ns := List.mem_of_getElem? hr
    obtain ⟨g1, g2⟩ := he r H1 (e.trans e1) hm
    refine ⟨hw _, ?_⟩
    refine et_yes (H := H') _ (Ex.refl _) _ fun H3 e3 => ?_
    rw [if_pos rfl]
    refine g1 H3 (p2.trans e3) _ fun H4 e4 => g2 H4 ((p2.trans e3).trans e4) _ fun q H5 nq e5 hq => ⟨sz_of (show 2 ≤ 100000 by decide), fun T nT => ?_⟩
    have e35 : Ex H' H5 := (e3.trans e4).trans e5
    have e36 : Ex H' (upd H5 T (.tup [.int r, .ref q])) := e35.trans (Ex.new nT)
    have hDl := e36 _ _ p3
    have nq1 : H1 q = none := fresh_back ((p2.trans e3).trans e4) nq
    have nT1 : H1 T = none := fresh_back (p2.trans e35) nT
    have qD : q ≠ Dl := fun z => by
      have := (e3.trans e4) _ _ p3
      rw [← z, nq] at this
      cases this
    have TD : T ≠ Dl := fun z => by
      have := e35 _ _ p3
      rw [← z, nT] at this
      cases this
    have qT : q ≠ T := fun z => by
      rw [z, nT] at hq
      cases hq
    refine ⟨_, hDl, ?_, p1, Ex.mut (p2.trans e36) p1, ts ++ [T], by rw [upd_same, List.map_append]; rfl, ?_⟩
    · refine sz_lt ?_
      rw [List.length_map, Paired.length p4, List.length_map, List.length_take]
      omega
    · have et : ns.take (n + 1) = ns.take n ++ [r] := by rw [List.take_add_one, hr]; rfl
      rw [et, List.map_append]
      refine Paired.snoc (Paired.mapP p4 fun t r' ⟨q', z1, z2, z3, z4, z5⟩ => ⟨q', z1, z2, z3, ?_, ?_⟩) ⟨q, qD, nT1, nq1, ?_, ?_⟩
      · rw [upd_ne (ne_of (e36 _ _ z4) hDl (by intro z; cases z))]
        exact e36 _ _ z4
      · rw [upd_ne z1]
        exact e36 _ _ z5
      · rw [upd_ne TD, upd_same]
      · rw [upd_ne qD, upd_ne qT]
        exact hq) (fun H' p => by
    obtain ⟨p1, p2, ts, p3, p4⟩ := p
    rw [List.length_map, List.take_length] at p4
    exact q Dl ts H' (fresh_back e1 p1) (e1.trans p2) p3 (p4.back e1))⟩
/-- for d, f in what is told: f.append(..) -/
theorem q_forRwApp {rows : List (Int × List Int)} {j1 j2 : Nat} {u : V} (h : EvR te σ H rows) (hz : rows.length ≤ 1000) (hl : ∀ r ∈ rows, r.2.length < 50000) (hj : j1 < σ.length) (hj2 : j2 < σ.length) (hne : j1 ≠ j2) (k : ∀ x y H1, Ex H H1 → tz D ((σ.set j1 x).set j2 y) H1) :
    tSeq (tFor (iList K te) (gTup K 2 (gCons (gName j1) (gCons (gName j2) gNil))) (tDrop (tBM K "list" rAppend (tVar j2) (tCons (tC u) tNil)))) tz D σ H :=
  h H (Ex.refl H) _ fun p ts H1 np e1 hp R => ⟨p, rfl, ⟨_, sq_of hp⟩, for_list (xs := ts.map V.ref)
    (fun i σ' H' => (∃ x y, σ' = (σ.set j1 x).set j2 y) ∧ Ex H H' ∧ H' p = some (.lst (ts.map V.ref)) ∧ ∀ t ∈ ts, ∃ d q xs, q ≠ p ∧ H q = none ∧ H' t = some (.tup [.int d, .ref q]) ∧ H' q = some (.lst xs) ∧ xs.length < 50000 + i)
    ⟨⟨σ[j1], σ[j2], by
      rw [List.set_getElem_self hj, List.set_getElem_self hj2]⟩, e1, hp, fun t ht => by
      obtain ⟨n, hn⟩ := List.mem_iff_getElem?.mp ht
      obtain ⟨r, hr, q, z1, z2, z3, z4, z5⟩ := paired_get R hn
      exact ⟨r.1, q, _, z1, z3, z4, z5, by rw [List.length_map]; have := hl r (List.mem_of_getElem? hr); omega⟩⟩
    (fun i σ' H' _ p => sq_of p.2.2.1) (fun i x σ' H' hx hp => by
      obtain ⟨⟨y1, y2, rfl⟩, p2, p3, p4⟩ := hp
      rw [List.getElem?_map] at hx
      obtain ⟨t, ht, rfl⟩ := Option.map_eq_some_iff.mp hx
      have hm := List.mem_of_getElem? ht
      have hi : i < ts.length := (List.getElem?_eq_some_iff.mp ht).1
      have hlen := Paired.length R
      obtain ⟨d, q, xs, qp, nq, h1, h2, h3⟩ := p4 t hm
      refine ⟨t, _, rfl, .inl (.inl h1), rfl, .int d, [.ref q], rfl, .ref q, [], rfl, rfl, ?_⟩
      refine s_app h2 (ev_var ?_) ev_c (by omega) fun H3 e3 => ⟨⟨some (.int d), some (.ref q), ?_⟩, Ex.mut (p2.trans e3) nq, ?_, fun t' ht' => ?_⟩
      · rw [List.getElem?_set_self (by rw [List.length_set, List.length_set, List.length_set]; exact hj2)]
      · rw [List.set_comm _ _ hne.symm, List.set_set, List.set_set]
      · rw [upd_ne qp.symm]
        exact e3 _ _ p3
      · obtain ⟨d', q', ys, z1, z2, z3, z4, z5⟩ := p4 t' ht'
        have nt : t' ≠ q := ne_of z3 h2 (by intro z; cases z)
        by_cases e : q' = q
        · subst e
          rw [h2] at z4
          cases z4
          exact ⟨d', q', _, z1, z2, by rw [upd_ne nt]; exact e3 _ _ z3, upd_same, by rw [List.length_append, List.length_singleton]; omega⟩
        · exact ⟨d', q', ys, z1, z2, by rw [upd_ne nt]; exact e3 _ _ z3, by rw [upd_ne e]; exact e3 _ _ z4, by omega⟩) (fun σ' H' p => by
      obtain ⟨⟨y1, y2, rfl⟩, p2, _⟩ := p
      exact k y1 y2 H' p2)⟩
/-- for x, y in zip(a, b) -/
theorem s_forZ {a b : Addr} {xs ys : List V} {tl : TA} {j1 j2 : Nat} (h : EvA tl σ H [.ref a, .ref b]) (hx : SqL K H a xs) (hy : SqL K H b ys) (hl : xs.length = ys.length) (Pv : Nat → L2.St → Hp → Prop) (h0 : ∀ H1, Ex H H1 → Pv 0 σ H1) (hq : ∀ i σ' H', Pv i σ' H' → SqL K H' a xs ∧ SqL K H' b ys)
    (hs : ∀ i x y σ' H', xs[i]? = some x → ys[i]? = some y → Pv i σ' H' → ∀ H2, Ex H' H2 → tu { D with nx := Pv (i + 1), ct := Pv (i + 1), bk := D.nx } ((σ'.set j1 (some x)).set j2 (some y)) H2) (hd : ∀ σ' H', Pv xs.length σ' H' → D.nx σ' H') :
    tFor (iZip K tl) (gTup K 2 (gCons (gName j1) (gCons (gName j2) gNil))) tu D σ H :=
  h H (Ex.refl H) _ fun H1 e => ⟨a, b, xs, ys, rfl, ex_l e hx, ex_l e hy, for_it (n := xs.length) (walk_zip (by omega)) Pv (h0 H1 e) (fun i σ' H' _ p => hq i σ' H' p) (fun i v σ' H' H'' hi p y => by
    obtain ⟨T, x, y, rfl, hT, rfl, hx, hy⟩ := y
    exact ⟨T, _, rfl, .inl (.inl upd_same), rfl, x, [y], rfl, y, [], rfl, rfl, hs i x y σ' H' hx hy p _ (Ex.new hT)⟩) hd⟩
theorem q_forZ {a b : Addr} {xs ys : List V} {tl : TA} {j1 j2 : Nat} (h : EvA tl σ H [.ref a, .ref b]) (hx : SqL K H a xs) (hy : SqL K H b ys) (hl : xs.length = ys.length) (Pv : Nat → L2.St → Hp → Prop) (h0 : ∀ H1, Ex H H1 → Pv 0 σ H1) (hq : ∀ i σ' H', Pv i σ' H' → SqL K H' a xs ∧ SqL K H' b ys)
    (hs : ∀ i x y σ' H', xs[i]? = some x → ys[i]? = some y → Pv i σ' H' → ∀ H2, Ex H' H2 → tu { D with nx := Pv (i + 1), ct := Pv (i + 1), bk := tz D } ((σ'.set j1 (some x)).set j2 (some y)) H2) (hd : ∀ σ' H', Pv xs.length σ' H' → tz D σ' H') :
    tSeq (tFor (iZip K tl) (gTup K 2 (gCons (gName j1) (gCons (gName j2) gNil))) tu) tz D σ H := s_forZ (D := { D with nx := tz D }) h hx hy hl Pv h0 hq hs hd
/-! == of a pair of a number and a list -/
def dNL (r : Int × List Int) : PyData := .tuple [.int r.1, dI r.2]
theorem dNL_ok (r : Int × List Int) : okD (dNL r) = true := by
  show (true && (okD (dI r.2) && true)) = true
  rw [dI_ok]
  rfl
theorem dNL_lay (r : Int × List Int) : PyData.canLay0 (dNL r) = true := by
  show PyData.canLayAll0 [.int r.1, dI r.2] = true
  unfold PyData.canLayAll0 PyData.canLayAll0 PyData.canLayAll0
  rw [dI_lay]
  rfl
theorem dNL_dep (r : Int × List Int) : (dNL r).depth ≤ 2 := by
  show PyData.depthAll [.int r.1, dI r.2] + 1 ≤ 2
  unfold PyData.depthAll PyData.depthAll PyData.depthAll
  have := dI_dep r.2
  simp only [PyData.depth]
  omega
theorem dNL_sh (r : Int × List Int) : SeqAt.shaped (dNL r) = true := shaped_of (dNL_lay r) (Nat.le_trans (dNL_dep r) (by decide))
theorem dNL_inj (a b : Int × List Int) (e : dNL a = dNL b) : a = b := by
  obtain ⟨a1, a2⟩ := a
  obtain ⟨b1, b2⟩ := b
  simp only [dNL, PyData.tuple.injEq, List.cons.injEq, PyData.int.injEq, and_true] at e
  rw [e.1, dI_inj _ _ e.2]
theorem dNL_eqv (a b : Int × List Int) : PyData.eqv (dNL a) (dNL b) = decide (a = b) := eqv_dec dNL dNL_ok dNL_inj a b
theorem dp_NL {t q : Addr} {r : Int × List Int} (h : SqT K H t [.int r.1, .ref q]) (g : SqL K H q (r.2.map V.int)) : Dp K H (.ref t) (dNL r) := .tup h (.cons (.int _) (.cons (dp_ints g) .nil))
theorem rv_neNL {t u q p : Addr} {r s : Int × List Int} (h1 : SqT K H t [.int r.1, .ref q]) (g1 : SqL K H q (r.2.map V.int)) (h2 : SqT K H u [.int s.1, .ref p]) (g2 : SqL K H p (s.2.map V.int)) : RV (rNeD K) (.ref t) (.ref u) H (.bl (!decide (r = s))) :=
  rv_neD (fun _ e => dp_NL (ex_t e h1) (ex_l e g1)) (fun _ e => dp_NL (ex_t e h2) (ex_l e g2)) (dNL_sh _) (dNL_sh _) (by rw [dNL_eqv])
end
/-- two rising lists of the same numbers -/
theorem rise_uniq : ∀ {a b : List Nat}, a.Pairwise (· < ·) → b.Pairwise (· < ·) → (∀ x, x ∈ a ↔ x ∈ b) → a = b
  | [], [], _, _, _ => rfl
  | [], y :: b, _, _, h => absurd ((h y).mpr (List.mem_cons_self ..)) (by simp)
  | x :: a, [], _, _, h => absurd ((h x).mp (List.mem_cons_self ..)) (by simp)
  | x :: a, y :: b, ha, hb, h => by
    have a1 := List.pairwise_cons.mp ha
    have b1 := List.pairwise_cons.mp hb
    have e : x = y := by
      rcases List.mem_cons.mp ((h x).mp (List.mem_cons_self ..)) with e | e
      · exact e
      · rcases List.mem_cons.mp ((h y).mpr (List.mem_cons_self ..)) with f | f
        · exact f.symm
        · have := a1.1 y f
          have := b1.1 x e
          omega
    subst e
    congr 1
    refine rise_uniq a1.2 b1.2 fun z => ⟨fun hz => ?_, fun hz => ?_⟩
    · rcases List.mem_cons.mp ((h z).mp (List.mem_cons_of_mem _ hz)) with e | e
      · have := a1.1 z hz
        omega
      · exact e
    · rcases List.mem_cons.mp ((h z).mpr (List.mem_cons_of_mem _ hz)) with e | e
      · have := b1.1 z hz
        omega
      · exact e
end Kp

/-! The root polynomials up to 420: their steps, their products. -/
namespace Kp
def phi (n : Nat) : List Int := atP (GF n) (LF n)
/-- one of the last number 1, of two numbers or more -/
structure Mon (f : List Int) : Prop where
  two : 2 ≤ f.length
  one : coef f (f.length - 1) = 1
theorem Mon.ne {f : List Int} (h : Mon f) : f ≠ [] := fun e => by
  have := h.two
  rw [e] at this
  exact absurd this (by decide)
theorem Mon.tr {f : List Int} (h : Mon f) : Tr f := fun _ => by
  rw [h.one]
  decide
theorem Mon.l1 {f : List Int} (h : Mon f) : 1 ≤ l1 f := by
  have := coef_l1 f (f.length - 1)
  rw [h.one] at this
  exact this
theorem atP_len {f : List Int} {k : Nat} (h : f ≠ []) : (atP f k).length = (f.length - 1) * k + 1 := by
  unfold atP
  rw [if_neg h, mkL_len]
theorem atP_last {f : List Int} {k : Nat} (h : f ≠ []) (hk : 1 ≤ k) : coef (atP f k) ((atP f k).length - 1) = coef f (f.length - 1) := by
  rw [atP_len h, Nat.add_sub_cancel, coef_atP hk]
  unfold pw
  rw [Nat.mul_mod_left, if_pos rfl, Nat.mul_div_cancel _ (by omega)]
theorem Mon.atP {f : List Int} {k : Nat} (h : Mon f) (hk : 1 ≤ k) : Mon (atP f k) := by
  refine ⟨?_, by rw [atP_last h.ne hk, h.one]⟩
  rw [atP_len h.ne]
  have := h.two
  have := Nat.mul_le_mul (show 1 ≤ f.length - 1 by omega) hk
  omega
theorem trim_l1 (f : List Int) : Kp.l1 (trim f) ≤ Kp.l1 f := by
  have key : ∀ (n : Nat) (f : List Int), Kp.l1 (f.take n) ≤ Kp.l1 f := by
    intro n
    induction n with
    | zero =>
      intro f
      rw [List.take_zero]
      exact Nat.zero_le _
    | succ n ih =>
      intro f
      cases f with
      | nil => exact Nat.le_refl _
      | cons a f =>
        show a.natAbs + Kp.l1 (f.take n) ≤ a.natAbs + Kp.l1 f
        have := ih f
        omega
  exact key _ f
theorem atP_l1 {f : List Int} {k : Nat} (hk : 1 ≤ k) (t : Tr f) : Kp.l1 (Kp.atP f k) ≤ Kp.l1 f := by
  rw [← wide_eq hk t, ← l1_wide k f]
  exact trim_l1 _
theorem atP_val {f : List Int} {k : Nat} (x : Int) (hk : 1 ≤ k) (t : Tr f) : valP x (Kp.atP f k) = valP (x ^ k) f := by
  rw [← val_wide x hk, ← wide_eq hk t]
  -- the value doesn't see noughts at the end
  have key : ∀ (g h : List Int), (∀ m, coef g m = coef h m) → valP x g = valP x h := by
    intro g
    induction g with
    | nil =>
      intro h
      induction h with
      | nil => exact fun _ => rfl
      | cons b h ih =>
        intro e
        have e0 := e 0
        have := ih fun m => by
          have := e (m + 1)
          rw [coef_cons, coef_nil] at this
          rw [coef_nil]
          exact this
        rw [coef_nil, coef_cons0] at e0
        show (0 : Int) = b + x * valP x h
        rw [← this, ← e0]
        show (0 : Int) = 0 + x * 0
        omega
    | cons a g ih =>
      intro h e
      cases h with
      | nil =>
        have e0 := e 0
        have := ih [] fun m => by
          have := e (m + 1)
          rw [coef_cons, coef_nil] at this
          rw [coef_nil]
          exact this
        rw [coef_nil, coef_cons0] at e0
        show a + x * valP x g = 0
        rw [this, e0]
        show (0 : Int) + x * 0 = 0
        omega
      | cons b h =>
        have e0 := e 0
        rw [coef_cons0, coef_cons0] at e0
        have := ih h fun m => by
          have := e (m + 1)
          rwa [coef_cons, coef_cons] at this
        show a + x * valP x g = b + x * valP x h
        rw [this, e0]
  exact key _ _ (coef_trim _)
theorem stepF_len (f : List Int) (p : Nat) : (stepF f p).length = (f.length - 1) * (p - 1) + 1 := dec_len _ _
/-- behind one prime -/
theorem chk_step {r : Int × Int} {ps : List (Int × Int)} {f : List Int} (hc : chkA (r :: ps) f = true) (hf : Mon f) : 1 ≤ r.1 ∧ (f.length - 1) * r.1.toNat ≤ 420 ∧ mulK (stepF f r.1.toNat) f = atP f r.1.toNat ∧ l1 (stepF f r.1.toNat) < BB ∧ chkA ps (stepF f r.1.toNat) = true ∧
    (stepF f r.1.toNat) ≠ [] ∧ coef (stepF f r.1.toNat) ((stepF f r.1.toNat).length - 1) = 1 := by
  unfold chkA at hc
  rw [Bool.and_eq_true, Bool.and_eq_true, Bool.and_eq_true, Bool.and_eq_true, decide_eq_true_iff, decide_eq_true_iff, decide_eq_true_iff, decide_eq_true_iff] at hc
  obtain ⟨c1, c2, c3, c4, c5⟩ := hc
  have hp : 1 ≤ r.1.toNat := by omega
  have f2 := hf.two
  have fl := hf.l1
  generalize r.1.toNat = p at *
  have sl := stepF_len f p
  have sn : stepF f p ≠ [] := fun e => by
    rw [e] at sl
    exact absurd sl (by simp)
  have hm : mulK (stepF f p) f = atP f p := times_at (B := BB) hp sn hf.ne hf.ne (by
    rw [sl]
    have : (f.length - 1) * p = (f.length - 1) * (p - 1) + (f.length - 1) := by
      obtain ⟨q, rfl⟩ : ∃ q, p = q + 1 := ⟨p - 1, by omega⟩
      rw [Nat.add_sub_cancel, Nat.mul_succ]
    omega) c4 c3
  refine ⟨c1, c2, hm, ?_, c5, sn, ?_⟩
  · have := Nat.mul_le_mul_left (l1 (stepF f p)) fl
    omega
  · have l2 := List.length_pos_iff.mpr sn
    have e1 := cv_last sn hf.ne
    rw [← coef_mulK, hm, hf.one, Int.mul_one] at e1
    have e2 := atP_last hf.ne hp
    rw [hf.one, atP_len hf.ne, Nat.add_sub_cancel] at e2
    rw [← e1, ← e2]
    congr 1
    obtain ⟨q, rfl⟩ : ∃ q, p = q + 1 := ⟨p - 1, by omega⟩
    rw [sl, Nat.add_sub_cancel, Nat.mul_succ]
    omega
theorem all_P : ((List.range 420).all fun i => (partedF (i + 1 : Nat)).all fun r => decide (2 ≤ r.1) && decide (r.1 ≤ 420)) = true := by decide +kernel
theorem rows_bd {n : Nat} (h1 : 1 ≤ n) (h2 : n ≤ 420) {r : Int × Int} (hr : r ∈ partedF n) : 2 ≤ r.1 ∧ r.1 ≤ 420 := by
  have h := List.all_eq_true.mp all_P (n - 1) (List.mem_range.mpr (by omega))
  rw [show n - 1 + 1 = n by omega] at h
  have := List.all_eq_true.mp h r hr
  rw [Bool.and_eq_true, decide_eq_true_iff, decide_eq_true_iff] at this
  exact this
theorem chkA_at {n : Nat} (h1 : 1 ≤ n) (h2 : n ≤ 420) : chkA (partedF n) [-1, 1] = true := by
  have h := List.all_eq_true.mp all_A (n - 1) (List.mem_range.mpr (by omega))
  rwa [show n - 1 + 1 = n by omega] at h
/-- the polynomial behind the primes so far -/
def fAt (rows : List (Int × Int)) : List Int := rows.foldl (fun f r => stepF f r.1.toNat) [-1, 1]
structure StP (rest : List (Int × Int)) (f : List Int) : Prop where
  mon : Mon f
  len : f.length ≤ 421
  bd : l1 f < BB
  chk : chkA rest f = true
theorem StP.step {r : Int × Int} {ps : List (Int × Int)} {f : List Int} (s : StP (r :: ps) f) (hr : 2 ≤ r.1) : StP ps (stepF f r.1.toNat) := by
  obtain ⟨c1, c2, c3, c4, c5, c6, c7⟩ := chk_step s.chk s.mon
  have f2 := s.mon.two
  have hp : 2 ≤ r.1.toNat := by omega
  refine ⟨⟨?_, c7⟩, ?_, c4, c5⟩
  · rw [stepF_len]
    have := Nat.mul_le_mul (show 1 ≤ f.length - 1 by omega) (show 1 ≤ r.1.toNat - 1 by omega)
    omega
  · rw [stepF_len]
    have : (f.length - 1) * (r.1.toNat - 1) ≤ (f.length - 1) * r.1.toNat := Nat.mul_le_mul_left _ (by omega)
    omega
theorem stP0 {n : Nat} (h1 : 1 ≤ n) (h2 : n ≤ 420) : StP (partedF n) [-1, 1] := ⟨⟨by decide, by decide⟩, by decide, by decide +kernel, chkA_at h1 h2⟩
theorem stP_end : ∀ (rows : List (Int × Int)) (f : List Int), (∀ r ∈ rows, 2 ≤ r.1) → StP rows f → StP [] (rows.foldl (fun f r => stepF f r.1.toNat) f)
  | [], f, _, s => s
  | r :: rows, f, h, s => stP_end rows (stepF f r.1.toNat) (fun z hz => h z (List.mem_cons_of_mem _ hz)) (s.step (h r (List.mem_cons_self ..)))
theorem GF_ok {n : Nat} (h1 : 1 ≤ n) (h2 : n ≤ 420) : StP [] (GF n) := stP_end _ _ (fun r hr => (rows_bd h1 h2 hr).1) (stP0 h1 h2)
theorem LF_le (n : Nat) : LF n ≤ n := by
  have key : ∀ (rows : List (Int × Int)) (m : Nat), rows.foldl (fun l r => l / r.1.toNat) m ≤ m := by
    intro rows
    induction rows with
    | nil => exact fun m => Nat.le_refl m
    | cons r rows ih => exact fun m => Nat.le_trans (ih _) (Nat.div_le_self _ _)
  exact key _ n

/-! ### all divisors' products -/
def rowOf (i : Nat) : Int × Nat × Nat := eT.getD i (0, 0, 0)
theorem eT_at {i : Nat} (h : i < 420) : eT.getD i (0, 0, 0) = eval1 (i + 1) := by
  unfold eT
  rw [List.getD_eq_getElem?_getD, List.getElem?_map, List.getElem?_range h]
  rfl
theorem chkD_at {d : Nat} (h1 : 1 ≤ d) (h2 : d ≤ 420) : chkD d = true := by
  have h := List.all_eq_true.mp all_D (d - 1) (List.mem_range.mpr (by omega))
  rwa [show d - 1 + 1 = d by omega] at h
theorem LF_pos {d : Nat} (h1 : 1 ≤ d) (h2 : d ≤ 420) : 1 ≤ LF d := by
  have h := chkD_at h1 h2
  unfold chkD at h
  rw [Bool.and_eq_true, Bool.and_eq_true, Bool.and_eq_true, decide_eq_true_iff, decide_eq_true_iff, decide_eq_true_iff, decide_eq_true_iff] at h
  exact h.2.2.2
theorem phi_mon {d : Nat} (h1 : 1 ≤ d) (h2 : d ≤ 420) : Mon (phi d) := (GF_ok h1 h2).mon.atP (LF_pos h1 h2)
theorem phi_l1 {d : Nat} (h1 : 1 ≤ d) (h2 : d ≤ 420) : l1 (phi d) ≤ l1 (GF d) := atP_l1 (LF_pos h1 h2) (GF_ok h1 h2).mon.tr
theorem phi_val {d : Nat} (h1 : 1 ≤ d) (h2 : d ≤ 420) (x : Int) : valP x (phi d) = valP (x ^ LF d) (GF d) := atP_val x (LF_pos h1 h2) (GF_ok h1 h2).mon.tr
theorem phi_len {d : Nat} (h1 : 1 ≤ d) (h2 : d ≤ 420) : (phi d).length - 1 = ((GF d).length - 1) * LF d := by
  unfold phi
  rw [atP_len (GF_ok h1 h2).mon.ne, Nat.add_sub_cancel]
theorem vR3_of : ∀ (l : List Nat), (∀ i ∈ l, i < 420) → (vR3 (l.map fun i => eT.getD i (0, 0, 0))).1 = valR BB (l.map fun i => phi (i + 1)) ∧ l1R (l.map fun i => phi (i + 1)) ≤ (vR3 (l.map fun i => eT.getD i (0, 0, 0))).2.1 ∧ (vR3 (l.map fun i => eT.getD i (0, 0, 0))).2.2 = lenR (l.map fun i => phi (i + 1))
  | [], _ => ⟨rfl, Nat.le_refl _, rfl⟩
  | i :: l, h => by
    obtain ⟨a, b, c⟩ := vR3_of l fun j hj => h j (List.mem_cons_of_mem _ hj)
    have hi := h i (List.mem_cons_self ..)
    rw [List.map_cons, List.map_cons, eT_at hi]
    refine ⟨?_, ?_, ?_⟩
    · show (vR3 _).1 * valP _ (GF (i + 1)) = valR BB _ * valP BB (phi (i + 1))
      rw [a, phi_val (by omega) (by omega)]
    · show l1R _ * l1 (phi (i + 1)) ≤ (vR3 _).2.1 * l1 (GF (i + 1))
      exact Nat.mul_le_mul b (phi_l1 (by omega) (by omega))
    · show (vR3 _).2.2 + ((GF (i + 1)).length - 1) * LF (i + 1) = lenR _ + ((phi (i + 1)).length - 1)
      rw [c, phi_len (by omega) (by omega)]
theorem dvs_lt {d i : Nat} (h : i ∈ dvs d) : i < d := List.mem_range.mp (List.mem_filter.mp h).1
/-- the product of all divisors' polynomials -/
theorem phi_prod {d : Nat} (h1 : 1 ≤ d) (h2 : d ≤ 420) : prodR ((dvs d).map fun i => phi (i + 1)) = xd1 d ∧ l1R ((dvs d).map fun i => phi (i + 1)) < BB := by
  have h := chkD_at h1 h2
  unfold chkD at h
  rw [Bool.and_eq_true, Bool.and_eq_true, Bool.and_eq_true, decide_eq_true_iff, decide_eq_true_iff, decide_eq_true_iff, decide_eq_true_iff] at h
  obtain ⟨c1, c2, c3, _⟩ := h
  have hlt : ∀ i ∈ dvs d, i < 420 := fun i hi => by have := dvs_lt hi; omega
  obtain ⟨a, b, c⟩ := vR3_of (dvs d) hlt
  refine ⟨prod_xd1 (B := BB) h1 (fun g hg => ?_) (by rw [← c, c3]) (by omega) (by rw [← a, c1]), by omega⟩
  obtain ⟨i, hi, rfl⟩ := List.mem_map.mp hg
  have := hlt i hi
  exact (phi_mon (by omega) (by omega)).ne
theorem l1R_drop {l : List (List Int)} (h : ∀ g ∈ l, 1 ≤ l1 g) : ∀ k, l1R (l.drop k) ≤ l1R l := by
  induction l with
  | nil =>
    intro k
    rw [List.drop_nil]
    exact Nat.le_refl _
  | cons g r ih =>
    intro k
    cases k with
    | zero => exact Nat.le_refl _
    | succ k =>
      have := ih (fun z hz => h z (List.mem_cons_of_mem _ hz)) k
      have h2 := Nat.mul_le_mul_left (l1R r) (h g (List.mem_cons_self ..))
      show l1R (r.drop k) ≤ l1R r * l1 g
      omega
/-- n's divisors, rising -/
def dvL (n : Nat) : List Nat := (dvs n).map fun i => i + 1
theorem dvL_rise (n : Nat) : (dvL n).Pairwise (· < ·) := by
  unfold dvL dvs
  rw [List.pairwise_map]
  exact (List.Pairwise.filter _ List.pairwise_lt_range).imp fun h => by omega
theorem dvL_mem {n x : Nat} (h : 1 ≤ n) : x ∈ dvL n ↔ x ∣ n := by
  unfold dvL dvs
  rw [List.mem_map]
  constructor
  · rintro ⟨i, hi, rfl⟩
    rw [List.mem_filter, decide_eq_true_iff] at hi
    exact Nat.dvd_of_mod_eq_zero hi.2
  · intro hx
    have := Nat.le_of_dvd (by omega) hx
    have x0 : 0 < x := Nat.pos_of_dvd_of_pos hx (by omega)
    refine ⟨x - 1, ?_, by omega⟩
    rw [List.mem_filter, decide_eq_true_iff, List.mem_range, Nat.sub_add_cancel x0]
    exact ⟨by omega, Nat.mod_eq_zero_of_dvd hx⟩
/-- those of n's divisors to the i-th that divide the i-th are all its divisors -/
theorem dvL_below {n i d : Nat} (hn : 1 ≤ n) (hi : (dvL n)[i]? = some d) : ((dvL n).take (i + 1)).filter (fun e => decide (d % e = 0)) = dvL d := by
  have hd := (dvL_mem hn).mp (List.mem_of_getElem? hi)
  have d1 : 1 ≤ d := Nat.pos_of_dvd_of_pos hd (by omega)
  obtain ⟨h1, h2⟩ := List.getElem?_eq_some_iff.mp hi
  refine rise_uniq (List.Pairwise.filter _ ((dvL_rise n).sublist (List.take_sublist _ _))) (dvL_rise d) fun x => ?_
  rw [dvL_mem d1, List.mem_filter, decide_eq_true_iff]
  constructor
  · exact fun h => Nat.dvd_of_mod_eq_zero h.2
  · intro hx
    refine ⟨?_, Nat.mod_eq_zero_of_dvd hx⟩
    obtain ⟨k, hk, e⟩ := List.mem_iff_getElem.mp ((dvL_mem hn).mpr (Nat.dvd_trans hx hd))
    have hle := Nat.le_of_dvd (by omega) hx
    have hki : k ≤ i := by
      refine Nat.le_of_not_lt fun q => ?_
      have := List.pairwise_iff_getElem.mp (dvL_rise n) i k h1 hk q
      omega
    rw [List.mem_iff_getElem]
    exact ⟨k, by rw [List.length_take]; omega, by rw [List.getElem_take]; exact e⟩
theorem lenR_mem {g : List Int} : ∀ {l : List (List Int)}, g ∈ l → g.length - 1 ≤ lenR l
  | a :: l, h => by
    show _ ≤ lenR l + (a.length - 1)
    rcases List.mem_cons.mp h with rfl | h
    · omega
    · have := lenR_mem h
      omega
theorem phi_le {d : Nat} (h1 : 1 ≤ d) (h2 : d ≤ 420) : (phi d).length ≤ d + 1 := by
  have h := chkD_at h1 h2
  unfold chkD at h
  rw [Bool.and_eq_true, Bool.and_eq_true, Bool.and_eq_true, decide_eq_true_iff, decide_eq_true_iff, decide_eq_true_iff, decide_eq_true_iff] at h
  obtain ⟨_, _, c3, _⟩ := h
  have hlt : ∀ i ∈ dvs d, i < 420 := fun i hi => by have := dvs_lt hi; omega
  obtain ⟨_, _, c⟩ := vR3_of (dvs d) hlt
  have hm : d - 1 ∈ dvs d := by
    unfold dvs
    rw [List.mem_filter, List.mem_range, decide_eq_true_iff, Nat.sub_add_cancel h1]
    exact ⟨by omega, Nat.mod_self d⟩
  have := lenR_mem (List.mem_map_of_mem (f := fun i => phi (i + 1)) hm)
  rw [← c, c3] at this
  rw [show d - 1 + 1 = d by omega] at this
  omega
theorem phi_bd {d : Nat} (h1 : 1 ≤ d) (h2 : d ≤ 420) : l1 (phi d) < BB := Nat.lt_of_le_of_lt (phi_l1 h1 h2) (GF_ok h1 h2).bd
end Kp

/-! d.keys() of a dict whose keys are pairs of ints, and sorted(d.keys()). -/
namespace Kp
open PySem PySem.Spec PyProof.Rows L2
/-- the view that d.keys() gives -/
def keysO (p d : Addr) : HO := .ext fun h => PySem.W.KdlKeysView h p d
theorem keysO_ok {P : Program} {w : World} {H : Hp} {h : Heap} {p d : Addr} (e : h.get? p = some { cls := .type "dict_keys", data := .fields #[.ref d] }) : ObjOk P w H h p (keysO p d) := by
  refine ⟨⟨_, e, rfl, rfl⟩, ⟨_, e⟩, fun h1 h2 x k => ?_⟩
  obtain ⟨o, ho, r⟩ := x
  exact ⟨o, k o ho, r⟩
theorem keys_meets {prog : Program} {w : World} {d : Addr} {es : Array DictEntry} {ep : Nat} (hd : (d == sysModules) = false) :
    MeetsIn prog w (Builtin.«dict.keys» ⟨[.ref d], []⟩) (fun _ R s => s.heap.DictRaw d es ep ∧ R (.ok (.ret (.ref s.heap.objs.size))) { s with heap := s.heap.push { cls := .type "dict_keys", data := .fields #[.ref d] } }) := by
  refine .of_wp fun A R s hmh => ?_
  obtain ⟨hm, h⟩ := hmh
  unfold Builtin.«dict.keys»
  refine wpAny_bind ?_; unfold Builtin.Dict.noArgs
  refine wpAny_bind (wpAny_notOrdered_dict hm.typeIs ?_); show wpAny _ _ (pure d) _ _ s
  refine wpAny_pure ?_; show wpAny _ _ (Builtin.Dict.showsAll d >>= _) _ _ s
  unfold Builtin.Dict.showsAll; rw [if_neg (by rw [hd]; exact Bool.false_ne_true)]
  refine wpAny_bind (wpAny_pure ?_); exact wpAny_bind (wpAny_newObj_type (wpAny_pure ⟨_, rfl, h⟩))
section
variable {X : Cx}
def rKeysT : V → List V → Hp → VK → Prop := fun x xs H Q => ∃ (a : Addr) (kvs : List (List L2.Key × V)), x = .ref a ∧ xs = [] ∧ H a = some (.dT kvs) ∧ ∀ p, H p = none → Q (.ref p) (upd H p (keysO p a))
theorem mt_keysT : MtR X "dict.keys" rKeysT := by
  intro pins s σ H x xs v us Q I rx rxs h
  obtain ⟨a, kvs, rfl, rfl, ha, q⟩ := h
  cases rx; cases rxs
  obtain ⟨z, hd, xs', rel, o, es, ep, ho, hx, hdat, _⟩ := L2.dt_of I.hok ha
  have hm : s.heap.DictRaw a es ep := ⟨o, ho, hx, hdat⟩
  refine PySem.call_meetsIn PySem.F.slot_dict_keys hm.typeIs PySem.F.entry_dict_keys (PySem.F.args_dict_keys_1 _) (keys_meets (es := es) (ep := ep) hd) ⟨hm, ?_⟩
  exact ⟨.ref s.heap.objs.size, upd H s.heap.objs.size (keysO s.heap.objs.size a), I.laid (t' := s.toks) (fun b u e => Heap.get?_push_of_some _ e) (Nat.le_refl _) (keysO_ok (Heap.get?_push_size _ rfl)), rfl, q _ (I.hok.fresh (Nat.le_refl _))⟩
end

/-! ### sorted of that -/
section
open SrtO
variable {prog : Program} {w : World} {A : Around} {E : Value → Shared → Prop} {s : Shared} {r d : Addr} {es : Array DictEntry} {ep : Nat} {k : Value → Int × Int}
/-- what is collected out of the view, laid behind all that stood -/
theorem view_collect {R : List Value → Shared → Prop} (hh : A.handled = none) (hv : PySem.W.KdlKeysView s.heap r d) (hm : s.heap.DictRaw d es ep) (hn : es.size ≤ sizeLine)
    (h : ∀ (h' : Heap) (tk : Nat) (acc : Array Value), (∀ b o, s.heap.get? b = some o → h'.get? b = some o) → s.heap.objs.size ≤ h'.objs.size → PySem.ItemsOf (fun i v => ∃ hi : i < es.size, v = es[i].key) acc es.size → R acc.toList { s with heap := h', toks := tk }) :
    wpAny (model prog w) A (collect (.ref r)) R E s := by
  have src := PySem.KdlSrc.rawKeys (prog := prog) (w := w) (r := r) (d := d) (es := es) (ep := ep)
  have there := src.there _ ⟨hv, hm⟩
  unfold collect; refine wpAny_bind (wpAny_runValue (codeAny_builtin entry_proto_collect' ?_)); rw [Around.under_plainId PySem.F.plain_proto_collect _]
  generalize hS : s.heap.objs.size = S
  show wpAny _ A.in1 (newList [] >>= fun l => again (.builtin "list.__iadd__" ⟨[l, .ref r], []⟩)) _ _ s; refine wpAny_bind (wpAny_newObj_type ?_)
  rw [hS]; refine wpAny_pure ⟨plainId_quiet PySem.F.plain_list_iadd _, codeAny_builtin entry_list_iadd' ?_⟩; rw [Around.under_plainId PySem.F.plain_list_iadd _]
  show wpAny _ A.in1 (Builtin.List.listExtendWith (.ref S) (.ref r) (.ref S)) _ _ _
  have hL : (s.heap.push (seqObj "list" #[] 0)).get? S = some { cls := .type "list", data := .seq #[] 0 } := by
    rw [← hS]
    exact Heap.get?_push_size _ rfl
  have key := PySem.W.kdl_extend (A := A) (s := { s with heap := s.heap.push (seqObj "list" #[] 0) })
    (R := fun (q : Result) (s2 : Shared) => ∃ (h2 : Heap) (t2 : Nat) (ac : Array Value) (c2 : Nat), q = .ok (.ret (.ref S)) ∧ s2 = { s with heap := h2, toks := t2 } ∧ (∀ b o, s.heap.get? b = some o → h2.get? b = some o) ∧ h2.get? S = some (seqObj "list" ac c2) ∧ PySem.ItemsOf (fun i v => ∃ hi : i < es.size, v = es[i].key) ac es.size)
    src hh (src.keep _ _ ⟨hv, hm⟩ fun b _ o e => Heap.get?_push_of_some _ e) S (Nat.ne_of_gt (show r < S from hS ▸ there.1)) (Nat.ne_of_gt (show d < S from hS ▸ there.2)) (.ref S) 0 hL
    (fun h2 t2 ac c2 k2 g2 i2 => ⟨h2, t2, ac, c2, rfl, rfl, fun b o e => k2 b o (Nat.ne_of_lt (show b < S from hS ▸ Heap.lt_size e)) (Heap.get?_push_of_some _ e), g2, i2⟩) hn
  have fin : ∀ (h2 : Heap) (t2 : Nat) (ac : Array Value) (c2 : Nat), (∀ b o, s.heap.get? b = some o → h2.get? b = some o) → h2.get? S = some (seqObj "list" ac c2) → PySem.ItemsOf (fun i v => ∃ hi : i < es.size, v = es[i].key) ac es.size → R ac.toList { s with heap := h2, toks := t2 } := fun h2 t2 ac c2 k2 g2 i2 =>
    h h2 t2 ac k2 (Nat.le_of_lt (hS ▸ Heap.lt_size g2)) i2
  refine wpAny_mono key (fun f s2 x => ?_) fun e s2 x => ?_
  · cases f with
    | done f =>
      obtain ⟨h2, t2, ac, c2, e, rfl, k2, g2, i2⟩ := x
      cases e
      show wpAny _ A (load S >>= _) _ _ _
      exact wpAny_bind (wpAny_load g2 (wpAny_pure (fin h2 t2 ac c2 k2 g2 i2)))
    | again c =>
      refine ⟨x.1, codeAny_mono x.2 fun q s3 y => ?_⟩
      obtain ⟨h2, t2, ac, c2, rfl, rfl, k2, g2, i2⟩ := y
      show wpAny _ A (load S >>= _) _ _ _
      exact wpAny_bind (wpAny_load g2 (wpAny_pure (fin h2 t2 ac c2 k2 g2 i2)))
  · obtain ⟨_, _, _, _, z, _⟩ := x
    cases z
theorem sorted_view {Q : Value → Shared → Prop} (hh : A.handled = none) (hv : PySem.W.KdlKeysView s.heap r d) (hm : s.heap.DictRaw d es ep) (hn : es.size ≤ sizeLine) (hp : ∀ v ∈ es.toList.map (·.key), Srt.IsPair s.heap v (k v).1 (k v).2)
    (h : ∀ (h' : Heap) (tk : Nat) (dd : Addr) (out : List Value), Srtd (fun v u => lexB (k v) (k u)) out → Stb (fun v u => lexB (k v) (k u)) out (es.toList.map (·.key)) → (∀ b o, s.heap.get? b = some o → h'.get? b = some o) → s.heap.objs.size ≤ dd → (∃ n, h'.get? dd = some (seqObj "list" out.toArray n)) → Q (.ref dd) { s with heap := h', toks := tk }) :
    wpAny (model prog w) A (call (.builtin "sorted") [.ref r]) Q E s := by
  refine PySem.Calls.call_function_entry kind_sorted plain_sorted entry_sorted (args_sorted1 _) ?_
  unfold Builtin.«sorted»; refine wpAny_bind (m := checkCount "sorted" 1 1 _) (wpAny_pure ?_)
  refine wpAny_bind (view_collect hh hv hm hn fun h' tk acc hk szs hacc => ?_)
  have ev : acc.toList = es.toList.map (·.key) := by
    refine List.ext_getElem? fun j => ?_
    rw [List.getElem?_map]
    cases hj : acc.toList[j]? with
    | none =>
      have h1 := List.getElem?_eq_none_iff.mp hj
      have h2 : acc.toList.length = es.size := by rw [Array.length_toList]; exact hacc.1
      rw [List.getElem?_eq_none (by rw [Array.length_toList]; omega)]
      rfl
    | some v =>
      obtain ⟨hi, hv⟩ := hacc.2 j v (by rw [← Array.getElem?_toList]; exact hj)
      rw [Array.getElem?_toList, Array.getElem?_eq_getElem hi, hv]
      rfl
  rw [ev]
  generalize es.toList.map (·.key) = vs at *
  have hz : vs.length ≤ sizeLine := by
    rw [← ev, Array.length_toList, hacc.1]
    exact hn
  refine wpAny_bind (wpAny_newList ?_ hz)
  have hoL : (h'.push (seqObj "list" vs.toArray 0)).get? h'.objs.size = some (seqObj "list" vs.toArray 0) := Heap.get?_push_size _ rfl
  have old : ∀ b o, s.heap.get? b = some o → b ≠ h'.objs.size ∧ (h'.push (seqObj "list" vs.toArray 0)).get? b = some o := fun b o e => ⟨Nat.ne_of_lt (Heap.lt_size (hk b o e)), Heap.get?_push_of_some _ (hk b o e)⟩
  refine wpAny_bind (wpAny_holding (wpAny_call_entry slot_list_sort ⟨_, hoL, rfl⟩ entry_list_sort (list_sort_ord (s := { s with heap := h'.push (seqObj "list" vs.toArray 0), toks := tk }) (swo_lex k) hoL hz (fun h2 => ?_) fun out hs hb => ⟨_, rfl, ?_⟩) (args_list_sort _)))
  · refine pairs_sortableO (by omega) (fun v hm => (hp v hm).keeps fun b o e _ => (old b o e).2) fun o e => ?_
    have e' : some o = some (seqObj "list" vs.toArray 0) := e.symm.trans hoL
    cases e'
    exact fun c => absurd (Value.type.inj c) (by decide)
  · refine wpAny_pure ⟨_, rfl, h _ _ _ out hs hb (fun b o e => ?_) szs (sortedHeap_at hoL)⟩
    obtain ⟨q1, q2⟩ := old b o e
    rw [← q2]
    exact sortedHeap_old q1 (Heap.lt_size q2)
end

/-! ### as a rule: keys pairs of ints -/
abbrev kP (e : Int × Int) : List L2.Key := [Sum.inl e.1, Sum.inl e.2]
/-- sorted(d.keys()): the keys' own tuples, by their ints -/
def rSortKeys : List V → Hp → VK → Prop := fun vs H Q => ∃ (p a : Addr) (ks : List ((Int × Int) × V)), vs = [.ref p] ∧ H p = some (keysO p a) ∧ H a = some (.dT (ks.map fun e => (kP e.1, e.2))) ∧
  ∀ (zs : List (Addr × Int × Int)) (l : Addr), (zs.map (·.2)).Perm (ks.map (·.1)) → (zs.map (·.2)).Pairwise (fun x y => SrtO.lexB y x = false) → (∀ z ∈ zs, H z.1 = some (.tup [.int z.2.1, .int z.2.2])) → H l = none → Q (.ref l) (upd H l (.lst (zs.map fun z => V.ref z.1)))
/-- the pair that stands at v -/
def pairOf (H : Hp) (v : Value) : Int × Int := match v with
  | .ref a => match H a with
    | some (.tup [.int i, .int j]) => (i, j)
    | _ => (0, 0)
  | _ => (0, 0)
theorem pairOf_at {H : Hp} {a : Addr} {i j : Int} (h : H a = some (.tup [.int i, .int j])) : pairOf H (.ref a) = (i, j) := by
  unfold pairOf
  simp only [h]
theorem map_of_paired {α β γ : Type} {F : α → β → Prop} {f : α → γ} {g : β → γ} (h : ∀ a b, F a b → f a = g b) : ∀ {l : List α} {m : List β}, Paired F l m → l.map f = m.map g
  | _, _, .nil => rfl
  | _, _, .cons a r => by rw [List.map_cons, List.map_cons, h _ _ a, map_of_paired h r]
theorem refs_of : ∀ {out : List Value}, (∀ v ∈ out, ∃ a, v = Value.ref a) → ∃ as : List Addr, out = as.map Value.ref
  | [], _ => ⟨[], rfl⟩
  | v :: out, h => by
    obtain ⟨a, rfl⟩ := h v (List.mem_cons_self ..)
    obtain ⟨as, rfl⟩ := refs_of (out := out) fun z hz => h z (List.mem_cons_of_mem _ hz)
    exact ⟨a :: as, rfl⟩
theorem vals_refsK : ∀ as : List Addr, Vals (as.map V.ref) (as.map Value.ref)
  | [] => .nil
  | _ :: r => .cons rfl (vals_refsK r)
section
variable {X : Cx}
theorem cr_sortedKeys (hc : X.calm = true) : CallR X (.builtin "sorted") rSortKeys := by
  intro pins s σ H vs us Q I r h
  obtain ⟨p, a, ks, rfl, hp, ha, q⟩ := h
  obtain ⟨u, rfl, ru⟩ := vals1 r
  obtain rfl : u = Value.ref p := ru
  have view : PySem.W.KdlKeysView s.heap p a := (show ObjOk X.prog X.w H s.heap p (keysO p a) from I.hok p _ hp).1
  obtain ⟨z, hd, xs', rel, o, es, ep, ho, hx, hdat, hes, his, hn⟩ := L2.dt_of I.hok ha
  have hm : s.heap.DictRaw a es ep := ⟨o, ho, hx, hdat⟩
  have l1 := Paired.length rel
  have l2 : es.size = xs'.length := size_of_entries hes
  rw [List.length_map] at l1 z
  have ekeys : es.toList.map (·.key) = (xs'.map fun x => x.2.1).map Value.ref := by
    rw [hes, List.map_map, List.map_map]
    rfl
  -- each key's tuple
  have tup : ∀ b ∈ xs'.map (fun x => x.2.1), ∃ e ∈ ks, H b = some (.tup [.int e.1.1, .int e.1.2]) := fun b hb => by
    obtain ⟨x, hxm, rfl⟩ := List.mem_map.mp hb
    obtain ⟨j, hj⟩ := List.mem_iff_getElem?.mp hxm
    obtain ⟨e0, he0, r1, r2, r3⟩ := L2.DX.pget rel hj
    rw [List.getElem?_map] at he0
    obtain ⟨e, he, rfl⟩ := Option.map_eq_some_iff.mp he0
    exact ⟨e, List.mem_of_getElem? he, r2⟩
  have keyl : ((xs'.map fun x => x.2.1).map Value.ref).map (pairOf H) = ks.map (·.1) := by
    rw [List.map_map, List.map_map]
    refine (List.ext_getElem? fun j => ?_)
    rw [List.getElem?_map, List.getElem?_map]
    cases hj : xs'[j]? with
    | none =>
      rw [List.getElem?_eq_none (by have := List.getElem?_eq_none_iff.mp hj; omega)]
      rfl
    | some x =>
      obtain ⟨e0, he0, r1, r2, r3⟩ := L2.DX.pget rel hj
      rw [List.getElem?_map] at he0
      obtain ⟨e, he, rfl⟩ := Option.map_eq_some_iff.mp he0
      rw [he]
      exact congrArg some (pairOf_at r2)
  refine sorted_view (k := pairOf H) (I.ok.hd hc) view hm (by rw [l2, ← l1]; exact z) (fun v hv => ?_) fun h' tk dd out h1 h2 kp hdd hout => ?_
  · rw [ekeys] at hv
    obtain ⟨b, hb, rfl⟩ := List.mem_map.mp hv
    obtain ⟨e, _, hb2⟩ := tup b hb
    obtain ⟨_, its2, r2, o2, ho2, hc2, n2, hd2⟩ := I.hok _ _ hb2
    obtain ⟨u1, u2, rfl, ri, rj⟩ := vals2 r2
    obtain ⟨t1, rfl⟩ := ri
    obtain ⟨t2, rfl⟩ := rj
    rw [pairOf_at hb2]
    exact ⟨b, o2, t1, t2, n2, rfl, ho2, hc2, hd2⟩
  · rw [ekeys] at h2
    obtain ⟨as, rfl⟩ := refs_of (out := out) fun v hv => by
      obtain ⟨b, _, e⟩ := List.mem_map.mp (h2.perm.mem_iff.mp hv)
      exact ⟨b, e.symm⟩
    have mem : ∀ b ∈ as, ∃ e ∈ ks, H b = some (.tup [.int e.1.1, .int e.1.2]) := fun b hb => by
      obtain ⟨c, hcm, e⟩ := List.mem_map.mp (h2.perm.mem_iff.mp (List.mem_map_of_mem hb))
      cases e
      exact tup _ hcm
    have e2 : (as.map fun b => (b, pairOf H (.ref b))).map (·.2) = (as.map Value.ref).map (pairOf H) := by
      rw [List.map_map, List.map_map]
      rfl
    have e1 : (as.map fun b => (b, pairOf H (.ref b))).map (fun z => V.ref z.1) = as.map V.ref := by
      rw [List.map_map]
      rfl
    obtain ⟨n, hn2⟩ := hout
    have hln : (as.map V.ref).length ≤ sizeLine := by
      have := h2.perm.length_eq
      rw [List.length_map, List.length_map, List.length_map] at this
      rw [List.length_map, this, ← l1]
      exact z
    refine ⟨.ref dd, upd H dd (.lst (as.map V.ref)), I.laid (t' := tk) kp hdd ⟨hln, as.map Value.ref, n, vals_refsK as, hn2⟩, rfl, ?_⟩
    rw [← e1]
    refine q _ dd ?_ ?_ (fun y hy => ?_) (I.hok.fresh hdd)
    · rw [e2, ← keyl]
      exact h2.perm.map _
    · rw [e2, List.pairwise_map]
      exact h1
    · obtain ⟨b, hb, rfl⟩ := List.mem_map.mp hy
      obtain ⟨e, _, hb2⟩ := mem b hb
      rw [pairOf_at hb2]
      exact hb2
end
end Kp

/-! Lists of triples of ints; a dict with pairs as keys. -/
namespace Kp
open PySem PySem.Spec PyProof.Rows L2 Evl
abbrev I3 := Int × Int × Int
section
variable {K : PySem.W.Frag} {σ : L2.St} {H H' : Hp} {ta tb te tl to ti : TE} {t : TT} {x y z v : V} {D : Ends} {tu tz : TS} {vs : List Nat}
def Trs (K : PySem.W.Frag) (H : Hp) : List V → List I3 → Prop := Paired fun v r => ∃ t, v = .ref t ∧ SqT K H t [.int r.1, .int r.2.1, .int r.2.2]
theorem Trs.mono {xs : List V} {rows : List I3} (e : Ex H H') (h : Trs K H xs rows) : Trs K H' xs rows := Paired.mapP h fun v r ⟨t, q, s⟩ => ⟨t, q, ex_t e s⟩
theorem Trs.upd {l : Addr} {us ys xs : List V} {rows : List I3} (hl : H l = some (.lst us)) (h : Trs K H xs rows) : Trs K (upd H l (.lst ys)) xs rows := Paired.mapP h fun v r ⟨t, q, s⟩ => ⟨t, q, sqt_upd hl s⟩
theorem Trs.snoc {xs : List V} {rows : List I3} {t : Addr} {a b c : Int} (h : Trs K H xs rows) (ht : SqT K H t [.int a, .int b, .int c]) : Trs K H (xs ++ [.ref t]) (rows ++ [(a, b, c)]) := Paired.snoc h ⟨t, rfl, ht⟩
theorem trs_get : ∀ {xs : List V} {rows : List I3} {i : Nat} {x : V}, Trs K H xs rows → xs[i]? = some x → ∃ r t, rows[i]? = some r ∧ x = .ref t ∧ SqT K H t [.int r.1, .int r.2.1, .int r.2.2]
  | _, _, _, _, .nil, h => by simp at h
  | _, _, 0, _, .cons (b := r) q _, h => by
    obtain ⟨t, q1, q2⟩ := q
    have e := Option.some.inj h
    exact ⟨r, t, rfl, e ▸ q1, q2⟩
  | _, _, i + 1, _, .cons _ q, h => trs_get (i := i) q h
def RetT (K : PySem.W.Frag) (rows : List I3) (H : Hp) (Q : VK) : Prop := ∀ p xs H2, H p = none → Ex H H2 → H2 p = some (.lst xs) → Trs K H2 xs rows → Q (.ref p) H2
def EvT3 (K : PySem.W.Frag) (te : TE) (σ : L2.St) (H : Hp) (rows : List I3) : Prop := ∀ H1, Ex H H1 → ∀ Q : VK, RetT K rows H1 Q → te σ H1 Q
theorem RetT.go {rows : List I3} {Q : VK} (q : RetT K rows H Q) {H1 : Hp} (e : Ex H H1) {p : Addr} {xs : List V} {H2 : Hp} (np : H1 p = none) (e2 : Ex H1 H2) (h : H2 p = some (.lst xs)) (r : Trs K H2 xs rows) : Q (.ref p) H2 := q p xs H2 (fresh_back e np) (e.trans e2) h r
theorem et3_cal {sp : Sp} {vs : List V} {E : XK} {ta : TA} {rows : List I3} (h : EvA ta σ H vs) (hs : ∀ H1, Ex H H1 → ∀ Q : VK, RetT K rows H1 Q → ∀ E : XK, sp vs H1 Q E) : EvT3 K (tCall sp [] E ta) σ H rows := fun H1 e Q q =>
  h H1 e _ fun H2 e2 => by
    show sp (vs ++ []) H2 Q E
    rw [List.append_nil]
    exact hs H2 (e.trans e2) Q (fun p xs H3 hp e3 h3 p3 => q p xs H3 (fresh_back e2 hp) (e2.trans e3) h3 p3) E
theorem q_asgT3 {i : Nat} {rows : List I3} (h : EvT3 K te σ H rows) (k : ∀ p xs H1, H p = none → Ex H H1 → H1 p = some (.lst xs) → Trs K H1 xs rows → tz D (σ.set i (some (.ref p))) H1) : tSeq (tAsg te (gName i)) tz D σ H :=
  h H (Ex.refl H) _ fun p xs H1 np e h1 r => k p xs H1 np e h1 r
/-- [(a, b, c)] -/
theorem et3_one {tr : TA} {a b c : Int} (h : EvA tr σ H [.int a, .int b, .int c]) : EvT3 K (tLst (tCons (tTup tr) tNil)) σ H [(a, b, c)] := fun H1 e Q q => by
  have key := h H1 e (fun vs H2 => vs.length ≤ sizeLine ∧ ∀ t, H2 t = none → [V.ref t].length ≤ sizeLine ∧ ∀ l, (upd H2 t (.tup vs)) l = none → Q (.ref l) (upd (upd H2 t (.tup vs)) l (.lst [.ref t]))) fun H2 e2 => ⟨sz_of (show 3 ≤ 100000 by decide), fun t nt => ⟨sz_of (show 1 ≤ 100000 by decide), fun l nl => by
    have eN : Ex (upd H2 t (.tup [.int a, .int b, .int c])) (upd (upd H2 t (.tup [.int a, .int b, .int c])) l (.lst [.ref t])) := Ex.new nl
    exact q l [.ref t] _ (fresh_back (e2.trans (Ex.new nt)) nl) ((e2.trans (Ex.new nt)).trans eN) upd_same (.cons ⟨t, rfl, SqT.of (eN _ _ upd_same)⟩ .nil)⟩⟩
  exact key
/-- for a, b, c in xs, by its name -/
theorem s_forT3 {a : Addr} {xs : List V} {rows : List I3} {j1 j2 j3 : Nat} (h : Ev tl σ H (.ref a)) (Pv : Nat → L2.St → Hp → Prop) (h0 : ∀ H1, Ex H H1 → Pv 0 σ H1) (hl : ∀ i σ' H', Pv i σ' H' → SqL K H' a xs ∧ Trs K H' xs rows)
    (hs : ∀ i r σ' H', rows[i]? = some r → Pv i σ' H' → tu { D with nx := Pv (i + 1), ct := Pv (i + 1), bk := D.nx } (((σ'.set j1 (some (.int r.1))).set j2 (some (.int r.2.1))).set j3 (some (.int r.2.2))) H') (hd : ∀ σ' H', Pv rows.length σ' H' → D.nx σ' H') :
    tFor (iList K tl) (gTup K 3 (gCons (gName j1) (gCons (gName j2) (gCons (gName j3) gNil)))) tu D σ H :=
  h H (Ex.refl H) _ fun H1 e => ⟨a, rfl, ⟨xs, (hl _ _ _ (h0 H1 e)).1⟩, for_list (xs := xs) Pv (h0 H1 e) (fun i σ' H' _ q => (hl _ _ _ q).1) (fun i x σ' H' hx q => by
    obtain ⟨r, t, hr, rfl, ht⟩ := trs_get (hl _ _ _ q).2 hx
    exact ⟨t, _, rfl, ht, rfl, .int r.1, [.int r.2.1, .int r.2.2], rfl, .int r.2.1, [.int r.2.2], rfl, .int r.2.2, [], rfl, rfl, hs i r σ' H' hr q⟩) (fun σ' H' q => by
    rw [Paired.length (hl _ _ _ (h0 H1 e)).2] at q
    exact hd σ' H' q)⟩
theorem q_forT3 {a : Addr} {xs : List V} {rows : List I3} {j1 j2 j3 : Nat} (h : Ev tl σ H (.ref a)) (Pv : Nat → L2.St → Hp → Prop) (h0 : ∀ H1, Ex H H1 → Pv 0 σ H1) (hl : ∀ i σ' H', Pv i σ' H' → SqL K H' a xs ∧ Trs K H' xs rows)
    (hs : ∀ i r σ' H', rows[i]? = some r → Pv i σ' H' → tu { D with nx := Pv (i + 1), ct := Pv (i + 1), bk := tz D } (((σ'.set j1 (some (.int r.1))).set j2 (some (.int r.2.1))).set j3 (some (.int r.2.2))) H') (hd : ∀ σ' H', Pv rows.length σ' H' → tz D σ' H') :
    tSeq (tFor (iList K tl) (gTup K 3 (gCons (gName j1) (gCons (gName j2) (gCons (gName j3) gNil)))) tu) tz D σ H := s_forT3 (D := { D with nx := tz D }) h Pv h0 hl hs hd
/-- over a new list of triples -/
theorem q_forT3N {rows : List I3} {j1 j2 j3 : Nat} (h : EvT3 K te σ H rows) (Pv : Addr → List V → Nat → L2.St → Hp → Prop) (h0 : ∀ p xs H1, H p = none → Ex H H1 → H1 p = some (.lst xs) → Trs K H1 xs rows → Pv p xs 0 σ H1) (hl : ∀ p xs i σ' H', Pv p xs i σ' H' → SqL K H' p xs ∧ Trs K H' xs rows)
    (hs : ∀ p xs i r σ' H', rows[i]? = some r → Pv p xs i σ' H' → tu { D with nx := Pv p xs (i + 1), ct := Pv p xs (i + 1), bk := tz D } (((σ'.set j1 (some (.int r.1))).set j2 (some (.int r.2.1))).set j3 (some (.int r.2.2))) H') (hd : ∀ p xs σ' H', Pv p xs rows.length σ' H' → tz D σ' H') :
    tSeq (tFor (iList K te) (gTup K 3 (gCons (gName j1) (gCons (gName j2) (gCons (gName j3) gNil)))) tu) tz D σ H :=
  h H (Ex.refl H) _ fun p xs H1 np e hp R => ⟨p, rfl, ⟨xs, sq_of hp⟩, for_list (xs := xs) (Pv p xs) (h0 p xs H1 np e hp R) (fun i σ' H' _ q => (hl _ _ _ _ _ q).1) (fun i x σ' H' hx q => by
    obtain ⟨r, t, hr, rfl, ht⟩ := trs_get (hl _ _ _ _ _ q).2 hx
    exact ⟨t, _, rfl, ht, rfl, .int r.1, [.int r.2.1, .int r.2.2], rfl, .int r.2.1, [.int r.2.2], rfl, .int r.2.2, [], rfl, rfl, hs p xs i r σ' H' hr q⟩) (fun σ' H' q => by
    rw [Paired.length R] at q
    exact hd p xs σ' H' q)⟩
/-- over a new list of pairs, what stood before free to change -/
theorem q_forP2 {rows : List (Int × Int)} {j1 j2 : Nat} (h : EvP K te σ H rows) (Pv : Addr → List V → Nat → L2.St → Hp → Prop) (h0 : ∀ p xs H1, H p = none → Ex H H1 → H1 p = some (.lst xs) → Prs K H1 xs rows → Pv p xs 0 σ H1) (hl : ∀ p xs i σ' H', Pv p xs i σ' H' → SqL K H' p xs ∧ Prs K H' xs rows)
    (hs : ∀ p xs i r σ' H', rows[i]? = some r → Pv p xs i σ' H' → tu { D with nx := Pv p xs (i + 1), ct := Pv p xs (i + 1), bk := tz D } ((σ'.set j1 (some (.int r.1))).set j2 (some (.int r.2))) H') (hd : ∀ p xs σ' H', Pv p xs rows.length σ' H' → tz D σ' H') :
    tSeq (tFor (iList K te) (gTup K 2 (gCons (gName j1) (gCons (gName j2) gNil))) tu) tz D σ H :=
  h H (Ex.refl H) _ fun p xs H1 np e hp R => ⟨p, rfl, ⟨xs, sq_of hp⟩, for_list (xs := xs) (Pv p xs) (h0 p xs H1 np e hp R) (fun i σ' H' _ q => (hl _ _ _ _ _ q).1) (fun i x σ' H' hx q => by
    obtain ⟨r, t, hr, rfl, ht⟩ := prs_get (hl _ _ _ _ _ q).2 hx
    exact ⟨t, _, rfl, ht, rfl, .int r.1, [.int r.2], rfl, .int r.2, [], rfl, rfl, hs p xs i r σ' H' hr q⟩) (fun σ' H' q => by
    rw [Paired.length R] at q
    exact hd p xs σ' H' q)⟩
/-- over a list of triples, a comprehension; its target three names -/
theorem el_lcT3 {a : Addr} {xs : List V} {rows : List I3} {j1 j2 j3 : Nat} (w : I3 → V) (h : Ev tl σ H (.ref a)) (hx : SqL K H a xs) (hp : Trs K H xs rows) (hz : rows.length ≤ 40000)
    (hw : ∀ x y z, wipe ((((wipe σ vs).set j1 (some x)).set j2 (some y)).set j3 (some z)) vs = wipe σ vs)
    (he : ∀ r H1, Ex H H1 → r ∈ rows → Ev te ((((wipe σ vs).set j1 (some (.int r.1))).set j2 (some (.int r.2.1))).set j3 (some (.int r.2.2))) H1 (w r)) :
    EvL (tLc (iList K tl) (gTup K 3 (gCons (gName j1) (gCons (gName j2) (gCons (gName j3) gNil)))) tYes te vs) σ H (rows.map w) := fun H0 e Q q => h H0 e _ fun H1 e1 => ⟨a, rfl, ⟨xs, ex_l (e.trans e1) hx⟩, fun Dl hD =>
  lc_list (xs := xs) (fun n H' => H1 Dl = none ∧ Ex H1 H' ∧ H' Dl = some (.lst ((rows.take n).map w))) ⟨hD, Ex.new hD, upd_same⟩ (fun n H' _ p => ex_l ((e.trans e1).trans p.2.1) hx) (fun n x H' hn p => by
    obtain ⟨p1, p2, p3⟩ := p
    obtain ⟨r, u, hr, rfl, hu⟩ := trs_get (hp.mono ((e.trans e1).trans p2)) hn
    have hm : r ∈ rows := List.mem_of_getElem? hr
    refine ⟨u, _, rfl, hu, rfl, .int r.1, [.int r.2.1, .int r.2.2], rfl, .int r.2.1, [.int r.2.2], rfl, .int r.2.2, [], rfl, rfl, hw _ _ _, ?_⟩
    refine et_yes (H := H') _ (Ex.refl _) _ fun H3 e3 => ?_
    rw [if_pos rfl]
    refine he r H1 (e.trans e1) hm H3 (p2.trans e3) _ fun H4 e4 => ⟨_, e4 Dl _ (e3 Dl _ p3), sz_lt (by rw [List.length_map, List.length_take]; omega), p1, Ex.mut ((p2.trans e3).trans e4) p1, ?_⟩
    rw [upd_same, List.take_add_one, hr, List.map_append]
    rfl) (fun H' p => by
    have q1 := p.2.2
    rw [Paired.length hp, List.take_length] at q1
    exact q Dl H' (fresh_back e1 p.1) (e1.trans p.2.1) q1)⟩
/-- all(a new list of truths) -/
theorem ev_all {bs : List Bool} (h : EvL ta σ H (bs.map V.bl)) : Ev (tCB (rAll K) (tCons ta tNil)) σ H (.bl (bs.all id)) := fun H1 e Q q =>
  h H1 e _ fun p H2 np e2 hp => ⟨p, bs, rfl, sq_of hp, q H2 e2⟩
theorem ev_int1n {b : Bool} {n : Int} (ha : Ev ta σ H (.bl b)) (hn : (if b then 1 else 0) = n) : Ev (tCB (fun xs H Q => (∃ i, xs = [.int i] ∧ Q (.int i) H) ∨ ∃ k, xs = [.bl k] ∧ Q (.int (if k then 1 else 0)) H) (tCons ta tNil)) σ H (.int n) := hn ▸ ev_int1b ha

/-! ### a dict whose keys are pairs -/
abbrev encD (e : (Int × Int) × Int) : List L2.Key × V := (kP e.1, V.int e.2)
def putI (ks : List ((Int × Int) × Int)) (k : Int × Int) (c : Int) : List ((Int × Int) × Int) := if (ks.any fun e => decide (e.1 = k)) = true then ks.map (fun e => if e.1 = k then (e.1, c) else e) else ks ++ [(k, c)]
theorem kP_eq (a b : Int × Int) : kP a = kP b ↔ a = b := by
  constructor
  · intro h
    simp only [kP, List.cons.injEq, Sum.inl.injEq, and_true] at h
    exact Prod.ext h.1 h.2
  · exact fun h => by rw [h]
theorem put_enc (ks : List ((Int × Int) × Int)) (k : Int × Int) (c : Int) : putK (ks.map encD) (kP k) (.int c) = (putI ks k c).map encD := by
  have ha : ((ks.map encD).any fun kv => decide (kv.1 = kP k)) = ks.any fun e => decide (e.1 = k) := by
    rw [List.any_map]
    congr 1
    funext e
    exact decide_eq_decide.mpr (kP_eq e.1 k)
  unfold putK putI
  rw [ha]
  split
  · rw [List.map_map, List.map_map]
    refine List.map_congr_left fun e _ => ?_
    show (if (encD e).1 = kP k then ((encD e).1, V.int c) else encD e) = encD (if e.1 = k then (e.1, c) else e)
    by_cases h : e.1 = k
    · rw [if_pos h, if_pos ((kP_eq _ _).mpr h)]
    · rw [if_neg h, if_neg fun q => h ((kP_eq _ _).mp q)]
  · rw [List.map_append]
    rfl
theorem val_enc : ∀ {ks : List ((Int × Int) × Int)} {k : Int × Int} {c : Int}, (ks.map (·.1)).Nodup → (k, c) ∈ ks → valV (ks.map encD) (kP k) = some (.int c)
  | e :: ks, k, c, hn, hm => by
    rw [List.map_cons, List.nodup_cons] at hn
    rcases List.mem_cons.mp hm with rfl | hm
    · exact valV_pos rfl
    · have ne : e.1 ≠ k := fun z => hn.1 (by rw [z]; exact List.mem_map.mpr ⟨(k, c), hm, rfl⟩)
      rw [List.map_cons, valV_neg fun z => ne ((kP_eq _ _).mp z)]
      exact val_enc hn.2 hm
theorem put_keys (ks : List ((Int × Int) × Int)) (k : Int × Int) (c : Int) (h : (ks.map (·.1)).Nodup) : ((putI ks k c).map (·.1)).Nodup ∧ ∀ e ∈ putI ks k c, e ∈ ks ∨ e = (k, c) := by
  unfold putI
  split
  · have e1 : (ks.map fun e => if e.1 = k then (e.1, c) else e).map (·.1) = ks.map (·.1) := by
      rw [List.map_map]
      refine List.map_congr_left fun e _ => ?_
      show (if e.1 = k then (e.1, c) else e).1 = e.1
      split <;> rfl
    refine ⟨by rw [e1]; exact h, fun e he => ?_⟩
    obtain ⟨f, hf, rfl⟩ := List.mem_map.mp he
    split
    · rename_i q
      rw [q]
      exact .inr rfl
    · exact .inl hf
  · rename_i q
    refine ⟨?_, fun e he => ?_⟩
    · rw [List.map_append]
      refine List.nodup_append.mpr ⟨h, by simp, fun a ha b hb e => q ?_⟩
      obtain ⟨f, hf, rfl⟩ := List.mem_map.mp ha
      have hb : b = k := by simpa using hb
      rw [List.any_eq_true]
      exact ⟨f, hf, decide_eq_true (e.trans hb)⟩
    · rcases List.mem_append.mp he with he | he
      · exact .inl he
      · exact .inr (by simpa using he)
theorem put_len (ks : List ((Int × Int) × Int)) (k : Int × Int) (c : Int) : (putI ks k c).length ≤ ks.length + 1 := by
  unfold putI
  split
  · rw [List.length_map]
    omega
  · rw [List.length_append, List.length_singleton]
    omega
/-- d[a, b] = c -/
theorem s_dput {td t1 t2 tv : TE} {d : Addr} {ks : List ((Int × Int) × Int)} {a b c : Int} (hd : H d = some (.dT (ks.map encD))) (ho : Ev td σ H (.ref d)) (hk : EvA (tCons t1 (tCons t2 tNil)) σ H [.int a, .int b]) (hv : Ev tv σ H (.int c)) (hl : ks.length < 100000)
    (k : ∀ H1, Ex H H1 → D.nx σ (upd H1 d (.dT ((putI ks (a, b) c).map encD)))) : sDPut td (tTup (tCons t1 (tCons t2 tNil))) tv D σ H :=
  hv H (Ex.refl H) _ fun H1 e1 => ho H1 e1 _ fun H2 e2 => hk H2 (e1.trans e2) _ fun H3 e3 => ⟨sz_of (show 2 ≤ 100000 by decide), fun q nq => by
    have e4 : Ex H (upd H3 q (.tup [.int a, .int b])) := ((e1.trans e2).trans e3).trans (Ex.new nq)
    have p := DPut.t (k := kP (a, b)) (v := .int c) (e4 _ _ hd) (b := q) upd_same (by rw [List.length_map]; exact sz_lt hl)
    rw [put_enc] at p
    exact ⟨d, _, rfl, p, k _ e4⟩⟩
/-- d[a, b] -/
theorem ev_dget {td t1 t2 : TE} {d : Addr} {ks : List ((Int × Int) × Int)} {a b c : Int} (hd : H d = some (.dT (ks.map encD))) (hn : (ks.map (·.1)).Nodup) (hm : ((a, b), c) ∈ ks) (ho : Ev td σ H (.ref d)) (hk : EvA (tCons t1 (tCons t2 tNil)) σ H [.int a, .int b]) : Ev (tDGet td (tTup (tCons t1 (tCons t2 tNil)))) σ H (.int c) := fun H1 e Q q =>
  ho H1 e _ fun H2 e2 => hk H2 (e.trans e2) _ fun H3 e3 => ⟨sz_of (show 2 ≤ 100000 by decide), fun t nt => by
    have e4 : Ex H (upd H3 t (.tup [.int a, .int b])) := ((e.trans e2).trans e3).trans (Ex.new nt)
    have g := DGet.t (k := kP (a, b)) (e4 _ _ hd) (b := t) upd_same
    rw [val_enc hn hm] at g
    exact ⟨d, .int c, rfl, g, q _ ((e2.trans e3).trans (Ex.new nt))⟩⟩
/-- the rows that sorted(d.keys()) and d[..] make -/
structure SortedRows (ks : List ((Int × Int) × Int)) (rows : List I3) : Prop where
  perm : (rows.map fun r => ((r.1, r.2.1), r.2.2)).Perm ks
  rise : rows.Pairwise fun x y => x.1 < y.1 ∨ x.1 = y.1 ∧ x.2.1 < y.2.1
/-- [(a, b, d[a, b]) for a, b in sorted(d.keys())] -/
theorem et3_keys {td t3 : TE} {ta1 : TE} {ta2 : TE} {d : Addr} {ks : List ((Int × Int) × Int)} {j1 j2 : Nat} (hd : H d = some (.dT (ks.map encD))) (hn : (ks.map (·.1)).Nodup) (hz : ks.length ≤ 40000) (ho : Ev td σ H (.ref d)) (hw : ∀ x y, wipe (((wipe σ vs).set j1 (some x)).set j2 (some y)) vs = wipe σ vs)
    (he : ∀ a b c H1, Ex H H1 → ((a, b), c) ∈ ks → Ev ta1 (((wipe σ vs).set j1 (some (.int a))).set j2 (some (.int b))) H1 (.int a) ∧ Ev ta2 (((wipe σ vs).set j1 (some (.int a))).set j2 (some (.int b))) H1 (.int b) ∧ Ev t3 (((wipe σ vs).set j1 (some (.int a))).set j2 (some (.int b))) H1 (.int c))
    (Q : VK) (q : ∀ rows, SortedRows ks rows → RetT K rows H Q) :
    tLc (iList K (tCB rSortKeys (tCons (tBM0 K "dict" rKeysT td) tNil))) (gTup K 2 (gCons (gName j1) (gCons (gName j2) gNil))) tYes (tTup (tCons ta1 (tCons ta2 (tCons t3 tNil)))) vs σ H Q :=
  ho H (Ex.refl H) _ fun H1 e1 => ⟨.inr (.inr (.inl ⟨rfl, .inr ⟨_, e1 _ _ hd⟩⟩)), d, _, rfl, rfl, e1 _ _ hd, fun p np => by
    have ep : Ex H1 (upd H1 p (keysO p d)) := Ex.new np
    refine ⟨p, d, ks.map fun e => (e.1, V.int e.2), rfl, upd_same, ?_, fun zs l hperm hsort hz1 nl => ?_⟩
    · rw [List.map_map]
      exact ep _ _ (e1 _ _ hd)
    rw [List.map_map] at hperm
    -- the values
    have hex : ∀ z ∈ zs, ∃ c, (z.2, c) ∈ ks := fun z hz => by
      have h1 : z.2 ∈ ks.map (·.1) := hperm.mem_iff.mp (List.mem_map_of_mem (f := (·.2)) hz)
      obtain ⟨e, he, h2⟩ := List.mem_map.mp h1
      exact ⟨e.2, by rw [← h2]; exact he⟩
    let val (k : Int × Int) : Int := ((ks.find? fun e => decide (e.1 = k)).map (·.2)).getD 0
    have hval : ∀ {k c}, (k, c) ∈ ks → val k = c := by
      intro k c hm
      have := val_enc hn hm
      have key : ∀ {ks : List ((Int × Int) × Int)}, (ks.map (·.1)).Nodup → (k, c) ∈ ks → ks.find? (fun e => decide (e.1 = k)) = some (k, c) := by
        intro ks
        induction ks with
        | nil => exact fun _ h => nomatch h
        | cons e ks ih =>
          intro hn hm
          rw [List.map_cons, List.nodup_cons] at hn
          rw [List.find?_cons]
          rcases List.mem_cons.mp hm with rfl | hm
          · rw [decide_eq_true rfl]
          · have ne : e.1 ≠ k := fun z => hn.1 (by rw [z]; exact List.mem_map.mpr ⟨(k, c), hm, rfl⟩)
            rw [decide_eq_false ne]
            exact ih hn.2 hm
      show ((ks.find? fun e => decide (e.1 = k)).map (·.2)).getD 0 = c
      rw [key hn hm]
      rfl
    have hvm : ∀ z ∈ zs, ((z.2.1, z.2.2), val z.2) ∈ ks := fun z hz => by
      obtain ⟨c, hc⟩ := hex z hz
      rw [hval hc]
      exact hc
    have hlen : zs.length = ks.length := by
      have := hperm.length_eq
      rwa [List.length_map, List.length_map] at this
    have e2 : Ex H1 (upd (upd H1 p (keysO p d)) l (.lst (zs.map fun z => V.ref z.1))) := ep.trans (Ex.new nl)
    generalize hH2 : upd (upd H1 p (keysO p d)) l (.lst (zs.map fun z => V.ref z.1)) = H2 at e2
    have hl2 : H2 l = some (.lst (zs.map fun z => V.ref z.1)) := by rw [← hH2, upd_same]
    have hz2 : ∀ z ∈ zs, H2 z.1 = some (.tup [.int z.2.1, .int z.2.2]) := fun z hz => by
      rw [← hH2]
      exact Ex.new nl _ _ (hz1 z hz)
    refine ⟨l, rfl, ⟨_, sq_of hl2⟩, fun Dl hD => ?_⟩
    refine lc_list (xs := zs.map fun z => V.ref z.1) (fun n H' => H2 Dl = none ∧ Ex H2 H' ∧ ∃ xs, H' Dl = some (.lst xs) ∧ Trs K H' xs ((zs.take n).map fun z => (z.2.1, z.2.2, val z.2))) ⟨hD, Ex.new hD, [], upd_same, .nil⟩ (fun n H' _ p => sq_of (p.2.1 _ _ hl2)) (fun n x H' hx p => ?_) (fun H' p => ?_)
    · obtain ⟨p1, p2, xs, p3, p4⟩ := p
      rw [List.getElem?_map] at hx
      obtain ⟨z, hzn, rfl⟩ := Option.map_eq_some_iff.mp hx
      have hm := List.mem_of_getElem? hzn
      have hzt := p2 _ _ (hz2 z hm)
      refine ⟨z.1, _, rfl, SqT.of hzt, rfl, .int z.2.1, [.int z.2.2], rfl, .int z.2.2, [], rfl, rfl, hw _ _, ?_⟩
      refine et_yes (H := H') _ (Ex.refl _) _ fun H3 e3 => ?_
      rw [if_pos rfl]
      have e03 : Ex H H3 := (e1.trans e2).trans (p2.trans e3)
      obtain ⟨g1, g2, g3⟩ := he z.2.1 z.2.2 (val z.2) H3 e03 (hvm z hm)
      refine g1 H3 (Ex.refl _) _ fun H4 e4 => g2 H4 e4 _ fun H5 e5 => g3 H5 (e4.trans e5) _ fun H6 e6 => ⟨sz_of (show 3 ≤ 100000 by decide), fun T nT => ?_⟩
      have e37 : Ex H' (upd H6 T (.tup [.int z.2.1, .int z.2.2, .int (val z.2)])) := (e3.trans (e4.trans (e5.trans e6))).trans (Ex.new nT)
      have hDl := e37 _ _ p3
      refine ⟨_, hDl, ?_, p1, Ex.mut (p2.trans e37) p1, xs ++ [.ref T], upd_same, ?_⟩
      · refine sz_lt ?_
        rw [Paired.length p4, List.length_map, List.length_take]
        omega
      · have et : zs.take (n + 1) = zs.take n ++ [z] := by rw [List.take_add_one, hzn]; rfl
        rw [et, List.map_append]
        exact ((p4.mono e37).upd hDl).snoc (sqt_upd hDl (SqT.of upd_same))
    · obtain ⟨p1, p2, xs, p3, p4⟩ := p
      rw [List.length_map, List.take_length] at p4
      refine q _ ⟨?_, ?_⟩ Dl xs H' (fresh_back (e1.trans e2) p1) ((e1.trans e2).trans p2) p3 p4
      · rw [List.map_map]
        have e3 : zs.map ((fun r : I3 => ((r.1, r.2.1), r.2.2)) ∘ fun z => (z.2.1, z.2.2, val z.2)) = (zs.map (·.2)).map fun k => (k, val k) := by
          rw [List.map_map]
          rfl
        rw [e3]
        have e4 : ks = (ks.map (·.1)).map fun k => (k, val k) := by
          rw [List.map_map]
          conv => lhs; rw [← List.map_id ks]
          refine List.map_congr_left fun e he => ?_
          show e = (e.1, val e.1)
          rw [hval (k := e.1) (c := e.2) he]
        have hp2 : (zs.map (·.2)).Perm (ks.map (·.1)) := hperm
        have := hp2.map fun k => (k, val k)
        rwa [← e4] at this
      · rw [List.pairwise_map]
        have hnd : (zs.map (·.2)).Nodup := by
          have hp2 : (zs.map (·.2)).Perm (ks.map (·.1)) := hperm
          exact hp2.nodup_iff.mpr hn
        have h3 := List.pairwise_map.mp hsort
        have h4 := List.pairwise_map.mp hnd
        refine (List.Pairwise.and h3 h4).imp fun {x y} h => ?_
        have h5 := SrtO.lexB_no.mp h.1
        have h6 : ¬ (x.2.1 = y.2.1 ∧ x.2.2 = y.2.2) := fun z => h.2 (Prod.ext z.1 z.2)
        show x.2.1 < y.2.1 ∨ x.2.1 = y.2.1 ∧ x.2.2 < y.2.2
        omega⟩
end
end Kp
namespace Kp
open PySem PySem.Spec PyProof.Rows L2 Evl
theorem fits_small {x : Int} (h0 : -100000 ≤ x) (h1 : x ≤ 100000) : PySem.Builtin.Range.rangeFitsLong x = true := by
  unfold PySem.Builtin.Range.rangeFitsLong
  simp only [Bool.and_eq_true, decide_eq_true_eq]
  omega
/-- range(j, n, s), n so many times s as p says -/
theorem rgC_up {j n s p : Int} (h0 : 0 ≤ j) (h1 : j < s) (hn : n = s * p) (hp : 1 ≤ p) (hb : n ≤ 50000) : RgC j n s p.toNat := by
  have hs : 1 ≤ s := by omega
  have sp : s ≤ s * p := by
    have := Int.mul_le_mul_of_nonneg_left hp (show 0 ≤ s by omega)
    omega
  have hp2 : p ≤ s * p := by
    have := Int.mul_le_mul_of_nonneg_right hs (show 0 ≤ p by omega)
    omega
  have hz : PySem.Builtin.Range.rangeSize j n s = p := by
    unfold PySem.Builtin.Range.rangeSize
    rw [if_pos (by omega), if_pos (by omega)]
    have e : n - j - 1 = (s - j - 1) + s * (p - 1) := by
      rw [Int.mul_sub, Int.mul_one]
      omega
    rw [e, Int.add_mul_ediv_left _ _ (by omega), Int.ediv_eq_zero_of_lt (by omega) (by omega)]
    omega
  refine ⟨by omega, by omega, ?_, by rw [hz]; omega⟩
  unfold PySem.Builtin.Range.small
  rw [hz, fits_small (by omega) (by omega), fits_small (by omega) (by omega), fits_small (by omega) (by omega), fits_small (by omega) (by omega), if_pos (by omega), fits_small (by omega) (by omega)]
  simp
section
variable {K : PySem.W.Frag} {σ : L2.St} {H H' : Hp} {ta tb te tl to ti : TE} {x y z v : V} {D : Ends} {tu tz : TS} {vs : List Nat}
/-- for x in range(j, n, s) -/
theorem s_forR3 {tr : TA} {i0 : Nat} {j n s : Int} {m : Nat} (h : EvA tr σ H [.int j, .int n, .int s]) (hr : RgC j n s m) (Pv : Nat → L2.St → Hp → Prop) (h0 : ∀ H1, Ex H H1 → Pv 0 σ H1)
    (hs : ∀ i σ' H', i < m → Pv i σ' H' → tu { D with nx := Pv (i + 1), ct := Pv (i + 1), bk := D.nx } (σ'.set i0 (some (.int (j + (i : Nat) * s)))) H') (hd : ∀ σ' H', Pv m σ' H' → D.nx σ' H') : tFor (iRng3 tr) (gName i0) tu D σ H :=
  h H (Ex.refl H) _ fun H1 e => ⟨j, n, s, m, rfl, hr, for_rangeC Pv (h0 H1 e) (fun i σ' H' hi p => hs i σ' H' hi p) hd⟩
/-- over a new list of pairs, a comprehension -/
theorem el_lcPN {te0 : TE} {rows : List (Int × Int)} {i j : Nat} (w : Int × Int → V) (h : EvP K te0 σ H rows) (hz : rows.length ≤ 40000)
    (hw : ∀ x y, wipe (((wipe σ vs).set i (some x)).set j (some y)) vs = wipe σ vs)
    (he : ∀ r H1, Ex H H1 → r ∈ rows → Ev te (((wipe σ vs).set i (some (.int r.1))).set j (some (.int r.2))) H1 (w r)) :
    EvL (tLc (iList K te0) (gTup K 2 (gCons (gName i) (gCons (gName j) gNil))) tYes te vs) σ H (rows.map w) := fun H0 e Q q => h H0 e _ fun a xs H1 na e1 ha pr => ⟨a, rfl, ⟨xs, sq_of ha⟩, fun Dl hD =>
  lc_list (xs := xs) (fun n H' => H1 Dl = none ∧ Ex H1 H' ∧ H' Dl = some (.lst ((rows.take n).map w))) ⟨hD, Ex.new hD, upd_same⟩ (fun n H' _ p => sq_of (p.2.1 _ _ ha)) (fun n x H' hn p => by
    obtain ⟨p1, p2, p3⟩ := p
    obtain ⟨r, u, hr, rfl, hu⟩ := prs_get (pr.mono p2) hn
    have hm : r ∈ rows := List.mem_of_getElem? hr
    refine ⟨u, _, rfl, hu, rfl, .int r.1, [.int r.2], rfl, .int r.2, [], rfl, rfl, hw _ _, ?_⟩
    refine et_yes (H := H') _ (Ex.refl _) _ fun H3 e3 => ?_
    rw [if_pos rfl]
    refine he r H1 (e.trans e1) hm H3 (p2.trans e3) _ fun H4 e4 => ⟨_, e4 Dl _ (e3 Dl _ p3), sz_lt (by rw [List.length_map, List.length_take]; omega), p1, Ex.mut ((p2.trans e3).trans e4) p1, ?_⟩
    rw [upd_same, List.take_add_one, hr, List.map_append]
    rfl) (fun H' p => by
    have q1 := p.2.2
    rw [Paired.length pr, List.take_length] at q1
    exact q Dl H' (fresh_back e1 p.1) (e1.trans p.2.1) q1)⟩
/-- x = {} -/
theorem q_asgD {i : Nat} (k : ∀ d, H d = none → tz D (σ.set i (some (.ref d))) (upd H d (.dT []))) : tSeq (tAsg tDNewT (gName i)) tz D σ H := fun d nd => k d nd
/-! == of lists of triples -/
def d3 (r : I3) : PyData := .tuple [.int r.1, .int r.2.1, .int r.2.2]
def d3L (rows : List I3) : PyData := .list (rows.map d3)
theorem d3_inj (a b : I3) (e : d3 a = d3 b) : a = b := by
  obtain ⟨a1, a2, a3⟩ := a
  obtain ⟨b1, b2, b3⟩ := b
  simp only [d3, PyData.tuple.injEq, List.cons.injEq, PyData.int.injEq, and_true] at e
  rw [e.1, e.2.1, e.2.2]
theorem d3L_sh (rows : List I3) : SeqAt.shaped (d3L rows) = true := shaped_of (lay_map _ (fun _ => rfl) rows) (Nat.le_trans (Nat.succ_le_succ (dep_map d3 1 (fun _ => Nat.le_refl 1) rows)) (by decide))
theorem d3L_eqv (rs qs : List I3) : PyData.eqv (d3L rs) (d3L qs) = decide (rs = qs) := eqv_dec d3L (fun l => by unfold d3L okD; exact okA_map _ (fun _ => rfl) l) (fun a b e => map_inj d3_inj a b (PyData.list.inj e)) rs qs
theorem dpa_trs : ∀ {xs : List V} {rows : List I3}, Trs K H xs rows → DpAll K H xs (rows.map d3)
  | _, _, .nil => .nil
  | _, _, .cons q r => by
    obtain ⟨t, rfl, q2⟩ := q
    exact .cons (.tup q2 (.cons (.int _) (.cons (.int _) (.cons (.int _) .nil)))) (dpa_trs r)
theorem dp_trs {a : Addr} {xs : List V} {rows : List I3} (h : SqL K H a xs) (p : Trs K H xs rows) : Dp K H (.ref a) (d3L rows) := .lst h (dpa_trs p)
theorem rv_ne3 {p q : Addr} {xs ys : List V} {rs qs : List I3} (h1 : SqL K H p xs) (p1 : Trs K H xs rs) (h2 : SqL K H q ys) (p2 : Trs K H ys qs) : RV (rNeD K) (.ref p) (.ref q) H (.bl (!decide (rs = qs))) :=
  rv_neD (fun _ e => dp_trs (ex_l e h1) (p1.mono e)) (fun _ e => dp_trs (ex_l e h2) (p2.mono e)) (d3L_sh _) (d3L_sh _) (by rw [d3L_eqv])
theorem sql_upd {l a : Addr} {xs : List V} {o : HO} (ne : a ≠ l) (h : SqL K H a xs) : SqL K (upd H l o) a xs := by
  rcases h with (h | ⟨o', h⟩) | h
  · exact .inl (.inl (by rw [upd_ne ne]; exact h))
  · exact .inl (.inr ⟨o', by rw [upd_ne ne]; exact h⟩)
  · exact .inr h
/-- a call upon a value and a new list of triples -/
theorem el_calVT {sp : Sp} {t0 te : TE} {v : V} {rows : List I3} {ys : List V} {E : XK} (h0 : Ev t0 σ H v) (h : EvT3 K te σ H rows) (hs : ∀ l xs H1, Ex H H1 → H1 l = some (.lst xs) → Trs K H1 xs rows → ∀ Q : VK, RetL ys H1 Q → ∀ E : XK, sp [v, .ref l] H1 Q E) : EvL (tCall sp [] E (tCons t0 (tCons te tNil))) σ H ys := fun H1 e Q q =>
  h0 H1 e _ fun H2 e2 => h H2 (e.trans e2) _ fun l xs H3 nl e3 hl R => by
    show sp ([v, .ref l] ++ []) H3 Q E
    rw [List.append_nil]
    exact hs l xs H3 ((e.trans e2).trans e3) hl R Q (fun p H4 np e4 h4 => q p H4 (fresh_back (e2.trans e3) np) ((e2.trans e3).trans e4) h4) E
/-- x = f(..), f telling some list of triples of which Pr holds -/
theorem q_asgT3any {sp : Sp} {vs : List V} {E : XK} {tr : TA} {i : Nat} {Pr : List I3 → Prop} (h : EvA tr σ H vs) (hs : ∀ H1, Ex H H1 → ∀ Q : VK, (∀ rows, Pr rows → RetT K rows H1 Q) → ∀ E : XK, sp vs H1 Q E)
    (k : ∀ rows p xs H1, Pr rows → H p = none → Ex H H1 → H1 p = some (.lst xs) → Trs K H1 xs rows → tz D (σ.set i (some (.ref p))) H1) : tSeq (tAsg (tCall sp [] E tr) (gName i)) tz D σ H :=
  h H (Ex.refl H) _ fun H1 e1 => by
    show sp (vs ++ []) H1 _ E
    rw [List.append_nil]
    exact hs H1 e1 _ (fun rows hr p xs H2 np e2 h2 R => k rows p xs H2 hr (fresh_back e1 np) (e1.trans e2) h2 R) E
/-- x = f(..), f telling some list of n ints -/
theorem q_asgAnyL {sp : Sp} {vs : List V} {E : XK} {tr : TA} {i n : Nat} (h : EvA tr σ H vs) (hs : ∀ H1, Ex H H1 → ∀ Q : VK, (∀ f : List Int, f.length = n → RetL (f.map V.int) H1 Q) → ∀ E : XK, sp vs H1 Q E)
    (k : ∀ (f : List Int) (p : Addr) (H1 : Hp), f.length = n → H p = none → Ex H H1 → H1 p = some (.lst (f.map V.int)) → tz D (σ.set i (some (.ref p))) H1) : tSeq (tAsg (tCall sp [] E tr) (gName i)) tz D σ H :=
  h H (Ex.refl H) _ fun H1 e1 => by
    show sp (vs ++ []) H1 _ E
    rw [List.append_nil]
    exact hs H1 e1 _ (fun f hf p H2 np e2 h2 => k f p H2 hf (fresh_back e1 np) (e1.trans e2) h2) E
theorem zip_add : ∀ f g : List Int, List.zipWith (fun x y => V.int (x + y)) f g = (addS f g).map V.int
  | [], _ => rfl
  | _ :: _, [] => rfl
  | x :: f, y :: g => by
    show V.int (x + y) :: List.zipWith _ f g = V.int (x + y) :: (addS f g).map V.int
    rw [zip_add f g]
end
end Kp

/-! Wheels round n: what they come to, the ground; how the law parts n. -/
namespace Kp
def lpS (n : Int) : Nat → Int × List (Int × Int)
  | 0 => (n, [])
  | i + 1 => ((strip (2 + i) 64 (lpS n i).1 0).1, if 0 < (strip (2 + i) 64 (lpS n i).1 0).2 then (lpS n i).2 ++ [((2 + i : Int), (strip (2 + i) 64 (lpS n i).1 0).2)] else (lpS n i).2)
/-- the rows of n's primes, as the law makes them -/
def lpF (n : Int) : List (Int × Int) := (lpS n (n - 1).toNat).2
theorem lpS_len (n : Int) : ∀ i, (lpS n i).2.length ≤ i
  | 0 => Nat.le_refl _
  | i + 1 => by
    have := lpS_len n i
    show (if _ then _ else _ : List (Int × Int)).length ≤ i + 1
    split
    · rw [List.length_append, List.length_singleton]
      omega
    · omega
theorem lpS_pos (n : Int) : ∀ i, ∀ r ∈ (lpS n i).2, 2 ≤ r.1
  | 0, r, h => nomatch h
  | i + 1, r, h => by
    have ih := lpS_pos n i
    have h2 : r ∈ (if 0 < (strip (2 + i) 64 (lpS n i).1 0).2 then (lpS n i).2 ++ [((2 + i : Int), (strip (2 + i) 64 (lpS n i).1 0).2)] else (lpS n i).2) := h
    split at h2
    · rcases List.mem_append.mp h2 with q | q
      · exact ih r q
      · rw [List.mem_singleton.mp q]
        show (2 : Int) ≤ 2 + (i : Int)
        omega
    · exact ih r h2

abbrev J3 := Int × Int × Int
/-! ### what wheels come to -/
/-- what a wheel gives at m -/
def wh (n : Int) (r : J3) (m : Nat) : Int := if (m : Int) % (n / r.1) = r.2.1 then r.2.2 else 0
def cmAt (n : Int) : List J3 → Nat → Int
  | [], _ => 0
  | r :: rs, m => wh n r m + cmAt n rs m
theorem cmAt_snoc (n : Int) (r : J3) (m : Nat) : ∀ rs : List J3, cmAt n (rs ++ [r]) m = cmAt n rs m + wh n r m
  | [] => by
    show wh n r m + 0 = 0 + wh n r m
    omega
  | a :: rs => by
    show wh n a m + cmAt n (rs ++ [r]) m = wh n a m + cmAt n rs m + wh n r m
    rw [cmAt_snoc n r m rs]
    omega
def cmS (n : Nat) (rows : List J3) : List Int := mkL n (cmAt n rows)
/-- a row of a wheel round n -/
structure Whl (n : Int) (r : J3) : Prop where
  two : 2 ≤ r.1
  dvd : n % r.1 = 0
  lo : 0 ≤ r.2.1
  hi : r.2.1 < n / r.1
theorem Whl.mul {n : Int} {r : J3} (h : Whl n r) : n = (n / r.1) * r.1 := by
  have := Int.mul_ediv_add_emod n r.1
  rw [h.dvd, Int.mul_comm] at this
  omega
theorem Whl.step {n : Int} {r : J3} (h : Whl n r) : 1 ≤ n / r.1 := by
  have := h.lo
  have := h.hi
  omega
/-- the k-th place of a wheel -/
theorem whl_at {n : Int} {r : J3} (h : Whl n r) {k : Nat} (hk : (k : Int) < r.1) : 0 ≤ r.2.1 + (k : Int) * (n / r.1) ∧ r.2.1 + (k : Int) * (n / r.1) < n := by
  have h1 := h.step
  have h2 := h.mul
  have h3 := h.lo
  have h4 := h.hi
  have h5 : (k : Int) * (n / r.1) ≤ (r.1 - 1) * (n / r.1) := Int.mul_le_mul_of_nonneg_right (by omega) (by omega)
  have h6 : 0 ≤ (k : Int) * (n / r.1) := Int.mul_nonneg (by omega) (by omega)
  rw [Int.sub_mul, Int.one_mul, Int.mul_comm r.1] at h5
  generalize n / r.1 = s at *
  generalize (k : Int) * s = ks at *
  omega
theorem whl_eq {n : Int} {r : J3} (h : Whl n r) {k m : Nat} : (m : Int) = r.2.1 + (k : Int) * (n / r.1) ↔ (m : Int) % (n / r.1) = r.2.1 ∧ (m : Int) / (n / r.1) = k := by
  have h1 := h.step
  have h3 := h.lo
  have h4 := h.hi
  have e := Int.mul_ediv_add_emod (m : Int) (n / r.1)
  generalize n / r.1 = s at *
  constructor
  · intro q
    rw [q, Int.add_mul_emod_self_right, Int.emod_eq_of_lt h3 h4, Int.add_mul_ediv_right _ _ (by omega), Int.ediv_eq_zero_of_lt h3 h4]
    exact ⟨rfl, by omega⟩
  · rintro ⟨q1, q2⟩
    rw [q1, q2, Int.mul_comm] at e
    omega
theorem whl_all {n : Int} {r : J3} (h : Whl n r) {m : Nat} (hm : (m : Int) < n) : (m : Int) / (n / r.1) < r.1 := by
  have h1 := h.step
  have h2 := h.mul
  refine Int.ediv_lt_of_lt_mul (by omega) ?_
  rw [Int.mul_comm, ← h2]
  exact hm
/-- behind k places of a wheel -/
def whK (n : Int) (r : J3) (k : Nat) (m : Nat) : Int := if (m : Int) % (n / r.1) = r.2.1 ∧ (m : Int) / (n / r.1) < k then r.2.2 else 0
theorem whK_zero {n : Int} {r : J3} (h : Whl n r) (m : Nat) : whK n r 0 m = 0 := by
  unfold whK
  rw [if_neg]
  rintro ⟨_, q⟩
  have := Int.ediv_nonneg (show 0 ≤ (m : Int) by omega) (show 0 ≤ n / r.1 by have := h.step; omega)
  omega
theorem whK_all {n : Int} {r : J3} (h : Whl n r) {m : Nat} (hm : (m : Int) < n) : whK n r r.1.toNat m = wh n r m := by
  have := whl_all h hm
  have := h.two
  unfold whK wh
  by_cases q : (m : Int) % (n / r.1) = r.2.1
  · rw [if_pos ⟨q, by omega⟩, if_pos q]
  · rw [if_neg fun z => q z.1, if_neg q]
theorem whK_step {n : Int} {r : J3} (h : Whl n r) {k m p : Nat} (hp : (p : Int) = r.2.1 + (k : Int) * (n / r.1)) : whK n r (k + 1) m = whK n r k m + if m = p then r.2.2 else 0 := by
  have key := whl_eq h (k := k) (m := m)
  unfold whK
  by_cases e : m = p
  · subst e
    have q := key.mp hp
    rw [if_pos ⟨q.1, by omega⟩, if_neg (by omega), if_pos rfl]
    omega
  · rw [if_neg e]
    have ne : ¬ ((m : Int) % (n / r.1) = r.2.1 ∧ (m : Int) / (n / r.1) = k) := fun z => e (by have := key.mpr z; omega)
    by_cases q : (m : Int) % (n / r.1) = r.2.1
    · by_cases g : (m : Int) / (n / r.1) < k
      · rw [if_pos ⟨q, by omega⟩, if_pos ⟨q, g⟩]
        omega
      · rw [if_neg (by omega), if_neg (by omega)]
        omega
    · rw [if_neg fun z => q z.1, if_neg fun z => q z.1]
      omega

/-! ### the ground -/
def hiF (n p : Int) : Nat → Int → Int
  | 0, h => h
  | k + 1, h => if n % (h * p) = 0 then hiF n p k (h * p) else h
def pwF (n : Int) : List J3 := (partedF n).map fun r => (r.1, hiF n r.1 n.toNat r.1, hiF n r.1 n.toNat r.1 / r.1)
def gP (n : Int) (j : Nat) : Bool := (pwF n).all fun r => decide ((j : Int) % r.2.1 < r.2.1 - r.2.2)
def lowP (p : Int) : Nat → Int
  | 0 => 1
  | k + 1 => lowP p k * p
def gL (n : Int) (j : Nat) : Bool := (lpF n).all fun r => decide ((j : Int) % (lowP r.1 (r.2 - 1).toNat * r.1) < (r.1 - 1) * lowP r.1 (r.2 - 1).toNat)
/-- what is asked of all n to 61 -/
def chkN (n : Int) : Bool := ((List.range n.toNat).all fun j => gP n j == gL n j) && ((pwF n).all fun r => decide (1 ≤ r.2.1) && decide (r.2.1 ≤ 61) && decide (2 ≤ r.1) && decide (n % r.1 = 0) && decide (r.1 ≤ 61) && decide (n % r.2.1 = 0) && decide (r.2.1 = r.2.2 * r.1)) && ((lpF n).all fun r => decide (2 ≤ r.1) && decide (n % r.1 = 0) && decide (1 ≤ r.2) && decide (r.2 ≤ 6) && decide (r.1 ≤ 61)) && decide ((lpF n).length ≤ 4) && decide ((lpF n) = partedF n)
theorem all_N : ((List.range 61).all fun i => chkN ((i + 1 : Nat) : Int)) = true := by decide +kernel
theorem chkN_at {n : Int} (h1 : 1 ≤ n) (h2 : n ≤ 61) : chkN n = true := by
  have h := List.all_eq_true.mp all_N (n - 1).toNat (List.mem_range.mpr (by omega))
  rwa [show (((n - 1).toNat + 1 : Nat) : Int) = n by omega] at h
structure Nok (n : Int) : Prop where
  g : ∀ j : Nat, (j : Int) < n → gP n j = gL n j
  pw : ∀ r ∈ pwF n, 1 ≤ r.2.1 ∧ r.2.1 ≤ 61 ∧ 2 ≤ r.1 ∧ n % r.1 = 0 ∧ r.1 ≤ 61 ∧ n % r.2.1 = 0 ∧ r.2.1 = r.2.2 * r.1
  lp : ∀ r ∈ lpF n, 2 ≤ r.1 ∧ n % r.1 = 0 ∧ 1 ≤ r.2 ∧ r.2 ≤ 6 ∧ r.1 ≤ 61
  len : (lpF n).length ≤ 4
  same : lpF n = partedF n
theorem nok {n : Int} (h1 : 1 ≤ n) (h2 : n ≤ 61) : Nok n := by
  have h := chkN_at h1 h2
  unfold chkN at h
  simp only [Bool.and_eq_true, List.all_eq_true, decide_eq_true_eq, beq_iff_eq, List.mem_range] at h
  obtain ⟨⟨⟨⟨c1, c2⟩, c3⟩, c4⟩, c5⟩ := h
  exact ⟨fun j hj => c1 j (by omega), fun r hr => by have := c2 r hr; simp only [and_assoc] at this; exact this, fun r hr => by have := c3 r hr; simp only [and_assoc] at this; exact this, c4, c5⟩
end Kp

/-! A sum brought to the ground: prime by prime each wheel's barred place is emptied. -/
namespace Kp
/-- the barred place of the wheel through m: the k-th, from k on -/
def bFind (s : Int) (r : J3) (j : Int) : Nat → Int → Int
  | 0, k => j + k * s
  | t + 1, k => if r.2.1 - r.2.2 ≤ (j + k * s) % r.2.1 then j + k * s else bFind s r j t (k + 1)
/-- r: a prime, its power in n, that over the prime -/
def bP (n : Int) (r : J3) (m : Nat) : Nat := (bFind (n / r.1) r ((m : Int) % (n / r.1)) r.1.toNat 0).toNat
def barB (r : J3) (m : Nat) : Bool := decide (r.2.1 - r.2.2 ≤ (m : Int) % r.2.1)
/-- one prime's turn -/
def gStep (n : Int) (r : J3) (f : List Int) : List Int := mkL n.toNat fun m => coef f m - coef f (bP n r m)
def grF (n : Int) (f : List Int) : List Int := (pwF n).foldl (fun f r => gStep n r f) f
/-- the wheels that are taken away, of the first places -/
def wlsK (n : Int) (r : J3) (f : List Int) : Nat → List J3
  | 0 => []
  | j + 1 => wlsK n r f j ++ if coef f (bP n r j) = 0 then [] else [(r.1, (j : Int), coef f (bP n r j))]
def wlF (n : Int) : List J3 → List Int → List J3
  | [], _ => []
  | r :: rs, f => wlsK n r f (n / r.1).toNat ++ wlF n rs (gStep n r f)
def chkG (n : Int) : Bool := (pwF n == (lpF n).map fun r => (r.1, lowP r.1 (r.2 - 1).toNat * r.1, lowP r.1 (r.2 - 1).toNat)) && ((pwF n).all fun r => (List.range n.toNat).all fun m => decide ((bP n r m : Int) < n) && decide ((bP n r m : Int) % (n / r.1) = (m : Int) % (n / r.1)) && barB r (bP n r m) && (!barB r m || decide (bP n r m = m)))
  && ((pwF n).map (·.1)).Pairwise (· < ·)
theorem all_G : ((List.range 61).all fun i => chkG ((i + 1 : Nat) : Int)) = true := by decide +kernel
theorem chkG_at {n : Int} (h1 : 1 ≤ n) (h2 : n ≤ 61) : chkG n = true := by
  have h := List.all_eq_true.mp all_G (n - 1).toNat (List.mem_range.mpr (by omega))
  rwa [show (((n - 1).toNat + 1 : Nat) : Int) = n by omega] at h
/-- what is known of one prime's turn -/
structure Gok (n : Int) (r : J3) : Prop where
  lt : ∀ m : Nat, (m : Int) < n → (bP n r m : Int) < n
  on : ∀ m : Nat, (m : Int) < n → (bP n r m : Int) % (n / r.1) = (m : Int) % (n / r.1)
  bar : ∀ m : Nat, (m : Int) < n → barB r (bP n r m) = true
  fix : ∀ m : Nat, (m : Int) < n → barB r m = true → bP n r m = m
  two : 2 ≤ r.1
  dvd : n % r.1 = 0
  le : r.1 ≤ 61
  hi1 : 1 ≤ r.2.1
structure GokA (n : Int) : Prop where
  all : ∀ r ∈ pwF n, Gok n r
  same : pwF n = (lpF n).map fun r => (r.1, lowP r.1 (r.2 - 1).toNat * r.1, lowP r.1 (r.2 - 1).toNat)
  rise : ((pwF n).map (·.1)).Pairwise (· < ·)
theorem gok {n : Int} (h1 : 1 ≤ n) (h2 : n ≤ 61) : GokA n := by
  have h := chkG_at h1 h2
  have N := nok h1 h2
  unfold chkG at h
  simp only [Bool.and_eq_true, List.all_eq_true, decide_eq_true_eq, beq_iff_eq, List.mem_range, Bool.or_eq_true, Bool.not_eq_true', and_assoc] at h
  obtain ⟨c1, c2, c3⟩ := h
  refine ⟨fun r hr => ?_, c1, c3⟩
  have hm := fun m (hm : ((m : Nat) : Int) < n) => c2 r hr m (by omega)
  obtain ⟨b1, b2, b3, b4, b5, b6, b7⟩ := N.pw r hr
  refine ⟨fun m h => (hm m h).1, fun m h => (hm m h).2.1, fun m h => (hm m h).2.2.1, fun m h hb => ?_, b3, b4, b5, b1⟩
  rcases (hm m h).2.2.2 with q | q
  · rw [hb] at q
    exact absurd q (by decide)
  · exact q
theorem Gok.step {n : Int} {r : J3} (g : Gok n r) (h1 : 1 ≤ n) : 1 ≤ n / r.1 ∧ n / r.1 ≤ n ∧ n = (n / r.1) * r.1 := by
  have hq : n / r.1 * r.1 = n := by
    have := Int.mul_ediv_add_emod n r.1
    rw [g.dvd, Int.mul_comm] at this
    omega
  have := g.two
  refine ⟨Int.le_of_not_gt fun q => ?_, Int.ediv_le_self _ (by omega), hq.symm⟩
  have h0 := Int.ediv_nonneg (show 0 ≤ n by omega) (show 0 ≤ r.1 by omega)
  have : n / r.1 = 0 := by omega
  rw [this] at hq
  omega
/-- places of one wheel have one barred place -/
theorem bP_same {n : Int} {r : J3} {m i : Nat} (h : (m : Int) % (n / r.1) = (i : Int) % (n / r.1)) : bP n r m = bP n r i := by
  unfold bP
  rw [h]
theorem Gok.at {n : Int} {r : J3} (g : Gok n r) {m i : Nat} (hm : (m : Int) < n) (hi : (i : Int) < n) (hb : barB r i = true) : bP n r m = i ↔ (m : Int) % (n / r.1) = (i : Int) % (n / r.1) := by
  constructor
  · intro e
    rw [← e]
    exact (g.on m hm).symm
  · intro e
    rw [bP_same e, g.fix i hi hb]
theorem gStep_len (n : Int) (r : J3) (f : List Int) : (gStep n r f).length = n.toNat := mkL_len _ _
theorem coef_gStep {n : Int} {r : J3} {f : List Int} {m : Nat} (h : (m : Int) < n) : coef (gStep n r f) m = coef f m - coef f (bP n r m) := by
  unfold gStep
  rw [coef_mkL, if_pos (by omega)]
/-- the first j wheels of one prime come to this -/
theorem wlsK_cm {n : Int} {r : J3} {f : List Int} (g : Gok n r) (h1 : 1 ≤ n) {m : Nat} (hm : (m : Int) < n) : ∀ j : Nat, (j : Int) ≤ n / r.1 → cmAt n (wlsK n r f j) m = if (m : Int) % (n / r.1) < j then coef f (bP n r m) else 0
  | 0, _ => by
    have := Int.emod_nonneg (m : Int) (show n / r.1 ≠ 0 by have := (g.step h1).1; omega)
    rw [if_neg (by omega)]
    rfl
  | j + 1, hj => by
    have ih := wlsK_cm g h1 hm (f := f) j (by omega)
    have s1 := (g.step h1).1
    have hjm : (j : Int) % (n / r.1) = j := Int.emod_eq_of_lt (by omega) (by omega)
    have key : cmAt n (wlsK n r f (j + 1)) m = cmAt n (wlsK n r f j) m + if (m : Int) % (n / r.1) = j then coef f (bP n r j) else 0 := by
      show cmAt n (wlsK n r f j ++ if coef f (bP n r j) = 0 then [] else [(r.1, (j : Int), coef f (bP n r j))]) m = _
      by_cases z : coef f (bP n r j) = 0
      · rw [if_pos z, List.append_nil, z]
        split <;> omega
      · rw [if_neg z, cmAt_snoc]
        rfl
    rw [key, ih]
    by_cases e : (m : Int) % (n / r.1) = j
    · have : bP n r m = bP n r j := bP_same (by rw [e, hjm])
      rw [if_neg (by omega), if_pos e, if_pos (by omega), this]
      omega
    · rw [if_neg e]
      split <;> split <;> omega
theorem cmAt_app (n : Int) (m : Nat) : ∀ a b : List J3, cmAt n (a ++ b) m = cmAt n a m + cmAt n b m
  | [], b => by
    show cmAt n b m = 0 + _
    omega
  | r :: a, b => by
    show wh n r m + cmAt n (a ++ b) m = wh n r m + cmAt n a m + cmAt n b m
    rw [cmAt_app n m a b]
    omega
/-- rest and wheels make the sum -/
theorem gr_makes {n : Int} (h1 : 1 ≤ n) : ∀ (rs : List J3) (f : List Int), (∀ r ∈ rs, Gok n r) → ∀ m : Nat, (m : Int) < n → coef (rs.foldl (fun f r => gStep n r f) f) m + cmAt n (wlF n rs f) m = coef f m
  | [], f, _, m, _ => by
    show coef f m + 0 = coef f m
    omega
  | r :: rs, f, h, m, hm => by
    have g := h r (List.mem_cons_self ..)
    have ih := gr_makes h1 rs (gStep n r f) (fun z hz => h z (List.mem_cons_of_mem _ hz)) m hm
    have s1 := (g.step h1).1
    have hlt := Int.emod_lt_of_pos (m : Int) (show 0 < n / r.1 by omega)
    show coef (rs.foldl (fun f r => gStep n r f) (gStep n r f)) m + cmAt n (wlsK n r f (n / r.1).toNat ++ wlF n rs (gStep n r f)) m = coef f m
    rw [cmAt_app, wlsK_cm g h1 hm _ (by omega), if_pos (by omega)]
    rw [coef_gStep hm] at ih
    omega
/-- the wheels' rows stand in order -/
theorem wlsK_mem {n : Int} {r : J3} {f : List Int} : ∀ {j : Nat} {x : J3}, x ∈ wlsK n r f j → x.1 = r.1 ∧ 0 ≤ x.2.1 ∧ x.2.1 < j ∧ x.2.2 ≠ 0
  | j + 1, x, h => by
    rcases List.mem_append.mp (show x ∈ wlsK n r f j ++ _ from h) with h | h
    · obtain ⟨a, b, c, d⟩ := wlsK_mem h
      exact ⟨a, b, by omega, d⟩
    · split at h
      · exact nomatch h
      · rename_i z
        rw [List.mem_singleton.mp h]
        refine ⟨rfl, ?_, ?_, z⟩
        · show (0 : Int) ≤ j
          omega
        · show (j : Int) < ((j + 1 : Nat) : Int)
          omega
abbrev lt3 (x y : J3) : Prop := x.1 < y.1 ∨ x.1 = y.1 ∧ x.2.1 < y.2.1
theorem wlsK_rise {n : Int} {r : J3} {f : List Int} : ∀ j : Nat, (wlsK n r f j).Pairwise lt3
  | 0 => List.Pairwise.nil
  | j + 1 => by
    refine List.pairwise_append.mpr ⟨wlsK_rise j, ?_, fun x hx y hy => ?_⟩
    · split
      · exact List.Pairwise.nil
      · exact List.pairwise_singleton _ _
    · obtain ⟨a, b, c, _⟩ := wlsK_mem hx
      split at hy
      · exact nomatch hy
      · rw [List.mem_singleton.mp hy]
        exact .inr ⟨a, c⟩
theorem wlF_mem {n : Int} : ∀ {rs : List J3} {f : List Int} {x : J3}, x ∈ wlF n rs f → ∃ r ∈ rs, x.1 = r.1 ∧ 0 ≤ x.2.1 ∧ x.2.1 < ((n / r.1).toNat : Nat) ∧ x.2.2 ≠ 0
  | r :: rs, f, x, h => by
    rcases List.mem_append.mp (show x ∈ wlsK n r f (n / r.1).toNat ++ wlF n rs (gStep n r f) from h) with h | h
    · exact ⟨r, List.mem_cons_self .., wlsK_mem h⟩
    · obtain ⟨z, hz, q⟩ := wlF_mem h
      exact ⟨z, List.mem_cons_of_mem _ hz, q⟩
theorem wlF_rise {n : Int} : ∀ {rs : List J3} {f : List Int}, (rs.map (·.1)).Pairwise (· < ·) → (wlF n rs f).Pairwise lt3
  | [], _, _ => List.Pairwise.nil
  | r :: rs, f, h => by
    rw [List.map_cons, List.pairwise_cons] at h
    refine List.pairwise_append.mpr ⟨wlsK_rise _, wlF_rise h.2, fun x hx y hy => ?_⟩
    obtain ⟨a, _⟩ := wlsK_mem hx
    obtain ⟨z, hz, b, _⟩ := wlF_mem hy
    have := h.1 z.1 (List.mem_map_of_mem hz)
    exact .inl (by omega)
/-- rows that stand in a row -/
structure InRow (n : Int) (rows : List J3) : Prop where
  whl : ∀ r ∈ rows, Whl n r
  prm : ∀ r ∈ rows, ∃ o, (r.1, o) ∈ lpF n
  num : ∀ r ∈ rows, r.2.2 ≠ 0
  rise : rows.Pairwise lt3
theorem gr_row {n : Int} (h1 : 1 ≤ n) (h2 : n ≤ 61) (f : List Int) : InRow n (wlF n (pwF n) f) := by
  have G := gok h1 h2
  refine ⟨fun x hx => ?_, fun x hx => ?_, fun x hx => ?_, wlF_rise G.rise⟩
  · obtain ⟨r, hr, a, b, c, d⟩ := wlF_mem hx
    have g := G.all r hr
    have s1 := (g.step h1).1
    refine ⟨by rw [a]; exact g.two, by rw [a]; exact g.dvd, b, ?_⟩
    rw [a]
    omega
  · obtain ⟨r, hr, a, _⟩ := wlF_mem hx
    rw [G.same] at hr
    obtain ⟨z, hz, rfl⟩ := List.mem_map.mp hr
    exact ⟨z.2, by rw [a]; exact hz⟩
  · obtain ⟨r, hr, a, b, c, d⟩ := wlF_mem hx
    exact d
theorem grF_len {n : Int} {f : List Int} (hf : (f.length : Int) = n) : ((grF n f).length : Int) = n := by
  have key : ∀ (rs : List J3) (f : List Int), (f.length : Int) = n → ((rs.foldl (fun f r => gStep n r f) f).length : Int) = n := by
    intro rs
    induction rs with
    | nil => exact fun f h => h
    | cons r rs ih =>
      intro f h
      exact ih _ (by rw [gStep_len]; omega)
  exact key _ f hf
theorem wlsK_len {n : Int} {r : J3} {f : List Int} : ∀ j : Nat, (wlsK n r f j).length ≤ j
  | 0 => Nat.le_refl _
  | j + 1 => by
    have := wlsK_len (n := n) (r := r) (f := f) j
    show (wlsK n r f j ++ _).length ≤ j + 1
    rw [List.length_append]
    split
    · show _ + 0 ≤ _
      omega
    · show _ + 1 ≤ _
      omega
end Kp

/-! What wheels come to is nought: its rest is all noughts; a rest is 0 off the ground and its own rest. -/
namespace Kp
def chkX (n : Int) : Bool := (pwF n).all fun r => (pwF n).all fun q => decide (r.1 = q.1) || (decide ((n / q.1) % r.2.1 = 0) && (List.range n.toNat).all fun m => decide ((bP n r m : Int) % (n / q.1) = (bP n r ((m : Int) % (n / q.1)).toNat : Int) % (n / q.1)))
theorem all_X : ((List.range 61).all fun i => chkX ((i + 1 : Nat) : Int)) = true := by decide +kernel
/-- how the turns of two primes stand to one another -/
structure NokX (n : Int) : Prop where
  hi : ∀ r ∈ pwF n, ∀ q ∈ pwF n, r.1 ≠ q.1 → (n / q.1) % r.2.1 = 0
  per : ∀ r ∈ pwF n, ∀ q ∈ pwF n, r.1 ≠ q.1 → ∀ m : Nat, (m : Int) < n → (bP n r m : Int) % (n / q.1) = (bP n r ((m : Int) % (n / q.1)).toNat : Int) % (n / q.1)
  all : ∀ r ∈ pwF n, Gok n r
  rise : ((pwF n).map (·.1)).Pairwise (· < ·)
  pos : 1 ≤ n
theorem nokX {n : Int} (h1 : 1 ≤ n) (h2 : n ≤ 61) : NokX n := by
  have h := List.all_eq_true.mp all_X (n - 1).toNat (List.mem_range.mpr (by omega))
  rw [show (((n - 1).toNat + 1 : Nat) : Int) = n by omega] at h
  unfold chkX at h
  simp only [List.all_eq_true, Bool.or_eq_true, Bool.and_eq_true, decide_eq_true_eq, List.mem_range] at h
  have G := gok h1 h2
  refine ⟨fun r hr q hq ne => ?_, fun r hr q hq ne m hm => ?_, G.all, G.rise, h1⟩
  · rcases h r hr q hq with e | e
    · exact absurd e ne
    · exact e.1
  · rcases h r hr q hq with e | e
    · exact absurd e ne
    · exact e.2 m (by omega)
def Zr (n : Int) (f : List Int) : Prop := ∀ m : Nat, (m : Int) < n → coef f m = 0
/-- alike at places of one wheel -/
def Pr (n : Int) (q : J3) (f : List Int) : Prop := ∀ m i : Nat, (m : Int) < n → (i : Int) < n → (m : Int) % (n / q.1) = (i : Int) % (n / q.1) → coef f m = coef f i
/-- 0 where r bars -/
def Off (n : Int) (r : J3) (f : List Int) : Prop := ∀ m : Nat, (m : Int) < n → barB r m = true → coef f m = 0
def foldG (n : Int) (rs : List J3) (f : List Int) : List Int := rs.foldl (fun f r => gStep n r f) f
theorem rise_inj : ∀ {l : List J3}, (l.map (·.1)).Pairwise (· < ·) → ∀ x ∈ l, ∀ y ∈ l, x.1 = y.1 → x = y
  | a :: l, h, x, hx, y, hy, e => by
    rw [List.map_cons, List.pairwise_cons] at h
    rcases List.mem_cons.mp hx with e1 | h1
    · rcases List.mem_cons.mp hy with e2 | h2
      · rw [e1, e2]
      · have := h.1 y.1 (List.mem_map_of_mem h2)
        rw [e1] at e
        omega
    · rcases List.mem_cons.mp hy with e2 | h2
      · have := h.1 x.1 (List.mem_map_of_mem h1)
        rw [e2] at e
        omega
      · exact rise_inj h.2 x h1 y h2 e
section
variable {n : Int}
theorem step_zero {r : J3} {f : List Int} (g : Gok n r) (h : Zr n f) : Zr n (gStep n r f) := fun m hm => by
  rw [coef_gStep hm, h m hm, h _ (g.lt m hm)]
  rfl
theorem fold_zero : ∀ (rs : List J3) (f : List Int), (∀ r ∈ rs, Gok n r) → Zr n f → Zr n (foldG n rs f)
  | [], _, _, h => h
  | r :: rs, f, g, h => fold_zero rs (gStep n r f) (fun z hz => g z (List.mem_cons_of_mem _ hz)) (step_zero (g r (List.mem_cons_self ..)) h)
theorem step_per {q : J3} {f : List Int} (g : Gok n q) (h : Pr n q f) : Zr n (gStep n q f) := fun m hm => by
  rw [coef_gStep hm, h m (bP n q m) hm (g.lt m hm) (g.on m hm).symm]
  omega
theorem step_keep {r q : J3} {f : List Int} (X : NokX n) (hr : r ∈ pwF n) (hq : q ∈ pwF n) (ne : r.1 ≠ q.1) (h : Pr n q f) : Pr n q (gStep n r f) := fun m i hm hi e => by
  have g := X.all r hr
  rw [coef_gStep hm, coef_gStep hi, h m i hm hi e, h (bP n r m) (bP n r i) (g.lt m hm) (g.lt i hi) (by rw [X.per r hr q hq ne m hm, X.per r hr q hq ne i hi, e])]
theorem fold_per (X : NokX n) : ∀ (rs : List J3) (f : List Int) (q : J3), (∀ r ∈ rs, r ∈ pwF n) → q ∈ rs → Pr n q f → Zr n (foldG n rs f)
  | r :: rs, f, q, sub, hq, h => by
    have sub' := fun z hz => sub z (List.mem_cons_of_mem _ hz)
    have hr := sub r (List.mem_cons_self ..)
    by_cases e : r = q
    · subst e
      exact fold_zero rs _ (fun z hz => X.all z (sub' z hz)) (step_per (X.all r hr) h)
    · have hq2 : q ∈ rs := (List.mem_cons.mp hq).resolve_left fun z => e z.symm
      exact fold_per X rs _ q sub' hq2 (step_keep X hr (sub' q hq2) (fun z => e (rise_inj X.rise r hr q (sub' q hq2) z)) h)
theorem off_self {r : J3} {f : List Int} (g : Gok n r) : Off n r (gStep n r f) := fun m hm hb => by
  rw [coef_gStep hm, g.fix m hm hb]
  omega
theorem off_keep {r q : J3} {f : List Int} (X : NokX n) (hr : r ∈ pwF n) (hq : q ∈ pwF n) (ne : r.1 ≠ q.1) (h : Off n r f) : Off n r (gStep n q f) := fun m hm hb => by
  have g := X.all q hq
  rw [coef_gStep hm, h m hm hb, h (bP n q m) (g.lt m hm) ?_]
  · rfl
  · have d := Int.dvd_of_emod_eq_zero (X.hi r hr q hq ne)
    have e : (bP n q m : Int) % r.2.1 = (m : Int) % r.2.1 := by
      rw [← Int.emod_emod_of_dvd (bP n q m : Int) d, ← Int.emod_emod_of_dvd (m : Int) d, g.on m hm]
    unfold barB at hb ⊢
    rw [e]
    exact hb
theorem fold_off (X : NokX n) : ∀ (rs : List J3) (f : List Int) (r : J3), (∀ z ∈ rs, z ∈ pwF n) → r ∈ pwF n → (r ∈ rs ∨ Off n r f) → Off n r (foldG n rs f)
  | [], f, r, _, _, h => h.resolve_left fun z => nomatch z
  | q :: rs, f, r, sub, hr, h => by
    have sub' := fun z hz => sub z (List.mem_cons_of_mem _ hz)
    have hq := sub q (List.mem_cons_self ..)
    refine fold_off X rs _ r sub' hr ?_
    by_cases e : r = q
    · subst e
      exact .inr (off_self (X.all r hr))
    · rcases h with h | h
      · exact .inl ((List.mem_cons.mp h).resolve_left e)
      · exact .inr (off_keep X hr hq (fun z => e (rise_inj X.rise r hr q hq z)) h)
theorem wlsK_nil {r : J3} {f : List Int} (g : Gok n r) (h1 : 1 ≤ n) (h : Off n r f) : ∀ j : Nat, (j : Int) ≤ n / r.1 → wlsK n r f j = []
  | 0, _ => rfl
  | j + 1, hj => by
    have s := g.step h1
    show wlsK n r f j ++ (if coef f (bP n r j) = 0 then [] else [(r.1, (j : Int), coef f (bP n r j))]) = []
    rw [wlsK_nil g h1 h j (by omega), if_pos (h _ (g.lt j (by omega)) (g.bar j (by omega)))]
    rfl
theorem fold_fix (h1 : 1 ≤ n) : ∀ (rs : List J3) (f : List Int), (∀ r ∈ rs, Gok n r) → (∀ r ∈ rs, Off n r f) → (f.length : Int) = n → foldG n rs f = f ∧ wlF n rs f = []
  | [], f, _, _, _ => ⟨rfl, rfl⟩
  | r :: rs, f, g, h, hl => by
    have gr := g r (List.mem_cons_self ..)
    have hr := h r (List.mem_cons_self ..)
    have e : gStep n r f = f := by
      refine ext_of (by rw [gStep_len]; omega) fun m hm => ?_
      rw [gStep_len] at hm
      rw [coef_gStep (by omega), hr _ (gr.lt m (by omega)) (gr.bar m (by omega))]
      omega
    obtain ⟨a, b⟩ := fold_fix h1 rs f (fun z hz => g z (List.mem_cons_of_mem _ hz)) (fun z hz => h z (List.mem_cons_of_mem _ hz)) hl
    have s := gr.step h1
    refine ⟨?_, ?_⟩
    · show foldG n rs (gStep n r f) = f
      rw [e]
      exact a
    · show wlsK n r f (n / r.1).toNat ++ wlF n rs (gStep n r f) = []
      rw [e, b, wlsK_nil gr h1 hr _ (by omega)]
      rfl
theorem fold_lin (c : Int) : ∀ (rs : List J3) (f g h : List Int), (∀ r ∈ rs, Gok n r) → (∀ m : Nat, (m : Int) < n → coef h m = coef f m + c * coef g m) → ∀ m : Nat, (m : Int) < n → coef (foldG n rs h) m = coef (foldG n rs f) m + c * coef (foldG n rs g) m
  | [], _, _, _, _, e, m, hm => e m hm
  | r :: rs, f, g, h, G, e, m, hm => by
    have gr := G r (List.mem_cons_self ..)
    refine fold_lin c rs (gStep n r f) (gStep n r g) (gStep n r h) (fun z hz => G z (List.mem_cons_of_mem _ hz)) (fun m hm => ?_) m hm
    rw [coef_gStep hm, coef_gStep hm, coef_gStep hm, e m hm, e _ (gr.lt m hm), Int.mul_sub]
    omega
/-! the whole -/
theorem gr_per (X : NokX n) {q : J3} {f : List Int} (hq : q ∈ pwF n) (h : Pr n q f) : Zr n (grF n f) := fold_per X (pwF n) f q (fun _ z => z) hq h
theorem gr_off (X : NokX n) (f : List Int) {r : J3} (hr : r ∈ pwF n) : Off n r (grF n f) := fold_off X (pwF n) f r (fun _ z => z) hr (.inl hr)
theorem gr_fix (X : NokX n) {f : List Int} (hl : (f.length : Int) = n) (h : ∀ r ∈ pwF n, Off n r f) : grF n f = f ∧ wlF n (pwF n) f = [] := fold_fix X.pos (pwF n) f X.all h hl
theorem gr_twice (X : NokX n) {f : List Int} (hl : (f.length : Int) = n) : grF n (grF n f) = grF n f ∧ wlF n (pwF n) (grF n f) = [] := gr_fix X (grF_len hl) fun r hr => gr_off X f hr
theorem gr_lin (X : NokX n) (c : Int) {f g h : List Int} (e : ∀ m : Nat, (m : Int) < n → coef h m = coef f m + c * coef g m) {m : Nat} (hm : (m : Int) < n) : coef (grF n h) m = coef (grF n f) m + c * coef (grF n g) m := fold_lin c (pwF n) f g h X.all e m hm
theorem gr_zero (X : NokX n) {f : List Int} (h : Zr n f) : Zr n (grF n f) := fold_zero (pwF n) f X.all h
theorem wh_per {r q : J3} (hq : q.1 = r.1) : Pr n q (mkL n.toNat (wh n r)) := fun m i hm hi e => by
  rw [coef_mkL, coef_mkL, if_pos (by omega), if_pos (by omega)]
  unfold wh
  rw [← hq, e]
/-- a sum that is made of things that are alike on wheels of primes of n -/
theorem gr_sumZ (X : NokX n) : ∀ (rows : List J3) (F : J3 → List Int) (h : List Int), (∀ r ∈ rows, ∃ q ∈ pwF n, Pr n q (F r)) → (∀ m : Nat, (m : Int) < n → coef h m = (rows.map fun r => coef (F r) m).sum) → Zr n (grF n h)
  | [], _, h, _, e => gr_zero X fun m hm => e m hm
  | r :: rows, F, h, P, e => fun m hm => by
    obtain ⟨q, hq, p⟩ := P r (List.mem_cons_self ..)
    have a := gr_per X hq p
    have b := gr_sumZ X rows F (mkL n.toNat fun m => (rows.map fun r => coef (F r) m).sum) (fun z hz => P z (List.mem_cons_of_mem _ hz)) fun m hm => by rw [coef_mkL, if_pos (by omega)]
    rw [gr_lin X 1 (f := F r) (g := mkL n.toNat fun m => (rows.map fun r => coef (F r) m).sum) (fun m hm => ?_) hm, a m hm, b m hm]
    · rfl
    · rw [e m hm, coef_mkL, if_pos (by omega), List.map_cons, List.sum_cons]
      omega
theorem cmAt_sum (m : Nat) : ∀ rows : List J3, cmAt n rows m = (rows.map fun r => wh n r m).sum
  | [] => rfl
  | r :: rows => by
    show wh n r m + cmAt n rows m = _
    rw [cmAt_sum m rows, List.map_cons, List.sum_cons]
/-- what wheels come to is nought -/
theorem gr_wheels {n : Nat} (X : NokX n) {rows : List J3} (h : ∀ r ∈ rows, ∃ q ∈ pwF n, q.1 = r.1) : Zr n (grF n (cmS n rows)) :=
  gr_sumZ X rows (fun r => mkL n (wh n r)) _ (fun r hr => by
    obtain ⟨q, hq, e⟩ := h r hr
    exact ⟨q, hq, wh_per (n := (n : Int)) e⟩) fun m hm => by
    unfold cmS
    rw [coef_mkL, if_pos (by omega), cmAt_sum]
    congr 1
    refine List.map_congr_left fun r _ => ?_
    rw [coef_mkL, if_pos (by omega)]
end
end Kp

/-! Two sums have the same rest just where the root polynomial parts their difference. -/
namespace Kp
/-- the wheel at 0 as a polynomial, s its step -/
def wp (n s : Nat) : List Int := mkL (n - s + 1) fun m => if m % s = 0 then 1 else 0
def quo (n s : Nat) : List Int := dec (n - s + 1 - ((phi n).length - 1)) (valP 4294967296 (wp n s) / valP 4294967296 (phi n))
def chkW (n : Nat) : Bool := (pwF n).all fun r => decide (mulK (quo n (n / r.1.toNat)) (phi n) = wp n (n / r.1.toNat))
def chkP (n : Nat) : Bool := decide (n = 1) || ((List.range n).all fun m => decide (coef (grF n (phi n)) m = 0)) && decide ((phi n).length ≤ n)
theorem all_W1 : ((List.range 61).all fun i => chkW (i + 1)) = true := by decide +kernel
theorem all_P1 : ((List.range 61).all fun i => chkP (i + 1)) = true := by decide +kernel
/-- products by the root polynomial -/
theorem coef_mulK_cons (a : Int) (f g : List Int) (m : Nat) : coef (mulK (a :: f) g) m = a * coef g m + if 1 ≤ m then coef (mulK f g) (m - 1) else 0 := by
  show coef (addK (g.map fun x => a * x) (0 :: mulK f g)) m = _
  rw [coef_addK, coef_scale]
  cases m with
  | zero => rfl
  | succ m =>
    rw [coef_cons, if_pos (by omega)]
    rfl
theorem mulK_add : ∀ (a b g : List Int) (m : Nat), coef (mulK (addK a b) g) m = coef (mulK a g) m + coef (mulK b g) m
  | [], b, g, m => by
    show coef (mulK b g) m = coef [] m + _
    rw [coef_nil, Int.zero_add]
  | a :: f, [], g, m => by
    show coef (mulK (a :: f) g) m = _ + coef [] m
    rw [coef_nil, Int.add_zero]
  | a :: f, b :: h, g, m => by
    show coef (mulK ((a + b) :: addK f h) g) m = _
    rw [coef_mulK_cons, coef_mulK_cons, coef_mulK_cons, Int.add_mul]
    split
    · rw [mulK_add f h g (m - 1)]
      omega
    · omega
theorem mulK_scale (c : Int) : ∀ (a g : List Int) (m : Nat), coef (mulK (a.map fun x => c * x) g) m = c * coef (mulK a g) m
  | [], g, m => by
    show coef [] m = c * coef [] m
    rw [coef_nil, Int.mul_zero]
  | a :: f, g, m => by
    rw [List.map_cons, coef_mulK_cons, coef_mulK_cons, Int.mul_add, Int.mul_assoc]
    split
    · rw [mulK_scale c f g (m - 1)]
    · rw [Int.mul_zero]
theorem mulK_shift (g a : List Int) : ∀ (j m : Nat), coef (mulK (List.replicate j 0 ++ a) g) m = if j ≤ m then coef (mulK a g) (m - j) else 0
  | 0, m => by
    rw [if_pos (Nat.zero_le m)]
    rfl
  | j + 1, m => by
    rw [List.replicate_succ, List.cons_append, coef_mulK_cons, Int.zero_mul, Int.zero_add]
    by_cases h : 1 ≤ m
    · rw [if_pos h, mulK_shift g a j (m - 1)]
      by_cases h2 : j + 1 ≤ m
      · rw [if_pos h2, if_pos (by omega), show m - 1 - j = m - (j + 1) by omega]
      · rw [if_neg h2, if_neg (by omega)]
    · rw [if_neg h, if_neg (by omega)]
section
variable {n : Nat}
theorem chk_at (h1 : 1 ≤ n) (h2 : n ≤ 61) : chkW n = true ∧ chkP n = true := by
  have a := List.all_eq_true.mp all_W1 (n - 1) (List.mem_range.mpr (by omega))
  have b := List.all_eq_true.mp all_P1 (n - 1) (List.mem_range.mpr (by omega))
  rw [show n - 1 + 1 = n by omega] at a b
  exact ⟨a, b⟩
/-- a sum that the root polynomial parts, q being short enough -/
def Dv (n : Nat) (h : List Int) : Prop := ∃ q : List Int, q.length + (phi n).length ≤ n + 1 ∧ ∀ m, coef h m = coef (mulK q (phi n)) m
theorem Dv.zero (h1 : 1 ≤ n) (h2 : n ≤ 61) {h : List Int} (e : ∀ m, coef h m = 0) : Dv n h := ⟨[], by have := phi_le h1 (show n ≤ 420 by omega); simp only [List.length_nil]; omega, fun m => by rw [e m]; exact (coef_nil m).symm⟩
theorem Dv.lin {f g h : List Int} (c : Int) (a : Dv n f) (b : Dv n g) (e : ∀ m, coef h m = coef f m + c * coef g m) : Dv n h := by
  obtain ⟨q, l, x⟩ := a
  obtain ⟨s, k, y⟩ := b
  refine ⟨addK q (s.map fun x => c * x), ?_, fun m => ?_⟩
  · rw [len_addK, List.length_map]
    omega
  · rw [mulK_add, mulK_scale, e m, x m, y m]
theorem Dv.sum (h1 : 1 ≤ n) (h2 : n ≤ 61) : ∀ (rows : List J3) (F : J3 → List Int) (h : List Int), (∀ r ∈ rows, Dv n (F r)) → (∀ m, coef h m = (rows.map fun r => coef (F r) m).sum) → h.length ≤ n → Dv n h
  | [], _, h, _, e, _ => Dv.zero h1 h2 e
  | r :: rows, F, h, P, e, hl => by
    have a := P r (List.mem_cons_self ..)
    obtain ⟨b1, b2, b3⟩ := a
    have z : ∀ m, n ≤ m → ∀ z ∈ rows, coef (F z) m = 0 := fun m hm z hz => by
      obtain ⟨q, l, x⟩ := P z (List.mem_cons_of_mem _ hz)
      rw [x m]
      by_cases hq : q = []
      · rw [hq]
        exact coef_nil m
      · refine coef_ge ?_
        by_cases hp : phi n = []
        · rw [hp]
          have : ∀ q : List Int, (mulK q []).length ≤ q.length := by
            intro q
            induction q with
            | nil => exact Nat.le_refl _
            | cons a q ih =>
              show (addK [] (0 :: mulK q [])).length ≤ q.length + 1
              exact Nat.succ_le_succ ih
          have := this q
          rw [hp] at l
          simp only [List.length_nil] at l
          have hm := phi_mon h1 (show n ≤ 420 by omega)
          exact absurd hp hm.ne
        · rw [len_mulK q (phi n) hq hp]
          omega
    have b := Dv.sum h1 h2 rows F (mkL n fun m => (rows.map fun r => coef (F r) m).sum) (fun z hz => P z (List.mem_cons_of_mem _ hz)) (fun m => by
      rw [coef_mkL]
      split
      · rfl
      · rename_i hm
        symm
        have : ∀ l : List J3, (∀ z ∈ l, coef (F z) m = 0) → (l.map fun r => coef (F r) m).sum = 0 := by
          intro l hl
          induction l with
          | nil => rfl
          | cons x l ih =>
            rw [List.map_cons, List.sum_cons, hl x (List.mem_cons_self ..), ih fun z hz => hl z (List.mem_cons_of_mem _ hz)]
            rfl
        exact this rows (z m (by omega))) (by rw [mkL_len]; exact Nat.le_refl _)
    refine Dv.lin 1 ⟨b1, b2, b3⟩ b fun m => ?_
    rw [e m, List.map_cons, List.sum_cons, coef_mkL]
    split
    · omega
    · rename_i hm
      have : ∀ l : List J3, (∀ z ∈ l, coef (F z) m = 0) → (l.map fun r => coef (F r) m).sum = 0 := by
        intro l hl
        induction l with
        | nil => rfl
        | cons x l ih =>
          rw [List.map_cons, List.sum_cons, hl x (List.mem_cons_self ..), ih fun z hz => hl z (List.mem_cons_of_mem _ hz)]
          rfl
      rw [this rows (z m (by omega))]
      omega
theorem wlF_prime {rs : List J3} {f : List Int} {x : J3} (h : x ∈ wlF n rs f) : ∃ r ∈ rs, r.1 = x.1 := by
  obtain ⟨r, hr, e, _⟩ := wlF_mem h
  exact ⟨r, hr, e.symm⟩
/-- the root polynomial parts each wheel -/
theorem dv_wheel (h1 : 1 ≤ n) (h2 : n ≤ 61) {r q : J3} (hq : q ∈ pwF n) (e : q.1 = r.1) (w : Whl n r) : Dv n (mkL n (wh n r)) := by
  have hn : (1 : Int) ≤ n := by omega
  have g := (gok hn (by omega)).all q hq
  have c := List.all_eq_true.mp (chk_at h1 h2).1 q hq
  have two := g.two
  obtain ⟨s1, s2, s3⟩ := g.step hn
  rw [e] at s1 s2 s3 two
  have hs : ((n / q.1.toNat : Nat) : Int) = (n : Int) / r.1 := by
    rw [Int.natCast_ediv, e, show ((r.1.toNat : Nat) : Int) = r.1 by omega]
  have c := of_decide_eq_true c
  generalize n / q.1.toNat = s at hs c
  rw [← hs] at s1 s2 s3
  have w3 := w.lo
  have w4 := w.hi
  rw [← hs] at w4
  have hj : ((r.2.1.toNat : Nat) : Int) = r.2.1 := by omega
  have pm := (phi_mon h1 (show n ≤ 420 by omega)).ne
  have lw : (wp n s).length = n - s + 1 := mkL_len _ _
  have hne : quo n s ≠ [] := fun z => by
    rw [z] at c
    have := congrArg List.length c
    rw [lw] at this
    exact absurd this (Nat.ne_of_lt (Nat.succ_pos _))
  have ll := len_mulK (quo n s) (phi n) hne pm
  rw [c, lw] at ll
  have l0 := List.length_pos_iff.mpr pm
  refine ⟨List.replicate r.2.1.toNat 0 ++ (quo n s).map fun x => r.2.2 * x, ?_, fun m => ?_⟩
  · rw [List.length_append, List.length_replicate, List.length_map]
    omega
  · rw [mulK_shift, coef_mkL]
    generalize hjj : r.2.1.toNat = j at *
    have key : (m < n ∧ (m : Int) % (n / r.1) = r.2.1) ↔ (j ≤ m ∧ m - j < n - s + 1 ∧ (m - j) % s = 0) := by
      have em : ((m : Int) % (n / r.1) = r.2.1) ↔ m % s = j := by
        rw [← hs, ← hj]
        omega
      rw [em]
      have hsp : 0 < s := by omega
      have hd : ∃ t, n = s * t := ⟨r.1.toNat, by
        have : ((s * r.1.toNat : Nat) : Int) = (n : Int) := by
          rw [Int.natCast_mul, show ((r.1.toNat : Nat) : Int) = r.1 by omega]
          omega
        omega⟩
      obtain ⟨t, ht⟩ := hd
      constructor
      · rintro ⟨a, b⟩
        have d := Nat.div_add_mod m s
        rw [b] at d
        have lt : m / s < t := Nat.div_lt_of_lt_mul (by rw [← ht]; exact a)
        have le : s * (m / s + 1) ≤ s * t := Nat.mul_le_mul_left s lt
        rw [Nat.mul_add, Nat.mul_one, ← ht] at le
        refine ⟨by omega, by omega, ?_⟩
        rw [show m - j = s * (m / s) by omega]
        exact Nat.mul_mod_right s _
      · rintro ⟨a, b, z⟩
        have js : j < s := by omega
        refine ⟨by omega, ?_⟩
        have d := Nat.div_add_mod (m - j) s
        rw [z, Nat.add_zero] at d
        rw [show m = j + s * ((m - j) / s) by omega, Nat.add_mul_mod_self_left]
        exact Nat.mod_eq_of_lt js
    have e2 : coef (mulK ((quo n s).map fun x => r.2.2 * x) (phi n)) (m - j) = r.2.2 * if m - j < n - s + 1 then (if (m - j) % s = 0 then 1 else 0) else 0 := by
      rw [mulK_scale, c]
      unfold wp
      rw [coef_mkL]
    rw [e2]
    unfold wh
    by_cases a : m < n ∧ (m : Int) % (n / r.1) = r.2.1
    · obtain ⟨b1, b2, b3⟩ := key.mp a
      rw [if_pos a.1, if_pos a.2, if_pos b1, if_pos b2, if_pos b3, Int.mul_one]
    · have b := fun z => a (key.mpr z)
      have lhs : (if m < n then (if (m : Int) % (n / r.1) = r.2.1 then r.2.2 else 0) else 0) = 0 := by
        split
        · rename_i x
          rw [if_neg fun y => a ⟨x, y⟩]
        · rfl
      rw [lhs]
      split
      · rename_i x
        split
        · rename_i y
          rw [if_neg fun z => b ⟨x, y, z⟩, Int.mul_zero]
        · rw [Int.mul_zero]
      · rfl
theorem sum_zero : ∀ l : List Int, (∀ z ∈ l, z = 0) → l.sum = 0
  | [], _ => rfl
  | x :: l, h => by
    rw [List.sum_cons, h x (List.mem_cons_self ..), sum_zero l fun z hz => h z (List.mem_cons_of_mem _ hz)]
    rfl
/-- nought, so parted by the root polynomial -/
theorem dv_of (h1 : 1 ≤ n) (h2 : n ≤ 61) {h : List Int} (hl : h.length = n) (z : Zr n (grF n h)) : Dv n h := by
  have hn : (1 : Int) ≤ n := by omega
  have G := gok hn (show (n : Int) ≤ 61 by omega)
  have R := gr_row hn (show (n : Int) ≤ 61 by omega) h
  refine Dv.sum h1 h2 (wlF n (pwF n) h) (fun r => mkL n (wh n r)) h (fun r hr => ?_) (fun m => ?_) (by omega)
  · obtain ⟨q, hq, e⟩ := wlF_prime hr
    exact dv_wheel h1 h2 hq e (R.whl r hr)
  · by_cases hm : m < n
    · have k := gr_makes hn (pwF n) h G.all m (by omega)
      have z0 : coef ((pwF n).foldl (fun f r => gStep n r f) h) m = 0 := z m (by omega)
      rw [z0, Int.zero_add] at k
      rw [← k, cmAt_sum]
      congr 1
      refine List.map_congr_left fun r _ => ?_
      rw [coef_mkL, if_pos hm]
    · rw [coef_ge (by omega), sum_zero]
      intro x hx
      obtain ⟨r, _, rfl⟩ := List.mem_map.mp hx
      rw [coef_mkL, if_neg hm]
/-- k places farther -/
def shF (n k : Nat) (f : List Int) : List Int := mkL n fun m => if k ≤ m then coef f (m - k) else 0
/-- k places back -/
def bk (n k m : Nat) : Nat := if k ≤ m then m - k else m + n - k
theorem bk_lt {n k m : Nat} (h : m < n) (hk : k ≤ n) : bk n k m < n := by
  unfold bk
  split <;> omega
/-- the root polynomial, turned, is nought -/
theorem zr_shift (h1 : 2 ≤ n) (h2 : n ≤ 61) {k : Nat} (hk : k + (phi n).length ≤ n) : Zr n (grF n (shF n k (phi n))) := by
  have hn : (1 : Int) ≤ n := by omega
  have X := nokX hn (show (n : Int) ≤ 61 by omega)
  have R := gr_row hn (show (n : Int) ≤ 61 by omega) (phi n)
  have c := (chk_at (show 1 ≤ n by omega) h2).2
  unfold chkP at c
  rw [Bool.or_eq_true] at c
  have c := c.resolve_left (by rw [decide_eq_true_eq]; omega)
  rw [Bool.and_eq_true, List.all_eq_true] at c
  have z : Zr n (grF n (phi n)) := fun m hm => of_decide_eq_true (c.1 m (List.mem_range.mpr (by omega)))
  have at' : ∀ m, m < n → coef (phi n) m = cmAt n (wlF n (pwF n) (phi n)) m := fun m hm => by
    have k := gr_makes hn (pwF n) (phi n) X.all m (by omega)
    have z0 : coef ((pwF n).foldl (fun f r => gStep n r f) (phi n)) m = 0 := z m (by omega)
    rw [z0, Int.zero_add] at k
    exact k.symm
  refine gr_sumZ X (wlF n (pwF n) (phi n)) (fun r => mkL n fun m => wh n r (bk n k m)) _ (fun r hr => ?_) fun m hm => ?_
  · obtain ⟨q, hq, e⟩ := wlF_prime hr
    refine ⟨q, hq, fun m i hm hi em => ?_⟩
    rw [coef_mkL, coef_mkL, if_pos (show m < n by omega), if_pos (show i < n by omega)]
    obtain ⟨s1, s2, s3⟩ := (X.all q hq).step hn
    have key : ∀ m : Nat, (m : Int) < n → ((bk n k m : Nat) : Int) % (n / q.1) = ((m : Int) - k) % (n / q.1) := fun m hm => by
      unfold bk
      split
      · rename_i a
        rw [Int.ofNat_sub a]
      · rw [show ((m + n - k : Nat) : Int) = (m : Int) - k + n by omega]
        have : (n : Int) = (n / q.1) * q.1 := s3
        generalize (n : Int) / q.1 = s at *
        rw [this, Int.add_mul_emod_self_left]
    unfold wh
    rw [← e, key m hm, key i hi, Int.sub_emod, em, ← Int.sub_emod]
  · unfold shF
    rw [coef_mkL, if_pos (show m < n by omega)]
    have e : (if k ≤ m then coef (phi n) (m - k) else 0) = coef (phi n) (bk n k m) := by
      unfold bk
      split
      · rfl
      · rw [coef_ge]
        omega
    rw [e, at' _ (bk_lt (by omega) (by omega)), cmAt_sum]
    congr 1
    refine List.map_congr_left fun r _ => ?_
    rw [coef_mkL, if_pos (show m < n by omega)]
theorem zr_mul (h1 : 2 ≤ n) (h2 : n ≤ 61) : ∀ (q : List Int) (k : Nat), k + q.length + (phi n).length ≤ n + 1 → Zr n (grF n (shF n k (mulK q (phi n))))
  | [], k, _ => by
    refine gr_zero (nokX (by omega) (by omega)) fun m hm => ?_
    unfold shF
    rw [coef_mkL, if_pos (by omega)]
    split
    · exact coef_nil _
    · rfl
  | a :: q, k, h => fun m hm => by
    rw [List.length_cons] at h
    have X := nokX (n := (n : Int)) (by omega) (by omega)
    have b := zr_mul h1 h2 q (k + 1) (by omega)
    have c := zr_shift h1 h2 (k := k) (by omega)
    rw [gr_lin X a (f := shF n (k + 1) (mulK q (phi n))) (g := shF n k (phi n)) (fun m hm => ?_) hm, b m hm, c m hm, Int.mul_zero]
    · rfl
    · unfold shF
      have hm' : m < n := by omega
      rw [coef_mkL, coef_mkL, coef_mkL, if_pos hm', if_pos hm', if_pos hm']
      by_cases x : k ≤ m
      · rw [if_pos x, if_pos x, coef_mulK_cons]
        by_cases y : k + 1 ≤ m
        · rw [if_pos y, if_pos (by omega), show m - k - 1 = m - (k + 1) by omega]
          omega
        · rw [if_neg y, if_neg (by omega)]
          omega
      · rw [if_neg x, if_neg x, if_neg (by omega), Int.mul_zero]
        rfl
/-- parted by the root polynomial, so nought -/
theorem of_dv (h1 : 1 ≤ n) (h2 : n ≤ 61) {h : List Int} (d : Dv n h) : Zr n (grF n h) := by
  have X := nokX (n := (n : Int)) (by omega) (by omega)
  obtain ⟨q, l, e⟩ := d
  by_cases g : n = 1
  · have := (phi_mon h1 (show n ≤ 420 by omega)).two
    have hq : q = [] := List.eq_nil_of_length_eq_zero (by omega)
    subst hq
    exact gr_zero X fun m hm => (e m).trans (coef_nil m)
  · intro m hm
    have a := zr_mul (by omega) h2 q 0 (by omega) m hm
    have b := gr_lin X 0 (f := shF n 0 (mulK q (phi n))) (g := []) (h := h) (fun m hm => by
      unfold shF
      rw [coef_mkL, if_pos (show m < n by omega), if_pos (Nat.zero_le m), e m, Int.zero_mul, Int.add_zero]
      rfl) hm
    rw [b, a, Int.zero_mul]
    rfl
/-- sums have the same rest just where the root polynomial parts the difference -/
theorem same_iff (h1 : 1 ≤ n) (h2 : n ≤ 61) {f g : List Int} (hf : f.length = n) (hg : g.length = n) : grF n f = grF n g ↔ Dv n (mkL n fun m => coef f m - coef g m) := by
  have X := nokX (n := (n : Int)) (by omega) (by omega)
  have lf : ((grF n f).length : Int) = n := grF_len (by omega)
  have lg : ((grF n g).length : Int) = n := grF_len (by omega)
  have lin : ∀ m : Nat, (m : Int) < n → coef (grF n (mkL n fun m => coef f m - coef g m)) m = coef (grF n f) m + (-1) * coef (grF n g) m := fun m hm => gr_lin X (-1) (fun m hm => by
    rw [coef_mkL, if_pos (by omega)]
    omega) hm
  constructor
  · intro e
    refine dv_of h1 h2 (mkL_len _ _) fun m hm => ?_
    rw [lin m hm, e]
    omega
  · intro d
    refine ext_of (by omega) fun m hm => ?_
    have := of_dv h1 h2 d m (by omega)
    rw [lin m (by omega)] at this
    omega
end
end Kp

/-! Sums round n as a ring: products may change their turn; led by a unit; products of sums that are the same. -/
namespace Kp
/-- the sum of F i, i below n -/
def S : Nat → (Nat → Int) → Int
  | 0, _ => 0
  | n + 1, F => S n F + F n
theorem S_congr {F G : Nat → Int} : ∀ n, (∀ i, i < n → F i = G i) → S n F = S n G
  | 0, _ => rfl
  | n + 1, h => by
    show S n F + F n = S n G + G n
    rw [S_congr n (fun i hi => h i (by omega)), h n (by omega)]
theorem S_add (F G : Nat → Int) : ∀ n, S n (fun i => F i + G i) = S n F + S n G
  | 0 => rfl
  | n + 1 => by
    show S n (fun i => F i + G i) + (F n + G n) = S n F + F n + (S n G + G n)
    rw [S_add F G n]
    omega
theorem S_mul (c : Int) (F : Nat → Int) : ∀ n, S n (fun i => c * F i) = c * S n F
  | 0 => (Int.mul_zero c).symm
  | n + 1 => by
    show S n (fun i => c * F i) + c * F n = c * (S n F + F n)
    rw [S_mul c F n, Int.mul_add]
theorem S_zero : ∀ n, S n (fun _ => 0) = 0
  | 0 => rfl
  | n + 1 => by
    show S n (fun _ => 0) + 0 = 0
    rw [S_zero n]
    rfl
theorem S_swap (F : Nat → Nat → Int) (m : Nat) : ∀ n, S n (fun i => S m (fun j => F i j)) = S m (fun j => S n (fun i => F i j))
  | 0 => (S_zero m).symm
  | n + 1 => by
    show S n (fun i => S m (fun j => F i j)) + S m (fun j => F n j) = S m (fun j => S n (fun i => F i j) + F n j)
    rw [S_swap F m n, S_add]
theorem S_one (F : Nat → Int) {i : Nat} : ∀ n, S n (fun k => if k = i then F k else 0) = if i < n then F i else 0
  | 0 => rfl
  | n + 1 => by
    show S n (fun k => if k = i then F k else 0) + (if n = i then F n else 0) = _
    rw [S_one F n]
    by_cases c : n = i
    · rw [if_pos c, if_neg (by omega), if_pos (by omega), c]
      omega
    · rw [if_neg c]
      by_cases d : i < n
      · rw [if_pos d, if_pos (by omega)]
        omega
      · rw [if_neg d, if_neg (by omega)]
        rfl
theorem cs_S (f g : List Int) (n m : Nat) : ∀ i, cs f g n i m = S i fun k => coef f k * coef g ((m + n - k) % n)
  | 0 => rfl
  | i + 1 => by
    show cs f g n i m + coef f i * coef g ((m + n - i) % n) = _
    rw [cs_S f g n m i]
    rfl
theorem mulS_at {f g : List Int} {n m : Nat} (hf : f.length = n) (h : m < n) : coef (mulS f g) m = S n fun k => coef f k * coef g ((m + n - k) % n) := by
  unfold mulS
  rw [hf, coef_mkL, if_pos h, cs_S]
theorem S_flip {n m : Nat} (hm : m < n) (u v : Nat → Int) : S n (fun i => u i * v ((m + n - i) % n)) = S n (fun j => v j * u ((m + n - j) % n)) := by
  have a : ∀ i, i < n → u i * v ((m + n - i) % n) = S n (fun j => if j = (m + n - i) % n then u i * v j else 0) := fun i hi => by
    rw [S_one (fun j => u i * v j) n, if_pos (Nat.mod_lt _ (by omega))]
  rw [S_congr n a, S_swap]
  refine S_congr n fun j hj => ?_
  have b : ∀ i, i < n → (if j = (m + n - i) % n then u i * v j else 0) = if i = (m + n - j) % n then u i * v j else 0 := fun i hi => by
    have k1 := addmod_eq hi hj hm
    have k2 := addmod_eq hj hi hm
    rw [Nat.add_comm j i] at k2
    by_cases c : j = (m + n - i) % n
    · rw [if_pos c, if_pos (k2.mp (k1.mpr c.symm)).symm]
    · rw [if_neg c, if_neg (fun e => c (k1.mp (k2.mpr e.symm)).symm)]
  rw [S_congr n b, S_one (fun i => u i * v j) n, if_pos (Nat.mod_lt _ (by omega)), Int.mul_comm]
theorem idx_swap {n m l i : Nat} (hm : m < n) (hl : l < n) (hi : i < n) : ((m + n - l) % n + n - i) % n = ((m + n - i) % n + n - l) % n := by
  rw [submod hm hl, submod hm hi]
  split <;> split <;> rw [submod (by omega) (by omega), submod (by omega) (by omega)] <;> split <;> split <;> omega
/-- two factors may change their turn -/
theorem mulS_right {f g h : List Int} (hg : g.length = f.length) (hh : h.length = f.length) : mulS (mulS f g) h = mulS (mulS f h) g := by
  refine ext_of (by rw [mulS_len, mulS_len, mulS_len, mulS_len]) fun m hm => ?_
  rw [mulS_len, mulS_len] at hm
  generalize hn : f.length = n at *
  have key : ∀ g h : List Int, coef (mulS (mulS f g) h) m = S n fun i => coef f i * S n fun l => coef h l * coef g (((m + n - i) % n + n - l) % n) := fun g h => by
    rw [mulS_at (n := n) (by rw [mulS_len, hn]) hm, S_flip hm (fun a => coef (mulS f g) a) (fun j => coef h j)]
    have a : ∀ l, l < n → coef h l * coef (mulS f g) ((m + n - l) % n) = S n fun i => coef f i * (coef h l * coef g (((m + n - i) % n + n - l) % n)) := fun l hl => by
      rw [mulS_at hn (Nat.mod_lt _ (by omega)), ← S_mul]
      refine S_congr n fun i hi => ?_
      rw [idx_swap hm hl hi, ← Int.mul_assoc, ← Int.mul_assoc, Int.mul_comm (coef h l)]
    rw [S_congr n a, S_swap]
    exact S_congr n fun i hi => S_mul _ _ n
  rw [key g h, key h g]
  refine S_congr n fun i hi => ?_
  rw [S_flip (Nat.mod_lt _ (by omega)) (fun l => coef h l) (fun l => coef g l)]
/-- led by the unit whose inverse is v -/
def mv (n v : Nat) (f : List Int) : List Int := mkL n fun m => coef f (v * m % n)
theorem unit_cancel {n u v i : Nat} (hi : i < n) (h : u * v % n = 1 % n) : v * (u * i % n) % n = i := by
  have e : v * (u * i % n) % n = u * v % n * i % n := by
    rw [Nat.mul_mod, Nat.mod_mod, ← Nat.mul_mod, ← Nat.mul_assoc, Nat.mul_comm v u, Nat.mul_mod (u * v % n), Nat.mod_mod, ← Nat.mul_mod]
  rw [e, h, Nat.mul_mod, Nat.mod_mod, ← Nat.mul_mod, Nat.one_mul, Nat.mod_eq_of_lt hi]
theorem unit_iff {n u v a i : Nat} (ha : a < n) (hi : i < n) (h : u * v % n = 1 % n) : a = u * i % n ↔ i = v * a % n := by
  constructor
  · rintro rfl
    exact (unit_cancel hi h).symm
  · rintro rfl
    exact (unit_cancel ha (by rw [Nat.mul_comm]; exact h)).symm
theorem S_perm {n u v : Nat} (hn : 0 < n) (h : u * v % n = 1 % n) (G : Nat → Int) : S n (fun i => G (u * i % n)) = S n G := by
  have a : ∀ i, i < n → G (u * i % n) = S n fun a => if a = u * i % n then G a else 0 := fun i hi => by
    rw [S_one G n, if_pos (Nat.mod_lt _ hn)]
  rw [S_congr n a, S_swap]
  refine S_congr n fun a ha => ?_
  have b : ∀ i, i < n → (if a = u * i % n then G a else 0) = if i = v * a % n then G a else 0 := fun i hi => by
    have k := unit_iff ha hi h
    by_cases c : a = u * i % n
    · rw [if_pos c, if_pos (k.mp c)]
    · rw [if_neg c, if_neg (fun e => c (k.mpr e))]
  rw [S_congr n b, S_one (fun _ => G a) n, if_pos (Nat.mod_lt _ hn)]
theorem mv_len (n v : Nat) (f : List Int) : (mv n v f).length = n := mkL_len _ _
theorem mv_mul {n u v : Nat} (hn : 0 < n) (h : u * v % n = 1 % n) {f g : List Int} (hf : f.length = n) : mv n v (mulS f g) = mulS (mv n v f) (mv n v g) := by
  refine ext_of (by rw [mulS_len, mv_len, mv_len]) fun m hm => ?_
  rw [mv_len] at hm
  rw [mulS_at (mv_len n v f) hm]
  unfold mv
  rw [coef_mkL, if_pos hm, mulS_at hf (Nat.mod_lt _ hn)]
  have a : ∀ a, a < n → coef (mkL n fun m => coef f (v * m % n)) a * coef (mkL n fun m => coef g (v * m % n)) ((m + n - a) % n) = coef f (v * a % n) * coef g (v * ((m + n - a) % n) % n) := fun a ha => by
    rw [coef_mkL, coef_mkL, if_pos ha, if_pos (Nat.mod_lt _ hn)]
  rw [S_congr n a, ← S_perm hn h fun a => coef f (v * a % n) * coef g (v * ((m + n - a) % n) % n)]
  refine S_congr n fun i hi => ?_
  rw [unit_cancel hi h]
  have hu := Nat.mod_lt (u * i) hn
  have hw := Nat.mod_lt (m + n - u * i % n) hn
  have e1 := (addmod_eq hu hw hm).mpr rfl
  have hv := Nat.mod_lt (v * ((m + n - u * i % n) % n)) hn
  have e2 : v * m % n = (i + v * ((m + n - u * i % n) % n) % n) % n := by
    have c := unit_cancel hi h
    have e3 : v * m % n = (v * (u * i % n) + v * ((m + n - u * i % n) % n)) % n := by
      rw [← Nat.mul_add]
      conv => lhs; rw [e1]
      rw [Nat.mul_mod, Nat.mod_mod, ← Nat.mul_mod]
    rw [e3, Nat.add_mod, c]
  have e4 := (addmod_eq hi hv (Nat.mod_lt (v * m) hn)).mp e2
  rw [e4]
/-! ### products of sums that are the same -/
theorem S_sum {α : Type} (c : Nat → Int) (F : α → Nat → Int) (n : Nat) : ∀ rows : List α, S n (fun j => c j * (rows.map fun r => F r j).sum) = (rows.map fun r => S n fun j => c j * F r j).sum
  | [] => by
    show S n (fun j => c j * 0) = 0
    rw [S_congr n (G := fun _ => 0) fun i _ => Int.mul_zero _, S_zero]
  | r :: rows => by
    rw [List.map_cons, List.sum_cons, ← S_sum c F n rows, ← S_add]
    refine S_congr n fun i _ => ?_
    rw [List.map_cons, List.sum_cons, Int.mul_add]
theorem zr_mulS {n : Nat} (n1 : 1 ≤ n) (n2 : n ≤ 61) {d b : List Int} (hd : d.length = n) (hb : b.length = n) (z : Zr n (grF n d)) : Zr n (grF n (mulS d b)) := by
  have X := nokX (n := (n : Int)) (by omega) (by omega)
  have G := gok (n := (n : Int)) (by omega) (by omega)
  refine gr_sumZ X (wlF n (pwF n) d) (fun r => mkL n fun m => S n fun j => coef b j * wh n r ((m + n - j) % n)) _ (fun r hr => ?_) fun m hm => ?_
  · obtain ⟨q, hq, e⟩ := wlF_prime hr
    refine ⟨q, hq, fun m i hm hi hmi => ?_⟩
    rw [coef_mkL, coef_mkL, if_pos (by omega), if_pos (by omega)]
    refine S_congr n fun j hj => ?_
    have st := (G.all q hq).step (by omega)
    have key : ∀ m : Nat, m < n → (((m + n - j) % n : Nat) : Int) % ((n : Int) / q.1) = ((m : Int) % ((n : Int) / q.1) - (j : Int)) % ((n : Int) / q.1) := fun m hm => by
      rw [Int.natCast_emod, Int.emod_emod_of_dvd _ ⟨q.1, st.2.2⟩, show ((m + n - j : Nat) : Int) = (m : Int) - (j : Int) + (n : Int) by omega, Int.add_emod, show (n : Int) % ((n : Int) / q.1) = 0 from Int.emod_eq_zero_of_dvd ⟨q.1, st.2.2⟩, Int.add_zero, Int.emod_emod, Int.sub_emod, Int.sub_emod ((m : Int) % ((n : Int) / q.1)) (j : Int), Int.emod_emod]
    unfold wh
    rw [← e, key m (by omega), key i (by omega), hmi]
  · have hmn : m < n := by omega
    rw [mulS_at hd hmn, S_flip hmn (fun a => coef d a) (fun j => coef b j)]
    have a : ∀ j, j < n → coef b j * coef d ((m + n - j) % n) = coef b j * ((wlF n (pwF n) d).map fun r => wh n r ((m + n - j) % n)).sum := fun j hj => by
      have hl := Nat.mod_lt (m + n - j) (show 0 < n by omega)
      have mk := gr_makes (n := (n : Int)) (by omega) (pwF n) d G.all ((m + n - j) % n) (by omega)
      have zz := z ((m + n - j) % n) (by omega)
      unfold grF at zz
      rw [zz, cmAt_sum] at mk
      rw [← mk, Int.zero_add]
    rw [S_congr n a, S_sum (fun j => coef b j) (fun r j => wh n r ((m + n - j) % n)) n]
    congr 1
    refine List.map_congr_left fun r _ => ?_
    rw [coef_mkL, if_pos hmn]
/-- the same, less the other, has the rest nought -/
theorem gr_eq_iff {n : Nat} (n1 : 1 ≤ n) (n2 : n ≤ 61) {f g : List Int} (hf : f.length = n) (hg : g.length = n) : grF n f = grF n g ↔ Zr n (grF n (mkL n fun m => coef f m - coef g m)) := by
  have X := nokX (n := (n : Int)) (by omega) (by omega)
  have lf : ((grF n f).length : Int) = n := grF_len (by omega)
  have lg : ((grF n g).length : Int) = n := grF_len (by omega)
  have lin : ∀ m : Nat, (m : Int) < n → coef (grF n (mkL n fun m => coef f m - coef g m)) m = coef (grF n f) m + (-1) * coef (grF n g) m := fun m hm => gr_lin X (-1) (fun m hm => by
    rw [coef_mkL, if_pos (by omega)]
    omega) hm
  constructor
  · intro e m hm
    rw [lin m hm, e]
    omega
  · intro z
    refine ext_of (by omega) fun m hm => ?_
    have := z m (by omega)
    rw [lin m (by omega)] at this
    omega
theorem gr_mulS {n : Nat} (n1 : 1 ≤ n) (n2 : n ≤ 61) {f g b : List Int} (hf : f.length = n) (hg : g.length = n) (hb : b.length = n) (e : grF n f = grF n g) : grF n (mulS f b) = grF n (mulS g b) := by
  have lf : (mulS f b).length = n := by rw [mulS_len, hf]
  have lg : (mulS g b).length = n := by rw [mulS_len, hg]
  refine (gr_eq_iff n1 n2 lf lg).mpr ?_
  have z := zr_mulS n1 n2 (d := mkL n fun m => coef f m - coef g m) (b := b) (mkL_len _ _) hb ((gr_eq_iff n1 n2 hf hg).mp e)
  have q : (mkL n fun m => coef (mulS f b) m - coef (mulS g b) m) = mulS (mkL n fun m => coef f m - coef g m) b := by
    refine ext_of (by rw [mulS_len, mkL_len, mkL_len]) fun m hm => ?_
    rw [mkL_len] at hm
    rw [coef_mkL, if_pos hm, mulS_at hf hm, mulS_at hg hm, mulS_at (mkL_len _ _) hm, show S n (fun k => coef f k * coef b ((m + n - k) % n)) - S n (fun k => coef g k * coef b ((m + n - k) % n)) = S n (fun k => coef f k * coef b ((m + n - k) % n)) + (-1) * S n (fun k => coef g k * coef b ((m + n - k) % n)) by omega, ← S_mul, ← S_add]
    refine S_congr n fun k hk => ?_
    rw [coef_mkL, if_pos hk, Int.sub_mul]
    omega
  rw [q]
  exact z
/-- a product hangs not on the turn of its factors -/
theorem fold_perm {α : Type} {op : List Int → α → List Int} {A B : List α} (p : A.Perm B) (T : List Int → Prop) (hT : ∀ t a, T t → T (op t a)) (h : ∀ t a b, T t → op (op t a) b = op (op t b) a) : ∀ t, T t → A.foldl op t = B.foldl op t := by
  induction p with
  | nil => exact fun _ _ => rfl
  | cons a p ih => exact fun t ht => ih (op t a) (hT t a ht)
  | swap a b l =>
    intro t ht
    show l.foldl op (op (op t b) a) = l.foldl op (op (op t a) b)
    rw [h t b a ht]
  | trans p q ihp ihq => exact fun t ht => (ihp t ht).trans (ihq t ht)
theorem mm1 (a b n : Nat) : a * (b % n) % n = a * b % n := by rw [Nat.mul_mod, Nat.mod_mod, ← Nat.mul_mod]
theorem mm2 (a b n : Nat) : a % n * b % n = a * b % n := by rw [Nat.mul_mod, Nat.mod_mod, ← Nat.mul_mod]
theorem mv_mv {n v w : Nat} (hn : 0 < n) (f : List Int) : mv n v (mv n w f) = mv n (w * v % n) f := by
  refine ext_of (by rw [mv_len, mv_len]) fun m hm => ?_
  rw [mv_len] at hm
  unfold mv
  rw [coef_mkL, if_pos hm, coef_mkL, if_pos (Nat.mod_lt _ hn), coef_mkL, if_pos hm, mm1, mm2, Nat.mul_assoc]
end Kp

/-! Slices with a step, of lists; truths told from one another by is; zip over lists or tuples in a comprehension. -/
namespace Kp
open PySem PySem.Spec PyProof.Rows L2 Evl
/-- the items of xs[::k] -/
def pickV {α : Type} (xs : List α) (k : Int) : List α := (sliceRange (sliceBounds none none (some k) xs.length).1 (sliceBounds none none (some k) xs.length).2.1 (sliceBounds none none (some k) xs.length).2.2).filterMap (xs[·]?)
theorem pickV_map {α β : Type} (f : α → β) (xs : List α) (k : Int) : pickV (xs.map f) k = (pickV xs k).map f := by
  unfold pickV
  rw [List.length_map, List.map_filterMap]
  congr 1
  funext i
  rw [List.getElem?_map]
theorem vals_at : ∀ {xs : List V} {us : List Value}, Vals xs us → ∀ i : Nat, (xs[i]? = none ∧ us[i]? = none) ∨ ∃ x u, xs[i]? = some x ∧ us[i]? = some u ∧ RelV x u
  | _, _, .nil, i => .inl ⟨rfl, rfl⟩
  | _, _, .cons r rr, 0 => .inr ⟨_, _, rfl, rfl, r⟩
  | _, _, .cons r rr, i + 1 => vals_at rr i
theorem vals_pick {xs : List V} {us : List Value} (r : Vals xs us) : ∀ l : List Nat, Vals (l.filterMap (xs[·]?)) (l.filterMap (us[·]?))
  | [] => .nil
  | i :: l => by
    rcases vals_at r i with ⟨h1, h2⟩ | ⟨x, u, h1, h2, h3⟩
    · rw [List.filterMap_cons_none h1, List.filterMap_cons_none h2]
      exact vals_pick r l
    · rw [List.filterMap_cons_some h1, List.filterMap_cons_some h2]
      exact .cons h3 (vals_pick r l)
def tSlS (K : PySem.W.Frag) (te ts : TE) : TE := fun σ H Q => te σ H fun x H1 => ts σ H1 fun o H2 => ∃ (a : Addr) (xs : List V) (k : Int), x = .ref a ∧ o = .int k ∧ SqL K H2 a xs ∧ k ≠ 0 ∧ ∀ p, H2 p = none → Q (.ref p) (upd H2 p (.lst (pickV xs k)))
theorem pe_sliceS {X : Cx} {e es : Expr} {te ts : TE} {p2 pos : Pos} (he : PE X e te) (hs : PE X es ts) : PE X (.Subscript e (.Slice none none (some es) p2) pos) (tSlS X.K te ts) := by
  refine ⟨fun pins s σ H Q I h => ?_⟩
  refine Subscript_ (thn (he.run pins s σ H _ I h) fun v s1 ⟨x, H1, I1, r1, q1⟩ => ?_)
  refine wpAny_Slice ?_
  rw [evalPart_none]
  refine wpAny_pure ?_
  refine wpAny_pure ?_
  rw [evalPart_some]
  refine thn (hs.run pins s1 σ H1 _ I1 q1) fun u s2 ⟨o, H2, I2, r2, q2⟩ => ?_
  obtain ⟨a, xs, k, rfl, rfl, hx, k0, q⟩ := q2
  obtain ⟨t, rfl⟩ := r2
  have I4 : Inv X pins σ H2 { s2 with heap := s2.heap.push { cls := .type "slice", data := .fields #[.none, .none, .int k t] } } := I2.kept (t' := s2.toks) fun b ob q => Heap.get?_push_of_some _ q
  cases r1
  obtain ⟨its, r, ht, hz⟩ := I4.list hx
  have hlen := r.length
  show wpAny (model X.prog X.w) X.A (subscriptTail e (.Slice none none (some es) p2) (.ref a) (.ref s2.heap.objs.size)) (EP X pins σ Q) X.xe { s2 with heap := s2.heap.push { cls := .type "slice", data := .fields #[.none, .none, .int k t] } }
  refine tail_any (ops := [.ref a, .ref s2.heap.objs.size]) ht.isList.typeIs slot_list_getitem.lookup ?_ (by with_unfolding_all rfl)
  refine wpAny_getItem_list_slice ht.isList (Heap.IsSliceOf.new ..) .none .none (.int k t) (by simpa using k0) ?_ (by rw [List.size_toArray] <;> omega)
  have I5 := I4
  generalize hS : ({ s2 with heap := s2.heap.push { cls := .type "slice", data := .fields #[.none, .none, .int k t] } } : Shared) = s4 at *
  refine ⟨.ref s4.heap.objs.size, _, I5.laid (t' := s4.toks) (o := .lst (pickV xs k)) (fun b ob q => Heap.get?_push_of_some _ q) (Nat.le_refl _) ?_, rfl, q _ (I5.hok.fresh (Nat.le_refl _))⟩
  have hp : slicePick its.toArray none none (some k) = (pickV its k).toArray := by
    unfold slicePick pickV
    rw [List.size_toArray]
    exact congrArg List.toArray (congrArg (fun f : Nat → Option Value => List.filterMap f _) (funext fun i => by simp))
  have hv : Vals (pickV xs k) (pickV its k) := by
    unfold pickV
    rw [hlen]
    exact vals_pick r _
  have hl : (pickV xs k).length ≤ xs.length := by
    have := slicePick_size_le its.toArray none none (some k)
    rw [hp, List.size_toArray, List.size_toArray] at this
    have := hv.length
    omega
  rw [hp]
  exact ⟨Nat.le_trans hl hz, _, 0, hv, Heap.get?_push_size _ rfl⟩
section
variable {K : PySem.W.Frag} {σ : L2.St} {H : Hp} {te ts : TE}
theorem el_slS {a : Addr} {xs : List V} {k : Int} (h : Ev te σ H (.ref a)) (hs : Ev ts σ H (.int k)) (hx : SqL K H a xs) (k0 : k ≠ 0) : EvL (tSlS K te ts) σ H (pickV xs k) := fun H1 e Q q =>
  h H1 e _ fun H2 e2 => hs H2 (e.trans e2) _ fun H3 e3 => ⟨a, xs, k, rfl, rfl, ex_l ((e.trans e2).trans e3) hx, k0, fun p np => q p _ (fresh_back (e2.trans e3) np) ((e2.trans e3).trans (Ex.new np)) upd_same⟩
end
end Kp

/-! Things of any kind, told from one another part by part. -/
namespace Kp
open PySem PySem.Spec PyProof.Rows L2 Evl RZ
/- a thing made of lists, tuples and flat values that all stand as they were made -/
mutual
inductive Dq (H : Hp) : V → PyData → Prop
  | non : Dq H .non .none
  | bl (b : Bool) : Dq H (.bl b) (.bool b)
  | int (i : Int) : Dq H (.int i) (.int i)
  | str (x : Str) : Dq H (.str x) (.str x)
  | lst {a : Addr} {xs : List V} {ds : List PyData} : H a = some (.lst xs) → DqAll H xs ds → Dq H (.ref a) (.list ds)
  | tup {a : Addr} {xs : List V} {ds : List PyData} : H a = some (.tup xs) → DqAll H xs ds → Dq H (.ref a) (.tuple ds)
inductive DqAll (H : Hp) : List V → List PyData → Prop
  | nil : DqAll H [] []
  | cons {v : V} {vs : List V} {d : PyData} {ds : List PyData} : Dq H v d → DqAll H vs ds → DqAll H (v :: vs) (d :: ds)
end
mutual
theorem Dq.mono {H H' : Hp} (e : Ex H H') : ∀ {v : V} {d : PyData}, Dq H v d → Dq H' v d
  | _, _, .non => .non
  | _, _, .bl b => .bl b
  | _, _, .int i => .int i
  | _, _, .str x => .str x
  | _, _, .lst h hs => .lst (e _ _ h) (DqAll.mono e hs)
  | _, _, .tup h hs => .tup (e _ _ h) (DqAll.mono e hs)
theorem DqAll.mono {H H' : Hp} (e : Ex H H') : ∀ {vs : List V} {ds : List PyData}, DqAll H vs ds → DqAll H' vs ds
  | _, _, .nil => .nil
  | _, _, .cons h hs => .cons (h.mono e) (hs.mono e)
end
theorem DqAll.len {H : Hp} : ∀ {vs : List V} {ds : List PyData}, DqAll H vs ds → vs.length = ds.length
  | _, _, .nil => rfl
  | _, _, .cons _ hs => congrArg Nat.succ hs.len
theorem DqAll.at {H : Hp} : ∀ {vs : List V} {ds : List PyData} {i : Nat} {v : V}, DqAll H vs ds → vs[i]? = some v → ∃ d, ds[i]? = some d ∧ Dq H v d
  | _, _, 0, _, .cons h _, e => ⟨_, rfl, by cases e; exact h⟩
  | _, _, i + 1, _, .cons _ hs, e => hs.at (i := i) e
theorem dqa_ints (H : Hp) : ∀ ns : List Int, DqAll H (ns.map V.int) (ns.map PyData.int)
  | [] => .nil
  | n :: ns => .cons (.int n) (dqa_ints H ns)
theorem dq_ints {H : Hp} {a : Addr} {ns : List Int} (h : H a = some (.lst (ns.map V.int))) : Dq H (.ref a) (dI ns) := .lst h (dqa_ints H ns)
/- alike, by their data -/
mutual
def alkF : PyData → PyData → Bool
  | .list xs, .list ys => alkA xs ys
  | .tuple xs, .tuple ys => alkA xs ys
  | .int i, .int j => decide (i = j)
  | _, _ => false
def alkA : List PyData → List PyData → Bool
  | [], [] => true
  | x :: xs, y :: ys => alkF x y && alkA xs ys
  | _, _ => false
end
/- what is told: lists, tuples and whole numbers, so deep -/
mutual
def toldD : Nat → PyData → Bool
  | _, .int _ => true
  | k + 1, .list ds => toldA k ds && decide (ds.length ≤ 40000)
  | k + 1, .tuple ds => toldA k ds && decide (ds.length ≤ 40000)
  | _, _ => false
def toldA : Nat → List PyData → Bool
  | _, [] => true
  | k, d :: ds => toldD k d && toldA k ds
end
mutual
theorem alk_refl : ∀ (k : Nat) (d : PyData), toldD k d = true → alkF d d = true
  | _, .int i, _ => decide_eq_true rfl
  | k + 1, .list ds, h => by
    unfold toldD at h
    rw [Bool.and_eq_true] at h
    unfold alkF
    exact alka_refl k ds h.1
  | k + 1, .tuple ds, h => by
    unfold toldD at h
    rw [Bool.and_eq_true] at h
    unfold alkF
    exact alka_refl k ds h.1
  | 0, .list ds, h => by unfold toldD at h; exact nomatch h
  | 0, .tuple ds, h => by unfold toldD at h; exact nomatch h
  | k, .none, h => by unfold toldD at h; exact nomatch h
  | k, .bool b, h => by unfold toldD at h; exact nomatch h
  | k, .str s, h => by unfold toldD at h; exact nomatch h
theorem alka_refl : ∀ (k : Nat) (ds : List PyData), toldA k ds = true → alkA ds ds = true
  | _, [], _ => rfl
  | k, d :: ds, h => by
    unfold toldA at h
    rw [Bool.and_eq_true] at h
    unfold alkA
    rw [Bool.and_eq_true]
    exact ⟨alk_refl k d h.1, alka_refl k ds h.2⟩
end
theorem walk_zipT {K : PySem.W.Frag} {a b : Addr} {xs ys : List V} {n : Nat} (hn : n = min xs.length ys.length) : Walk (ItzT K a b) n (fun H => SqT K H a xs ∧ SqT K H b ys) (YPair (fun i => xs[i]?) (fun i => ys[i]?)) := by
  subst hn
  refine ⟨fun i _ hi q => ?_, fun _ q => ⟨xs, ys, q.1, q.2, by omega⟩, fun i H v H' _ q y => ?_⟩
  · have h1 : i < xs.length := by omega
    have h2 : i < ys.length := by omega
    exact ⟨xs, ys, xs[i], ys[i], q.1, q.2, by simp [h1], by simp [h2]⟩
  · obtain ⟨T, x, z, h1, h2, h3, h4, h5⟩ := y
    exact ⟨T, x, z, h1, h2, h3, h4 xs q.1, h5 ys q.2⟩
section
variable {K : PySem.W.Frag} {σ : L2.St} {H : Hp} {te : TE} {vs : List Nat}
/-- [e for x, y in zip(a, b)], two lists or two tuples -/
theorem el_lcZA {tg : TA} {a b : Addr} {xs ys : List V} {i j : Nat} (w : Nat → V) (h : EvA tg σ H [.ref a, .ref b]) (hab : (H a = some (.lst xs) ∧ H b = some (.lst ys)) ∨ (H a = some (.tup xs) ∧ H b = some (.tup ys))) (hl : xs.length = ys.length) (hz : xs.length ≤ 40000)
    (hw : ∀ x y, wipe (((wipe σ vs).set i (some x)).set j (some y)) vs = wipe σ vs)
    (he : ∀ n x y H1, Ex H H1 → xs[n]? = some x → ys[n]? = some y → Ev te (((wipe σ vs).set i (some x)).set j (some y)) H1 (w n)) :
    EvL (tLc (iZipA K tg) (gTup K 2 (gCons (gName i) (gCons (gName j) gNil))) tYes te vs) σ H ((List.range xs.length).map w) := fun H0 e Q q => h H0 e _ fun H1 e1 => by
  have go : ∀ {I : It} {S : Hp → Prop}, Walk I xs.length S (YPair (fun i => xs[i]?) (fun i => ys[i]?)) → (∀ H', Ex H1 H' → S H') → ∀ Dl, H1 Dl = none → ∃ W : Nat → Nat → Hp → Prop, (∃ m, W 0 m (upd H1 Dl (.lst []))) ∧ ∀ n m H', W n m H' →
      (I.stop n H' ∧ Q (.ref Dl) H') ∨ (I.go n H' ∧ ∃ N : Hp → Prop, (∀ H'', N H'' → ∃ m', m' < m ∧ W (n + 1) m' H'') ∧ ∀ v H'', I.yld n H' v H'' → (gTup K 2 (gCons (gName i) (gCons (gName j) gNil))) v (wipe σ vs) H'' fun σ' H3 => wipe σ' vs = wipe σ vs ∧ tYes σ' H3 fun b H4 => if b = true then te σ' H4 fun v' H5 => ∃ acc, H5 Dl = some (.lst acc) ∧ acc.length < sizeLine ∧ N (upd H5 Dl (.lst (acc ++ [v']))) else N H4) := fun {I S} wk hS Dl hD =>
    lc_it (n := xs.length) wk (fun n H' => H1 Dl = none ∧ Ex H1 H' ∧ H' Dl = some (.lst ((List.range n).map w))) ⟨hD, Ex.new hD, upd_same⟩ (fun n H' _ p => hS H' p.2.1) (fun n v H' H'' hn p y => by
      obtain ⟨p1, p2, p3⟩ := p
      obtain ⟨T, x, y, rfl, hT, rfl, hx, hy⟩ := y
      have e2 : Ex H' (upd H' T (.tup [x, y])) := Ex.new hT
      refine ⟨T, _, rfl, .inl (.inl upd_same), rfl, x, [y], rfl, y, [], rfl, rfl, hw _ _, ?_⟩
      refine et_yes (H := H') _ e2 _ fun H3 e3 => ?_
      show te _ H3 _
      refine he n x y H1 (e.trans e1) hx hy H3 (p2.trans (e2.trans e3)) _ fun H4 e4 => ⟨_, e4 Dl _ (e3 Dl _ (e2 Dl _ p3)), ?_, p1, Ex.mut (((p2.trans e2).trans e3).trans e4) p1, ?_⟩
      · refine sz_lt ?_
        rw [List.length_map, List.length_range]
        omega
      · rw [upd_same, List.range_succ, List.map_append]
        rfl) (fun H' p => q Dl H' (fresh_back e1 p.1) (e1.trans p.2.1) p.2.2)
  rcases hab with ⟨ha, hb⟩ | ⟨ha, hb⟩
  · exact ⟨a, b, xs, ys, rfl, .inl ⟨SqL.of ((e.trans e1) _ _ ha), SqL.of ((e.trans e1) _ _ hb), fun Dl hD => go (walk_zip (K := K) (a := a) (b := b) (xs := xs) (ys := ys) (by omega)) (fun H' e' => ⟨SqL.of (((e.trans e1).trans e') _ _ ha), SqL.of (((e.trans e1).trans e') _ _ hb)⟩) Dl hD⟩⟩
  · exact ⟨a, b, xs, ys, rfl, .inr ⟨SqT.of ((e.trans e1) _ _ ha), SqT.of ((e.trans e1) _ _ hb), fun Dl hD => go (walk_zipT (K := K) (a := a) (b := b) (xs := xs) (ys := ys) (by omega)) (fun H' e' => ⟨SqT.of (((e.trans e1).trans e') _ _ ha), SqT.of (((e.trans e1).trans e') _ _ hb)⟩) Dl hD⟩⟩
/-- len, of a list or a tuple -/
theorem ev_lenA {te : TE} {a : Addr} {xs : List V} (ha : Ev te σ H (.ref a)) (h : H a = some (.lst xs) ∨ H a = some (.tup xs)) : Ev (tCB (rLenS K) (tCons te tNil)) σ H (.int (xs.length : Int)) := fun H1 e Q q =>
  ha H1 e _ fun H2 e2 => ⟨a, xs, rfl, by
    rcases h with h | h
    · exact Or.inl (SqL.of ((e.trans e2) _ _ h))
    · exact Or.inr (SqT.of ((e.trans e2) _ _ h)), q H2 e2⟩
/-- the kind of a thing -/
def kindS : PyData → String
  | .none => "NoneType"
  | .bool _ => "bool"
  | .int _ => "int"
  | .str _ => "str"
  | .list _ => "list"
  | .tuple _ => "tuple"
  | .dict _ => "dict"
theorem dq_ty {x : V} {d : PyData} (h : Dq H x d) : ∀ H1, Ex H H1 → TyX K H1 x (.type (kindS d)) := fun H1 e => by
  cases h with
  | non => exact .base .non
  | bl b => exact .base (.bl b)
  | int i => exact .base (.int i)
  | str y => exact .base (.str y)
  | lst h _ => exact .base (.lst (e _ _ h))
  | tup h _ => exact .base (.tup (e _ _ h))
def isK (n : String) (d : PyData) : Bool := (kitB (kindS d) n).getD false
theorem kit_some (d : PyData) (n : String) (hn : n = "list" ∨ n = "tuple" ∨ n = "int" ∨ n = "bool") : kitB (kindS d) n = some (isK n d) := by
  rcases hn with rfl | rfl | rfl | rfl <;> cases d <;> (simp only [isK, kindS]; decide +kernel)
theorem ev_isD {ta : TE} {x : V} {d : PyData} {n : String} (ha : Ev ta σ H x) (h : Dq H x d) (hn : n = "list" ∨ n = "tuple" ∨ n = "int" ∨ n = "bool") : Ev (tCB (rIsi K) (tCons ta (tCons (tC (.ty n)) tNil))) σ H (.bl (isK n d)) :=
  ev_isi (b := isK n d) ha (dq_ty h) (kit_some d n hn)
end
end Kp

namespace Kp
open PySem PySem.Spec PyProof.Rows L2 Evl
/-! ### lists of new lists of numbers, without doubles -/
def RetNL (xss : List (List V)) (H : Hp) (Q : VK) : Prop := ∀ L ps H1, H L = none → Ex H H1 → H1 L = some (.lst (ps.map V.ref)) → NewL H H1 ps xss → L ∉ ps → Q (.ref L) H1
def insR (rs : List (List Int)) (x : List Int) : List (List Int) := if x ∈ rs then rs else rs ++ [x]
def ddp (l : List (List Int)) : List (List Int) := l.foldl insR []
theorem ddp_snoc (l : List (List Int)) (x : List Int) : ddp (l ++ [x]) = insR (ddp l) x := by
  unfold ddp
  rw [List.foldl_append]
  rfl
theorem ddp_len : ∀ l : List (List Int), (ddp l.reverse).length ≤ l.length
  | [] => Nat.le_refl 0
  | x :: l => by
    rw [List.reverse_cons, ddp_snoc]
    have := ddp_len l
    unfold insR
    split
    · exact Nat.le_succ_of_le this
    · rw [List.length_append]
      exact Nat.succ_le_succ this
theorem ddp_le (l : List (List Int)) : (ddp l).length ≤ l.length := by
  have := ddp_len l.reverse
  rw [List.reverse_reverse, List.length_reverse] at this
  exact this
theorem any_dI (rs : List (List Int)) (x : List Int) : (rs.map dI).any (fun z => PyData.eqv z (dI x)) = decide (x ∈ rs) := by
  induction rs with
  | nil => rfl
  | cons r rs ih =>
    rw [List.map_cons, List.any_cons, ih, dI_eqv]
    refine Bool.eq_iff_iff.mpr ?_
    rw [Bool.or_eq_true, decide_eq_true_iff, decide_eq_true_iff, decide_eq_true_iff, List.mem_cons]
    exact or_congr ⟨Eq.symm, Eq.symm⟩ Iff.rfl
section
variable {K : PySem.W.Frag} {H H' : Hp}
theorem rv_notLL {p L : Addr} {x : List Int} {ps : List Addr} {rs : List (List Int)} (h : SqL K H p (x.map V.int)) (hL : SqL K H L (ps.map V.ref)) (R : Paired (fun p ns => SqL K H p (ns.map V.int)) ps rs) : RV (rNotInD K) (.ref p) (.ref L) H (.bl (!decide (x ∈ rs))) := fun H1 e Q q =>
  ⟨dI x, rs.map dI, dp_ints (ex_l e h), dp_lists (ex_l e hL) (Paired.mapP R fun _ _ z => ex_l e z), dI_sh x, dLL_sh rs, by rw [any_dI]; exact q H1 (Ex.refl H1)⟩
theorem paired_upd {q : Addr} {o : HO} : ∀ {ps : List Addr} {xss : List (List V)}, Paired (fun p xs => H p = none ∧ H' p = some (.lst xs)) ps xss → q ∉ ps → Paired (fun p xs => H p = none ∧ upd H' q o p = some (.lst xs)) ps xss
  | _, _, .nil, _ => .nil
  | _, _, .cons a r, h => .cons ⟨a.1, by rw [upd_ne (fun e => h (by rw [← e]; exact List.mem_cons_self))]; exact a.2⟩ (paired_upd r fun m => h (List.mem_cons_of_mem _ m))
theorem NewL.upd {q : Addr} {o : HO} {ps : List Addr} {xss : List (List V)} (N : NewL H H' ps xss) (h : q ∉ ps) : NewL H (upd H' q o) ps xss := ⟨paired_upd N.1 h, N.2⟩
theorem NewL.one {p : Addr} {xs : List V} (n : H p = none) (h : H' p = some (.lst xs)) : NewL H H' [p] [xs] := ⟨.cons ⟨n, h⟩ .nil, List.nodup_cons.mpr ⟨List.not_mem_nil, List.nodup_nil⟩⟩
end
/-- walked either way: what is read tells which -/
theorem pi_or {X : Cx} {tg it : Expr} {w1 w2 : TI} (h1 : PI X tg it w1) (h2 : PI X tg it w2) : PI X tg it (fun σ H R => w1 σ H R ∨ w2 σ H R) := ⟨fun pins s σ H R I h => h.elim (h1.run pins s σ H R I) (h2.run pins s σ H R I)⟩
theorem pe_or2 {X : Cx} {e : Expr} {t1 t2 : TE} (h1 : PE X e t1) (h2 : PE X e t2) : PE X e (fun σ H Q => t1 σ H Q ∨ t2 σ H Q) := ⟨fun pins s σ H Q I h => h.elim (h1.run pins s σ H Q I) (h2.run pins s σ H Q I)⟩
section
variable {σ : L2.St} {H : Hp} {w1 w2 : TI} {g : TG} {t : TT} {te : TE} {vs : List Nat} {xs : List V}
theorem el_or1 (h : EvL (tLc w1 g t te vs) σ H xs) : EvL (tLc (fun σ H R => w1 σ H R ∨ w2 σ H R) g t te vs) σ H xs := fun H1 e Q q => .inl (h H1 e Q q)
theorem el_or2 (h : EvL (tLc w2 g t te vs) σ H xs) : EvL (tLc (fun σ H R => w1 σ H R ∨ w2 σ H R) g t te vs) σ H xs := fun H1 e Q q => .inr (h H1 e Q q)
end
theorem room65 {k : Nat} {A : Around} (r : Room k A) : A.units + 65 < cLine := by
  have := r.un
  omega
end Kp

/-! Sums round n, those that are the same number taken as one: a ring, so that the ring's own words of Lean serve. -/
namespace Kp
open PySem PySem.Spec PyProof.Rows L2 Evl

class Ok61 (n : Nat) : Prop where
  h1 : 1 ≤ n
  h2 : n ≤ 61
/-- a number, by its rest -/
structure Zn (n : Nat) where
  v : List Int
  len : v.length = n
  fix : grF n v = v
theorem Zn.ext' {n : Nat} {a b : Zn n} (h : a.v = b.v) : a = b := by
  cases a
  cases b
  cases h
  rfl
instance {n : Nat} : DecidableEq (Zn n) := fun a b => if h : a.v = b.v then .isTrue (Zn.ext' h) else .isFalse fun e => h (by rw [e])
def nrm (n : Nat) (f : List Int) : List Int := mkL n (coef f)
def negS (f : List Int) : List Int := f.map fun x => -x
def itS (n : Nat) (i : Int) : List Int := i :: List.replicate (n - 1) 0
theorem negS_len (f : List Int) : (negS f).length = f.length := List.length_map ..
theorem coef_negS (f : List Int) (m : Nat) : coef (negS f) m = - coef f m := by
  unfold coef negS
  rw [List.getD_eq_getElem?_getD, List.getElem?_map, List.getD_eq_getElem?_getD]
  cases f[m]? <;> rfl
theorem itS_len {n : Nat} (h : 1 ≤ n) (i : Int) : (itS n i).length = n := by
  unfold itS
  rw [List.length_cons, List.length_replicate]
  omega
theorem coef_itS (n : Nat) (i : Int) (m : Nat) : coef (itS n i) m = if m = 0 then i else 0 := by
  cases m with
  | zero => rfl
  | succ m =>
    show coef (List.replicate (n - 1) 0) m = _
    rw [coef_rep]
    rfl
section
variable {n : Nat} [O : Ok61 n] {f g h : List Int}
theorem znX : NokX (n : Int) := nokX (by have := O.h1; omega) (by have := O.h2; omega)
theorem gr_len (hf : f.length = n) : (grF n f).length = n := by
  have := grF_len (n := (n : Int)) (f := f) (by omega)
  omega
theorem gr_gr (hf : f.length = n) : grF n (grF n f) = grF n f := (gr_twice (znX (n := n)) (by omega)).1
theorem nrm_id (hf : f.length = n) : nrm n f = f := ext_of (by unfold nrm; rw [mkL_len, hf]) fun m hm => by
  unfold nrm at *
  rw [mkL_len] at hm
  rw [coef_mkL, if_pos hm]
/-- the number that the sum is -/
def zc (n : Nat) [O : Ok61 n] (f : List Int) : Zn n := ⟨grF n (nrm n f), gr_len (mkL_len _ _), gr_gr (mkL_len _ _)⟩
theorem zc_v (hf : f.length = n) : (zc n f).v = grF n f := by
  show grF n (nrm n f) = _
  rw [nrm_id hf]
theorem zc_eq (hf : f.length = n) (hg : g.length = n) : zc n f = zc n g ↔ grF n f = grF n g := by
  rw [← zc_v hf, ← zc_v hg]
  exact ⟨fun e => by rw [e], Zn.ext'⟩
theorem zc_self (a : Zn n) : zc n a.v = a := Zn.ext' (by rw [zc_v a.len, a.fix])
theorem zc_gr (hf : f.length = n) : zc n (grF n f) = zc n f := (zc_eq (gr_len hf) hf).mpr (gr_gr hf)
theorem mulS_comm (hf : f.length = n) (hg : g.length = n) : mulS f g = mulS g f := ext_of (by rw [mulS_len, mulS_len, hf, hg]) fun m hm => by
  rw [mulS_len, hf] at hm
  rw [mulS_at hf hm, mulS_at hg hm]
  exact S_flip hm (fun i => coef f i) (fun i => coef g i)
instance : Add (Zn n) := ⟨fun a b => zc n (addS a.v b.v)⟩
instance : Mul (Zn n) := ⟨fun a b => zc n (mulS a.v b.v)⟩
instance : Neg (Zn n) := ⟨fun a => zc n (negS a.v)⟩
instance : Sub (Zn n) := ⟨fun a b => a + -b⟩
instance : IntCast (Zn n) := ⟨fun i => zc n (itS n i)⟩
instance : NatCast (Zn n) := ⟨fun k => zc n (itS n (k : Int))⟩
instance (k : Nat) : OfNat (Zn n) k := ⟨zc n (itS n (k : Int))⟩
instance : SMul Nat (Zn n) := ⟨fun k a => zc n (itS n (k : Int)) * a⟩
instance : SMul Int (Zn n) := ⟨fun i a => zc n (itS n i) * a⟩
def zpow (a : Zn n) : Nat → Zn n
  | 0 => zc n (itS n (1 : Nat))
  | k + 1 => zpow a k * a
instance : HPow (Zn n) Nat (Zn n) := ⟨zpow⟩
theorem zc_lin {c : Int} (hf : f.length = n) (hg : g.length = n) (hh : h.length = n) (e : ∀ m, m < n → coef h m = coef f m + c * coef g m) {m : Nat} (hm : m < n) : coef (grF n h) m = coef (grF n f) m + c * coef (grF n g) m :=
  gr_lin (znX (n := n)) c (fun m hm => e m (by omega)) (by omega)
theorem zc_add (hf : f.length = n) (hg : g.length = n) : zc n (addS f g) = zc n f + zc n g := by
  have lf := gr_len hf
  have lg := gr_len hg
  have l1 : (addS f g).length = n := by rw [addS_len (by omega), hf]
  have l2 : (addS (grF n f) (grF n g)).length = n := by rw [addS_len (by omega), lf]
  show _ = zc n (addS (zc n f).v (zc n g).v)
  rw [zc_v hf, zc_v hg, zc_eq l1 l2]
  refine ext_of (by rw [gr_len l1, gr_len l2]) fun m hm => ?_
  rw [gr_len l1] at hm
  rw [zc_lin (c := 1) hf hg l1 (fun m _ => by rw [coef_addS (by omega)]; omega) hm, zc_lin (c := 1) lf lg l2 (fun m _ => by rw [coef_addS (by omega)]; omega) hm, gr_gr hf, gr_gr hg]
theorem zc_mul (hf : f.length = n) (hg : g.length = n) : zc n (mulS f g) = zc n f * zc n g := by
  have lf := gr_len hf
  have lg := gr_len hg
  show _ = zc n (mulS (zc n f).v (zc n g).v)
  rw [zc_v hf, zc_v hg, zc_eq (by rw [mulS_len, hf]) (by rw [mulS_len, lf])]
  rw [gr_mulS O.h1 O.h2 hf lf hg (gr_gr hf).symm, mulS_comm lf hg, mulS_comm lf lg]
  exact gr_mulS O.h1 O.h2 hg lg lf (gr_gr hg).symm
theorem zc_neg (hf : f.length = n) : zc n (negS f) = - zc n f := by
  have lf := gr_len hf
  show _ = zc n (negS (zc n f).v)
  rw [zc_v hf, zc_eq (by rw [negS_len, hf]) (by rw [negS_len, lf])]
  have z : (itS n 0).length = n := itS_len O.h1 0
  refine ext_of (by rw [gr_len (by rw [negS_len, hf]), gr_len (by rw [negS_len, lf])]) fun m hm => ?_
  rw [gr_len (by rw [negS_len, hf])] at hm
  have e1 := zc_lin (f := itS n 0) (c := -1) (h := negS f) z hf (by rw [negS_len, hf]) (fun m _ => by rw [coef_negS, coef_itS]; split <;> omega) hm
  have e2 := zc_lin (f := itS n 0) (c := -1) (h := negS (grF n f)) z lf (by rw [negS_len, lf]) (fun m _ => by rw [coef_negS, coef_itS]; split <;> omega) hm
  rw [e1, e2, gr_gr hf]
theorem mulS_itS (hf : f.length = n) (i : Int) {m : Nat} (hm : m < n) : coef (mulS (itS n i) f) m = i * coef f m := by
  have h1 := O.h1
  rw [mulS_at (itS_len h1 i) hm, S_congr n (G := fun k => if k = 0 then i * coef f m else 0) fun k hk => ?_]
  · rw [S_one (fun _ => i * coef f m) (i := 0) n, if_pos (by omega)]
  · rw [coef_itS]
    split
    · next e =>
      subst e
      rw [Nat.sub_zero, Nat.add_mod_right, Nat.mod_eq_of_lt hm]
    · exact Int.zero_mul _
theorem zc_it_mul (hf : f.length = n) (i : Int) : zc n (itS n i) * zc n f = zc n (mkL n fun m => i * coef f m) := by
  rw [← zc_mul (itS_len O.h1 i) hf]
  congr 1
  refine ext_of (by rw [mulS_len, mkL_len, itS_len O.h1]) fun m hm => ?_
  rw [mulS_len, itS_len O.h1] at hm
  rw [mulS_itS hf i hm, coef_mkL, if_pos hm]
theorem zc_it_add (i j : Int) : zc n (itS n (i + j)) = zc n (itS n i) + zc n (itS n j) := by
  rw [← zc_add (itS_len O.h1 i) (itS_len O.h1 j)]
  congr 1
  refine ext_of (by rw [addS_len (by rw [itS_len O.h1, itS_len O.h1]), itS_len O.h1, itS_len O.h1]) fun m hm => ?_
  rw [coef_addS (by rw [itS_len O.h1, itS_len O.h1]), coef_itS, coef_itS, coef_itS]
  split <;> omega
theorem zn_add_zero (a : Zn n) : a + zc n (itS n 0) = a := by
  have h := zc_add a.len (itS_len O.h1 0)
  rw [zc_self] at h
  rw [← h]
  refine Eq.trans ?_ (zc_self a)
  congr 1
  refine ext_of (by rw [addS_len (by rw [a.len, itS_len O.h1])]) fun m hm => ?_
  rw [coef_addS (by rw [a.len, itS_len O.h1]), coef_itS]
  split <;> omega
theorem zn_add_comm (a b : Zn n) : a + b = b + a := by
  have h := zc_add a.len b.len
  have g := zc_add b.len a.len
  rw [zc_self, zc_self] at h g
  rw [← h, ← g]
  congr 1
  refine ext_of (by rw [addS_len (by rw [a.len, b.len]), addS_len (by rw [a.len, b.len]), a.len, b.len]) fun m hm => ?_
  rw [coef_addS (by rw [a.len, b.len]), coef_addS (by rw [a.len, b.len])]
  omega
theorem zn_add_assoc (a b c : Zn n) : a + b + c = a + (b + c) := by
  rw [← zc_self a, ← zc_self b, ← zc_self c]
  have l1 : (addS a.v b.v).length = n := by rw [addS_len (by rw [a.len, b.len]), a.len]
  have l2 : (addS b.v c.v).length = n := by rw [addS_len (by rw [b.len, c.len]), b.len]
  rw [← zc_add a.len b.len, ← zc_add b.len c.len, ← zc_add l1 c.len, ← zc_add a.len l2]
  congr 1
  have k1 : (addS a.v b.v).length = c.v.length := by rw [l1, c.len]
  have k2 : a.v.length = (addS b.v c.v).length := by rw [l2, a.len]
  have k3 : a.v.length = b.v.length := by rw [a.len, b.len]
  have k4 : b.v.length = c.v.length := by rw [b.len, c.len]
  refine ext_of (by rw [addS_len k1, addS_len k2, l1, a.len]) fun m hm => ?_
  rw [coef_addS k1, coef_addS k2, coef_addS k3, coef_addS k4]
  omega
theorem zn_mul_comm (a b : Zn n) : a * b = b * a := by
  show zc n _ = zc n _
  rw [mulS_comm a.len b.len]
theorem zn_mul_assoc (a b c : Zn n) : a * b * c = a * (b * c) := by
  rw [← zc_self a, ← zc_self b, ← zc_self c]
  have l1 : (mulS a.v b.v).length = n := by rw [mulS_len, a.len]
  have l2 : (mulS b.v c.v).length = n := by rw [mulS_len, b.len]
  rw [← zc_mul a.len b.len, ← zc_mul b.len c.len, ← zc_mul l1 c.len, ← zc_mul a.len l2]
  congr 1
  rw [mulS_comm a.len b.len, mulS_right (by rw [b.len, a.len]) (by rw [c.len, b.len]), mulS_comm (by rw [mulS_len, b.len]) a.len]
theorem zn_distrib (a b c : Zn n) : a * (b + c) = a * b + a * c := by
  rw [← zc_self a, ← zc_self b, ← zc_self c]
  have l1 : (addS b.v c.v).length = n := by rw [addS_len (by rw [b.len, c.len]), b.len]
  have l2 : (mulS a.v b.v).length = n := by rw [mulS_len, a.len]
  have l3 : (mulS a.v c.v).length = n := by rw [mulS_len, a.len]
  rw [← zc_add b.len c.len, ← zc_mul a.len l1, ← zc_mul a.len b.len, ← zc_mul a.len c.len, ← zc_add l2 l3]
  congr 1
  refine ext_of (by rw [addS_len (by rw [l2, l3]), mulS_len, mulS_len]) fun m hm => ?_
  rw [mulS_len, a.len] at hm
  rw [coef_addS (by rw [l2, l3]), mulS_at a.len hm, mulS_at a.len hm, mulS_at a.len hm, ← S_add]
  refine S_congr n fun k hk => ?_
  rw [coef_addS (by rw [b.len, c.len]), Int.mul_add]
theorem zn_one_mul (a : Zn n) : zc n (itS n 1) * a = a := by
  rw [← zc_self a, zc_it_mul a.len]
  congr 1
  refine ext_of (by rw [mkL_len, a.len]) fun m hm => ?_
  rw [mkL_len] at hm
  rw [coef_mkL, if_pos hm, Int.one_mul]
theorem zn_zero_mul (a : Zn n) : zc n (itS n 0) * a = zc n (itS n 0) := by
  rw [← zc_self a, zc_it_mul a.len]
  congr 1
  refine ext_of (by rw [mkL_len, itS_len O.h1]) fun m hm => ?_
  rw [mkL_len] at hm
  rw [coef_mkL, if_pos hm, Int.zero_mul, coef_itS]
  split <;> rfl
theorem zn_neg_add (a : Zn n) : -a + a = zc n (itS n 0) := by
  rw [← zc_self a, ← zc_neg a.len, ← zc_add (by rw [negS_len, a.len]) a.len]
  congr 1
  refine ext_of (by rw [addS_len (by rw [negS_len, a.len]), negS_len, itS_len O.h1, a.len]) fun m hm => ?_
  rw [coef_addS (by rw [negS_len, a.len]), coef_negS, coef_itS]
  split <;> omega
theorem zc_it_neg (i : Int) : zc n (itS n (-i)) = - zc n (itS n i) := by
  rw [← zc_neg (itS_len O.h1 i)]
  congr 1
  refine ext_of (by rw [negS_len, itS_len O.h1, itS_len O.h1]) fun m hm => ?_
  rw [coef_negS, coef_itS, coef_itS]
  split <;> omega
instance : Lean.Grind.CommRing (Zn n) where
  add_zero := zn_add_zero
  add_comm := zn_add_comm
  add_assoc := zn_add_assoc
  mul_assoc := zn_mul_assoc
  mul_one a := by
    rw [zn_mul_comm]
    exact zn_one_mul a
  one_mul := zn_one_mul
  mul_comm := zn_mul_comm
  left_distrib := zn_distrib
  right_distrib a b c := by
    rw [zn_mul_comm, zn_distrib, zn_mul_comm c, zn_mul_comm c]
  zero_mul := zn_zero_mul
  mul_zero a := by
    rw [zn_mul_comm]
    exact zn_zero_mul a
  pow_zero _ := rfl
  pow_succ _ _ := rfl
  neg_add_cancel := zn_neg_add
  sub_eq_add_neg _ _ := rfl
  neg_zsmul i a := by
    show zc n (itS n (-i)) * a = - (zc n (itS n i) * a)
    rw [zc_it_neg]
    have h : ∀ x y : Zn n, -x * y + x * y = zc n (itS n 0) := fun x y => by
      rw [zn_mul_comm (-x), zn_mul_comm x, ← zn_distrib, zn_neg_add, zn_mul_comm, zn_zero_mul]
    have e := h (zc n (itS n i)) a
    have e2 := zn_neg_add (zc n (itS n i) * a)
    generalize -zc n (itS n i) * a = u at *
    generalize zc n (itS n i) * a = w at *
    rw [← zn_add_zero u, ← zn_add_zero (-w), ← zn_neg_add w, ← zn_add_assoc, zn_add_comm u, zn_add_assoc, e, zn_add_zero, zn_add_comm (-w) w, ← zn_add_assoc, zn_neg_add, zn_add_comm, zn_add_zero]
  ofNat_succ k := zc_it_add (k : Int) 1
  intCast_neg := zc_it_neg
example (a b c : Zn n) (h : a = b + c) : a * a = b * b + 2 * b * c + c * c := by grind
/-- no number but nought comes to nought by a whole number but 0 -/
theorem zn_tor {c : Int} (hc : c ≠ 0) {a b : Zn n} (h : (c : Zn n) * a = (c : Zn n) * b) : a = b := by
  have key : ∀ a : Zn n, ((c : Zn n) * a).v = mkL n fun m => c * coef a.v m := fun a => by
    have e : (c : Zn n) * a = zc n (mkL n fun m => c * coef a.v m) := by
      rw [← zc_it_mul a.len, zc_self]
      rfl
    rw [e, zc_v (mkL_len _ _)]
    refine ext_of (by rw [gr_len (mkL_len _ _), mkL_len]) fun m hm => ?_
    rw [gr_len (mkL_len _ _)] at hm
    rw [zc_lin (f := itS n 0) (c := c) (itS_len O.h1 0) a.len (mkL_len _ _) (fun m hm => by rw [coef_mkL, if_pos hm, coef_itS]; split <;> omega) hm, a.fix, coef_mkL, if_pos hm]
    have z : coef (grF n (itS n 0)) m = 0 := by
      have := zc_lin (f := itS n 0) (c := 1) (h := itS n 0) (itS_len O.h1 0) (itS_len O.h1 0) (itS_len O.h1 0) (fun m hm => by rw [coef_itS]; split <;> omega) hm
      omega
    rw [z, Int.zero_add]
  have e := congrArg Zn.v h
  rw [key, key] at e
  refine Zn.ext' (ext_of (by rw [a.len, b.len]) fun m hm => ?_)
  rw [a.len] at hm
  have := congrArg (fun l => coef l m) e
  simp only [coef_mkL, if_pos hm] at this
  exact Int.eq_of_mul_eq_mul_left hc this
end
end Kp

/-! Cosine polynomials to 60. -/
namespace Kp
open PySem PySem.Spec PyProof.Rows L2 Evl
/-! ### cosine polynomials: folded root polynomials -/
/-- the next doubled row -/
def nxD (here last : List Int) : List Int := addP (-1) (0 :: here) last
/-- one step of folding: the sum so far, the last row, this row -/
def fdS (s : List Int × List Int × List Int) (c : Int) : List Int × List Int × List Int := (addP 1 s.1 (s.2.2.map fun x => c * x), s.2.2, nxD s.2.2 s.2.1)
def foldF (f : List Int) : List Int := ((f.drop (f.length / 2 + 1)).foldl fdS ([coef f (f.length / 2)], [2], [0, 1])).1
def cosF (n : Nat) : List Int := if n = 1 then [-2, 1] else if n = 2 then [2, 1] else foldF (phi n)
/-- the k-th doubled row, as the law makes it -/
def dbS : Nat → List Int × List Int
  | 0 => ([2], [0, 1])
  | k + 1 => ((dbS k).2, nxD (dbS k).2 (dbS k).1)
def dbF (k : Nat) : List Int := (dbS k).1
def pdL (f g : List Int) : List Int := trim (mulP f g)
/-- the product of the cosine polynomials of d's divisors, those above 2 twice -/
def mdS (d : Nat) (t : List Int) (e : Nat) : List Int := if d % e = 0 then (if 2 < e then pdL (pdL t (cosF e)) (cosF e) else pdL t (cosF e)) else t
def mdF (d : Nat) : List Int := (dvL d).foldl (mdS d) [1]
def chk62 (d : Nat) : Bool := decide ((cosF d).getLast? = some 1) && (decide (mdF d = addP 1 (dbF d) [-2]) && (decide (d ≤ 2) || decide ((phi d).length % 2 = 1 ∧ (phi d).reverse = phi d)))
theorem chk62_0 : ((List.range 20).all fun i => chk62 (i + 1)) = true := by decide +kernel
theorem chk62_1 : ((List.range 10).all fun i => chk62 (i + 21)) = true := by decide +kernel
theorem chk62_2 : ((List.range 8).all fun i => chk62 (i + 31)) = true := by decide +kernel
theorem chk62_3 : ((List.range 6).all fun i => chk62 (i + 39)) = true := by decide +kernel
theorem chk62_4 : ((List.range 4).all fun i => chk62 (i + 45)) = true := by decide +kernel
theorem chk62_5 : ((List.range 4).all fun i => chk62 (i + 49)) = true := by decide +kernel
theorem chk62_6 : ((List.range 3).all fun i => chk62 (i + 53)) = true := by decide +kernel
theorem chk62_7 : ((List.range 3).all fun i => chk62 (i + 56)) = true := by decide +kernel
theorem chk62_8 : ((List.range 2).all fun i => chk62 (i + 59)) = true := by decide +kernel
theorem chk62_at {d : Nat} (h1 : 1 ≤ d) (h2 : d ≤ 60) : chk62 d = true := by
  have key : ∀ k m, k ≤ d - 1 → d - 1 < k + m → ((List.range m).all fun i => chk62 (i + (k + 1))) = true → chk62 d = true := fun k m a b h => by
    have h := List.all_eq_true.mp h (d - 1 - k) (List.mem_range.mpr (by omega))
    rwa [show d - 1 - k + (k + 1) = d by omega] at h
  by_cases c0 : d - 1 < 20
  · exact key 0 20 (by omega) (by omega) chk62_0
  by_cases c1 : d - 1 < 30
  · exact key 20 10 (by omega) (by omega) chk62_1
  by_cases c2 : d - 1 < 38
  · exact key 30 8 (by omega) (by omega) chk62_2
  by_cases c3 : d - 1 < 44
  · exact key 38 6 (by omega) (by omega) chk62_3
  by_cases c4 : d - 1 < 48
  · exact key 44 4 (by omega) (by omega) chk62_4
  by_cases c5 : d - 1 < 52
  · exact key 48 4 (by omega) (by omega) chk62_5
  by_cases c6 : d - 1 < 55
  · exact key 52 3 (by omega) (by omega) chk62_6
  by_cases c7 : d - 1 < 58
  · exact key 55 3 (by omega) (by omega) chk62_7
  exact key 58 2 (by omega) (by omega) chk62_8

end Kp

/-! Cosine polynomials, and what they are in the ring of sums round n. -/
namespace Kp
open PySem PySem.Spec PyProof.Rows L2 Evl
/-! ### sums round n as numbers: roots, polynomials at a number -/
def uF (n j : Nat) : List Int := mkL n fun m => if m = j then 1 else 0
theorem it_mul66 (n : Nat) [O : Ok61 n] (i j : Int) : (((i * j : Int)) : Zn n) = (i : Zn n) * (j : Zn n) := by
  show zc n (itS n (i * j)) = zc n (itS n i) * zc n (itS n j)
  rw [zc_it_mul (itS_len O.h1 j)]
  congr 1
  refine ext_of (by rw [mkL_len, itS_len O.h1]) fun m hm => ?_
  rw [itS_len O.h1] at hm
  rw [coef_mkL, if_pos hm, coef_itS, coef_itS]
  split
  · rfl
  · rw [Int.mul_zero]
section
variable {n : Nat} [O : Ok61 n] {f g : List Int}
/-- the root itself -/
def om (n : Nat) [O : Ok61 n] : Zn n := zc n (uF n (1 % n))
theorem uFl (j : Nat) : (uF n j).length = n := mkL_len _ _
theorem coef_uF {j m : Nat} (hm : m < n) : coef (uF n j) m = if m = j then 1 else 0 := by
  unfold uF
  rw [coef_mkL, if_pos hm]
theorem uF_mul {i j : Nat} (hi : i < n) (hj : j < n) : mulS (uF n i) (uF n j) = uF n ((i + j) % n) := by
  have h1 := O.h1
  refine ext_of (by rw [mulS_len, uFl, uFl]) fun m hm => ?_
  rw [mulS_len, uFl] at hm
  rw [mulS_at (uFl i) hm, coef_uF hm]
  have e := S_one (fun k => coef (uF n j) ((m + n - k) % n)) (i := i) n
  rw [if_pos hi] at e
  refine (S_congr n fun k hk => ?_).trans (e.trans ?_)
  · rw [coef_uF hk]
    split
    · rw [Int.one_mul]
    · rw [Int.zero_mul]
  · show coef (uF n j) ((m + n - i) % n) = _
    rw [coef_uF (Nat.mod_lt _ h1)]
    have iff : (m + n - i) % n = j ↔ m = (i + j) % n := by
      constructor
      · intro z
        rw [← z, Nat.add_mod, Nat.mod_mod, ← Nat.add_mod, show i + (m + n - i) = m + n by omega, Nat.add_mod_right, Nat.mod_eq_of_lt hm]
      · intro z
        by_cases c : i + j < n
        · rw [Nat.mod_eq_of_lt c] at z
          rw [z, show i + j + n - i = j + n by omega, Nat.add_mod_right, Nat.mod_eq_of_lt hj]
        · rw [Nat.mod_eq_sub_mod (by omega), Nat.mod_eq_of_lt (by omega)] at z
          rw [z, show i + j - n + n - i = j by omega, Nat.mod_eq_of_lt hj]
    by_cases c : m = (i + j) % n
    · rw [if_pos c, if_pos (iff.mpr c)]
    · rw [if_neg c, if_neg fun z => c (iff.mp z)]
theorem om_pow (k : Nat) : om n ^ k = zc n (uF n (k % n)) := by
  have h1 := O.h1
  induction k with
  | zero =>
    rw [Lean.Grind.Semiring.pow_zero, Nat.zero_mod]
    show zc n (itS n 1) = _
    congr 1
    refine ext_of (by rw [itS_len h1, uFl]) fun m hm => ?_
    rw [itS_len h1] at hm
    rw [coef_itS, coef_uF hm]
  | succ k ih =>
    rw [Lean.Grind.Semiring.pow_succ, ih]
    show _ * zc n (uF n (1 % n)) = _
    rw [← zc_mul (uFl _) (uFl _), uF_mul (Nat.mod_lt _ h1) (Nat.mod_lt _ h1), ← Nat.add_mod]
theorem om_n : om n ^ n = 1 := by
  rw [om_pow, Nat.mod_self, ← Nat.zero_mod n, ← om_pow, Lean.Grind.Semiring.pow_zero]
/-- a polynomial at a number -/
def evX (a : Zn n) (f : List Int) : Zn n := f.foldr (fun c acc => ((c : Int) : Zn n) + a * acc) 0
theorem evX_nil (x : Zn n) : evX x [] = 0 := rfl
theorem evX_cons (x : Zn n) (c : Int) (f : List Int) : evX x (c :: f) = ((c : Int) : Zn n) + x * evX x f := rfl
theorem it_zero66 : ((0 : Int) : Zn n) = 0 := rfl
theorem it_one66 : ((1 : Int) : Zn n) = 1 := rfl
theorem it_add66 (i j : Int) : (((i + j : Int)) : Zn n) = (i : Zn n) + (j : Zn n) := zc_it_add i j
theorem evX_add (x : Zn n) : ∀ f g : List Int, evX x (addK f g) = evX x f + evX x g
  | [], g => by
    show evX x g = 0 + evX x g
    grind
  | a :: f, [] => by
    show evX x (a :: f) = evX x (a :: f) + 0
    grind
  | a :: f, b :: g => by
    show evX x ((a + b) :: addK f g) = _
    rw [evX_cons, evX_cons, evX_cons, evX_add x f g, it_add66]
    grind
theorem evX_scale (x : Zn n) (a : Int) : ∀ g : List Int, evX x (g.map fun x => a * x) = ((a : Int) : Zn n) * evX x g
  | [] => by
    show (0 : Zn n) = _ * 0
    grind
  | b :: g => by
    rw [List.map_cons, evX_cons, evX_cons, evX_scale x a g, it_mul66]
    grind
theorem evX_mul (x : Zn n) : ∀ f g : List Int, evX x (mulK f g) = evX x f * evX x g
  | [], g => by
    show (0 : Zn n) = 0 * _
    grind
  | a :: f, g => by
    show evX x (addK (g.map fun x => a * x) (0 :: mulK f g)) = _
    rw [evX_add, evX_scale, evX_cons, evX_cons, evX_mul x f g, it_zero66]
    grind
theorem evX_congr (x : Zn n) : ∀ f g : List Int, (∀ m, coef f m = coef g m) → evX x f = evX x g
  | [], [], _ => rfl
  | a :: f, [], h => by
    rw [evX_cons, show a = 0 from h 0, evX_congr x f [] fun m => h (m + 1), evX_nil, it_zero66]
    grind
  | [], b :: g, h => by
    rw [evX_cons, show b = 0 from (h 0).symm, ← evX_congr x [] g fun m => h (m + 1), evX_nil, it_zero66]
    grind
  | a :: f, b :: g, h => by
    rw [evX_cons, evX_cons, show a = b from h 0, evX_congr x f g fun m => h (m + 1)]
theorem evX_app (x : Zn n) : ∀ f g : List Int, evX x (f ++ g) = evX x f + x ^ f.length * evX x g
  | [], g => by
    show evX x g = 0 + x ^ 0 * evX x g
    rw [Lean.Grind.Semiring.pow_zero]
    grind
  | a :: f, g => by
    rw [List.cons_append, evX_cons, evX_cons, evX_app x f g, List.length_cons, Lean.Grind.Semiring.pow_succ]
    grind
theorem evX_rep (x : Zn n) : ∀ k : Nat, evX x (List.replicate k 0) = 0
  | 0 => rfl
  | k + 1 => by
    rw [List.replicate_succ, evX_cons, evX_rep x k, it_zero66]
    grind
/-- the polynomial laid round n -/
def layK (n : Nat) (f : List Int) : Nat → List Int
  | 0 => List.replicate n 0
  | i + 1 => (layK n f i).set (i % n) (coef (layK n f i) (i % n) + coef f i)
def layF (n : Nat) (f : List Int) : List Int := layK n f f.length
theorem layK_len (f : List Int) : ∀ i, (layK n f i).length = n
  | 0 => List.length_replicate
  | i + 1 => by
    show ((layK n f i).set _ _).length = n
    rw [List.length_set, layK_len f i]
theorem layF_len (f : List Int) : (layF n f).length = n := layK_len f _
theorem zc_set {T : List Int} (hT : T.length = n) {j : Nat} (hj : j < n) (c : Int) : zc n (T.set j (coef T j + c)) = zc n T + ((c : Int) : Zn n) * zc n (uF n j) := by
  have ml : (mkL n fun m => c * coef (uF n j) m).length = n := mkL_len _ _
  have e : T.set j (coef T j + c) = addS T (mkL n fun m => c * coef (uF n j) m) := by
    refine ext_of (by rw [List.length_set, addS_len (by rw [hT, ml])]) fun m hm => ?_
    rw [List.length_set, hT] at hm
    rw [coef_set (by omega), coef_addS (by rw [hT, ml]), coef_mkL, if_pos hm, coef_uF hm]
    by_cases q : m = j
    · rw [if_pos q, if_pos q, q, Int.mul_one]
    · rw [if_neg q, if_neg q, Int.mul_zero, Int.add_zero]
  rw [e, zc_add hT ml]
  show _ = _ + zc n (itS n c) * _
  rw [zc_it_mul (uFl j)]
theorem layK_ev (f : List Int) : ∀ i, i ≤ f.length → zc n (layK n f i) = evX (om n) (f.take i)
  | 0, _ => by
    rw [List.take_zero, evX_nil]
    show zc n (List.replicate n 0) = zc n (itS n 0)
    congr 1
    have h1 := O.h1
    refine ext_of (by rw [List.length_replicate, itS_len h1]) fun m hm => ?_
    rw [coef_rep, coef_itS]
    split <;> rfl
  | i + 1, h => by
    show zc n ((layK n f i).set (i % n) (coef (layK n f i) (i % n) + coef f i)) = _
    rw [zc_set (layK_len f i) (Nat.mod_lt _ O.h1), layK_ev f i (by omega), List.take_add_one, coef_get (by omega), ← om_pow]
    show _ = evX (om n) (f.take i ++ [coef f i])
    rw [evX_app, List.length_take, Nat.min_eq_left (by omega), evX_cons, evX_nil]
    grind
theorem lay_ev (f : List Int) : zc n (layF n f) = evX (om n) f := by
  unfold layF
  rw [layK_ev f _ (Nat.le_refl _), List.take_length]
end
/-! ### the mathematics: rounds of led sums -/
theorem mv_one {n : Nat} {f : List Int} (hf : f.length = n) : mv n (1 % n) f = f := by
  refine ext_of (by rw [mv_len, hf]) fun m hm => ?_
  rw [mv_len] at hm
  unfold mv
  rw [coef_mkL, if_pos hm, mm2, Nat.one_mul, Nat.mod_eq_of_lt hm]
theorem zr_mv {n : Nat} (n1 : 1 ≤ n) (n2 : n ≤ 61) {d : List Int} (v : Nat) (z : Zr n (grF n d)) : Zr n (grF n (mv n v d)) := by
  have X := nokX (n := (n : Int)) (by omega) (by omega)
  have G := gok (n := (n : Int)) (by omega) (by omega)
  refine gr_sumZ X (wlF n (pwF n) d) (fun r => mkL n fun m => wh n r (v * m % n)) _ (fun r hr => ?_) fun m hm => ?_
  · obtain ⟨q, hq, e⟩ := wlF_prime hr
    refine ⟨q, hq, fun m i hm hi hmi => ?_⟩
    rw [coef_mkL, coef_mkL, if_pos (by omega), if_pos (by omega)]
    have st := (G.all q hq).step (by omega)
    have key : ∀ m : Nat, ((v * m % n : Nat) : Int) % ((n : Int) / q.1) = ((v : Int) % ((n : Int) / q.1)) * ((m : Int) % ((n : Int) / q.1)) % ((n : Int) / q.1) := fun m => by
      rw [Int.natCast_emod, Int.emod_emod_of_dvd _ ⟨q.1, st.2.2⟩, Int.natCast_mul, Int.mul_emod]
    unfold wh
    rw [← e, key m, key i, hmi]
  · have hmn : m < n := by omega
    have hl := Nat.mod_lt (v * m) (show 0 < n by omega)
    have mk := gr_makes (n := (n : Int)) (by omega) (pwF n) d G.all (v * m % n) (by omega)
    have zz := z (v * m % n) (by omega)
    unfold grF at zz
    rw [zz, cmAt_sum, Int.zero_add] at mk
    unfold mv
    rw [coef_mkL, if_pos hmn, ← mk]
    congr 1
    refine List.map_congr_left fun r _ => ?_
    rw [coef_mkL, if_pos hmn]
theorem gr_mv {n : Nat} (n1 : 1 ≤ n) (n2 : n ≤ 61) {f g : List Int} (hf : f.length = n) (hg : g.length = n) (v : Nat) (e : grF n f = grF n g) : grF n (mv n v f) = grF n (mv n v g) := by
  refine (gr_eq_iff n1 n2 (mv_len _ _ _) (mv_len _ _ _)).mpr ?_
  have z := zr_mv n1 n2 v ((gr_eq_iff n1 n2 hf hg).mp e)
  have q : (mkL n fun m => coef (mv n v f) m - coef (mv n v g) m) = mv n v (mkL n fun m => coef f m - coef g m) := by
    refine ext_of (by rw [mkL_len, mv_len]) fun m hm => ?_
    rw [mkL_len] at hm
    unfold mv
    rw [coef_mkL, if_pos hm, coef_mkL, if_pos hm, coef_mkL, if_pos hm, coef_mkL, if_pos hm, coef_mkL, if_pos (Nat.mod_lt _ (by omega))]
  rw [q]
  exact z
section
variable {n : Nat} {f g : List Int}
end
/-! counting -/
/-! ### the mathematics: polynomials that the root polynomial parts -/
/-! ### parting by the root polynomial: facts -/
theorem cv_rep0 (N : Nat) (g : List Int) (m : Nat) : ∀ n, cv (List.replicate N 0) g n m = 0
  | 0 => rfl
  | n + 1 => by
    rw [cv, cv_rep0 N g m n, coef_rep]
    split
    · rw [Int.zero_mul]
      rfl
    · rfl
/-- f is q times g and r -/
structure Lov (f g q r : List Int) : Prop where
  ql : q.length = f.length + 1 - g.length
  rl : r.length = min (g.length - 1) f.length
  eq : ∀ m, coef f m = coef r m + cv q g q.length m
theorem mon_zero {g D r : List Int} (g0 : g ≠ []) (g1 : coef g (g.length - 1) = 1) (hr : r.length < g.length) (e : ∀ m, coef (mulK D g) m = coef r m) : ∀ k m, D.length ≤ m + k → coef D m = 0
  | 0, m, h => coef_ge (by omega)
  | k + 1, m, h => by
    have ih := mon_zero g0 g1 hr e k
    have lg := List.length_pos_iff.mpr g0
    by_cases hm : D.length ≤ m
    · exact coef_ge hm
    · have E := e (m + g.length - 1)
      rw [coef_mulK, coef_ge (show r.length ≤ m + g.length - 1 by omega)] at E
      have z : ∀ j, cv D g (m + 1 + j) (m + g.length - 1) = cv D g (m + 1) (m + g.length - 1) := by
        intro j
        induction j with
        | zero => rfl
        | succ j jh =>
          rw [show m + 1 + (j + 1) = (m + 1 + j) + 1 by omega, cv, jh, ih (m + 1 + j) (by omega), Int.zero_mul]
          split <;> omega
      have y := z (D.length - (m + 1))
      rw [show m + 1 + (D.length - (m + 1)) = D.length by omega, E, cv, cv_far D g _ m (by omega), if_pos (by omega), show m + g.length - 1 - m = g.length - 1 by omega, g1] at y
      omega
theorem cv_zero {D g : List Int} (h : ∀ i, coef D i = 0) (m : Nat) : ∀ n, cv D g n m = 0
  | 0 => rfl
  | n + 1 => by
    rw [cv, cv_zero h m n, h n, Int.zero_mul]
    split <;> rfl
theorem cv_snoc (q g : List Int) (x : Int) (m : Nat) : ∀ i, i ≤ q.length → cv (q ++ [x]) g i m = cv q g i m
  | 0, _ => rfl
  | i + 1, h => by
    rw [cv, cv, cv_snoc q g x m i (by omega), coef_app, if_pos (show i < q.length by omega)]
theorem lov_ex {g : List Int} (g0 : g ≠ []) (g1 : coef g (g.length - 1) = 1) : ∀ (l : Nat) (f : List Int), f.length = l → ∃ q r, Lov f g q r
  | 0, f, h => ⟨[], f, ⟨by have := List.length_pos_iff.mpr g0; show 0 = _; omega, by omega, fun m => by show _ = _ + 0; omega⟩⟩
  | l + 1, f, h => by
    have lg := List.length_pos_iff.mpr g0
    by_cases c : f.length < g.length
    · exact ⟨[], f, ⟨by show 0 = _; omega, by omega, fun m => by show _ = _ + 0; omega⟩⟩
    · obtain ⟨q, r, L⟩ := lov_ex g0 g1 l (mkL l fun m => coef f m - if f.length - g.length ≤ m then coef f l * coef g (m - (f.length - g.length)) else 0) (mkL_len _ _)
      have ql := L.ql
      have rl := L.rl
      rw [mkL_len] at ql rl
      refine ⟨q ++ [coef f l], r, ⟨by rw [List.length_append, List.length_singleton]; omega, by omega, fun m => ?_⟩⟩
      have e := L.eq m
      rw [List.length_append, List.length_singleton, cv, cv_snoc q g _ m q.length (Nat.le_refl _), coef_app, if_neg (show ¬ q.length < q.length by omega), Nat.sub_self]
      show coef f m = coef r m + (cv q g q.length m + if q.length ≤ m then coef f l * coef g (m - q.length) else 0)
      rw [show q.length = f.length - g.length by omega] at e ⊢
      rw [coef_mkL] at e
      by_cases y : m < l
      · rw [if_pos y] at e
        omega
      · rw [if_neg y] at e
        rw [if_pos (by omega)]
        by_cases z : m = l
        · rw [z, show l - (f.length - g.length) = g.length - 1 by omega, g1]
          rw [z] at e
          omega
        · rw [coef_ge (show f.length ≤ m by omega), coef_ge (show g.length ≤ m - (f.length - g.length) by omega), Int.mul_zero]
          omega

def DvF (n : Nat) (h : Nat → Int) : Prop := ∃ q : List Int, ∀ m, h m = coef (mulK q (phi n)) m
section
variable {n : Nat}
theorem dvf_lin (c : Int) {f g h : Nat → Int} (a : DvF n f) (b : DvF n g) (e : ∀ m, h m = f m + c * g m) : DvF n h := by
  obtain ⟨q1, e1⟩ := a
  obtain ⟨q2, e2⟩ := b
  exact ⟨addK q1 (q2.map fun x => c * x), fun m => by rw [mulK_add, mulK_scale, e m, e1 m, e2 m]⟩
theorem dvf_zero {h : Nat → Int} (e : ∀ m, h m = 0) : DvF n h := ⟨[], fun m => by rw [e m]; exact (coef_nil m).symm⟩
theorem dvf_shift (j : Nat) {f h : Nat → Int} (a : DvF n f) (e : ∀ m, h m = if j ≤ m then f (m - j) else 0) : DvF n h := by
  obtain ⟨q, eq⟩ := a
  refine ⟨List.replicate j 0 ++ q, fun m => ?_⟩
  rw [mulK_shift, e m]
  split
  · exact eq _
  · rfl
theorem pw_some : ((List.range 60).all fun i => !(pwF ((i + 2 : Nat) : Int)).isEmpty) = true := by decide +kernel
theorem dvf_xn (h1 : 1 ≤ n) (h2 : n ≤ 61) : DvF n fun m => (if m = n then 1 else 0) - if m = 0 then 1 else 0 := by
  by_cases c : n = 1
  · subst c
    exact ⟨[1], fun m => by
      have e : mulK [1] (phi 1) = [-1, 1] := by decide +kernel
      rw [e]
      rcases m with _ | _ | m
      · rfl
      · rfl
      · show (if m + 1 + 1 = 1 then (1 : Int) else 0) - (if m + 1 + 1 = 0 then 1 else 0) = coef [] m
        rw [coef_nil, if_neg (by omega), if_neg (by omega)]
        rfl⟩
  · have hp := List.all_eq_true.mp pw_some (n - 2) (List.mem_range.mpr (by omega))
    rw [show n - 2 + 2 = n by omega] at hp
    obtain ⟨r, hr⟩ : ∃ r, r ∈ pwF n := by
      cases hl : pwF (n : Int) with
      | nil =>
        rw [hl] at hp
        exact absurd hp (by decide)
      | cons r l => exact ⟨r, List.mem_cons_self ..⟩
    have G := (gok (n := (n : Int)) (by omega) (by omega)).all r hr
    have two := G.two
    have st := G.step (by omega)
    have w := of_decide_eq_true (List.all_eq_true.mp (chk_at h1 h2).1 r hr)
    have hs : n = (n / r.1.toNat) * r.1.toNat := by
      have e := st.2.2
      have e2 : ((n / r.1.toNat : Nat) : Int) = (n : Int) / r.1 := by
        rw [Int.natCast_ediv, Int.toNat_of_nonneg (by omega)]
      have e3 : ((n : Nat) : Int) = ((n / r.1.toNat * r.1.toNat : Nat) : Int) := by
        rw [Int.natCast_mul, e2, Int.toNat_of_nonneg (by omega)]
        exact e
      exact Int.ofNat.inj e3
    generalize hS : n / r.1.toNat = s at *
    have s1 : 1 ≤ s := by
      by_cases z : 1 ≤ s
      · exact z
      · have : s = 0 := by omega
        rw [this, Nat.zero_mul] at hs
        omega
    have sn : s ≤ n := by rw [hs]; exact Nat.le_mul_of_pos_right _ (by omega)
    have W : DvF n (coef (wp n s)) := ⟨quo n s, fun m => by rw [w]⟩
    refine dvf_lin (-1) (dvf_shift s W fun m => rfl) W fun m => ?_
    have cw : ∀ m, coef (wp n s) m = if m < n - s + 1 ∧ m % s = 0 then 1 else 0 := fun m => by
      unfold wp
      rw [coef_mkL]
      by_cases a : m < n - s + 1
      · rw [if_pos a]
        by_cases b : m % s = 0
        · rw [if_pos b, if_pos ⟨a, b⟩]
        · rw [if_neg b, if_neg (fun z => b z.2)]
      · rw [if_neg a, if_neg (fun z => a z.1)]
    have n0 : n % s = 0 := by rw [hs]; exact Nat.mul_mod_right s _
    rw [cw m]
    by_cases a : s ≤ m
    · rw [if_pos a, cw (m - s), if_neg (show ¬ m = 0 by omega)]
      have ms : (m - s) % s = m % s := by
        conv => rhs; rw [← Nat.sub_add_cancel a, Nat.add_mod_right]
      rw [ms]
      by_cases b : m % s = 0
      · by_cases c1 : m = n
        · rw [if_pos c1, if_pos ⟨by omega, b⟩, if_neg (fun z => by omega)]
          rfl
        · rw [if_neg c1]
          by_cases d : m < n - s + 1
          · rw [if_pos ⟨by omega, b⟩, if_pos ⟨d, b⟩]
            rfl
          · rw [if_neg (fun z => by
              -- between n - s and n stands no other place of s
              have hm : m < n := by omega
              have k1 : n - m < s := by omega
              have k2 : (n - m) % s = 0 := (Nat.sub_mod_eq_zero_of_mod_eq (by rw [n0, b]))
              rw [Nat.mod_eq_of_lt k1] at k2
              omega), if_neg (fun z => d z.1)]
            rfl
      · rw [if_neg (show ¬ m = n from fun e => b (by rw [e]; exact n0)), if_neg (fun z => b z.2), if_neg (fun z => b z.2)]
        rfl
    · rw [if_neg a, if_neg (show ¬ m = n by omega)]
      by_cases b : m = 0
      · rw [if_pos b, if_pos ⟨by omega, by rw [b]; exact Nat.zero_mod s⟩]
        rfl
      · rw [if_neg b, if_neg (fun z => by
          have := Nat.mod_eq_of_lt (show m < s by omega)
          omega)]
        rfl
theorem dvf_mod (h1 : 1 ≤ n) (h2 : n ≤ 61) : ∀ t i : Nat, i / n ≤ t → DvF n fun m => (if m = i then 1 else 0) - if m = i % n then 1 else 0
  | t, i, ht => by
    by_cases c : i < n
    · refine dvf_zero fun m => ?_
      rw [Nat.mod_eq_of_lt c]
      omega
    · cases t with
      | zero =>
        have := Nat.div_pos (show n ≤ i by omega) (show 0 < n by omega)
        omega
      | succ t =>
        have hd : (i - n) / n ≤ t := by
          have := Nat.div_eq_sub_div (show 0 < n by omega) (show n ≤ i by omega)
          omega
        have hm : (i - n) % n = i % n := by
          conv => rhs; rw [← Nat.sub_add_cancel (show n ≤ i by omega), Nat.add_mod_right]
        refine dvf_lin 1 (dvf_shift (i - n) (dvf_xn h1 h2) fun m => rfl) (dvf_mod h1 h2 t (i - n) hd) fun m => ?_
        rw [hm]
        by_cases a : i - n ≤ m
        · rw [if_pos a]
          by_cases b : m = i
          · rw [if_pos b, if_pos (show m - (i - n) = n by omega), if_neg (show ¬ m - (i - n) = 0 by omega), if_neg (show ¬ m = i - n by omega)]
            omega
          · rw [if_neg b, if_neg (show ¬ m - (i - n) = n by omega)]
            by_cases d : m = i - n
            · rw [if_pos d, if_pos (show m - (i - n) = 0 by omega)]
              omega
            · rw [if_neg d, if_neg (show ¬ m - (i - n) = 0 by omega)]
              omega
        · rw [if_neg a, if_neg (show ¬ m = i by omega), if_neg (show ¬ m = i - n by omega)]
          omega
/-- what is shorter than the root polynomial and parted by it is nought -/
theorem dvf_small (h1 : 1 ≤ n) (h2 : n ≤ 61) {r : List Int} (hr : r.length < (phi n).length) (a : DvF n (coef r)) : ∀ m, coef r m = 0 := by
  have mo := phi_mon h1 (show n ≤ 420 by omega)
  obtain ⟨q, e⟩ := a
  have z := mon_zero mo.ne mo.one (D := q) (r := r) hr fun m => (e m).symm
  intro m
  rw [e m, coef_mulK]
  exact cv_zero (fun i => z q.length i (by omega)) m _
theorem dv_dvf (h1 : 1 ≤ n) (h2 : n ≤ 61) {h : List Int} (hl : h.length = n) : Dv n h ↔ DvF n (coef h) := by
  constructor
  · rintro ⟨q, _, e⟩
    exact ⟨q, e⟩
  · intro a
    have mo := phi_mon h1 (show n ≤ 420 by omega)
    have le := phi_le h1 (show n ≤ 420 by omega)
    have two := mo.two
    obtain ⟨q, r, A⟩ := lov_ex mo.ne mo.one _ h rfl
    have rl := A.rl
    have ql := A.ql
    have z := dvf_small h1 h2 (r := r) (by omega) (dvf_lin (-1) a ⟨q, fun m => rfl⟩ fun m => by
      rw [A.eq m, coef_mulK]
      omega)
    refine ⟨q, by omega, fun m => ?_⟩
    rw [A.eq m, z m, coef_mulK]
    omega
theorem zr_dvf (h1 : 1 ≤ n) (h2 : n ≤ 61) {h : List Int} (hl : h.length = n) : Zr n (grF n h) ↔ DvF n (coef h) :=
  ⟨fun z => (dv_dvf h1 h2 hl).mp (dv_of h1 h2 hl z), fun d => of_dv h1 h2 ((dv_dvf h1 h2 hl).mpr d)⟩
end

/-! ### the first root and the last one together -/
section
variable {n : Nat} [O : Ok61 n] {f g h : List Int}
/-- the last root -/
def oi (n : Nat) [O : Ok61 n] : Zn n := om n ^ (n - 1)
theorem om_oi : om n * oi n = 1 := by
  have h1 := O.h1
  have e : om n ^ n = om n ^ (n - 1) * om n := by
    rw [← Lean.Grind.Semiring.pow_succ, Nat.sub_add_cancel h1]
  rw [om_n] at e
  unfold oi
  rw [e]
  grind
def xi (n : Nat) [O : Ok61 n] : Zn n := om n + oi n
theorem zc_zero : zc n (List.replicate n 0) = 0 := by
  show zc n (List.replicate n 0) = zc n (itS n 0)
  congr 1
  have h1 := O.h1
  refine ext_of (by rw [List.length_replicate, itS_len h1]) fun m hm => ?_
  rw [coef_rep, coef_itS]
  split <;> rfl
theorem zc_u0 : zc n (uF n 0) = 1 := by
  have := om_pow (n := n) 0
  rw [Nat.zero_mod, Lean.Grind.Semiring.pow_zero] at this
  exact this.symm
theorem oi_u : zc n (uF n (n - 1)) = oi n := by
  unfold oi
  rw [om_pow, Nat.mod_eq_of_lt (by have := O.h1; omega)]
/-- the sum of both -/
def rt0 (n : Nat) : List Int := (List.replicate n (0 : Int)).set (1 % n) (coef (List.replicate n (0 : Int)) (1 % n) + 1)
def rtS (n : Nat) : List Int := (rt0 n).set (n - 1) (coef (rt0 n) (n - 1) + 1)
theorem rt0_len (n : Nat) : (rt0 n).length = n := by
  unfold rt0
  rw [List.length_set, List.length_replicate]
theorem rtS_len (n : Nat) : (rtS n).length = n := by
  unfold rtS
  rw [List.length_set, rt0_len]
theorem rt_zc : zc n (rtS n) = xi n := by
  have h1 := O.h1
  unfold rtS
  rw [zc_set (rt0_len n) (by omega) 1, oi_u]
  unfold rt0
  rw [zc_set List.length_replicate (Nat.mod_lt _ h1) 1, zc_zero, it_one66]
  show 0 + 1 * om n + 1 * oi n = om n + oi n
  grind
/-- a polynomial laid out -/
def ad0 (T : List Int) (c : Int) : List Int := T.set 0 (coef T 0 + c)
def asR (n : Nat) : List Int → List Int
  | [] => List.replicate n 0
  | c :: g => ad0 (mulS (rtS n) (asR n g)) c
theorem asR_len (n : Nat) : ∀ g : List Int, (asR n g).length = n
  | [] => List.length_replicate
  | c :: g => by
    show ((mulS (rtS n) (asR n g)).set 0 _).length = n
    rw [List.length_set, mulS_len, rtS_len]
theorem ad0_zc {T : List Int} (hT : T.length = n) (c : Int) : zc n (ad0 T c) = zc n T + ((c : Int) : Zn n) := by
  unfold ad0
  rw [zc_set hT O.h1 c, zc_u0]
  grind
theorem asR_zc : ∀ g : List Int, zc n (asR n g) = evX (xi n) g
  | [] => zc_zero
  | c :: g => by
    show zc n (ad0 (mulS (rtS n) (asR n g)) c) = _
    rw [ad0_zc (by rw [mulS_len, rtS_len]), zc_mul (rtS_len n) (asR_len n g), rt_zc, asR_zc g, evX_cons]
    grind
/-! turned about: the other way round the wheel -/
theorem n1_sq (h1 : 1 ≤ n) : (n - 1) * (n - 1) % n = 1 % n := by
  obtain ⟨m, rfl⟩ : ∃ m, n = m + 1 := ⟨n - 1, by omega⟩
  rw [Nat.add_sub_cancel]
  cases m with
  | zero => rfl
  | succ m =>
    have : (m + 1) * (m + 1) = 1 + (m + 1 + 1) * m := by
      rw [Nat.add_mul, Nat.mul_add, Nat.add_mul, Nat.add_mul]
      omega
    rw [this, Nat.add_mul_mod_self_left]
def cj (a : Zn n) : Zn n := zc n (mv n (n - 1) a.v)
theorem cj_zc (hf : f.length = n) : zc n (mv n (n - 1) f) = cj (zc n f) := by
  show _ = zc n (mv n (n - 1) (zc n f).v)
  rw [zc_v hf, zc_eq (mv_len _ _ _) (mv_len _ _ _)]
  exact gr_mv O.h1 O.h2 hf (gr_len hf) _ (gr_gr hf).symm
theorem cj_add (a b : Zn n) : cj (a + b) = cj a + cj b := by
  have l1 : (addS a.v b.v).length = n := by rw [addS_len (by rw [a.len, b.len]), a.len]
  have e := cj_zc l1
  rw [zc_add a.len b.len, zc_self, zc_self] at e
  rw [← e]
  show _ = zc n (mv n (n - 1) a.v) + zc n (mv n (n - 1) b.v)
  rw [← zc_add (mv_len _ _ _) (mv_len _ _ _)]
  congr 1
  refine ext_of (by rw [mv_len, addS_len (by rw [mv_len, mv_len]), mv_len]) fun m hm => ?_
  rw [mv_len] at hm
  rw [coef_addS (by rw [mv_len, mv_len])]
  unfold mv
  rw [coef_mkL, if_pos hm, coef_mkL, if_pos hm, coef_mkL, if_pos hm, coef_addS (by rw [a.len, b.len])]
theorem cj_mul (a b : Zn n) : cj (a * b) = cj a * cj b := by
  have l1 : (mulS a.v b.v).length = n := by rw [mulS_len, a.len]
  have e := cj_zc l1
  rw [zc_mul a.len b.len, zc_self, zc_self] at e
  rw [← e]
  show _ = zc n (mv n (n - 1) a.v) * zc n (mv n (n - 1) b.v)
  rw [← zc_mul (mv_len _ _ _) (mv_len _ _ _), mv_mul O.h1 (n1_sq O.h1) a.len]
theorem cj_int (i : Int) : cj ((i : Int) : Zn n) = (i : Zn n) := by
  show cj (zc n (itS n i)) = zc n (itS n i)
  have h1 := O.h1
  rw [← cj_zc (itS_len h1 i)]
  congr 1
  refine ext_of (by rw [mv_len, itS_len h1]) fun m hm => ?_
  rw [mv_len] at hm
  unfold mv
  rw [coef_mkL, if_pos hm, coef_itS, coef_itS]
  have q : (n - 1) * m % n = 0 ↔ m = 0 := by
    constructor
    · intro e
      have := unit_cancel hm (n1_sq h1)
      rw [e, Nat.mul_zero, Nat.zero_mod] at this
      exact this.symm
    · intro e
      rw [e, Nat.mul_zero, Nat.zero_mod]
  by_cases c : m = 0
  · rw [if_pos (q.mpr c), if_pos c]
  · rw [if_neg fun z => c (q.mp z), if_neg c]
theorem cj_om : cj (om n) = oi n := by
  have h1 := O.h1
  show cj (zc n (uF n (1 % n))) = _
  rw [← cj_zc (uFl _), ← oi_u]
  congr 1
  refine ext_of (by rw [mv_len, uFl]) fun m hm => ?_
  rw [mv_len] at hm
  unfold mv
  rw [coef_mkL, if_pos hm, coef_uF (Nat.mod_lt _ h1), coef_uF hm]
  have q := unit_iff (a := 1 % n) (Nat.mod_lt _ h1) hm (n1_sq h1)
  have e : (n - 1) * (1 % n) % n = n - 1 := by rw [mm1, Nat.mul_one, Nat.mod_eq_of_lt (by omega)]
  rw [e] at q
  by_cases c : m = n - 1
  · rw [if_pos (q.mpr c).symm, if_pos c]
  · rw [if_neg fun z => c (q.mp z.symm), if_neg c]
theorem cj_cj (a : Zn n) : cj (cj a) = a := by
  have h1 := O.h1
  show zc n (mv n (n - 1) (zc n (mv n (n - 1) a.v)).v) = a
  have e := cj_zc (mv_len n (n - 1) a.v)
  show cj (zc n (mv n (n - 1) a.v)) = a
  rw [← e, mv_mv h1, n1_sq h1, mv_one a.len, zc_self]
theorem cj_oi : cj (oi n) = om n := by
  rw [← cj_om, cj_cj]
theorem cj_xi : cj (xi n) = xi n := by
  unfold xi
  rw [cj_add, cj_om, cj_oi]
  grind
theorem cj_ev : ∀ g : List Int, cj (evX (xi n) g) = evX (xi n) g
  | [] => cj_int 0
  | c :: g => by
    rw [evX_cons, cj_add, cj_mul, cj_int, cj_xi, cj_ev g]
/-! a sum is the polynomial of its numbers at the first root -/
theorem lay_id (hf : f.length = n) : ∀ i, i ≤ n → ∀ m, coef (layK n f i) m = if m < i then coef f m else 0
  | 0, _, m => by
    show coef (List.replicate n 0) m = _
    rw [coef_rep, if_neg (by omega)]
  | i + 1, hi, m => by
    show coef ((layK n f i).set (i % n) (coef (layK n f i) (i % n) + coef f i)) m = _
    rw [Nat.mod_eq_of_lt (by omega), coef_set (by rw [layK_len]; omega), lay_id hf i (by omega), lay_id hf i (by omega)]
    by_cases c : m = i
    · rw [if_pos c, if_neg (by omega), if_pos (by omega), c, Int.zero_add]
    · rw [if_neg c]
      by_cases d : m < i
      · rw [if_pos d, if_pos (by omega)]
      · rw [if_neg d, if_neg (by omega)]
theorem zc_ev (hf : f.length = n) : zc n f = evX (om n) f := by
  rw [← lay_ev]
  congr 1
  refine ext_of (by rw [layF_len, hf]) fun m hm => ?_
  unfold layF
  rw [hf, lay_id hf n (Nat.le_refl n), if_pos (by omega)]
/-- the row's numbers at two steps of the first root: one of cosines, and other times the root -/
def byR : List Int → List Int × List Int
  | [] => ([], [])
  | c :: f => (addP (-1) [c] (byR f).2, addP 1 (byR f).1 (0 :: (byR f).2))
theorem evX_addP (x : Zn n) (c : Int) (f g : List Int) : evX x (addP c f g) = evX x f + ((c : Int) : Zn n) * evX x g := by
  rw [← evX_scale, ← evX_add]
  refine evX_congr x _ _ fun m => ?_
  unfold addP
  rw [coef_trim, coef_addL, coef_addK, coef_scale]
theorem it_m1 : (((-1 : Int)) : Zn n) = -1 := by
  show (((-(1 : Int) : Int)) : Zn n) = _
  have := zc_it_neg (n := n) 1
  exact this
theorem byR_ev : ∀ f : List Int, evX (xi n) (byR f).1 + evX (xi n) (byR f).2 * om n = evX (om n) f
  | [] => by
    show (0 : Zn n) + 0 * om n = 0
    grind
  | c :: f => by
    have ih := byR_ev f
    have oo := om_oi (n := n)
    show evX (xi n) (addP (-1) [c] (byR f).2) + evX (xi n) (addP 1 (byR f).1 (0 :: (byR f).2)) * om n = _
    rw [evX_addP, evX_addP, evX_cons, evX_cons, evX_cons, evX_nil, it_m1, it_one66, it_zero66, ← ih]
    show _ + (_ + 1 * (0 + (om n + oi n) * _)) * om n = _
    grind
/-- the first root less the last one is no zero divisor -/
def yS (n : Nat) : List Int := (List.range (n / Nat.gcd n 2)).foldl (fun T k => T.set ((2 * k + 1) % n) (k : Int)) (List.replicate n 0)
def dS (n : Nat) : List Int := mkL n fun m => coef (uF n (1 % n)) m - coef (uF n (n - 1)) m
def chkY (n : Nat) : Bool := decide (n < 3) || (decide (grF n (mulS (dS n) (yS n)) = grF n (itS n (n / Nat.gcd n 2 : Nat))) && decide ((yS n).length = n))
theorem chkY_0 : ((List.range 30).all fun i => chkY (i + 1)) = true := by decide +kernel
theorem chkY_1 : ((List.range 15).all fun i => chkY (i + 31)) = true := by decide +kernel
theorem chkY_2 : ((List.range 15).all fun i => chkY (i + 46)) = true := by decide +kernel
theorem chkY_at (h1 : 1 ≤ n) (h2 : n ≤ 60) : chkY n = true := by
  by_cases a : n ≤ 30
  · have := List.all_eq_true.mp chkY_0 (n - 1) (List.mem_range.mpr (by omega))
    rwa [show n - 1 + 1 = n by omega] at this
  by_cases b : n ≤ 45
  · have := List.all_eq_true.mp chkY_1 (n - 31) (List.mem_range.mpr (by omega))
    rwa [show n - 31 + 31 = n by omega] at this
  have := List.all_eq_true.mp chkY_2 (n - 46) (List.mem_range.mpr (by omega))
  rwa [show n - 46 + 46 = n by omega] at this
theorem nzd (h3 : 3 ≤ n) (h2 : n ≤ 60) {a : Zn n} (h : a * (om n - oi n) = 0) : a = 0 := by
  have h1 := O.h1
  have t := chkY_at (n := n) h1 h2
  unfold chkY at t
  rw [Bool.or_eq_true, Bool.and_eq_true] at t
  rcases t with t | ⟨t, l⟩
  · have := of_decide_eq_true t
    omega
  · have t := of_decide_eq_true t
    have l := of_decide_eq_true l
    have dl : (dS n).length = n := mkL_len _ _
    have e := (zc_eq (by rw [mulS_len, dl]) (itS_len h1 _)).mpr t
    rw [zc_mul dl l] at e
    have ed : zc n (dS n) + oi n = om n := by
      rw [← oi_u, ← zc_add dl (uFl _)]
      show _ = zc n (uF n (1 % n))
      congr 1
      refine ext_of (by rw [addS_len (by rw [dl, uFl]), dl, uFl]) fun m hm => ?_
      rw [addS_len (by rw [dl, uFl]), dl] at hm
      rw [coef_addS (by rw [dl, uFl])]
      unfold dS
      rw [coef_mkL, if_pos hm]
      omega
    have pos : ((n / Nat.gcd n 2 : Nat) : Int) ≠ 0 := by
      have : Nat.gcd n 2 ≤ n := Nat.gcd_le_left 2 h1
      have := Nat.div_pos this (Nat.gcd_pos_of_pos_left 2 h1)
      omega
    refine zn_tor pos ?_
    have e2 : zc n (dS n) * zc n (yS n) = (((n / Nat.gcd n 2 : Nat) : Int) : Zn n) := e
    rw [← e2, show zc n (dS n) = om n - oi n by rw [← ed]; grind]
    have e3 : a * (om n - oi n) * zc n (yS n) = 0 * zc n (yS n) := by rw [h]
    grind
/-! the polynomial of the first root and the last one: folded -/
theorem ev_db (x y : Zn n) (h : x * y = 1) : ∀ k, evX (x + y) (dbS k).1 = x ^ k + y ^ k ∧ evX (x + y) (dbS k).2 = x ^ (k + 1) + y ^ (k + 1)
  | 0 => by
    refine ⟨?_, ?_⟩
    · show evX (x + y) [2] = _
      rw [evX_cons, evX_nil, Lean.Grind.Semiring.pow_zero, Lean.Grind.Semiring.pow_zero]
      show ((2 : Int) : Zn n) + _ = _
      rw [show (2 : Int) = 1 + 1 from rfl, it_add66, it_one66]
      grind
    · show evX (x + y) [0, 1] = _
      rw [evX_cons, evX_cons, evX_nil, it_zero66, it_one66, Lean.Grind.Semiring.pow_succ, Lean.Grind.Semiring.pow_succ, Lean.Grind.Semiring.pow_zero, Lean.Grind.Semiring.pow_zero]
      grind
  | k + 1 => by
    have ih := ev_db x y h k
    refine ⟨ih.2, ?_⟩
    show evX (x + y) (addP (-1) (0 :: (dbS k).2) (dbS k).1) = _
    rw [evX_addP, evX_cons, ih.1, ih.2, it_zero66, it_m1, Lean.Grind.Semiring.pow_succ x (k + 1), Lean.Grind.Semiring.pow_succ y (k + 1), Lean.Grind.Semiring.pow_succ x k, Lean.Grind.Semiring.pow_succ y k]
    grind
theorem ev_fold (x y : Zn n) (h : x * y = 1) : ∀ (B : List Int) (g : List Int) (k : Nat), evX (x + y) (B.foldl fdS (g, (dbS k).1, (dbS k).2)).1 = evX (x + y) g + x ^ (k + 1) * evX x B + y ^ (k + 1) * evX y B
  | [], g, k => by
    show evX (x + y) g = evX (x + y) g + _ * 0 + _ * 0
    grind
  | b :: B, g, k => by
    have ih := ev_fold x y h B (addP 1 g ((dbS k).2.map fun z => b * z)) (k + 1)
    have d := (ev_db x y h k).2
    show evX (x + y) (B.foldl fdS (addP 1 g ((dbS k).2.map fun z => b * z), (dbS (k + 1)).1, (dbS (k + 1)).2)).1 = _
    rw [ih, evX_addP, evX_scale, d, it_one66, evX_cons, evX_cons, Lean.Grind.Semiring.pow_succ x (k + 1), Lean.Grind.Semiring.pow_succ y (k + 1)]
    grind
theorem ev_rev (x y : Zn n) (h : x * y = 1) : ∀ B : List Int, x * evX x B.reverse = x ^ B.length * evX y B
  | [] => by
    show x * 0 = _ * 0
    grind
  | b :: B => by
    have ih := ev_rev x y h B
    rw [List.reverse_cons, evX_app, evX_cons, evX_cons, evX_nil, List.length_reverse, List.length_cons, Lean.Grind.Semiring.pow_succ]
    grind
theorem ev_pal (x y : Zn n) (h : x * y = 1) {f : List Int} (odd : f.length % 2 = 1) (pal : f.reverse = f) : evX x f = x ^ (f.length / 2) * evX (x + y) (foldF f) := by
  obtain ⟨m, hm⟩ : ∃ m, f.length = 2 * m + 1 := ⟨f.length / 2, by omega⟩
  have dm : f.length / 2 = m := by omega
  have sp : f = f.take m ++ (coef f m :: f.drop (m + 1)) := by
    conv => lhs; rw [← List.take_append_drop m f]
    rw [List.drop_eq_getElem_cons (by omega), coef_lt (by omega)]
  have tk : f.take m = (f.drop (m + 1)).reverse := by
    have e : f.drop (m + 1) = (f.take m).reverse := by
      conv => lhs; rw [← pal]
      rw [List.drop_reverse, show f.length - (m + 1) = m by omega]
    rw [e, List.reverse_reverse]
  have dl : (f.drop (m + 1)).length = m := by
    rw [List.length_drop]
    omega
  have F : evX (x + y) (foldF f) = ((coef f m : Int) : Zn n) + x * evX x (f.drop (m + 1)) + y * evX y (f.drop (m + 1)) := by
    have e := ev_fold x y h (f.drop (m + 1)) [coef f m] 0
    unfold foldF
    rw [dm]
    refine e.trans ?_
    rw [evX_cons, evX_nil, Lean.Grind.Semiring.pow_succ, Lean.Grind.Semiring.pow_succ, Lean.Grind.Semiring.pow_zero, Lean.Grind.Semiring.pow_zero]
    grind
  have R := ev_rev x y h (f.drop (m + 1))
  rw [dl, ← tk] at R
  have E : evX x f = evX x (f.take m) + x ^ m * (((coef f m : Int) : Zn n) + x * evX x (f.drop (m + 1))) := by
    conv => lhs; rw [sp]
    rw [evX_app, evX_cons, List.length_take, Nat.min_eq_left (by omega)]
  rw [dm, F, E]
  have e2 : evX x (f.take m) = y * (x * evX x (f.take m)) := by
    rw [show y * (x * evX x (f.take m)) = (x * y) * evX x (f.take m) by grind, h]
    grind
  rw [e2, R]
  grind
theorem zr_zero (hf : f.length = n) (z : Zr n (grF n f)) : zc n f = 0 := by
  have h1 := O.h1
  show zc n f = zc n (itS n 0)
  rw [zc_eq hf (itS_len h1 0)]
  refine (gr_eq_iff h1 O.h2 hf (itS_len h1 0)).mpr ?_
  have e : (mkL n fun m => coef f m - coef (itS n 0) m) = f := ext_of (by rw [mkL_len, hf]) fun m hm => by
    rw [mkL_len] at hm
    rw [coef_mkL, if_pos hm, coef_itS]
    split <;> omega
  rw [e]
  exact z
theorem phi_zero (h2 : 2 ≤ n) : evX (om n) (phi n) = 0 := by
  have h1 := O.h1
  have h3 := O.h2
  have pl := phi_le h1 (show n ≤ 420 by omega)
  have d : DvF n (coef (phi n)) := ⟨[1], fun m => by
    rw [coef_mulK_cons, coef_mulK]
    show _ = 1 * _ + if 1 ≤ m then (0 : Int) else 0
    split <;> omega⟩
  have lp : (phi n).length ≤ n := by
    have c := (chk_at h1 h3).2
    unfold chkP at c
    rw [Bool.or_eq_true, Bool.and_eq_true] at c
    rcases c with c | c
    · have := of_decide_eq_true c
      omega
    · exact of_decide_eq_true c.2
  have ce : ∀ m, coef (mkL n (coef (phi n))) m = coef (phi n) m := fun m => by
    rw [coef_mkL]
    split
    · rfl
    · rw [coef_ge (by omega)]
  have z := (zr_dvf h1 h3 (mkL_len n (coef (phi n)))).mpr (by
    obtain ⟨q, hq⟩ := d
    exact ⟨q, fun m => by rw [ce m, hq m]⟩)
  rw [← evX_congr (om n) _ _ ce, ← zc_ev (mkL_len n _)]
  exact zr_zero (mkL_len n _) z
end
/-! ### what tells one polynomial from another -/
def chkI (n : Nat) : Bool := decide (grF n (itS n 1) = itS n 1) && decide (grF n (itS n 0) = itS n 0)
theorem chkI_all : ((List.range 61).all fun i => chkI (i + 1)) = true := by decide +kernel
section
variable {n : Nat} [O : Ok61 n] {f g h : List Int}
theorem int_vc (t : Int) : ((t : Int) : Zn n).v = itS n t := by
  have h1 := O.h1
  have c := List.all_eq_true.mp chkI_all (n - 1) (List.mem_range.mpr (by have := O.h2; omega))
  rw [Nat.sub_add_cancel h1] at c
  unfold chkI at c
  rw [Bool.and_eq_true] at c
  have c1 := of_decide_eq_true c.1
  have c0 := of_decide_eq_true c.2
  show (zc n (itS n t)).v = _
  rw [zc_v (itS_len h1 t)]
  refine ext_of (by rw [gr_len (itS_len h1 t), itS_len h1]) fun m hm => ?_
  rw [gr_len (itS_len h1 t)] at hm
  rw [zc_lin (f := itS n 0) (g := itS n 1) (c := t) (itS_len h1 0) (itS_len h1 1) (itS_len h1 t) (fun m _ => by rw [coef_itS, coef_itS, coef_itS]; split <;> omega) hm, c0, c1, coef_itS, coef_itS, coef_itS]
  split <;> omega
theorem int_injc {s t : Int} (e : ((s : Int) : Zn n) = (t : Zn n)) : s = t := by
  have e := congrArg (fun a : Zn n => coef a.v 0) e
  simp only [int_vc] at e
  rw [coef_itS, coef_itS, if_pos rfl, if_pos rfl] at e
  exact e
theorem wo_intc (hf : f.length = n) {t : Int} (e : zc n f = (t : Zn n)) : coef (grF n f) 0 = t := by
  rw [← zc_v hf, e, int_vc, coef_itS, if_pos rfl]
theorem cos_zero (h2 : n ≤ 60) : evX (xi n) (cosF n) = 0 := by
  have h1 := O.h1
  have two : ((2 : Int) : Zn n) = 1 + 1 := by rw [show (2 : Int) = 1 + 1 from rfl, it_add66, it_one66]
  have c : n = 1 ∨ n = 2 ∨ 3 ≤ n := by omega
  rcases c with e | e | h3
  · subst e
    have eo : om 1 = 1 := by
      have := om_n (n := 1)
      rw [Lean.Grind.Semiring.pow_succ, Lean.Grind.Semiring.pow_zero] at this
      grind
    have ei : oi 1 = 1 := by
      have := om_oi (n := 1)
      rw [eo] at this
      grind
    have ec : cosF 1 = [-2, 1] := by
      unfold cosF
      rw [if_pos rfl]
    have m2 : (((-2 : Int)) : Zn 1) = -(1 + 1) := by
      rw [← two]
      exact zc_it_neg 2
    rw [ec, evX_cons, evX_cons, evX_nil, m2, it_one66]
    unfold xi
    rw [eo, ei]
    grind
  · have eo : om n = -1 := by
      subst e
      have : zc 2 (uF 2 (1 % 2)) = zc 2 (itS 2 (-1)) := (zc_eq (mkL_len _ _) (by decide)).mpr (by decide +kernel)
      exact this.trans (zc_it_neg 1)
    have ei : oi n = -1 := by
      have := om_oi (n := n)
      rw [eo] at this
      grind
    have ec : cosF n = [2, 1] := by
      unfold cosF
      rw [if_neg (by omega), if_pos e]
    rw [ec, evX_cons, evX_cons, evX_nil, two, it_one66]
    unfold xi
    rw [eo, ei]
    grind
  · have po : (phi n).length % 2 = 1 ∧ (phi n).reverse = phi n := by
      have t := chk62_at h1 h2
      unfold chk62 at t
      rw [Bool.and_eq_true, Bool.and_eq_true, Bool.or_eq_true] at t
      rcases t.2.2 with t | t
      · have := of_decide_eq_true t
        omega
      · exact of_decide_eq_true t
    have ec : cosF n = foldF (phi n) := by
      unfold cosF
      rw [if_neg (by omega), if_neg (by omega)]
    have p := ev_pal (om n) (oi n) om_oi po.1 po.2
    rw [phi_zero (by omega)] at p
    rw [ec]
    show evX (om n + oi n) _ = 0
    have pw : ∀ k : Nat, om n ^ k * oi n ^ k = 1 := fun k => by
      induction k with
      | zero =>
        rw [Lean.Grind.Semiring.pow_zero, Lean.Grind.Semiring.pow_zero]
        grind
      | succ k ih =>
        have := om_oi (n := n)
        rw [Lean.Grind.Semiring.pow_succ, Lean.Grind.Semiring.pow_succ]
        grind
    have q := pw ((phi n).length / 2)
    grind
/-- unfolded, but for a power of the root -/
def unU : List Int → List Int
  | [] => []
  | c :: d => addK (List.replicate d.length 0 ++ [c]) (mulK [1, 0, 1] (unU d))
theorem unU_ev : ∀ d : List Int, om n * evX (om n) (unU d) = om n ^ d.length * evX (xi n) d
  | [] => by
    show om n * 0 = _ * 0
    grind
  | c :: d => by
    have ih := unU_ev d
    have oo := om_oi (n := n)
    show om n * evX (om n) (addK (List.replicate d.length 0 ++ [c]) (mulK [1, 0, 1] (unU d))) = _
    rw [evX_add, evX_mul, evX_app, evX_rep, List.length_replicate, evX_cons, evX_cons, evX_cons, evX_cons, evX_cons, evX_nil, it_zero66, it_one66, List.length_cons, Lean.Grind.Semiring.pow_succ]
    unfold xi at *
    grind
theorem coef_m101 (g : List Int) (m : Nat) : coef (mulK [1, 0, 1] g) m = coef g m + if 2 ≤ m then coef g (m - 2) else 0 := by
  rw [coef_mulK_cons, coef_mulK_cons, coef_mulK_cons]
  by_cases c : 2 ≤ m
  · rw [if_pos (by omega), if_pos (by omega), if_pos c, show m - 1 - 1 = m - 2 by omega]
    have z : ∀ k, coef (mulK [] g) k = 0 := fun k => coef_nil k
    rw [z]
    split <;> omega
  · by_cases d : 1 ≤ m
    · rw [if_pos d, if_neg (by omega), if_neg c]
      omega
    · rw [if_neg d, if_neg c]
      omega
theorem coef_un (c : Int) (l m : Nat) : coef (List.replicate l 0 ++ [c]) m = if m = l then c else 0 := by
  rw [coef_app, List.length_replicate, coef_rep]
  by_cases q : m < l
  · rw [if_pos q, if_neg (by omega)]
  · rw [if_neg q]
    by_cases e : m = l
    · rw [if_pos e, e, Nat.sub_self]
      rfl
    · rw [if_neg e, coef_ge (by rw [List.length_singleton]; omega)]
theorem unU_high : ∀ (d : List Int) (m : Nat), 2 * d.length ≤ m + 1 → coef (unU d) m = 0
  | [], m, _ => coef_nil m
  | c :: d, m, h => by
    rw [List.length_cons] at h
    show coef (addK (List.replicate d.length 0 ++ [c]) (mulK [1, 0, 1] (unU d))) m = 0
    rw [coef_addK, coef_m101, coef_un, unU_high d m (by omega), if_neg (by omega)]
    split
    · rw [unU_high d (m - 2) (by omega)]
      rfl
    · rfl
theorem unU_top : ∀ (d : List Int), d ≠ [] → coef (unU d) (2 * d.length - 2) = coef d (d.length - 1)
  | [], h => absurd rfl h
  | c :: d, _ => by
    show coef (addK (List.replicate d.length 0 ++ [c]) (mulK [1, 0, 1] (unU d))) (2 * (d.length + 1) - 2) = coef (c :: d) (d.length + 1 - 1)
    rw [coef_addK, coef_m101, coef_un, unU_high d _ (by omega)]
    cases d with
    | nil =>
      show (if (0 : Nat) = 0 then c else 0) + (0 + if 2 ≤ (0 : Nat) then coef (unU []) 0 else 0) = c
      rw [if_pos rfl, if_neg (by omega)]
      omega
    | cons b d =>
      rw [List.length_cons, if_neg (by omega), if_pos (by omega), show 2 * (d.length + 1 + 1) - 2 - 2 = 2 * (b :: d).length - 2 by rw [List.length_cons]; omega, unU_top (b :: d) (fun e => nomatch e)]
      show (0 : Int) + (0 + coef (b :: d) (d.length + 1 - 1)) = coef (b :: d) (d.length + 1 - 1)
      omega
theorem dv_of_ev {D : List Int} (hD : D.length ≤ n) (z : evX (om n) D = 0) : DvF n (coef D) := by
  have h1 := O.h1
  have ce : ∀ m, coef (mkL n (coef D)) m = coef D m := fun m => by
    rw [coef_mkL]
    split
    · rfl
    · rw [coef_ge (by omega)]
  have e : zc n (mkL n (coef D)) = zc n (itS n 0) := by
    rw [zc_ev (mkL_len n _), evX_congr (om n) _ _ ce, z]
    rfl
  have e := (gr_eq_iff h1 O.h2 (mkL_len n _) (itS_len h1 0)).mp ((zc_eq (mkL_len n _) (itS_len h1 0)).mp e)
  obtain ⟨q, hq⟩ := (zr_dvf h1 O.h2 (mkL_len n _)).mp e
  refine ⟨q, fun m => ?_⟩
  rw [← hq m, coef_mkL]
  by_cases c : m < n
  · rw [if_pos c, ce m, coef_itS]
    split <;> omega
  · rw [if_neg c, coef_ge (by omega)]
theorem xi_indep {d : List Int} (t : Tr d) (l : 2 * d.length ≤ (phi n).length) (pn : (phi n).length ≤ n + 1) (z : evX (xi n) d = 0) : d = [] := by
  have e := unU_ev (n := n) d
  rw [z] at e
  have oo := om_oi (n := n)
  have z2 : evX (om n) (unU d) = 0 := by
    have : evX (om n) (unU d) = oi n * (om n * evX (om n) (unU d)) := by grind
    rw [this, e]
    grind
  by_cases ne : d = []
  · exact ne
  · have pos := List.length_pos_iff.mpr ne
    have ce : ∀ m, coef (mkL (2 * d.length - 1) (coef (unU d))) m = coef (unU d) m := fun m => by
      rw [coef_mkL]
      split
      · rfl
      · rw [unU_high d m (by omega)]
    have D := dv_of_ev (n := n) (D := mkL (2 * d.length - 1) (coef (unU d))) (by rw [mkL_len]; omega) (by rw [evX_congr (om n) _ _ ce]; exact z2)
    have s := dvf_small O.h1 O.h2 (r := mkL (2 * d.length - 1) (coef (unU d))) (by rw [mkL_len]; omega) D (2 * d.length - 2)
    rw [ce, unU_top d ne] at s
    exact absurd s (t ne)
end
def chkL62 (n : Nat) : Bool := decide ((cosF n).length ≤ 31) && (((cosF n).all fun x => decide (x.natAbs < 2 ^ 64)) && (decide ((phi n).length ≤ n + 1) && ((decide (n ≤ 2) && decide ((cosF n).length = 2)) || decide (2 * (cosF n).length = (phi n).length + 1))))
theorem chkL62_all : ((List.range 60).all fun i => chkL62 (i + 1)) = true := by decide +kernel
theorem cosL {n : Nat} (h1 : 1 ≤ n) (h2 : n ≤ 60) : (cosF n).length ≤ 31 ∧ (∀ x ∈ cosF n, x.natAbs < 2 ^ 64) ∧ (phi n).length ≤ n + 1 ∧ ((n ≤ 2 ∧ (cosF n).length = 2) ∨ 2 * (cosF n).length = (phi n).length + 1) := by
  have t := List.all_eq_true.mp chkL62_all (n - 1) (List.mem_range.mpr (by omega))
  rw [Nat.sub_add_cancel h1] at t
  unfold chkL62 at t
  rw [Bool.and_eq_true, Bool.and_eq_true, Bool.and_eq_true, Bool.or_eq_true, Bool.and_eq_true] at t
  exact ⟨of_decide_eq_true t.1, fun x hx => of_decide_eq_true (List.all_eq_true.mp t.2.1 x hx), of_decide_eq_true t.2.2.1, t.2.2.2.imp (fun h => ⟨of_decide_eq_true h.1, of_decide_eq_true h.2⟩) fun h => of_decide_eq_true h⟩
theorem cosG {n : Nat} (h1 : 1 ≤ n) (h2 : n ≤ 60) : cosF n ≠ [] ∧ coef (cosF n) ((cosF n).length - 1) = 1 := by
  have t := chk62_at h1 h2
  unfold chk62 at t
  rw [Bool.and_eq_true] at t
  have t := of_decide_eq_true t.1
  generalize cosF n = l at *
  have ne : l ≠ [] := fun e => by
    rw [e] at t
    cases t
  refine ⟨ne, ?_⟩
  rw [List.getLast?_eq_getElem?] at t
  exact coef_of t
section
variable {n : Nat} [O : Ok61 n] {f g h : List Int}
/-- two polynomials with fewer numbers than the cosine one are one where their numbers are -/
theorem cos_uniq (h2 : n ≤ 60) (tf : Tr f) (tg : Tr g) (lf : f.length < (cosF n).length) (lg : g.length < (cosF n).length) (e : evX (xi n) f = evX (xi n) g) : f = g := by
  have h1 := O.h1
  obtain ⟨_, _, pn, L⟩ := cosL h1 h2
  rcases L with ⟨s, L⟩ | L
  · have short : ∀ f : List Int, f.length < 2 → evX (xi n) f = ((coef f 0 : Int) : Zn n) := fun f h => by
      cases f with
      | nil => rfl
      | cons a f =>
        cases f with
        | nil =>
          rw [evX_cons, evX_nil]
          show _ = ((a : Int) : Zn n)
          grind
        | cons b f => simp only [List.length_cons] at h; omega
    rw [short f (by omega), short g (by omega)] at e
    have e := int_injc e
    refine tr_uniq tf tg fun m => ?_
    cases m with
    | zero => exact e
    | succ m => rw [coef_ge (by omega), coef_ge (by omega)]
  · have z : evX (xi n) (addP (-1) f g) = 0 := by
      rw [evX_addP, it_m1, e]
      grind
    have le : (addP (-1) f g).length ≤ max f.length g.length := by
      unfold addP trim addL
      rw [List.length_take, mkL_len]
      omega
    have d := xi_indep (n := n) (d := addP (-1) f g) (by unfold addP; exact tr_trim _) (by omega) pn z
    refine tr_uniq tf tg fun m => ?_
    have c : coef (addP (-1) f g) m = coef [] m := by rw [d]
    unfold addP at c
    rw [coef_trim, coef_addL, coef_nil] at c
    omega
/-- what is kept by the turn about is told by cosines: what x does not reach comes to nought -/
theorem by_other (h3 : 3 ≤ n) (h2 : n ≤ 60) (hf : f.length = n) (k : cj (zc n f) = zc n f) : evX (xi n) (byR f).1 = zc n f := by
  have e := byR_ev (n := n) f
  rw [← zc_ev hf] at e
  have c := congrArg cj e
  rw [cj_add, cj_mul, cj_ev, cj_ev, cj_om, k, ← e] at c
  have z := nzd h3 h2 (a := evX (xi n) (byR f).2) (by grind)
  rw [z] at e
  rw [← e]
  grind
/-! wheels of a prime -/
def gsL (n s : Nat) : Nat → List Int
  | 0 => List.replicate n 0
  | t + 1 => (gsL n s t).set (s * t % n) (coef (gsL n s t) (s * t % n) + 1)
def gz (n s : Nat) [O : Ok61 n] : Nat → Zn n
  | 0 => 0
  | t + 1 => gz n s t + om n ^ (s * t)
theorem gsL_len (n s : Nat) : ∀ t, (gsL n s t).length = n
  | 0 => List.length_replicate
  | t + 1 => by
    show ((gsL n s t).set _ _).length = n
    rw [List.length_set, gsL_len n s t]
theorem gsL_zc (s : Nat) : ∀ t, zc n (gsL n s t) = gz n s t
  | 0 => zc_zero
  | t + 1 => by
    show zc n ((gsL n s t).set (s * t % n) (coef (gsL n s t) (s * t % n) + 1)) = gz n s t + om n ^ (s * t)
    rw [zc_set (gsL_len n s t) (Nat.mod_lt _ O.h1) 1, gsL_zc s t, om_pow, it_one66]
    grind
end
def prL (n : Nat) : List Nat := (dvL n).filter fun p => decide ((dvL p).length = 2)
def chkGz (n : Nat) : Bool := (prL n).all fun p => decide (grF n (gsL n (n / p) p) = grF n (itS n 0))
theorem chkGz_all : ((List.range 60).all fun i => chkGz (i + 1)) = true := by decide +kernel
section
variable {n : Nat} [O : Ok61 n]
theorem gz_zero (h2 : n ≤ 60) {p : Nat} (hp : p ∈ prL n) : gz n (n / p) p = 0 := by
  have h1 := O.h1
  have t := List.all_eq_true.mp chkGz_all (n - 1) (List.mem_range.mpr (by omega))
  rw [Nat.sub_add_cancel h1] at t
  have t := of_decide_eq_true (List.all_eq_true.mp t p hp)
  have e := (zc_eq (gsL_len n _ p) (itS_len h1 0)).mpr t
  rw [gsL_zc] at e
  exact e
end
end Kp

/-! str() of things of any kind: calls where it is known that nothing is being shown. -/
namespace Kp
open PySem PySem.Spec PyProof.Rows L2 Evl RZ

/-! ### defs that are called where nothing is being shown -/
structure FnG (P : Program) (w : World) (K : PySem.W.Frag) (mg : Str → Option Value) (base : Heap) (k : Nat) (f : Addr) (fd : FuncData) (ps : List Str) (sp : Sp) : Prop where
  wid : ∀ xs h q e, sp xs h q e → xs.length = ps.length
  go : ∀ (B : Around) (fr : List Env) (st : Shared) (h : Hp) (as : Args) (zs : List Value) (xs : List V) (q : VK) (e : XK), B.guards = some [] → Room k B → Env0 P w K mg base B fr st h → BindsTo st fd as (ps.zip zs) → Vals xs zs → sp xs h q e → codeAny (model P w) B (.call (.ref f) as) (CR CX0 fr P w h st q e) st
section
variable {P : Program} {w : World} {K : PySem.W.Frag} {mg : Str → Option Value} {base : Heap} {k : Nat} {x : Str} {N ps : List Str} {sp : Sp} {st : Stmt}
theorem Fun.okG {qual : Str} {f : Addr} {fd : FuncData} (F : Fun K x qual st f fd) (S : FnScope N ps (defScope st)) (wid : ∀ xs h q e, sp xs h q e → xs.length = ps.length)
    (body : ∀ (cdv : Value) (B : Around) (fr : List Env) (s : Shared) (h : Hp) (xs : List V) (q : VK) (e : XK), Room k (B.deeper (envOfC qual (defScope st) s.heap.objs.size f cdv)) → B.guards = some [] → sp xs h q e →
      ∃ t, PSs (cxOf CX0 P w K mg base N qual (defScope st) f cdv B fr s h e).nox (defBody st) t ∧ t { nx := fun _ h' => q .non h', rt := q } (start N xs) h) : FnG P w K mg base (k + 1) f fd ps sp := by
  obtain ⟨oc, od, kV, doc, pm, an, cdv, ct, osl, rfl, lk, hcd⟩ := F.ex
  refine ⟨wid, fun B fr s h as zs xs q e g room e0 hb rel hsp => ?_⟩
  have wl : xs.length = ps.length := wid _ _ _ _ hsp
  have old : ∀ b o, base.get? b = some o → s.heap.get? b = some o := fun b o z => (e0.bs b o z).1
  have KS : K.In s.heap := e0.mod.kin.keeps old
  have kinds : ∀ y ∈ ps.zip zs, (defScope st).names.lookup y.1 = some .local ∨ ((defScope st).names.lookup y.1 = some .cell ∧ ((cellsFrom (s.heap.objs.size + 1) (defScope st).names []).lookup y.1).isSome = true) := by
    rintro ⟨y, v⟩ hy
    exact (S.par y (List.of_mem_zip hy).1).imp id fun z => ⟨z, PySem.W.cellsFrom_some _ _ _ (.inl z)⟩
  obtain ⟨t, ht, hq⟩ := body cdv B fr s h xs q e (room.deeper _) g hsp
  refine codeAny_call_function room.depth (KS _ _ lk) rfl S.co S.gen rfl (PySem.W.codeRec_of KS hcd) (hb _ _ _ _ (wpAny_newFunctionEnv_cells S.kind kinds ?_))
  intro env he s1 inc
  subst he
  refine ⟨(e0.mod.nolimit.keeps old).keeps inc.toInCall.keep, codeAny_func (wpAny_mono (ht.nox.run [] s1 (start N xs) h _ (inv_start S room.hd e0 wl rel inc) hq) (fun fl s' z => ?_) fun _ _ z => z)⟩
  have ends : ∀ {σ' : L2.St} {h' : Hp} {v : V} {u : Value}, Inv (cxOf CX0 P w K mg base N qual (defScope st) f cdv B fr s h e) [] σ' h' s' → RelV v u → q v h' → CE fr P w h s q u s' := by
    intro σ' h' v u J rv z
    exact ⟨v, h', J.os, J.bare, J.base, J.hok, rv, z⟩
  match fl, z with
  | .ret u, z =>
    obtain ⟨v, σ', h', J, rv, z⟩ := z
    exact ends J rv z
  | .next, z =>
    obtain ⟨σ', h', J, z⟩ := z
    exact ends (v := V.non) (u := Value.none) J rfl z
  | .brk, z =>
    obtain ⟨_, _, _, z⟩ := z
    exact z.elim
  | .cont, z =>
    obtain ⟨_, _, _, z⟩ := z
    exact z.elim
/-- by the name x the module holds a def that keeps the promise where nothing is being shown -/
def CalG (P : Program) (w : World) (K : PySem.W.Frag) (mg : Str → Option Value) (base : Heap) (x : Str) (k : Nat) (ps : List Str) (sp : Sp) : Prop :=
  ∃ (f : Addr) (fd : FuncData), FnG P w K mg base k f fd ps sp ∧ mg x = some (.ref f) ∧ PySem.W.keepIn K (.ref f) = true ∧ Binds K fd ps []
theorem Dfn.calG (d : Dfn K mg x ps st) (S : FnScope N ps (defScope st)) (wid : ∀ xs h q e, sp xs h q e → xs.length = ps.length)
    (body : ∀ (f : Addr) (cdv : Value) (B : Around) (fr : List Env) (s : Shared) (h : Hp) (xs : List V) (q : VK) (e : XK), Room k (B.deeper (envOfC x (defScope st) s.heap.objs.size f cdv)) → B.guards = some [] → sp xs h q e →
      ∃ t, PSs (cxOf CX0 P w K mg base N x (defScope st) f cdv B fr s h e).nox (defBody st) t ∧ t { nx := fun _ h' => q .non h', rt := q } (start N xs) h) : CalG P w K mg base x (k + 1) ps sp := by
  obtain ⟨f, fd, F, g, b⟩ := d
  exact ⟨f, fd, Fun.okG F S wid (body f), g, F.kp, b⟩
end
section
variable {X : Cx} {k : Nat} {ps : List Str} {sp : Sp} {E : XK} {x : Str} {p pos : Pos} {e : Expr} {es : List Expr} {t : TA}
theorem pe_calG (c : CalG X.prog X.w X.K X.mg X.base x k ps sp) (hr : Room k X.A) (g : X.A.guards = some []) (hg : Gl X x) (hx : Passes CX0 X E)
    (ha : PA X (e :: es) t) (hdb : (x == ("__debug__" : Str)) = false := by decide) (he : starEach (e :: es) X.env = (false, eval e X.env) :: starEach es X.env := by rfl) (hpl : (backTo pos (starEach es X.env)).any (·.1) = false := by rfl) :
    PE X (.Call (.Name x p) (e :: es) [] pos) (tCall sp [] E t) := by
  obtain ⟨f, fd, F, hm, kp, b⟩ := c
  refine ⟨fun pins s σ H Q I h => wpAny_Call_Name_kw (ld_glob I hg hm ?_ hdb)⟩
  refine PySem.W.callWith_K (h₀ := X.base) I.ok.mod.kin kp (thn (ha.run pos pins s σ H _ I h) fun us s1 hv => ?_) he hpl
  obtain ⟨vs, H1, J, r, q⟩ := hv
  have q : sp (vs ++ []) H1 Q E := q
  rw [List.append_nil] at q
  have hl : us.length = ps.length := r.length.symm.trans (F.wid _ _ _ _ q)
  have hb := b s1 us J.kIn (by rw [List.append_nil]; exact hl)
  rw [List.append_nil] at hb
  refine ⟨J.kIn, wpAny_call (codeAny_mono (F.go X.A X.stack s1 H1 ⟨us, []⟩ us vs Q E g hr J.env0 hb r q) fun rs s2 z => ?_)⟩
  match rs, z with
  | .error er, z => exact hx pins σ H1 s1 er s2 J z
  | .ok (.ret u), z => exact J.after z
  | .ok .next, z => exact z.elim
  | .ok .brk, z => exact z.elim
  | .ok .cont, z => exact z.elim
end

/-! ### str of a thing -/
section
variable {X : Cx} {pins : List (Addr × Obj)} {σ : L2.St} {H : Hp} {s : Shared}
mutual
theorem dq_reads (I : Inv X pins σ H s) : ∀ {v : V} {d : PyData} {u : Value}, Dq H v d → RelV v u → ∃ as, Reads s.heap u d as
  | _, _, _, .non, r => by
    cases r
    exact ⟨_, .none⟩
  | _, _, _, .bl b, r => by
    cases r
    exact ⟨_, .bool b⟩
  | _, _, _, .int i, r => by
    obtain ⟨t, rfl⟩ := r
    exact ⟨_, .int i t⟩
  | _, _, _, .str y, r => by
    obtain ⟨t, rfl⟩ := r
    exact ⟨_, .str y t⟩
  | _, _, _, .lst h hs, r => by
    cases r
    obtain ⟨its, rv, ⟨o, n, g, hc, _, hd⟩, _⟩ := I.list (SqL.of h)
    obtain ⟨as, R⟩ := dqa_reads I hs rv
    exact ⟨_, .list g hc hd (by rw [List.toList_toArray]; exact R)⟩
  | _, _, _, .tup h hs, r => by
    cases r
    obtain ⟨its, rv, ⟨o, g, hc, n, hd⟩, _⟩ := I.tuple (SqT.of h)
    obtain ⟨as, R⟩ := dqa_reads I hs rv
    exact ⟨_, .tuple g hc hd (by rw [List.toList_toArray]; exact R)⟩
theorem dqa_reads (I : Inv X pins σ H s) : ∀ {vs : List V} {ds : List PyData} {us : List Value}, DqAll H vs ds → Vals vs us → ∃ as, ReadsAll s.heap us ds as
  | _, _, _, .nil, r => by
    cases r
    exact ⟨_, .nil⟩
  | _, _, _, .cons h hs, r => by
    cases r with
    | cons r1 r2 =>
      obtain ⟨as, R⟩ := dq_reads I h r1
      obtain ⟨bs, R2⟩ := dqa_reads I hs r2
      exact ⟨_, .cons R R2⟩
end
end
mutual
/-- a thing without dicts -/
def noD : PyData → Bool
  | .list ds => noDA ds
  | .tuple ds => noDA ds
  | .dict _ => false
  | _ => true
def noDA : List PyData → Bool
  | [] => true
  | d :: ds => noD d && noDA ds
end
mutual
theorem dq_noD {H : Hp} : ∀ {v : V} {d : PyData}, Dq H v d → d.hasDict = false
  | _, _, .non => by simp only [PyData.hasDict]
  | _, _, .bl b => by simp only [PyData.hasDict]
  | _, _, .int i => by simp only [PyData.hasDict]
  | _, _, .str y => by simp only [PyData.hasDict]
  | _, _, .lst h hs => by
    simp only [PyData.hasDict]
    exact dqa_noD hs
  | _, _, .tup h hs => by
    simp only [PyData.hasDict]
    exact dqa_noD hs
theorem dqa_noD {H : Hp} : ∀ {vs : List V} {ds : List PyData}, DqAll H vs ds → PyData.hasDictAll ds = false
  | _, _, .nil => by simp only [PyData.hasDictAll]
  | _, _, .cons h hs => by
    simp only [PyData.hasDictAll]
    rw [dq_noD h, dqa_noD hs]
    rfl
end
mutual
/-- a bound of how long its text is -/
def shB : PyData → Nat
  | .none => 4
  | .bool _ => 5
  | .int _ => 1921
  | .str x => 10 * x.length + 2
  | .list ds => shBA ds + 3
  | .tuple ds => shBA ds + 3
  | .dict _ => 0
def shBA : List PyData → Nat
  | [] => 0
  | d :: ds => shB d + 2 + shBA ds
end
mutual
/-- a thing that may be shown: numbers of at most some hundred figures, plain signs -/
def shO : PyData → Bool
  | .int i => decide (i.natAbs.log2 < 1920)
  | .str x => x.cps.toList.all fun c => decide (c < 16 ^ 8)
  | .list ds => shOA ds
  | .tuple ds => shOA ds
  | .dict _ => false
  | _ => true
def shOA : List PyData → Bool
  | [] => true
  | d :: ds => shO d && shOA ds
end
mutual
theorem shO_able : ∀ d : PyData, shO d = true → d.showable = true
  | .none, _ => by simp only [PyData.showable]
  | .bool _, _ => by simp only [PyData.showable]
  | .int i, h => by
    simp only [PyData.showable]
    simpa only [shO] using h
  | .str _, _ => by simp only [PyData.showable]
  | .list ds, h => by
    simp only [PyData.showable]
    exact shOA_able ds (by simpa only [shO] using h)
  | .tuple ds, h => by
    simp only [PyData.showable]
    exact shOA_able ds (by simpa only [shO] using h)
  | .dict _, h => by simp only [shO] at h; exact nomatch h
theorem shOA_able : ∀ ds : List PyData, shOA ds = true → PyData.showableAll ds = true
  | [], _ => by simp only [PyData.showableAll]
  | d :: ds, h => by
    simp only [shOA, Bool.and_eq_true] at h
    simp only [PyData.showableAll]
    rw [shO_able d h.1, shOA_able ds h.2]
    rfl
end
theorem sum_two : ∀ ts : List Str, (ts.map fun t => t.length).sum + 2 * ts.length = (ts.map fun t => t.length + 2).sum
  | [] => rfl
  | t :: ts => by
    have := sum_two ts
    simp only [List.map_cons, List.sum_cons, List.length_cons]
    omega
mutual
theorem shB_len : ∀ d : PyData, shO d = true → d.shown.length ≤ shB d
  | .none, _ => by
    simp only [PyData.shown, shB]
    decide +kernel
  | .bool b, _ => by
    simp only [PyData.shown, shB]
    cases b <;> decide +kernel
  | .int i, h => by
    simp only [PyData.shown, shB]
    exact int_text_len_1921 (of_decide_eq_true (by simpa only [shO] using h))
  | .str x, h => by
    simp only [PyData.shown, shB]
    simp only [shO] at h
    exact StrLaws.reprText_len x fun c hc => of_decide_eq_true (List.all_eq_true.mp h c hc)
  | .list ds, h => by
    simp only [PyData.shown, shB]
    have h1 := listText_len_le (PyData.shownAll ds)
    have h2 := shBA_len ds (by simpa only [shO] using h)
    have h3 := sum_two (PyData.shownAll ds)
    have e : (List.map (·.length) (PyData.shownAll ds)).sum = ((PyData.shownAll ds).map fun t => t.length).sum := rfl
    omega
  | .tuple ds, h => by
    simp only [PyData.shown, shB]
    have h1 := tupleText_len_le (PyData.shownAll ds)
    have h2 := shBA_len ds (by simpa only [shO] using h)
    have h3 := sum_two (PyData.shownAll ds)
    have e : (List.map (·.length) (PyData.shownAll ds)).sum = ((PyData.shownAll ds).map fun t => t.length).sum := rfl
    omega
  | .dict _, h => by simp only [shO] at h; exact nomatch h
theorem shBA_len : ∀ ds : List PyData, shOA ds = true → ((PyData.shownAll ds).map fun t => t.length + 2).sum ≤ shBA ds
  | [], _ => by
    simp only [PyData.shownAll, shBA]
    exact Nat.le_refl _
  | d :: ds, h => by
    simp only [shOA, Bool.and_eq_true] at h
    simp only [PyData.shownAll, shBA, List.map_cons, List.sum_cons]
    have h1 := shB_len d h.1
    have h2 := shBA_len ds h.2
    omega
end
section
variable {X : Cx}
theorem room110 {k : Nat} {A : Around} (r : Room k A) : A.units + 110 < cLine := by
  have := r.un
  omega
/-- the text that str() gives -/
def strD : PyData → Str
  | .str x => x
  | d => PyData.shown d
/-- str(x): the text of the thing's data -/
def rStrD : List V → Hp → VK → Prop := fun vs H Q => ∃ (x : V) (d : PyData), vs = [x] ∧ Dq H x d ∧ shO d = true ∧ shB d ≤ 16000000 ∧ d.depth ≤ 100 ∧ Q (.str (strD d)) H
theorem cr_strD (g : X.A.guards = some []) (hu : X.A.units + 110 < cLine) : CallR X (.type "str") rStrD := by
  intro pins s σ H vs us Q I r h
  obtain ⟨x, d, rfl, hd, ok, sz, dp, q⟩ := h
  obtain ⟨u, rfl, r1⟩ := vals1 r
  have hlen := shB_len d ok
  have hz : (16000000 : Nat) ≤ sizeLine := by decide
  cases hd with
  | non =>
    cases r1
    exact P.str_of_none ⟨.str _, H, I.tok _, ⟨_, rfl⟩, q⟩
  | bl b =>
    cases r1
    refine P.str_of_bool ⟨.str _, H, I.tok _, ⟨_, rfl⟩, ?_⟩
    cases b <;> exact q
  | int i =>
    obtain ⟨t, rfl⟩ := r1
    exact P.str_of_int (of_decide_eq_true (by simpa only [shO] using ok)) ⟨.str _, H, I.tok _, ⟨_, rfl⟩, q⟩
  | str y =>
    obtain ⟨t, rfl⟩ := r1
    exact P.str_of_str ⟨.str y, H, I, ⟨t, rfl⟩, q⟩
  | lst h hs =>
    obtain ⟨as, R⟩ := dq_reads I (Dq.lst h hs) r1
    cases r1
    exact str_of_reads R (shO_able _ ok) (PyData.noDict_hsm (dq_noD (Dq.lst h hs))) g (by omega) (fun _ _ e => e) (fun h' t tk hk => ⟨.str _, H, I.kept hk, ⟨t, rfl⟩, q⟩) (by omega)
  | tup h hs =>
    obtain ⟨as, R⟩ := dq_reads I (Dq.tup h hs) r1
    cases r1
    exact str_of_reads R (shO_able _ ok) (PyData.noDict_hsm (dq_noD (Dq.tup h hs))) g (by omega) (fun _ _ e => e) (fun h' t tk hk => ⟨.str _, H, I.kept hk, ⟨t, rfl⟩, q⟩) (by omega)
end

/-! ### the end of a law whose defs show things -/
section
variable {P : Program} {w : World} {K : PySem.W.Frag} {mg mb : Str → Option Value} {k : Nat} {fa a : Addr} {fd : FuncData} {x : Str} {sp : Sp} {st : Shared} {vs : List Value} {ns : List Int}
/-- the script, tracked unless it is the module's own -/
def scrH (K : PySem.W.Frag) (a : Addr) (vs : List Value) (ns : List Int) : Hp := fun b => if b = a ∧ K.lookup a = none then some (.frz { cls := .type "list", data := .seq vs.toArray } (.lst (ns.map V.int))) else none
theorem scr_some {b : Addr} {o : HO} (h : scrH K a vs ns b = some o) : b = a ∧ K.lookup a = none ∧ o = .frz { cls := .type "list", data := .seq vs.toArray } (.lst (ns.map V.int)) := by
  unfold scrH at h
  split at h
  · next c => exact ⟨c.1, c.2, (Option.some.inj h).symm⟩
  · cases h
theorem law_G (inK : K.In st.heap) (nsM : st.heap.Ns mainGlobals mg) (nsB : st.heap.Ns builtinsNs mb) (bb : ∀ y : Str, y ≠ "__name__" → mb y = bootBuiltins y) (lim : st.heap.NoLimit) (gens : st.gens = #[])
    (scr : st.heap.get? a = some { cls := .type "list", data := .seq vs.toArray }) (its : IntsAre vs ns) (short : ns.length ≤ sizeLine) (room : Room k callerA)
    (F : ∀ base : Heap, K.In base → base.Ns mainGlobals mg → FnG P w K mg base k fa fd [x] sp) (hb : ∀ (s : Shared) (u : Value), BindsTo s fd ⟨[u], []⟩ [(x, u)])
    (hsp : ∀ H : Hp, SqL K H a (ns.map V.int) → sp [.ref a] H (fun v _ => v = .bl true) fun _ _ _ => False) :
    codeAny (model P w) callerA (.call (.ref fa) ⟨[.ref a], []⟩) (fun r s' => r = .ok (.ret (.bool true)) ∧ OldK st.heap s'.heap ∧ s'.os = st.os ∧ AllBare s'.gens) st := by
  have rel : Vals (ns.map V.int) vs := vals_ints its
  have many := its.length
  let H := scrH K a vs ns
  have free : ∀ {b : Addr} {o : Obj}, K.lookup b = some o → H b = none := by
    intro b o lb
    cases q : H b with
    | none => rfl
    | some u =>
      obtain ⟨rfl, no, _⟩ := scr_some q
      rw [no] at lb
      cases lb
  have nodict : ∀ {b : Addr} {o : Obj} {es : Array DictEntry} {ep : Nat}, st.heap.get? b = some o → o.data = .dict es ep → H b = none := by
    intro b o es ep g d
    cases q : H b with
    | none => rfl
    | some u =>
      obtain ⟨rfl, _, _⟩ := scr_some q
      rw [scr] at g
      cases g
      cases d
  have nsOf : ∀ {b : Addr} {m : Str → Option Value}, st.heap.Ns b m → (hidT st.heap H).Ns b m := by
    rintro b m ⟨o, es, ep, g, d, r⟩
    exact ⟨o, es, ep, hidT_get g (nodict g d), d, r⟩
  have inB : K.In (hidT st.heap H) := fun b o lb => hidT_get (inK b o lb) (free lb)
  have hok : HOk P w H st.heap := by
    intro b o q
    obtain ⟨rfl, _, rfl⟩ := scr_some q
    exact ⟨scr, by rw [List.length_map]; exact short, vs, _, rel, scr⟩
  have env : Env0 P w K mg (hidT st.heap H) callerA [] st H := by
    obtain ⟨mc, l1, l2⟩ := lim
    exact ⟨rfl, ⟨inB, nsOf nsM, ⟨mb, nsOf nsB, bb⟩, mc, nsOf l1, l2⟩, fun b o g => of_hidT g, Nat.le_of_eq (hidT_size _ _), trivial, fun b z => (List.not_mem_nil z).elim, hok, .of_eq gens⟩
  have sq : SqL K H a (ns.map V.int) := by
    cases lk : K.lookup a with
    | none => exact .inl (.inr ⟨_, if_pos ⟨rfl, lk⟩⟩)
    | some o =>
      have g := inK a o lk
      rw [scr] at g
      cases g
      exact .inr ⟨_, vs.toArray, _, lk, rfl, rfl, rfl, by rw [List.size_toArray, many]; exact short, by rw [List.toList_toArray]; exact rel⟩
  refine codeAny_mono ((F _ inB (nsOf nsM)).go callerA [] st H ⟨[.ref a], []⟩ [.ref a] [.ref a] _ _ rfl room env (hb st (.ref a)) (.cons rfl .nil) (hsp H sq)) fun r s' z => ?_
  match r, z with
  | .error e, z => exact z.elim
  | .ok .next, z => exact z.elim
  | .ok .brk, z => exact z.elim
  | .ok .cont, z => exact z.elim
  | .ok (.ret u), z =>
    obtain ⟨v, H', os, bare, un, hok', r', z⟩ := z
    have z : v = .bl true := z
    subst z
    have r' : u = Value.bool true := r'
    subst r'
    refine ⟨rfl, OldK.of_keep fun b o g => ?_, os, bare⟩
    cases q : H b with
    | none => exact un.keep b o g q (fun m => (List.not_mem_nil m).elim) List.not_mem_nil
    | some u =>
      obtain ⟨rfl, _, rfl⟩ := scr_some q
      obtain ⟨g2, _⟩ := hok' _ _ (un.frzs _ _ _ q)
      rw [scr] at g
      cases g
      exact g2
theorem walk_ofG {l : PySem.W.OpenLaw} {n : Nat} {q : Program} {loose : List Str} {XP : (Str → Option Value) → Heap → Prop} {YP : World → Heap → Prop} {d : DefRec} {KW : Params → PySem.W.Frag} {spw : World → Sp}
    (hn : l.most = some n) (hn2 : n ≤ sizeLine) (hdf : d.params.defaults = []) (room : Room k callerA) (hY : ∀ (w : World) (h : Heap), YP w h → (KW w.params).In h)
    (F : ∀ (w : World) (mg : Str → Option Value) (fa : Addr) (h : Heap), (KW w.params).In h → h.Ns mainGlobals mg → mg d.name = some (.ref fa) → ∃ fd : FuncData, (∀ (s : Shared) (u : Value), BindsTo s fd ⟨[u], []⟩ [(x, u)]) ∧ ∀ base : Heap, (KW w.params).In base → base.Ns mainGlobals mg → FnG l.prog w (KW w.params) mg base k fa fd [x] (spw w))
    (hsp : ∀ (w : World) (H : Hp) (a : Addr) (ns : List Int), ns.length ≤ n → SqL (KW w.params) H a (ns.map V.int) → spw w [.ref a] H (fun v _ => v = .bl true) fun _ _ _ => False) :
    PySem.W.WalkO q loose XP YP l.row.toRowW d [] (fun f vs => PySem.call f vs) := by
  refine Att.attach_call hn hdf ?_
  intro w s0 st mg mb fa o pm cd doc a vs ns G Y _ _ _ hm scr its short gens
  obtain ⟨fd, hb, hF⟩ := F w mg fa _ (hY w _ Y) G.T.g hm
  exact law_G (hY w _ Y) G.T.g G.T.b G.T.builtins G.T.nolimit gens scr its (Nat.le_trans short hn2) room hF hb fun H sq => hsp w H a ns short sq
end
end Kp

/-! Things of any kind that are made and changed: what they are made of, how long their text may be. -/
namespace Kp
open PySem PySem.Spec PyProof.Rows L2 Evl RZ

/-- the heap without these places -/
def hid (A : List Addr) (H : Hp) : Hp := fun a => if a ∈ A then none else H a
/-- these places are taken -/
def Tkn (A : List Addr) (H : Hp) : Prop := ∀ a ∈ A, H a ≠ none
section
variable {A B : List Addr} {H H' : Hp}
theorem hid_nil : hid [] H = H := funext fun a => if_neg (List.not_mem_nil)
theorem hid_ex (e : Ex H H') : Ex (hid A H) (hid A H') := fun a o h => by
  unfold hid at *
  split at h
  · cases h
  · next c =>
    rw [if_neg c]
    exact e a o h
theorem hid_out {a : Addr} (h : a ∉ A) : hid A H a = H a := if_neg h
theorem hid_upd {p : Addr} {o : HO} (h : p ∈ A) : hid A (upd H p o) = hid A H := funext fun a => by
  unfold hid
  split
  · rfl
  · next c =>
    rw [upd_ne]
    exact fun e => c (e ▸ h)
theorem hid_sub (h : ∀ a ∈ B, a ∈ A) : Ex (hid A H) (hid B H) := fun a o q => by
  unfold hid at *
  split at q
  · cases q
  · next c => rw [if_neg fun m => c (h a m)]; exact q
theorem hid_all (h : ∀ a ∈ A, H a = none) : hid A H = H := funext fun a => by
  unfold hid
  split
  · next c => rw [h a c]
  · rfl
theorem tkn_ex (e : Ex H H') (t : Tkn A H) : Tkn A H' := fun a ha => by
  have := t a ha
  cases q : H a with
  | none => exact absurd q this
  | some o => rw [e a o q]; exact fun z => nomatch z
theorem tkn_not {p : Addr} (t : Tkn A H) (h : H p = none) : p ∉ A := fun m => t p m h
theorem tkn_one {a : Addr} {o : HO} (h : H a = some o) : Tkn [a] H := fun b hb => by
  rw [List.mem_singleton.mp hb, h]
  exact fun z => nomatch z
theorem tkn_two {a b : Addr} {o q : HO} (h : H a = some o) (g : H b = some q) : Tkn [a, b] H := fun c hc => by
  rcases List.mem_cons.mp hc with e | hc
  · rw [e, h]
    exact fun z => nomatch z
  · rw [List.mem_singleton.mp hc, g]
    exact fun z => nomatch z
theorem dq_un {x : V} {d : PyData} (h : Dq (hid A H) x d) : Dq H x d := by
  have := h.mono (hid_sub (A := A) (B := []) (H := H) fun a m => (List.not_mem_nil m).elim)
  rwa [hid_nil] at this
/-- what stood before these places were taken doesn't lead to them -/
theorem dq_old {x : V} {d : PyData} (h : Dq H x d) (n : ∀ a ∈ A, H a = none) (e : Ex H H') : Dq (hid A H') x d := by
  rw [← hid_all n] at h
  exact h.mono (hid_ex e)
end
/-- its text at most b long, at most k deep -/
structure Sz (b k : Nat) (d : PyData) : Prop where
  ok : shO d = true
  len : shB d ≤ b
  dep : d.depth ≤ k
structure SzA (b k : Nat) (ds : List PyData) : Prop where
  ok : shOA ds = true
  len : shBA ds ≤ b
  dep : PyData.depthAll ds ≤ k
theorem Sz.mono {b b' k k' : Nat} {d : PyData} (h : Sz b k d) (hb : b ≤ b') (hk : k ≤ k') : Sz b' k' d := ⟨h.ok, Nat.le_trans h.len hb, Nat.le_trans h.dep hk⟩
theorem SzA.mono {b b' k k' : Nat} {d : List PyData} (h : SzA b k d) (hb : b ≤ b') (hk : k ≤ k') : SzA b' k' d := ⟨h.ok, Nat.le_trans h.len hb, Nat.le_trans h.dep hk⟩
theorem Sz.lst {b k : Nat} {ds : List PyData} (h : SzA b k ds) : Sz (b + 3) (k + 1) (.list ds) := ⟨by simpa only [shO] using h.ok, by simp only [shB]; have := h.len; omega, by simp only [PyData.depth]; have := h.dep; omega⟩
theorem Sz.tup {b k : Nat} {ds : List PyData} (h : SzA b k ds) : Sz (b + 3) (k + 1) (.tuple ds) := ⟨by simpa only [shO] using h.ok, by simp only [shB]; have := h.len; omega, by simp only [PyData.depth]; have := h.dep; omega⟩
theorem SzA.nil : SzA 0 0 [] := ⟨by simp only [shOA], by simp only [shBA]; exact Nat.le_refl _, by simp only [PyData.depthAll]; exact Nat.le_refl _⟩
theorem SzA.cons {b1 b2 k : Nat} {d : PyData} {ds : List PyData} (h : Sz b1 k d) (g : SzA b2 k ds) : SzA (b1 + 2 + b2) k (d :: ds) := ⟨by simp only [shOA, h.ok, g.ok, Bool.and_self], by simp only [shBA]; have := h.len; have := g.len; omega, by simp only [PyData.depthAll]; exact Nat.max_le.mpr ⟨h.dep, g.dep⟩⟩
theorem SzA.app {b1 b2 k : Nat} : ∀ {ds es : List PyData}, SzA b1 k ds → SzA b2 k es → SzA (b1 + b2) k (ds ++ es)
  | [], es, _, g => g.mono (by omega) (Nat.le_refl _)
  | d :: ds, es, h, g => by
    have h1 := h.ok
    have h2 := h.len
    have h3 := h.dep
    simp only [shOA, Bool.and_eq_true] at h1
    simp only [shBA] at h2
    simp only [PyData.depthAll] at h3
    have ih := SzA.app (b1 := shBA ds) (k := k) ⟨h1.2, Nat.le_refl _, (Nat.max_le.mp h3).2⟩ g
    exact (SzA.cons (b1 := shB d) ⟨h1.1, Nat.le_refl _, (Nat.max_le.mp h3).1⟩ ih).mono (by omega) (Nat.le_refl _)
theorem SzA.at {b k : Nat} : ∀ {ds : List PyData} {i : Nat} {d : PyData}, SzA b k ds → ds[i]? = some d → Sz b k d
  | d :: ds, 0, _, h, e => by
    cases e
    have h1 := h.ok
    have h2 := h.len
    have h3 := h.dep
    simp only [shOA, Bool.and_eq_true] at h1
    simp only [shBA] at h2
    simp only [PyData.depthAll] at h3
    exact ⟨h1.1, by omega, (Nat.max_le.mp h3).1⟩
  | d :: ds, i + 1, _, h, e => by
    have h1 := h.ok
    have h2 := h.len
    have h3 := h.dep
    simp only [shOA, Bool.and_eq_true] at h1
    simp only [shBA] at h2
    simp only [PyData.depthAll] at h3
    exact SzA.at (ds := ds) (i := i) ⟨h1.2, by omega, (Nat.max_le.mp h3).2⟩ e
theorem SzA.set {b c k : Nat} {d : PyData} (h : Sz c k d) : ∀ {ds : List PyData} {i : Nat}, SzA b k ds → SzA (b + c + 2) k (ds.set i d)
  | [], i, g => g.mono (by omega) (Nat.le_refl _)
  | e :: ds, 0, g => by
    have h1 := g.ok
    have h2 := g.len
    have h3 := g.dep
    simp only [shOA, Bool.and_eq_true] at h1
    simp only [shBA] at h2
    simp only [PyData.depthAll] at h3
    exact (SzA.cons h (b2 := shBA ds) ⟨h1.2, Nat.le_refl _, (Nat.max_le.mp h3).2⟩).mono (by omega) (Nat.le_refl _)
  | e :: ds, i + 1, g => by
    have h1 := g.ok
    have h2 := g.len
    have h3 := g.dep
    simp only [shOA, Bool.and_eq_true] at h1
    simp only [shBA] at h2
    simp only [PyData.depthAll] at h3
    have ih := SzA.set h (ds := ds) (i := i) (b := shBA ds) ⟨h1.2, Nat.le_refl _, (Nat.max_le.mp h3).2⟩
    exact (SzA.cons (b1 := shB e) ⟨h1.1, Nat.le_refl _, (Nat.max_le.mp h3).1⟩ ih).mono (by omega) (Nat.le_refl _)
theorem SzA.erase {b k : Nat} : ∀ {ds : List PyData} {i : Nat}, SzA b k ds → SzA b k (ds.eraseIdx i)
  | [], i, g => g
  | e :: ds, 0, g => by
    have h1 := g.ok
    have h2 := g.len
    have h3 := g.dep
    simp only [shOA, Bool.and_eq_true] at h1
    simp only [shBA] at h2
    simp only [PyData.depthAll] at h3
    exact ⟨h1.2, by show shBA ds ≤ b; omega, (Nat.max_le.mp h3).2⟩
  | e :: ds, i + 1, g => by
    have h1 := g.ok
    have h2 := g.len
    have h3 := g.dep
    simp only [shOA, Bool.and_eq_true] at h1
    simp only [shBA] at h2
    simp only [PyData.depthAll] at h3
    have ih := SzA.erase (ds := ds) (i := i) (b := shBA ds) (k := k) ⟨h1.2, Nat.le_refl _, (Nat.max_le.mp h3).2⟩
    exact (SzA.cons (b1 := shB e) ⟨h1.1, Nat.le_refl _, (Nat.max_le.mp h3).1⟩ ih).mono (by omega) (Nat.le_refl _)
theorem SzA.take {b k : Nat} : ∀ {ds : List PyData} {m : Nat}, SzA b k ds → SzA b k (ds.take m)
  | ds, 0, g => by
    rw [List.take_zero]
    exact SzA.nil.mono (Nat.zero_le _) (Nat.zero_le _)
  | [], m + 1, g => g
  | e :: ds, m + 1, g => by
    have h1 := g.ok
    have h2 := g.len
    have h3 := g.dep
    simp only [shOA, Bool.and_eq_true] at h1
    simp only [shBA] at h2
    simp only [PyData.depthAll] at h3
    have ih := SzA.take (ds := ds) (m := m) (b := shBA ds) (k := k) ⟨h1.2, Nat.le_refl _, (Nat.max_le.mp h3).2⟩
    exact (SzA.cons (b1 := shB e) ⟨h1.1, Nat.le_refl _, (Nat.max_le.mp h3).1⟩ ih).mono (by omega) (Nat.le_refl _)
theorem sz_int {i : Int} (h : i.natAbs < 2 ^ 1900) : Sz 1921 0 (.int i) := ⟨by
  simp only [shO]
  refine decide_eq_true ?_
  by_cases z : i.natAbs = 0
  · rw [z]
    decide
  · have := (Nat.log2_lt z (k := 1900)).mpr h
    omega, by simp only [shB]; exact Nat.le_refl _, by simp only [PyData.depth]; exact Nat.le_refl _⟩
theorem sz_non : Sz 4 0 .none := ⟨by simp only [shO], by simp only [shB]; exact Nat.le_refl _, by simp only [PyData.depth]; exact Nat.le_refl _⟩
theorem sz_bl (b : Bool) : Sz 5 0 (.bool b) := ⟨by simp only [shO], by simp only [shB]; exact Nat.le_refl _, by simp only [PyData.depth]; exact Nat.le_refl _⟩
theorem sz_str {x : Str} {b : Nat} (h : (x.cps.toList.all fun c => decide (c < 16 ^ 8)) = true) (hb : 10 * x.length + 2 ≤ b) : Sz b 0 (.str x) := ⟨by simp only [shO]; exact h, by simp only [shB]; exact hb, by simp only [PyData.depth]; exact Nat.le_refl _⟩
theorem sza_ints : ∀ {ns : List Int}, (∀ i ∈ ns, i.natAbs < 2 ^ 1900) → SzA (1923 * ns.length) 0 (ns.map PyData.int)
  | [], _ => SzA.nil
  | i :: ns, h => (SzA.cons (sz_int (h i List.mem_cons_self)) (sza_ints fun j hj => h j (List.mem_cons_of_mem _ hj))).mono (by rw [List.length_cons]; omega) (Nat.le_refl _)
theorem DqAll.app {H : Hp} : ∀ {xs ys : List V} {ds es : List PyData}, DqAll H xs ds → DqAll H ys es → DqAll H (xs ++ ys) (ds ++ es)
  | _, _, _, _, .nil, h => h
  | _, _, _, _, .cons a b, h => .cons a (b.app h)
theorem DqAll.take {H : Hp} : ∀ {xs : List V} {ds : List PyData} {m : Nat}, DqAll H xs ds → DqAll H (xs.take m) (ds.take m)
  | _, _, 0, _ => by
    rw [List.take_zero, List.take_zero]
    exact .nil
  | _, _, _ + 1, .nil => .nil
  | _, _, m + 1, .cons a b => .cons a (b.take (m := m))
theorem DqAll.set {H : Hp} {x : V} {d : PyData} (h : Dq H x d) : ∀ {xs : List V} {ds : List PyData} {i : Nat}, DqAll H xs ds → DqAll H (xs.set i x) (ds.set i d)
  | _, _, _, .nil => .nil
  | _, _, 0, .cons _ b => .cons h b
  | _, _, i + 1, .cons a b => .cons a (DqAll.set h (i := i) b)
theorem DqAll.erase {H : Hp} : ∀ {xs : List V} {ds : List PyData} {i : Nat}, DqAll H xs ds → DqAll H (xs.eraseIdx i) (ds.eraseIdx i)
  | _, _, _, .nil => .nil
  | _, _, 0, .cons _ b => b
  | _, _, i + 1, .cons a b => .cons a (b.erase (i := i))
section
variable {K : PySem.W.Frag} {σ : L2.St} {H : Hp} {A : List Addr} {te ta tb to ti : TE} {tr : TA} {b b2 k m n : Nat} {D : Ends} {tz : TS} {x : V} {d : PyData}
/-- it tells some thing that doesn't lead to A, so long, so deep -/
def EvS (A : List Addr) (te : TE) (σ : L2.St) (H : Hp) (b k : Nat) : Prop := ∀ H1, Ex H H1 → ∀ Q : VK, (∀ x d H2, Ex H1 H2 → Dq (hid A H2) x d → Sz b k d → Q x H2) → te σ H1 Q
def EvSA (A : List Addr) (tr : TA) (σ : L2.St) (H : Hp) (n b k : Nat) : Prop := ∀ H1, Ex H H1 → ∀ Q : List V → Hp → Prop, (∀ xs ds H2, Ex H1 H2 → DqAll (hid A H2) xs ds → SzA b k ds → xs.length = n → Q xs H2) → tr σ H1 Q
theorem EvS.mono {b' k' : Nat} (h : EvS A te σ H b k) (hb : b ≤ b') (hk : k ≤ k') : EvS A te σ H b' k' := fun H1 e Q q => h H1 e Q fun x d H2 e2 g s => q x d H2 e2 g (s.mono hb hk)
theorem EvS.ex {H1 : Hp} (h : EvS A te σ H b k) (e : Ex H H1) : EvS A te σ H1 b k := fun H2 e2 => h H2 (e.trans e2)
theorem es_val (h : Ev te σ H x) (g : ∀ H1, Ex H H1 → Dq (hid A H1) x d) (s : Sz b k d) : EvS A te σ H b k := fun H1 e Q q => h H1 e _ fun H2 e2 => q x d H2 e2 (g H2 (e.trans e2)) s
theorem es_dq (h : Ev te σ H x) (g : Dq (hid A H) x d) (s : Sz b k d) : EvS A te σ H b k := es_val h (fun H1 e => g.mono (hid_ex e)) s
theorem es_int {i : Int} (h : Ev te σ H (.int i)) (hi : i.natAbs < 2 ^ 1900) : EvS A te σ H 1921 0 := es_val h (fun _ _ => .int i) (sz_int hi)
theorem es_non (h : Ev te σ H .non) : EvS A te σ H 4 0 := es_val h (fun _ _ => .non) sz_non
theorem es_bl {z : Bool} (h : Ev te σ H (.bl z)) : EvS A te σ H 5 0 := es_val h (fun _ _ => .bl z) (sz_bl z)
theorem es_str {z : Str} (h : Ev te σ H (.str z)) (h1 : (z.cps.toList.all fun c => decide (c < 16 ^ 8)) = true) (hb : 10 * z.length + 2 ≤ b) : EvS A te σ H b 0 := es_val h (fun _ _ => .str z) (sz_str h1 hb)
theorem esa_nil : EvSA A tNil σ H 0 0 0 := fun H1 e Q q => q [] [] H1 (Ex.refl H1) .nil SzA.nil rfl
theorem esa_cons {k2 : Nat} (h : EvS A te σ H b k) (hr : EvSA A tr σ H n b2 k2) : EvSA A (tCons te tr) σ H (n + 1) (b + 2 + b2) (max k k2) := fun H1 e Q q =>
  h H1 e _ fun x d H2 e2 g s => hr H2 (e.trans e2) _ fun xs ds H3 e3 gs ss l => q (x :: xs) (d :: ds) H3 (e2.trans e3) (.cons (g.mono (hid_ex e3)) gs) (SzA.cons (s.mono (Nat.le_refl _) (Nat.le_max_left _ _)) (ss.mono (Nat.le_refl _) (Nat.le_max_right _ _))) (by rw [List.length_cons, l])
theorem es_lst (t : Tkn A H) (h : EvSA A tr σ H n b k) (hn : n ≤ 100000) : EvS A (tLst tr) σ H (b + 3) (k + 1) := fun H1 e Q q =>
  h H1 e _ fun xs ds H2 e2 gs ss l => ⟨sz_of (by omega), fun p np => q (.ref p) (.list ds) _ (e2.trans (Ex.new np)) (.lst (by rw [hid_out (tkn_not (tkn_ex (e.trans e2) t) np), upd_same]) (gs.mono (hid_ex (Ex.new np)))) (Sz.lst ss)⟩
theorem es_tup (t : Tkn A H) (h : EvSA A tr σ H n b k) (hn : n ≤ 100000) : EvS A (tTup tr) σ H (b + 3) (k + 1) := fun H1 e Q q =>
  h H1 e _ fun xs ds H2 e2 gs ss l => ⟨sz_of (by omega), fun p np => q (.ref p) (.tuple ds) _ (e2.trans (Ex.new np)) (.tup (by rw [hid_out (tkn_not (tkn_ex (e.trans e2) t) np), upd_same]) (gs.mono (hid_ex (Ex.new np)))) (Sz.tup ss)⟩
/-- [e, ..][i] -/
theorem es_pick {i : Int} (h : EvSA A tr σ H n b k) (hn : n ≤ 100000) (hi : Ev ti σ H (.int i)) (h0 : 0 ≤ i) (h1 : i < (n : Int)) : EvS A (tOp (rIxL K) (tLst tr) ti) σ H b k := fun H1 e Q q =>
  h H1 e _ fun xs ds H2 e2 gs ss l => ⟨sz_of (by omega), fun p np => by
    have eN : Ex H2 (upd H2 p (.lst xs)) := Ex.new np
    refine hi _ ((e.trans e2).trans eN) _ fun H3 e3 => ?_
    obtain ⟨j, rfl⟩ := Int.eq_ofNat_of_zero_le h0
    have hj : j < xs.length := by omega
    obtain ⟨d, hd, g⟩ := gs.at (List.getElem?_eq_getElem hj)
    exact (rv_ixL (K := K) (xs := xs) (i := (j : Int)) (sq_of (e3 _ _ upd_same)) (atI_nat (List.getElem?_eq_getElem hj))) H3 (Ex.refl _) _ fun H4 e4 => q _ d H4 ((e2.trans eN).trans (e3.trans e4)) (g.mono (hid_ex (eN.trans (e3.trans e4)))) (ss.at hd)⟩
/-- each of them so long, so deep -/
def EvSE (A : List Addr) (tr : TA) (σ : L2.St) (H : Hp) (n b k : Nat) : Prop := ∀ H1, Ex H H1 → ∀ Q : List V → Hp → Prop, (∀ xs ds H2, Ex H1 H2 → DqAll (hid A H2) xs ds → (∀ (i : Nat) (d : PyData), ds[i]? = some d → Sz b k d) → xs.length = n → Q xs H2) → tr σ H1 Q
theorem ese_nil : EvSE A tNil σ H 0 b k := fun H1 e Q q => q [] [] H1 (Ex.refl H1) .nil (fun i d h => by simp at h) rfl
theorem ese_cons {b1 k1 : Nat} (h : EvS A te σ H b1 k1) (hb : b1 ≤ b) (hk : k1 ≤ k) (hr : EvSE A tr σ H n b k) : EvSE A (tCons te tr) σ H (n + 1) b k := fun H1 e Q q =>
  h H1 e _ fun x d H2 e2 g s => hr H2 (e.trans e2) _ fun xs ds H3 e3 gs ss l => q (x :: xs) (d :: ds) H3 (e2.trans e3) (.cons (g.mono (hid_ex e3)) gs) (fun i d' h => by
    cases i with
    | zero =>
      cases h
      exact s.mono hb hk
    | succ i => exact ss i d' h) (by rw [List.length_cons, l])
/-- [e, ..][i], by the greatest of them -/
theorem es_pickE {i : Int} (h : EvSE A tr σ H n b k) (hn : n ≤ 100000) (hi : Ev ti σ H (.int i)) (h0 : 0 ≤ i) (h1 : i < (n : Int)) : EvS A (tOp (rIxL K) (tLst tr) ti) σ H b k := fun H1 e Q q =>
  h H1 e _ fun xs ds H2 e2 gs ss l => ⟨sz_of (by omega), fun p np => by
    have eN : Ex H2 (upd H2 p (.lst xs)) := Ex.new np
    refine hi _ ((e.trans e2).trans eN) _ fun H3 e3 => ?_
    obtain ⟨j, rfl⟩ := Int.eq_ofNat_of_zero_le h0
    have hj : j < xs.length := by omega
    obtain ⟨d, hd, g⟩ := gs.at (List.getElem?_eq_getElem hj)
    exact (rv_ixL (K := K) (xs := xs) (i := (j : Int)) (sq_of (e3 _ _ upd_same)) (atI_nat (List.getElem?_eq_getElem hj))) H3 (Ex.refl _) _ fun H4 e4 => q _ d H4 ((e2.trans eN).trans (e3.trans e4)) (g.mono (hid_ex (eN.trans (e3.trans e4)))) (ss _ _ hd)⟩
/-- a new list of whole numbers -/
theorem es_ints {ns : List Int} (t : Tkn A H) (h : EvL te σ H (ns.map V.int)) (hb : ∀ i ∈ ns, i.natAbs < 2 ^ 1900) : EvS A te σ H (1923 * ns.length + 3) 1 := fun H1 e Q q =>
  h H1 e _ fun p H2 np e2 hp => q (.ref p) (dI ns) H2 e2 (dq_ints (by rw [hid_out (tkn_not (tkn_ex e t) np)]; exact hp)) (Sz.lst (sza_ints hb))
/-- tuple(a list) -/
theorem es_tupOf {p : Addr} {xs : List V} {ds : List PyData} (t : Tkn A H) (h : Ev te σ H (.ref p)) (hp : H p = some (.lst xs)) (g : DqAll (hid A H) xs ds) (s : SzA b k ds) : EvS A (tCB (fun vs H Q => ∃ p ys, vs = [.ref p] ∧ ((SqL K H p ys ∧ ∀ l, H l = none → Q (.ref l) (upd H l (.tup ys))) ∨ (SqT K H p ys ∧ Q (.ref p) H))) (tCons te tNil)) σ H (b + 3) (k + 1) := fun H1 e Q q =>
  h H1 e _ fun H2 e2 => ⟨p, xs, rfl, .inl ⟨sq_of ((e.trans e2) _ _ hp), fun l nl => q (.ref l) (.tuple ds) _ (e2.trans (Ex.new nl)) (.tup (by rw [hid_out (tkn_not (tkn_ex (e.trans e2) t) nl), upd_same]) (g.mono (hid_ex ((e.trans e2).trans (Ex.new nl))))) (Sz.tup s)⟩⟩
/-! ### changing a list that is hidden -/
/-- o[i] = e -/
theorem s_setS {l : Addr} {xs : List V} {j : Nat} (hl : H l = some (.lst xs)) (ho : ∀ H1, Ex H H1 → Ev to σ H1 (.ref l)) (hi : ∀ H1, Ex H H1 → Ev ti σ H1 (.int (j : Nat))) (hj : j < xs.length) (he : EvS A te σ H b k)
    (kk : ∀ x d H1, Ex H H1 → Dq (hid A H1) x d → Sz b k d → D.nx σ (upd H1 l (.lst (xs.set j x)))) : tAsg te (gSub to ti rSetL) D σ H :=
  he H (Ex.refl H) _ fun x d H1 e1 g s => ho H1 e1 H1 (Ex.refl _) _ fun H2 e2 => hi H2 (e1.trans e2) H2 (Ex.refl _) _ fun H3 e3 => ⟨l, xs, (j : Int), j, rfl, rfl, (e1.trans (e2.trans e3)) _ _ hl, ixN_nat hj, kk x d H3 (e1.trans (e2.trans e3)) (g.mono (hid_ex (e2.trans e3))) s⟩
/-- o[i], o[j] = e, f -/
theorem s_set2S {to2 ti2 te2 : TE} {l : Addr} {xs : List V} {j j2 : Nat} (hl : H l = some (.lst xs)) (ho : ∀ H1, Ex H H1 → Ev to σ H1 (.ref l)) (hi : ∀ H1, Ex H H1 → Ev ti σ H1 (.int (j : Nat))) (hj : j < xs.length)
    (ho2 : ∀ H1 ys, H1 l = some (.lst ys) → (∀ a o, a ≠ l → H a = some o → H1 a = some o) → Ev to2 σ H1 (.ref l)) (hi2 : ∀ H1, Ev ti2 σ H1 (.int (j2 : Nat))) (hj2 : j2 < xs.length) (he : EvS A te σ H b k) (he2 : EvS A te2 σ H b k)
    (kk : ∀ x d y d2 H1, Ex H H1 → Dq (hid A H1) x d → Sz b k d → Dq (hid A H1) y d2 → Sz b k d2 → ∀ H2 ys, H2 l = some (.lst ys) → (∀ a o, a ≠ l → H1 a = some o → H2 a = some o) → ys = (xs.set j x).set j2 y → D.nx σ H2) : tAsg (tTup (tCons te (tCons te2 tNil))) (gTup K 2 (gCons (gSub to ti rSetL) (gCons (gSub to2 ti2 rSetL) gNil))) D σ H :=
  he H (Ex.refl H) _ fun x d H1 e1 g s => he2 H1 e1 _ fun y d2 H2 e2 g2 s2 => ⟨sz_of (by show 2 ≤ 100000; decide), fun T nT => by
    have eT : Ex H2 (upd H2 T (.tup [x, y])) := Ex.new nT
    refine ⟨T, [x, y], rfl, SqT.of upd_same, rfl, x, [y], rfl, ?_⟩
    have e3 := e1.trans (e2.trans eT)
    refine ho _ e3 _ (Ex.refl _) _ fun H4 e4 => hi H4 (e3.trans e4) H4 (Ex.refl _) _ fun H5 e5 => ?_
    have a5 := e3.trans (e4.trans e5)
    refine ⟨l, xs, (j : Int), j, rfl, rfl, a5 _ _ hl, ixN_nat hj, y, [], rfl, ?_⟩
    have nn : ∀ a o, a ≠ l → H5 a = some o → (upd H5 l (.lst (xs.set j x))) a = some o := fun a o n h => by rw [upd_ne n]; exact h
    refine ho2 _ (xs.set j x) upd_same (fun a o n h => nn a o n (a5 _ _ h)) _ (Ex.refl _) _ fun H6 e6 => hi2 H6 H6 (Ex.refl _) _ fun H7 e7 => ?_
    refine ⟨l, xs.set j x, (j2 : Int), j2, rfl, rfl, (e6.trans e7) _ _ upd_same, ixN_nat (by rw [List.length_set]; exact hj2), rfl, ?_⟩
    have e25 : Ex H2 H5 := eT.trans (e4.trans e5)
    exact kk x d y d2 H5 a5 (g.mono (hid_ex (e2.trans e25))) s (g2.mono (hid_ex e25)) s2 _ _ upd_same (fun a o n h => by rw [upd_ne n]; exact (e6.trans e7) _ _ (nn a o n h)) rfl⟩
/-- o.append(e) -/
theorem s_appS {l : Addr} {xs : List V} (hl : H l = some (.lst xs)) (ho : Ev to σ H (.ref l)) (he : EvS A te σ H b k) (hz : xs.length < 100000) (kk : ∀ x d H1, Ex H H1 → Dq (hid A H1) x d → Sz b k d → D.nx σ (upd H1 l (.lst (xs ++ [x])))) :
    tDrop (tBM K "list" rAppend to (tCons te tNil)) D σ H := ho H (Ex.refl H) _ fun H1 e1 =>
  ⟨Or.inl ⟨rfl, xs, sq_of (e1 l _ hl)⟩, he H1 e1 _ fun x d H2 e2 g s => ⟨l, xs, x, rfl, rfl, e2 l _ (e1 l _ hl), sz_lt hz, kk x d H2 (e1.trans e2) g s⟩⟩
/-- o.pop(i) -/
theorem s_popAt {l : Addr} {xs : List V} {j : Nat} (hl : H l = some (.lst xs)) (ho : Ev to σ H (.ref l)) (hi : Ev te σ H (.int (j : Nat))) (hj : j < xs.length) (hz : xs.length < 100000) (kk : ∀ H1, Ex H H1 → D.nx σ (upd H1 l (.lst (xs.eraseIdx j)))) :
    tDrop (tBM K "list" rPopAt to (tCons te tNil)) D σ H := ho H (Ex.refl H) _ fun H1 e1 =>
  ⟨Or.inl ⟨rfl, xs, sq_of (e1 l _ hl)⟩, hi H1 e1 _ fun H2 e2 => ⟨l, xs, (j : Int), j, xs[j], rfl, rfl, e2 l _ (e1 l _ hl), by omega, by omega, by
    unfold seqIndex?
    simp
    omega, List.getElem?_eq_getElem hj, kk H2 (e1.trans e2)⟩⟩
end
end Kp

namespace Own
open PySem PySem.Spec PyProof.Rows L2 Evl Kp
def topS (i : Nat) : Stmt := PySem.Challenge.pw_rootwheel_k63_cosine_polynomials_looked.main.body.getD i (.Pass ⟨0, 0, 0, 0⟩)
/-! ### words of ours for the walk over readings -/
local macro_rules | `(tactic| one_place) => `(tactic| (fail_if_success (with_reducible first | refine probe ?_ | refine probeT ?_ | refine probeA ?_)); first
  | exact ev_c
  | exact ev_var rfl
  | exact ea_nil
  | (apply ea_cons <;> one_place)
  | (apply et_test; one_place)
  | (apply et_B; one_place)
  | (apply et_not; one_place)
  | (apply ev_add <;> one_place)
  | (apply ev_sub <;> one_place)
  | (apply ev_mul <;> first | one_place | (exact mulW (by omega) (by omega)))
  | (apply ev_div <;> first | one_place | (exact divW (by omega) (by omega)))
  | (apply ev_mod <;> first | one_place | omega)
  | (refine ev_pow (i := 10) (j := 6) (c := 1000000) ?_ ?_ ⟨by decide, by decide +kernel⟩ (by rfl) <;> one_place)
  | (refine ev_pow (i := 10) (j := 9) (c := 1000000000) ?_ ?_ ⟨by decide, by decide +kernel⟩ (by rfl) <;> one_place)
  | (refine ev_pow (i := 10) (j := 12) (c := 1000000000000) ?_ ?_ ⟨by decide, by decide +kernel⟩ (by rfl) <;> one_place)
  | (refine ev_pow (i := 10) (j := 18) (c := 1000000000000000000) ?_ ?_ ⟨by decide, by decide +kernel⟩ (by rfl) <;> one_place)
  | (apply ev_lt <;> one_place)
  | (apply ev_le <;> one_place)
  | (apply ev_gt <;> one_place)
  | (apply ev_ge <;> one_place)
  | (apply ev_eqI <;> one_place)
  | (apply ev_neI <;> one_place)
  | (apply ev_neg; one_place)
  | assumption)
/-! ### numbers of bounded size -/
def Bd (b : Nat) (l : List Int) : Prop := ∀ m, (coef l m).natAbs < 2 ^ b
theorem mulB {i j : Int} {a b : Nat} (hi : i.natAbs < 2 ^ a) (hj : j.natAbs < 2 ^ b) (h : a + b ≤ 900000) : CMulW i j :=
  wide_mul (a := a + 1) (b := b + 1) (Nat.lt_of_lt_of_le hi (Nat.pow_le_pow_right (by decide) (Nat.le_succ a))) (Nat.lt_of_lt_of_le hj (Nat.pow_le_pow_right (by decide) (Nat.le_succ b))) (Nat.succ_pos _) (Nat.succ_pos _) (by omega)
theorem Bd.at {b : Nat} {l : List Int} {i : Nat} {x : Int} (h : Bd b l) (hi : l[i]? = some x) : x.natAbs < 2 ^ b := by
  have := h i
  rwa [coef_of hi] at this
theorem Bd.of {b : Nat} {l : List Int} (h : ∀ x ∈ l, x.natAbs < 2 ^ b) : Bd b l := fun m => by
  by_cases q : m < l.length
  · rw [coef_lt q]
    exact h _ (List.getElem_mem q)
  · rw [coef_ge (by omega)]
    exact Nat.two_pow_pos b
/- trimmed: slots 0 numbers, 1 many; calls  -/
abbrev s_trimmed : Stmt := topS 13
theorem sc_trimmed : FnScope ["numbers", "many"] ["numbers"] (defScope s_trimmed) := ⟨rfl, rfl, rfl, by decide +kernel, rfl, by decide +kernel, by decide +kernel⟩

def spTrim (K : PySem.W.Frag) : Sp := fun vs H Q _ => ∃ (a : Addr) (ns : List Int), vs = [.ref a] ∧ SqL K H a (ns.map V.int) ∧ ns.length ≤ 50000 ∧ RetL ((trim ns).map V.int) H Q
/- plus: slots 0 f, 1 g, 2 total, 3 at, 4 number; calls trimmed -/
abbrev s_plus : Stmt := topS 14
theorem sc_plus : FnScope ["f", "g", "total", "at", "number"] ["f", "g"] (defScope s_plus) := ⟨rfl, rfl, rfl, by decide +kernel, rfl, by decide +kernel, by decide +kernel⟩

def spPlus (K : PySem.W.Frag) : Sp := fun vs H Q _ => ∃ (a b : Addr) (f g : List Int), vs = [.ref a, .ref b] ∧ SqL K H a (f.map V.int) ∧ SqL K H b (g.map V.int) ∧ f.length ≤ 2000 ∧ g.length ≤ 2000 ∧ RetL ((addP 1 f g).map V.int) H Q
/- minus: slots 0 f, 1 g, 2 number; calls plus -/
abbrev s_minus : Stmt := topS 15
theorem sc_minus : FnScope ["f", "g", "number"] ["f", "g"] (defScope s_minus) := ⟨rfl, rfl, rfl, by decide +kernel, rfl, by decide +kernel, by decide +kernel⟩

def spMinus (K : PySem.W.Frag) : Sp := fun vs H Q _ => ∃ (a b : Addr) (f g : List Int), vs = [.ref a, .ref b] ∧ SqL K H a (f.map V.int) ∧ SqL K H b (g.map V.int) ∧ f.length ≤ 2000 ∧ g.length ≤ 2000 ∧ RetL ((addP (0 - 1) f g).map V.int) H Q
theorem Bd.drop {n : Nat} {f : List Int} (h : Bd n f) (i : Nat) : Bd n (f.drop i) := fun m => by
  have e : coef (f.drop i) m = coef f (i + m) := by
    unfold coef
    rw [List.getD_eq_getElem?_getD, List.getElem?_drop, List.getD_eq_getElem?_getD]
  rw [e]
  exact h _
section
variable {P : Program} {w : World} {K : PySem.W.Frag} {mg : Str → Option Value} {base : Heap}
theorem cal_trimmed (nb : Nb mg) (d : Dfn K mg "trimmed" ["numbers"] s_trimmed) : Cal P w K mg base CX0 "trimmed" 1 ["numbers"] (spTrim K) := by
  refine d.cal sc_trimmed (fun vs H Q E h => ?_) (fun f cdv A outer s H vs Q E hr h => ?_)
  · obtain ⟨a, ns, rfl, _⟩ := h
    rfl
  · obtain ⟨a, ns, rfl, hS, hz, q⟩ := h
    refine ⟨_, (pss_cons (ps_set (i := 1) sc_trimmed.nd rfl (.inl rfl) (pe_callB call_len_seq (by rfl) nb.len PySem.boot_len (pa_cons (pv 0) pa_nil)))
      (pss_cons (ps_while PassesOwn.never (PW.pt (pw_and (pt_cmpR op_gt (pv 1) pe_int (nomark _)) (pw_and1 (pt_cmpR op_eq (pe_ix ix_list (pv 0) (pe_op op_sub (pv 1) pe_int) (fun _ _ => rfl)) pe_int (nomark _))))) (pss_one (ps_aug (i := 1) sc_trimmed.nd rfl (.inl rfl) pe_int ip_sub)))
      (pss_one (ps_ret (pe_slice sl_list (pv 0) po_none (po_some (pv 1))))))), ?_⟩
    refine q_asg (v := .int ((ns.length : Nat) : Int)) (ev_is (ev_len (ev_var rfl) hS) (by rw [List.length_map])) fun H1 e1 => ?_
    refine q_while (fun m σ' H' => ∃ x : Int, σ' = [some (.ref a), some (.int x)] ∧ x = (m : Int) ∧ m ≤ ns.length ∧ tlen ns m = tlen ns ns.length ∧ Ex H H') ns.length ⟨_, rfl, rfl, Nat.le_refl _, rfl, e1⟩ fun m σ' H' hW => ?_
    obtain ⟨x, rfl, rfl, hm, ht, e2⟩ := hW
    refine ⟨decide ((0 : Int) < (m : Int)) && decide (coef ns (m - 1) = 0), et_and (by one_place) fun hb => et_test (ev_eqI (ev_ixI (j := m - 1) (ex_l e2 hS) (ev_var rfl) (ev_is (by one_place) ?_) (coef_get ?_)) ev_c), fun hb H3 e3 => ?_, fun hb H3 e3 => ?_⟩
    · have := of_decide_eq_true hb
      congr 1
      omega
    · have := of_decide_eq_true hb
      omega
    · rw [Bool.and_eq_true, decide_eq_true_iff, decide_eq_true_iff] at hb
      obtain ⟨m', rfl⟩ : ∃ m', m = m' + 1 := ⟨m - 1, by omega⟩
      refine ⟨_, fun σ2 H2 hN => ⟨m', Nat.lt_succ_self _, hN⟩, ?_⟩
      refine s_aug (a := ((m' + 1 : Nat) : Int)) (b := 1) rfl (by one_place) fun H4 e4 => ⟨_, rfl, by omega, by omega, ?_, (e2.trans e3).trans e4⟩
      rw [← ht]
      show _ = (if coef ns m' = 0 then tlen ns m' else m' + 1)
      rw [Nat.add_sub_cancel] at hb
      rw [if_pos hb.2]
    · have hst : tlen ns ns.length = m := by
        rw [← ht]
        cases m with
        | zero => rfl
        | succ m' =>
          rw [Bool.and_eq_false_iff, decide_eq_false_iff_not, decide_eq_false_iff_not] at hb
          rcases hb with hb | hb
          · omega
          · show (if coef ns m' = 0 then tlen ns m' else m' + 1) = m' + 1
            rw [Nat.add_sub_cancel] at hb
            rw [if_neg hb]
      refine s_retL (xs := (trim ns).map V.int) (el_is (el_sl (by one_place) eo_none (eo_some (by one_place)) (ex_l (e2.trans e3) hS)) ?_) fun p H4 np e4 hp => q.go (e2.trans e3) np e4 hp
      rw [cut_take, ← List.map_take]
      unfold trim
      rw [hst]
theorem cal_plus (nb : Nb mg) (c_trimmed : Cal P w K mg base CX0 "trimmed" 1 ["numbers"] (spTrim K)) (d : Dfn K mg "plus" ["f", "g"] s_plus) : Cal P w K mg base CX0 "plus" 2 ["f", "g"] (spPlus K) := by
  refine d.cal sc_plus (fun vs H Q E h => ?_) (fun fa cdv A outer s H vs Q E hr h => ?_)
  · obtain ⟨a, b, f, g, rfl, _⟩ := h
    rfl
  · obtain ⟨a, b, f, g, rfl, hF, hG, zf, zg, q⟩ := h
    refine ⟨_, (pss_cons (ps_set (i := 2) sc_plus.nd rfl (.inl rfl) (pe_op op_rep (pe_lst (pa_cons pe_int pa_nil)) (pe_callB (call_max2 rfl) (by rfl) nb.max (by decide +kernel) (pa_cons (pe_callB call_len_seq (by rfl) nb.len PySem.boot_len (pa_cons (pv 0) pa_nil)) (pa_cons (pe_callB call_len_seq (by rfl) nb.len PySem.boot_len (pa_cons (pv 1) pa_nil)) pa_nil)))))
      (pss_cons (ps_for PassesOwn.never rfl (pi_enum (by rfl) nb.enumerate (pa_cons (pv 0) pa_nil)) (pg_tup (by rfl) (pgs_cons (pg_name (i := 3) sc_plus.nd rfl (.inl rfl)) (pgs_cons (pg_name (i := 4) sc_plus.nd rfl (.inl rfl)) pgs_nil))) (pss_one (ps_augS (pv 2) (pv 3) get_list (pv 4) ip_add set_list)))
      (pss_cons (ps_for PassesOwn.never rfl (pi_enum (by rfl) nb.enumerate (pa_cons (pv 1) pa_nil)) (pg_tup (by rfl) (pgs_cons (pg_name (i := 3) sc_plus.nd rfl (.inl rfl)) (pgs_cons (pg_name (i := 4) sc_plus.nd rfl (.inl rfl)) pgs_nil))) (pss_one (ps_augS (pv 2) (pv 3) get_list (pv 4) ip_add set_list)))
      (pss_one (ps_ret (pe_cal c_trimmed (hr.mono (by first | decide | omega)) (by rfl) pass0 (pa_cons (pv 2) pa_nil))))))), ?_⟩
    have hmax : (if ((g.map V.int).length : Int) > ((f.map V.int).length : Int) then ((g.map V.int).length : Int) else ((f.map V.int).length : Int)) = ((max f.length g.length : Nat) : Int) := by
      rw [List.length_map, List.length_map]
      split <;> omega
    refine q_asgL (xs := (List.replicate (max f.length g.length) (0 : Int)).map V.int) (el_is (el_rep (k := ((max f.length g.length : Nat) : Int)) (el_lst (by one_place) (by decide)) (ev_is (ev_max2 (ev_len (ev_var rfl) hF) (ev_len (ev_var rfl) hG)) (by rw [hmax])) (by omega) (by omega)) (by rw [List.map_replicate, Int.toNat_natCast])) fun t H1 nt e1 h1 => ?_
    refine q_forE (xs := f.map V.int) (by one_place) (ex_l e1 hF) (fun i σ' H' => ∃ (T : List Int) (x y : Option V), σ' = [some (.ref a), some (.ref b), some (.ref t), x, y] ∧ Ex H H' ∧ H' t = some (.lst (T.map V.int)) ∧ T.length = max f.length g.length ∧ ∀ m, m < T.length → coef T m = if m < i then coef f m else 0)
      (fun H2 e2 => ⟨_, none, none, rfl, e1.trans e2, e2 _ _ h1, List.length_replicate, fun m _ => coef_rep⟩) (fun i σ' H' _ hp => ?_) (fun i x σ' H' hx hp H2 e2 => ?_) (fun σ' H' hp => ?_)
    · obtain ⟨_, _, _, _, e3, _⟩ := hp
      exact ex_l e3 hF
    · obtain ⟨T, x', y', rfl, e3, h3, hT, hc⟩ := hp
      obtain ⟨z, hz, rfl⟩ := map_get hx
      have hi := (List.getElem?_eq_some_iff.mp hz).1
      refine s_augL (j := i) (e2 _ _ h3) (by one_place) (by one_place) (coef_get (by omega)) (by one_place) fun H4 e4 => ⟨_, _, _, rfl, Ex.mut ((e3.trans e2).trans e4) nt, upd_same, by rw [List.length_set]; exact hT, fun m hm => ?_⟩
      rw [List.length_set] at hm
      rw [coef_set (by omega), hc m hm, hc i (by omega), if_neg (Nat.lt_irrefl i)]
      by_cases e : m = i
      · subst e
        rw [if_pos rfl, if_pos (by omega), coef_of hz]
        omega
      · rw [if_neg e]
        split <;> split <;> first | rfl | omega
    · obtain ⟨T, x', y', rfl, e3, h3, hT, hc⟩ := hp
      rw [List.length_map] at hc
      refine q_forE (xs := g.map V.int) (by one_place) (ex_l e3 hG) (fun i σ' H' => ∃ (T : List Int) (x y : Option V), σ' = [some (.ref a), some (.ref b), some (.ref t), x, y] ∧ Ex H H' ∧ H' t = some (.lst (T.map V.int)) ∧ T.length = max f.length g.length ∧ ∀ m, m < T.length → coef T m = coef f m + if m < i then coef g m else 0)
        (fun H2 e2 => ⟨_, _, _, rfl, e3.trans e2, e2 _ _ h3, hT, fun m hm => ?_⟩) (fun i σ' H' _ hp => ?_) (fun i x σ' H' hx hp H2 e2 => ?_) (fun σ' H' hp => ?_)
      · rw [hc m hm, if_neg (Nat.not_lt_zero m)]
        split
        · omega
        · rw [coef_ge (by omega)]
          rfl
      · obtain ⟨_, _, _, _, e3, _⟩ := hp
        exact ex_l e3 hG
      · obtain ⟨T, x', y', rfl, e3, h3, hT, hc⟩ := hp
        obtain ⟨z, hz, rfl⟩ := map_get hx
        have hi := (List.getElem?_eq_some_iff.mp hz).1
        refine s_augL (j := i) (e2 _ _ h3) (by one_place) (by one_place) (coef_get (by omega)) (by one_place) fun H4 e4 => ⟨_, _, _, rfl, Ex.mut ((e3.trans e2).trans e4) nt, upd_same, by rw [List.length_set]; exact hT, fun m hm => ?_⟩
        rw [List.length_set] at hm
        rw [coef_set (by omega), hc m hm, hc i (by omega), if_neg (Nat.lt_irrefl i)]
        by_cases e : m = i
        · subst e
          rw [if_pos rfl, if_pos (by omega), coef_of hz]
          omega
        · rw [if_neg e]
          split <;> split <;> first | rfl | omega
      · obtain ⟨T, x', y', rfl, e3, h3, hT, hc⟩ := hp
        rw [List.length_map] at hc
        have eT : T = addL 1 f g := mkL_of hT fun m hm => by
          rw [hc m (by omega)]
          split
          · omega
          · rw [coef_ge (show g.length ≤ m by omega)]
            omega
        refine s_retL (xs := (addP 1 f g).map V.int) (el_cal (by one_place) fun H1 e1 Q k E => ⟨t, T, rfl, SqL.of (e1 _ _ h3), by omega, by rw [eT]; exact k⟩) fun p H4 np e4 hp => q.go e3 np e4 hp
theorem cal_minus (nb : Nb mg) (c_plus : Cal P w K mg base CX0 "plus" 2 ["f", "g"] (spPlus K)) (d : Dfn K mg "minus" ["f", "g"] s_minus) : Cal P w K mg base CX0 "minus" 3 ["f", "g"] (spMinus K) := by
  refine d.cal sc_minus (fun vs H Q E h => ?_) (fun fa cdv A outer s H vs Q E hr h => ?_)
  · obtain ⟨a, b, f, g, rfl, _⟩ := h
    rfl
  · obtain ⟨a, b, f, g, rfl, hF, hG, zf, zg, q⟩ := h
    refine ⟨_, (pss_one (ps_ret (pe_cal c_plus (hr.mono (by first | decide | omega)) (by rfl) pass0 (pa_cons (pv 0) (pa_cons (pe_lc (own := [("number", 2)]) (g := gName 2) (tt := tYes) (by rfl) sc_minus.nd (pi_list (pv 1)) (blkOk_by (N := ["f", "g", "number"]) (sc := defScope s_minus) (by decide +kernel)) (fun _ _ _ _ _ => (pg_name (i := 2) sc_minus.nd rfl (Or.inl rfl))) (fun _ _ _ _ _ => pts_nil) (fun _ _ _ _ _ => (pe_un un_neg (pv 2)))) pa_nil))))), ?_⟩
    have hN : EvL (tLc (iList K (tVar 1)) (gName 2) tYes (tUn (rU fun i => .int (-i)) (tVar 2)) [2]) (L2.start ["f", "g", "number"] [.ref a, .ref b]) H ((g.map fun x => -x).map V.int) :=
      el_is (el_lcI (ns := g) (fun _ => true) (fun x => .int (-x)) (ev_var rfl) hG (by omega) (fun _ => rfl) (fun r H1 e1 _ => et_yes) (fun r H1 e1 _ _ => by one_place)) (by rw [filter_yes, List.map_map]; rfl)
    refine ⟨_, rfl, hN H (Ex.refl H) _ fun p H2 np e2 hp => ⟨a, p, f, g.map (fun x => -x), rfl, ex_l e2 hF, SqL.of hp, zf, by rw [List.length_map]; exact zg, ?_⟩⟩
    rw [addP_neg]
    exact fun r H3 nr e3 hr' => q r H3 (fresh_back e2 nr) (e2.trans e3) hr'
end

/-! ### one polynomial parted by another -/
def Good (g : List Int) : Prop := g ≠ [] ∧ coef g (g.length - 1) = 1
/-- q and r are what is told of f by g -/
structure Ovr (b : Nat) (f g q r : List Int) : Prop where
  tq : Tr q
  tr : Tr r
  lr : r.length < g.length
  lq : q.length ≤ f.length
  bq : Bd b q
  br : Bd b r
  is : ∀ m, coef f m = coef r m + cv q g q.length m
theorem Bd.mono {a b : Nat} {l : List Int} (h : Bd a l) (e : a ≤ b) : Bd b l := fun m => Nat.lt_of_lt_of_le (h m) (Nat.pow_le_pow_right (by decide) e)
/-- behind k turns of T: R is left, h the heads -/
structure OvT (n b T k : Nat) (f g R h : List Int) : Prop where
  lR : R.length = f.length - k
  lh : h.length = k
  kT : k ≤ T
  bR : Bd (n + k * (b + 1)) R
  bh : Bd (n + T * (b + 1)) h
  k0 : k = 0 → R = f
  k1 : 0 < k → coef h 0 = coef f (f.length - 1)
  is : ∀ m, coef f m = coef R m + cv (List.replicate (T - k) 0 ++ h.reverse) g T m
theorem coef_rev {h : List Int} {j : Nat} (hj : j < h.length) : coef h.reverse j = coef h (h.length - 1 - j) := by
  rw [coef_lt (by rw [List.length_reverse]; exact hj), List.getElem_reverse, coef_lt (by omega)]
theorem ovT_zero {n b T : Nat} {f g : List Int} (bf : Bd n f) : OvT n b T 0 f g f [] where
  lR := rfl
  lh := rfl
  kT := Nat.zero_le _
  bR := bf.mono (by omega)
  bh := fun m => by
    rw [coef_nil]
    exact Nat.two_pow_pos _
  k0 := fun _ => rfl
  k1 := fun h => absurd h (Nat.lt_irrefl _)
  is := fun m => by
    rw [cv_none T fun j _ => ?_]
    · omega
    · rw [List.reverse_nil, List.append_nil, coef_rep]
theorem natAbs_sub_lt {x y z : Int} {a b : Nat} (hx : x.natAbs < 2 ^ a) (hy : y.natAbs < 2 ^ a) (hz : z.natAbs < 2 ^ b) : (x - y * z).natAbs < 2 ^ (a + (b + 1)) := by
  have h1 : (x - y * z).natAbs ≤ x.natAbs + y.natAbs * z.natAbs := by
    have := Int.natAbs_sub_le x (y * z)
    rw [Int.natAbs_mul] at this
    exact this
  have h2 : y.natAbs * z.natAbs ≤ 2 ^ a * 2 ^ b := Nat.mul_le_mul (by omega) (by omega)
  have h3 : 2 ^ a * 2 ^ b = 2 ^ (a + b) := (Nat.pow_add 2 a b).symm
  have h4 : 2 ^ (a + (b + 1)) = 2 ^ (a + b) * 2 := by rw [← Nat.add_assoc, Nat.pow_succ]
  have h5 : 2 ^ a ≤ 2 ^ (a + b) := Nat.pow_le_pow_right (by decide) (by omega)
  omega
/-- one turn -/
theorem ovT_step {n b k : Nat} {f g R h R2 : List Int} {x : Int} (bg : Bd b g) (g1 : coef g (g.length - 1) = 1) (g0 : g ≠ []) (hg : g.length ≤ R.length) (o : OvT n b (f.length + 1 - g.length) k f g R h) (hx : coef R (R.length - 1) = x) (l2 : R2.length = R.length - 1)
    (h2 : ∀ m, m < R.length - 1 → coef R2 m = coef R m - if R.length - g.length ≤ m then x * coef g (m - (R.length - g.length)) else 0) : OvT n b (f.length + 1 - g.length) (k + 1) f g R2 (h ++ [x]) := by
  have lg := List.length_pos_iff.mpr g0
  have hR := o.lR
  have hk := o.kT
  have hl := o.lh
  have bx : x.natAbs < 2 ^ (n + k * (b + 1)) := by rw [← hx]; exact o.bR _
  have hs : R.length - g.length = f.length + 1 - g.length - (k + 1) := by omega
  refine ⟨by omega, by rw [List.length_append, List.length_singleton, hl], by omega, fun m => ?_, fun m => ?_, fun q => absurd q (Nat.succ_ne_zero _), fun _ => ?_, fun m => ?_⟩
  · by_cases q : m < R.length - 1
    · rw [h2 m q, Nat.add_mul, Nat.one_mul, ← Nat.add_assoc]
      split
      · exact natAbs_sub_lt (o.bR m) bx (bg _)
      · rw [Int.sub_zero]
        exact Nat.lt_of_lt_of_le (o.bR m) (Nat.pow_le_pow_right (by decide) (by omega))
    · rw [coef_ge (by omega)]
      exact Nat.two_pow_pos _
  · rw [coef_app]
    split
    · exact o.bh m
    · by_cases q : m - h.length = 0
      · rw [q]
        show x.natAbs < _
        refine Nat.lt_of_lt_of_le bx (Nat.pow_le_pow_right (by decide) ?_)
        have : k * (b + 1) ≤ (f.length + 1 - g.length) * (b + 1) := Nat.mul_le_mul_right _ hk
        omega
      · rw [coef_ge (by rw [List.length_singleton]; omega)]
        exact Nat.two_pow_pos _
  · rw [coef_app]
    by_cases q : 0 < k
    · rw [if_pos (by omega)]
      exact o.k1 q
    · rw [if_neg (by omega), hl, show 0 - k = 0 by omega]
      have e := o.k0 (by omega)
      rw [e] at hx
      show x = _
      exact hx.symm
  · -- the new head stands at its place
    have hc := cv_set (a := List.replicate (f.length + 1 - g.length - k) 0 ++ h.reverse) (b := List.replicate (f.length + 1 - g.length - (k + 1)) 0 ++ (h ++ [x]).reverse) (g := g) (m := m) (s := f.length + 1 - g.length - (k + 1)) (x := x)
      (by rw [coef_app, List.length_replicate, if_pos (by omega), coef_rep]) (by rw [coef_app, List.length_replicate, if_neg (Nat.lt_irrefl _), Nat.sub_self, List.reverse_append]; rfl)
      (fun j hj => by
        rw [coef_app, coef_app, List.length_replicate, List.length_replicate, coef_rep, coef_rep]
        by_cases q : j < f.length + 1 - g.length - (k + 1)
        · rw [if_pos q, if_pos (by omega)]
        · rw [if_neg q, if_neg (by omega), List.reverse_append]
          show coef ([x] ++ h.reverse) _ = _
          rw [coef_app, if_neg (by rw [List.length_singleton]; omega), List.length_singleton]
          congr 1
          omega)
      (f.length + 1 - g.length) (by omega)
    rw [hc, o.is m, ← hs]
    by_cases q : m < R.length - 1
    · rw [h2 m q]
      omega
    · rw [coef_ge (show R2.length ≤ m by omega), if_pos (by omega)]
      by_cases e : m = R.length - 1
      · subst e
        rw [hx, show R.length - 1 - (R.length - g.length) = g.length - 1 by omega, g1]
        omega
      · rw [coef_ge (show R.length ≤ m by omega), coef_ge (show g.length ≤ m - (R.length - g.length) by omega)]
        omega
/-- the end -/
theorem ovT_end {n b k : Nat} {f g R h : List Int} (tf : Tr f) (g0 : g ≠ []) (hg : R.length < g.length) (o : OvT n b (f.length + 1 - g.length) k f g R h) : Ovr (n + (f.length + 1 - g.length) * (b + 1)) f g h.reverse (trim R) := by
  have hR := o.lR
  have hk := o.kT
  have hl := o.lh
  have lg := List.length_pos_iff.mpr g0
  have kT : k = f.length + 1 - g.length := by omega
  refine ⟨fun hn => ?_, tr_trim R, ?_, by rw [List.length_reverse]; omega, fun m => ?_, fun m => ?_, fun m => ?_⟩
  · have hp : 0 < h.length := by
      have := List.length_pos_iff.mpr hn
      rw [List.length_reverse] at this
      exact this
    rw [List.length_reverse, coef_rev (by omega), show h.length - 1 - (h.length - 1) = 0 by omega, o.k1 (by omega)]
    exact tf fun e => by
      rw [e, List.length_nil] at kT
      omega
  · rw [trim_len]
    have := tlen_le R R.length
    omega
  · by_cases q : m < h.length
    · rw [coef_rev q]
      exact o.bh _
    · rw [coef_ge (by rw [List.length_reverse]; omega)]
      exact Nat.two_pow_pos _
  · rw [coef_trim]
    have := o.bR m
    rw [kT] at this
    exact this
  · have e := o.is m
    rw [coef_trim, List.length_reverse, hl, kT]
    rw [kT, Nat.sub_self] at e
    exact e

def RetU2 (q r : List Int) (H : Hp) (Q : VK) : Prop := ∀ t a b H1, H t = none → H a = none → H b = none → a ≠ b → Ex H H1 → H1 t = some (.tup [.ref a, .ref b]) → H1 a = some (.lst (q.map V.int)) → H1 b = some (.lst (r.map V.int)) → Q (.ref t) H1
/- over: slots 0 f, 1 g, 2 low, 3 rest, 4 heads, 5 head, 6 start, 7 at, 8 number; calls trimmed -/
abbrev s_over : Stmt := topS 16
theorem sc_over : FnScope ["f", "g", "low", "rest", "heads", "head", "start", "at", "number"] ["f", "g"] (defScope s_over) := ⟨rfl, rfl, rfl, by decide +kernel, rfl, by decide +kernel, by decide +kernel⟩

def spOver (K : PySem.W.Frag) (C : Addr) : Sp := fun vs H Q E => ∃ (a b : Addr) (f g : List Int), vs = [.ref a, .ref b] ∧ SqL K H a (f.map V.int) ∧ SqL K H b (g.map V.int) ∧ f.length ≤ 450 ∧ g.length ≤ 450 ∧ Tr f ∧ Bd 1000 f ∧ Bd 1000 g ∧
  (Good g → ∀ q r, Ovr 460000 f g q r → RetU2 q r H Q) ∧ (¬ Good g → ∀ H1, Ex H H1 → E (.ref C) none H1)
section
variable {P : Program} {w : World} {K : PySem.W.Frag} {mg : Str → Option Value} {base : Heap} {C : Addr}
theorem cal_over (nb : Nb mg) (x_NoPart : OwnX K mg "NoPart" C) (c_trimmed : Cal P w K mg base CX0 "trimmed" 1 ["numbers"] (spTrim K)) (d : Dfn K mg "over" ["f", "g"] s_over) : Cal P w K mg base (L2.CX P w) "over" 2 ["f", "g"] (spOver K C) := by
  refine d.calX sc_over (fun vs H Q E h => ?_) (fun fa cdv A outer s H vs Q E hr h => ?_)
  · obtain ⟨a, b, f, g, rfl, _⟩ := h
    rfl
  · obtain ⟨a, b, f, g, rfl, hF, hG, zf, zg, tf, bf, bg, kG, kB⟩ := h
    refine ⟨_, (pss_cons (ps_if (PW.pt (pw_or (pt_cmpR op_eq (pe_callB call_len_seq (by rfl) nb.len PySem.boot_len (pa_cons (pv 1) pa_nil)) pe_int (nomark _)) (pw_or1 (pt_cmpR op_ne (pe_ix ix_list (pv 1) (pe_un un_neg pe_int) (fun _ _ => rfl)) pe_int (nomark _))))) (pss_one (ps_raise rfl (takes_of rfl rfl rfl rfl) (pmk_of x_NoPart rfl))) pss_nil)
      (pss_cons (ps_set (i := 2) sc_over.nd rfl (.inl rfl) (pe_slice sl_list (pv 1) po_none (po_some (pe_un un_neg pe_int))))
      (pss_cons (ps_set (i := 3) sc_over.nd rfl (.inl rfl) (pe_callTy call_list_of (by rfl) nb.list (by decide +kernel) (pa_cons (pv 0) pa_nil)))
      (pss_cons (ps_set (i := 4) sc_over.nd rfl (.inl rfl) (pe_lst pa_nil))
      (pss_cons (ps_while (passes_of rfl) (pt_cmpR op_ge (pe_callB call_len_seq (by rfl) nb.len PySem.boot_len (pa_cons (pv 3) pa_nil)) (pe_callB call_len_seq (by rfl) nb.len PySem.boot_len (pa_cons (pv 1) pa_nil)) (nomark _)) (pss_cons (ps_set (i := 5) sc_over.nd rfl (.inl rfl) (pe_bm0 PySem.F.plainAttrs_list PySem.F.slot_list_pop PySem.F.type_list_pop mt_pop (pv 3)))
      (pss_cons (ps_expr (pe_bm PySem.F.plainAttrs_list PySem.F.slot_list_append PySem.F.type_list_append mt_append (pv 4) (pa_cons (pv 5) pa_nil)))
      (pss_cons (ps_set (i := 6) sc_over.nd rfl (.inl rfl) (pe_op op_sub (pe_callB call_len_seq (by rfl) nb.len PySem.boot_len (pa_cons (pv 3) pa_nil)) (pe_callB call_len_seq (by rfl) nb.len PySem.boot_len (pa_cons (pv 2) pa_nil))))
      (pss_one (ps_for (passes_of rfl) rfl (pi_enum (by rfl) nb.enumerate (pa_cons (pv 2) pa_nil)) (pg_tup (by rfl) (pgs_cons (pg_name (i := 7) sc_over.nd rfl (.inl rfl)) (pgs_cons (pg_name (i := 8) sc_over.nd rfl (.inl rfl)) pgs_nil))) (pss_one (ps_augS (pv 3) (pe_op op_add (pv 6) (pv 7)) get_list (pe_op op_mulW (pv 5) (pv 8)) ip_sub set_list))))))))
      (pss_cons (ps_expr (pe_bm0 PySem.F.plainAttrs_list PySem.F.slot_list_reverse PySem.F.type_list_reverse mt_reverse (pv 4)))
      (pss_one (ps_ret (pe_tup (pa_cons (pv 4) (pa_cons (pe_cal c_trimmed (hr.mono (by first | decide | omega)) (by rfl) pass0 (pa_cons (pv 3) pa_nil)) pa_nil))))))))))), ?_⟩
    refine q_when (b := decide (((g.length : Nat) : Int) = 0) || !decide (coef g (g.length - 1) = 1)) (et_or (et_test (ev_eqI (ev_is (ev_len (ev_var rfl) hG) (by rw [List.length_map])) ev_c)) fun hb => et_test (ev_neI (ev_op (ev_var rfl) (ev_neg ev_c) (rv_ixL hG (atI_last ?_))) ev_c)) (fun hb H1 e1 => ?_) (fun hb H1 e1 => ?_)
    · have hb := of_decide_eq_false hb
      rw [List.length_map, List.getElem?_map, coef_get (by omega)]
      rfl
    · refine kB (fun hg => ?_) H1 e1
      have lg := List.length_pos_iff.mpr hg.1
      rw [Bool.or_eq_true] at hb
      rcases hb with hb | hb
      · have := of_decide_eq_true hb
        omega
      · rw [decide_eq_true hg.2] at hb
        exact nomatch hb
    · rw [Bool.or_eq_false_iff] at hb
      obtain ⟨hb1, hb2⟩ := hb
      have hb1 := of_decide_eq_false hb1
      have g0 : g ≠ [] := fun e => by
        rw [e] at hb1
        exact hb1 rfl
      have g1 : coef g (g.length - 1) = 1 := by
        rw [Bool.not_eq_false'] at hb2
        exact of_decide_eq_true hb2
      have lg := List.length_pos_iff.mpr g0
      have kG := kG ⟨g0, g1⟩
      clear kB hb1 hb2
      refine q_asgL (xs := (g.take (g.length - 1)).map V.int) (el_is (el_sl (ev_var rfl) eo_none (eo_some (ev_neg ev_c)) (ex_l e1 hG)) ?_) fun pl H2 nl e2 h2 => ?_
      · show cutV _ none (some (-1)) = _
        rw [cut_init, List.length_map, List.map_take]
      refine q_asgL (xs := f.map V.int) (el_list (ev_var rfl) (ex_l (e1.trans e2) hF)) fun pr H3 nr e3 h3 => ?_
      refine q_asgL (xs := ([] : List Int).map V.int) (el_lst ea_nil (by decide)) fun ph H4 nh e4 h4 => ?_
      have a2 := e1.trans e2
      have a3 := a2.trans e3
      have fr : H pr = none := fresh_back a2 nr
      have fh : H ph = none := fresh_back a3 nh
      have fr2 : H2 pr = none := nr
      have fh2 : H2 ph = none := fresh_back e3 nh
      have nrh : pr ≠ ph := ne_of_none h3 nh
      -- the loop: what stands of H2 stands; rest and heads are new
      refine q_while (fun m σ' H' => ∃ (k : Nat) (R h : List Int) (x5 x6 x7 x8 : Option V), σ' = [some (.ref a), some (.ref b), some (.ref pl), some (.ref pr), some (.ref ph), x5, x6, x7, x8] ∧ Ex H2 H' ∧ H' pr = some (.lst (R.map V.int)) ∧ H' ph = some (.lst (h.map V.int)) ∧ OvT 1000 1000 (f.length + 1 - g.length) k f g R h ∧ m = R.length)
        f.length ⟨0, f, [], none, none, none, none, rfl, e3.trans e4, e4 _ _ h3, h4, ovT_zero bf, rfl⟩ fun m σ' H' hW => ?_
      obtain ⟨k, R, h, x5, x6, x7, x8, rfl, e5, hr5, hh5, o, rfl⟩ := hW
      refine ⟨decide (((g.length : Nat) : Int) ≤ ((R.length : Nat) : Int)), et_test (ev_ge (ev_is (ev_len (ev_var rfl) (SqL.of hr5)) (by rw [List.length_map])) (ev_is (ev_len (ev_var rfl) (ex_l (a2.trans e5) hG)) (by rw [List.length_map]))), fun hb H6 e6 => ?_, fun hb H6 e6 => ?_⟩
      · have hgR : g.length ≤ R.length := by
          have := of_decide_eq_true hb
          omega
        have lRf : R.length ≤ f.length := by
          have := o.lR
          omega
        have lh := o.lh
        have kT := o.kT
        refine ⟨_, fun σ2 H2' hN => ⟨R.length - 1, by omega, hN⟩, ?_⟩
        obtain ⟨x, hx⟩ : ∃ x, coef R (R.length - 1) = x := ⟨_, rfl⟩
        have hR : R = R.take (R.length - 1) ++ [x] := by
          refine ext_of (by rw [List.length_append, List.length_take, List.length_singleton]; omega) fun m hm => ?_
          rw [coef_app, List.length_take, coef_take]
          by_cases q : m < R.length - 1
          · rw [if_pos (by omega), if_pos q]
          · rw [if_neg (by omega), show m = R.length - 1 by omega, hx, show R.length - 1 - min (R.length - 1) R.length = 0 by omega]
            rfl
        have hp : H6 pr = some (.lst ((R.take (R.length - 1)).map V.int ++ [V.int x])) := by
          rw [e6 _ _ hr5, ← List.map_singleton, ← List.map_append, ← hR]
        refine q_asgPop hp (ev_var rfl) fun H7 e7 => ?_
        have e57 : Ex H2 (upd H7 pr (.lst ((R.take (R.length - 1)).map V.int))) := Ex.mut ((e5.trans e6).trans e7) fr2
        have h7 : upd H7 pr (.lst ((R.take (R.length - 1)).map V.int)) ph = some (.lst (h.map V.int)) := by
          rw [upd_ne nrh.symm]
          exact e7 _ _ (e6 _ _ hh5)
        have r7 : upd H7 pr (.lst ((R.take (R.length - 1)).map V.int)) pr = some (.lst ((R.take (R.length - 1)).map V.int)) := upd_same
        generalize upd H7 pr (.lst ((R.take (R.length - 1)).map V.int)) = G7 at *
        refine q_app h7 (ev_var rfl) (ev_var rfl) (by rw [List.length_map]; omega) fun H8 e8 => ?_
        have e58 : Ex H2 (upd H8 ph (.lst (h.map V.int ++ [V.int x]))) := Ex.mut (e57.trans e8) fh2
        have r8 : upd H8 ph (.lst (h.map V.int ++ [V.int x])) pr = some (.lst ((R.take (R.length - 1)).map V.int)) := by
          rw [upd_ne nrh]
          exact e8 _ _ r7
        have h8 : upd H8 ph (.lst (h.map V.int ++ [V.int x])) ph = some (.lst ((h ++ [x]).map V.int)) := by
          rw [upd_same, List.map_append]
          rfl
        generalize upd H8 ph (.lst (h.map V.int ++ [V.int x])) = G8 at *
        clear h7 r7 e57
        refine q_asg (v := .int ((R.length - g.length : Nat) : Int)) (ev_is (ev_sub (ev_len (ev_var rfl) (SqL.of r8)) (ev_len (ev_var rfl) (SqL.of (e58 _ _ h2)))) ?_) fun H9 e9 => ?_
        · rw [List.length_map, List.length_map, List.length_take, List.length_take]
          congr 1
          omega
        refine s_forE (xs := (g.take (g.length - 1)).map V.int) (by one_place) (SqL.of ((e58.trans e9) _ _ h2)) (fun i σ' H' => ∃ (R2 : List Int) (y7 y8 : Option V), σ' = [some (.ref a), some (.ref b), some (.ref pl), some (.ref pr), some (.ref ph), some (.int x), some (.int ((R.length - g.length : Nat) : Int)), y7, y8] ∧ Ex H2 H' ∧ H' pr = some (.lst (R2.map V.int)) ∧ H' ph = some (.lst ((h ++ [x]).map V.int)) ∧ R2.length = R.length - 1 ∧ ∀ m, m < R.length - 1 → coef R2 m = coef R m - if R.length - g.length ≤ m ∧ m < R.length - g.length + i then x * coef g (m - (R.length - g.length)) else 0)
          (fun H10 e10 => ⟨R.take (R.length - 1), _, _, rfl, (e58.trans e9).trans e10, (e9.trans e10) _ _ r8, (e9.trans e10) _ _ h8, by rw [List.length_take]; omega, fun m hm => ?_⟩) (fun i σ' H' _ hp => ?_) (fun i z σ' H' hz hp H10 e10 => ?_) (fun σ' H' hp => ?_)
        · rw [coef_take, if_pos hm, if_neg (by omega), Int.sub_zero]
        · obtain ⟨_, _, _, _, e10, _⟩ := hp
          exact SqL.of (e10 _ _ h2)
        · obtain ⟨R2, y7, y8, rfl, e11, r11, h11, l11, c11⟩ := hp
          obtain ⟨z, hy, rfl⟩ := map_get hz
          have hi := (List.getElem?_eq_some_iff.mp hy).1
          rw [List.length_take] at hi
          have hzg : coef g i = z := by
            rw [← coef_of hy, coef_take, if_pos (by omega)]
          have bx : x.natAbs < 2 ^ (1000 + k * (1000 + 1)) := by rw [← hx]; exact o.bR _
          have kb : k * (1000 + 1) ≤ 451 * (1000 + 1) := Nat.mul_le_mul_right _ (by omega)
          refine s_augL (j := R.length - g.length + i) (f := fun i j => i - j) (a := coef R2 (R.length - g.length + i)) (b := x * z) (e10 _ _ r11) (by one_place) (ev_is (by one_place) (by rfl)) (coef_get (by omega)) (ev_mul (ev_var rfl) (ev_var rfl) (mulB bx (by rw [← hzg]; exact bg i) (by omega))) fun H12 e12 => ?_
          refine ⟨R2.set (R.length - g.length + i) (coef R2 (R.length - g.length + i) - x * z), _, _, rfl, Ex.mut ((e11.trans e10).trans e12) fr2, upd_same, ?_, by rw [List.length_set]; exact l11, fun m hm => ?_⟩
          · rw [upd_ne nrh.symm]
            exact e12 _ _ (e10 _ _ h11)
          · rw [coef_set (by omega), c11 m hm, c11 (R.length - g.length + i) (by omega)]
            by_cases e : m = R.length - g.length + i
            · subst e
              rw [if_pos rfl, if_neg (by omega), if_pos (by omega), Nat.add_sub_cancel_left, hzg]
              omega
            · rw [if_neg e]
              split <;> split <;> first | rfl | omega
        · obtain ⟨R2, y7, y8, rfl, e11, r11, h11, l11, c11⟩ := hp
          rw [List.length_map, List.length_take] at c11
          refine ⟨k + 1, R2, h ++ [x], _, _, _, _, rfl, e11, r11, h11, ovT_step bg g1 g0 hgR o hx l11 fun m hm => ?_, l11.symm⟩
          rw [c11 m hm]
          congr 1
          by_cases q : R.length - g.length ≤ m
          · rw [if_pos q, if_pos (by omega)]
          · rw [if_neg q, if_neg (by omega)]
      · have hgR : R.length < g.length := by
          have := of_decide_eq_false hb
          omega
        have lRf : R.length ≤ f.length := by
          have := o.lR
          omega
        refine q_rev (e6 _ _ hh5) (ev_var rfl) fun H7 e7 => ?_
        have e57 : Ex H2 (upd H7 ph (.lst (h.map V.int).reverse)) := Ex.mut ((e5.trans e6).trans e7) fh2
        have r7 : upd H7 ph (.lst (h.map V.int).reverse) pr = some (.lst (R.map V.int)) := by
          rw [upd_ne nrh]
          exact e7 _ _ (e6 _ _ hr5)
        have h7 : upd H7 ph (.lst (h.map V.int).reverse) ph = some (.lst (h.reverse.map V.int)) := by
          rw [upd_same, List.map_reverse]
        generalize upd H7 ph (.lst (h.map V.int).reverse) = G7 at *
        refine s_retVL (ys := (trim R).map V.int) (ev_var rfl) (el_cal (by one_place) fun H8 e8 Q k' E => ⟨pr, R, rfl, SqL.of (e8 _ _ r7), by omega, k'⟩) fun t q H8 nt nq e8 ht hq => ?_
        have ov := ovT_end tf g0 hgR o
        have hT : (f.length + 1 - g.length) * (1000 + 1) ≤ 451 * (1000 + 1) := Nat.mul_le_mul_right _ (by omega)
        exact kG h.reverse (trim R) { ov with bq := ov.bq.mono (by omega), br := ov.br.mono (by omega) } t ph q H8 (fresh_back (a2.trans e57) nt) fh (fresh_back (a2.trans e57) nq) (ne_of_none h7 nq) ((a2.trans e57).trans e8) ht (e8 _ _ h7) hq
end

/- at_power: slots 0 f, 1 k, 2 spread, 3 at, 4 number; calls  -/
abbrev s_at_power : Stmt := topS 17
theorem sc_at_power : FnScope ["f", "k", "spread", "at", "number"] ["f", "k"] (defScope s_at_power) := ⟨rfl, rfl, rfl, by decide +kernel, rfl, by decide +kernel, by decide +kernel⟩

def spAtP (K : PySem.W.Frag) : Sp := fun vs H Q _ => ∃ (a : Addr) (f : List Int) (k : Nat), vs = [.ref a, .int (k : Nat)] ∧ SqL K H a (f.map V.int) ∧ f.length ≤ 500 ∧ 1 ≤ k ∧ k ≤ 1000 ∧ (f.length - 1) * k ≤ 50000 ∧ RetL ((atP f k).map V.int) H Q
section
variable {P : Program} {w : World} {K : PySem.W.Frag} {mg : Str → Option Value} {base : Heap}
theorem cal_atP (nb : Nb mg) (d : Dfn K mg "at_power" ["f", "k"] s_at_power) : Cal P w K mg base CX0 "at_power" 1 ["f", "k"] (spAtP K) := by
  refine d.cal sc_at_power (fun vs H Q E h => ?_) (fun fa cdv A outer s H vs Q E hr h => ?_)
  · obtain ⟨a, f, k, rfl, _⟩ := h
    rfl
  · obtain ⟨a, f, k, rfl, hF, zf, k1, k0, k2, q⟩ := h
    refine ⟨_, (pss_cons (ps_if (pt_cmpR op_eq (pe_callB call_len_seq (by rfl) nb.len PySem.boot_len (pa_cons (pv 0) pa_nil)) pe_int (nomark _)) (pss_one (ps_ret (pe_lst pa_nil))) pss_nil)
      (pss_cons (ps_set (i := 2) sc_at_power.nd rfl (.inl rfl) (pe_op op_rep (pe_lst (pa_cons pe_int pa_nil)) (pe_op op_add (pe_op op_mulW (pe_op op_sub (pe_callB call_len_seq (by rfl) nb.len PySem.boot_len (pa_cons (pv 0) pa_nil)) pe_int) (pv 1)) pe_int)))
      (pss_cons (ps_for PassesOwn.never rfl (pi_enum (by rfl) nb.enumerate (pa_cons (pv 0) pa_nil)) (pg_tup (by rfl) (pgs_cons (pg_name (i := 3) sc_at_power.nd rfl (.inl rfl)) (pgs_cons (pg_name (i := 4) sc_at_power.nd rfl (.inl rfl)) pgs_nil))) (pss_one (ps_asg (pv 4) (pg_sub (pv 2) (pe_op op_mulW (pv 3) (pv 1)) set_list))))
      (pss_one (ps_ret (pv 2)))))), ?_⟩
    refine q_when (b := decide (((f.length : Nat) : Int) = 0)) (et_test (ev_eqI (ev_is (ev_len (ev_var rfl) hF) (by rw [List.length_map])) ev_c)) (fun hb H1 e1 => ?_) (fun hb H1 e1 => ?_)
    · refine s_retL (xs := (atP f k).map V.int) (el_is (el_lst ea_nil (by decide)) ?_) fun p H4 np e4 hp => q.go e1 np e4 hp
      unfold atP
      rw [if_pos (List.eq_nil_of_length_eq_zero (by have := of_decide_eq_true hb; omega))]
      rfl
    · have hb := of_decide_eq_false hb
      have hlk := k2
      have ecast : (((f.length - 1 : Nat) : Int)) * (k : Int) = (((f.length - 1) * k : Nat) : Int) := rfl
      refine q_asgL (xs := (List.replicate ((f.length - 1) * k + 1) (0 : Int)).map V.int) (el_is (el_rep (k := (((f.length - 1) * k + 1 : Nat) : Int)) (el_lst (by one_place) (by decide)) (ev_is (ev_add (ev_mul (ev_sub (ev_is (ev_len (ev_var rfl) (ex_l e1 hF)) (by rw [List.length_map])) ev_c) (ev_var rfl) (mulW (by omega) (by omega))) ev_c) ?_) (by omega) (by omega)) (by rw [List.map_replicate, Int.toNat_natCast])) fun t H2 nt e2 h2 => ?_
      · rw [show ((f.length : Nat) : Int) - 1 = ((f.length - 1 : Nat) : Int) by omega]
        rfl
      refine q_forE (xs := f.map V.int) (by one_place) (ex_l (e1.trans e2) hF) (fun i σ' H' => ∃ (T : List Int) (x y : Option V), σ' = [some (.ref a), some (.int (k : Nat)), some (.ref t), x, y] ∧ Ex H1 H' ∧ H' t = some (.lst (T.map V.int)) ∧ T.length = (f.length - 1) * k + 1 ∧ ∀ m, m < T.length → coef T m = if m % k = 0 ∧ m / k < i then coef f (m / k) else 0)
        (fun H3 e3 => ⟨_, none, none, rfl, e2.trans e3, e3 _ _ h2, List.length_replicate, fun m _ => ?_⟩) (fun i σ' H' _ hp => ?_) (fun i x σ' H' hx hp H3 e3 => ?_) (fun σ' H' hp => ?_)
      · rw [coef_rep, if_neg fun h => Nat.not_lt_zero _ h.2]
      · obtain ⟨_, _, _, _, e3, _⟩ := hp
        exact ex_l (e1.trans e3) hF
      · obtain ⟨T, x1, x2, rfl, e4, h4, hT, hc⟩ := hp
        obtain ⟨z, hz, rfl⟩ := map_get hx
        have hi := (List.getElem?_eq_some_iff.mp hz).1
        have hik : i * k ≤ (f.length - 1) * k := Nat.mul_le_mul_right k (by omega)
        refine s_setI (j := i * k) (b := z) (e3 _ _ h4) (by one_place) (ev_is (by one_place) (by rfl)) (by omega) (by one_place) fun H5 e5 => ⟨_, _, _, rfl, Ex.mut ((e4.trans e3).trans e5) nt, upd_same, by rw [List.length_set]; exact hT, fun m hm => ?_⟩
        rw [List.length_set] at hm
        rw [coef_set (by omega), hc m hm]
        by_cases e : m = i * k
        · subst e
          rw [if_pos rfl, Nat.mul_mod_left, Nat.mul_div_cancel _ (by omega), if_pos ⟨rfl, Nat.lt_succ_self i⟩, coef_of hz]
        · rw [if_neg e]
          have e2 : ¬ (m % k = 0 ∧ m / k = i) := fun ⟨p1, p2⟩ => e (by
            have := Nat.div_add_mod m k
            rw [p1, p2, Nat.add_zero, Nat.mul_comm] at this
            exact this.symm)
          split <;> split <;> first | rfl | omega
      · obtain ⟨T, x1, x2, rfl, e4, h4, hT, hc⟩ := hp
        rw [List.length_map] at hc
        refine s_ret (v := .ref t) (by one_place) fun H5 e5 => q t H5 (fresh_back e1 nt) (e1.trans (e4.trans e5)) ?_
        rw [e5 _ _ h4]
        unfold atP
        rw [if_neg (by
          intro h
          rw [h] at hb
          exact hb rfl), mkL_of hT fun m hm => ?_]
        rw [hc m (by omega)]
        unfold pw
        by_cases e : m % k = 0
        · rw [if_pos e]
          split
          · rfl
          · rw [coef_ge (show f.length ≤ m / k by omega)]
        · rw [if_neg e, if_neg (by omega)]
end

/- parted: slots 0 n, 1 rows, 2 left, 3 p, 4 times; calls  -/
abbrev s_parted : Stmt := topS 11
theorem sc_parted : FnScope ["n", "rows", "left", "p", "times"] ["n"] (defScope s_parted) := ⟨rfl, rfl, rfl, by decide +kernel, rfl, by decide +kernel, by decide +kernel⟩

def spParted (K : PySem.W.Frag) : Sp := fun vs H Q _ => ∃ n : Int, vs = [.int n] ∧ 1 ≤ n ∧ n ≤ 1000000000 ∧ RetP K (partedF n) H Q
section
variable {P : Program} {w : World} {K : PySem.W.Frag} {mg : Str → Option Value} {base : Heap}
theorem cal_parted (nb : Nb mg) (d : Dfn K mg "parted" ["n"] s_parted) : Cal P w K mg base CX0 "parted" 1 ["n"] (spParted K) := by
  refine d.cal sc_parted (fun vs H Q E h => ?_) (fun f cdv A outer s H vs Q E hr h => ?_)
  · obtain ⟨a, rfl, _⟩ := h
    rfl
  · obtain ⟨n, rfl, n1, n2, q⟩ := h
    refine ⟨_, (pss_cons (ps_set (i := 1) sc_parted.nd rfl (.inl rfl) (pe_lst pa_nil))
      (pss_cons (ps_set (i := 2) sc_parted.nd rfl (.inl rfl) (pv 0))
      (pss_cons (ps_set (i := 3) sc_parted.nd rfl (.inl rfl) pe_int)
      (pss_cons (ps_while PassesOwn.never (pt_cmpR op_le (pe_op op_mulW (pv 3) (pv 3)) (pv 2) (nomark _)) (pss_cons (ps_set (i := 4) sc_parted.nd rfl (.inl rfl) pe_int)
      (pss_cons (ps_while PassesOwn.never (pt_cmpR op_eq (pe_op op_mod (pv 2) (pv 3)) pe_int (nomark _)) (pss_cons (ps_aug (i := 2) sc_parted.nd rfl (.inl rfl) (pv 3) (pip_of iop_fdivW))
      (pss_one (ps_aug (i := 4) sc_parted.nd rfl (.inl rfl) pe_int ip_add))))
      (pss_cons (ps_if (pt_cmpR op_gt (pv 4) pe_int (nomark _)) (pss_one (ps_expr (pe_bm PySem.F.plainAttrs_list PySem.F.slot_list_append PySem.F.type_list_append mt_append (pv 1) (pa_cons (pe_tup (pa_cons (pv 3) (pa_cons (pv 4) pa_nil))) pa_nil)))) pss_nil)
      (pss_one (ps_aug (i := 3) sc_parted.nd rfl (.inl rfl) pe_int ip_add))))))
      (pss_cons (ps_if (pt_cmpR op_gt (pv 2) pe_int (nomark _)) (pss_one (ps_expr (pe_bm PySem.F.plainAttrs_list PySem.F.slot_list_append PySem.F.type_list_append mt_append (pv 1) (pa_cons (pe_tup (pa_cons (pv 2) (pa_cons pe_int pa_nil))) pa_nil)))) pss_nil)
      (pss_one (ps_ret (pv 1)))))))), ?_⟩
    refine q_asgL (xs := []) (el_lst ea_nil (by decide)) fun a H1 ha e1 h1 => ?_
    refine q_asg (v := .int n) (by one_place) fun H2 e2 => ?_
    refine q_asg (v := .int 2) (by one_place) fun H3 e3 => ?_
    refine q_while (fun m σ' H' => ∃ (p l : Int) (rows : List (Int × Int)) (xs : List V) (x : Option V), σ' = [some (.int n), some (.ref a), some (.int l), some (.int p), x] ∧ 2 ≤ p ∧ p ≤ 40000 ∧ 0 < l ∧ l ≤ n ∧ l < p + m ∧
      pLoop m p l rows = pLoop n.toNat 2 n [] ∧ Ex H H' ∧ H' a = some (.lst xs) ∧ Prs K H' xs rows ∧ (rows.length : Int) + 2 ≤ p) n.toNat
      ⟨2, n, [], [], none, rfl, by omega, by omega, by omega, by omega, by omega, rfl, (e1.trans e2).trans e3, e3 _ _ (e2 _ _ h1), .nil, by decide⟩ fun m σ' H' hW => ?_
    obtain ⟨p, l, rows, xs, x, rfl, p1, p2, l1, l2, lm, eL, e4, h4, pr, hlen⟩ := hW
    refine ⟨decide (p * p ≤ l), by one_place, fun hb H5 e5 => ?_, fun hb H5 e5 => ?_⟩
    · have hpp := of_decide_eq_true hb
      have hp3 := sq_le hpp (by omega)
      cases m with
      | zero =>
        have : 2 * p ≤ p * p := Int.mul_le_mul_of_nonneg_right p1 (by omega)
        omega
      | succ m =>
        rw [pLoop_go hpp] at eL
        refine ⟨_, fun σ2 H2 hN => ⟨m, Nat.lt_succ_self m, hN⟩, ?_⟩
        refine q_asg (v := .int 0) (by one_place) fun H6 e6 => ?_
        refine q_while (fun k σ' H' => ∃ u t : Int, σ' = [some (.int n), some (.ref a), some (.int u), some (.int p), some (.int t)] ∧ 0 < u ∧ u ≤ l ∧ u < 2 ^ k ∧ strip p k u t = strip p 64 l 0 ∧ Ex H6 H') 64
          ⟨l, 0, rfl, l1, Int.le_refl _, by omega, rfl, Ex.refl _⟩ fun k σ' H' hW => ?_
        obtain ⟨u, t, rfl, u1, u2, uk, eS, e7⟩ := hW
        refine ⟨decide (u % p = 0), by one_place, fun hb H8 e8 => ?_, fun hb H8 e8 => ?_⟩
        · have hd := of_decide_eq_true hb
          cases k with
          | zero =>
            rw [Int.pow_zero] at uk
            omega
          | succ k =>
            obtain ⟨v1, v2, v3⟩ := half_lt p1 u1 uk hd
            rw [strip_go hd] at eS
            refine ⟨_, fun σ2 H2 hN => ⟨k, Nat.lt_succ_self k, hN⟩, ?_⟩
            refine ⟨.int u, rfl, .int p, rfl, u, p, rfl, rfl, divW (by omega) (by omega), ?_⟩
            refine s_aug (a := t) (b := 1) rfl (by one_place) fun H10 e10 => ?_
            exact ⟨u / p, t + 1, rfl, v1, by omega, v2, eS, (e7.trans e8).trans e10⟩
        · have hd := of_decide_eq_false hb
          rw [strip_stop hd] at eS
          rw [← eS] at eL
          have h8 := e8 _ _ (e7 _ _ (e6 _ _ (e5 _ _ h4)))
          have e68 := e6.trans (e7.trans e8)
          have pr8 := pr.mono (e5.trans e68)
          refine q_when (b := decide (0 < t)) (by one_place) (fun hb H9 e9 => ?_) (fun hb H9 e9 => ?_)
          · have ht := of_decide_eq_true hb
            rw [if_pos ht] at eL
            refine s_appU (ys := [.int p, .int t]) (e9 _ _ h8) (by one_place) (eu_tup (by one_place) (by show 2 ≤ 100000; decide)) (by rw [Paired.length pr]; omega) fun tp H10 htp e10 h10 => ?_
            have h10a := e10 _ _ (e9 _ _ h8)
            refine s_aug (a := p) (b := 1) rfl (by one_place) fun H11 e11 => ?_
            refine ⟨p + 1, u, rows ++ [(p, t)], xs ++ [.ref tp], _, rfl, by omega, by omega, u1, by omega, by omega, eL, ?_, e11 _ _ upd_same, ?_, ?_⟩
            · exact (Ex.mut (((e4.trans e5).trans e68).trans (e9.trans e10)) ha).trans e11
            · exact (((pr8.mono (e9.trans e10)).upd h10a).snoc (sqt_upd h10a (SqT.of h10))).mono e11
            · rw [List.length_append, List.length_singleton]
              omega
          · have ht := of_decide_eq_false hb
            rw [if_neg ht] at eL
            refine s_aug (a := p) (b := 1) rfl (by one_place) fun H11 e11 => ?_
            exact ⟨p + 1, u, rows, xs, _, rfl, by omega, by omega, u1, by omega, by omega, eL, ((e4.trans e5).trans e68).trans (e9.trans e11), e11 _ _ (e9 _ _ h8), pr8.mono (e9.trans e11), by omega⟩
    · have hpp := of_decide_eq_false hb
      rw [pLoop_stop hpp] at eL
      refine q_when (b := decide (1 < l)) (by one_place) (fun hb H6 e6 => ?_) (fun hb H6 e6 => ?_)
      · have hl := of_decide_eq_true hb
        refine s_appU (ys := [.int l, .int 1]) (e6 _ _ (e5 _ _ h4)) (by one_place) (eu_tup (by one_place) (by show 2 ≤ 100000; decide)) (by rw [Paired.length pr]; omega) fun tp H10 htp e10 h10 => ?_
        have h10a := e10 _ _ (e6 _ _ (e5 _ _ h4))
        show tRet (tVar 1) _ _ _
        refine s_ret (v := .ref a) (by one_place) fun H11 e11 => ?_
        refine q a (xs ++ [.ref tp]) H11 ha ((Ex.mut (((e4.trans e5).trans e6).trans e10) ha).trans e11) (e11 _ _ upd_same) ?_
        unfold partedF
        rw [← eL, if_pos hl]
        exact (((pr.mono ((e5.trans e6).trans e10)).upd h10a).snoc (sqt_upd h10a (SqT.of h10))).mono e11
      · have hl := of_decide_eq_false hb
        refine s_ret (v := .ref a) (by one_place) fun H11 e11 => ?_
        refine q a xs H11 ha (((e4.trans e5).trans e6).trans e11) (e11 _ _ (e6 _ _ (e5 _ _ h4))) ?_
        unfold partedF
        rw [← eL, if_neg hl]
        exact pr.mono ((e5.trans e6).trans e11)
end

/-! ### root polynomials -/
theorem cv_more {q g : List Int} {m : Nat} : ∀ {N : Nat}, q.length ≤ N → cv q g N m = cv q g q.length m
  | N, h => by
    induction N with
    | zero =>
      have : q.length = 0 := by omega
      rw [this]
    | succ N ih =>
      by_cases e : q.length = N + 1
      · rw [e]
      · rw [cv, ih (by omega), coef_ge (show q.length ≤ N by omega), Int.zero_mul]
        split <;> omega
theorem cv_tail {a b g : List Int} {i m : Nat} : ∀ {N : Nat}, i ≤ N → (∀ j, i ≤ j → coef a j = coef b j) → cv a g N m - cv a g i m = cv b g N m - cv b g i m
  | N, h, e => by
    induction N with
    | zero =>
      have : i = 0 := by omega
      subst this
      omega
    | succ N ih =>
      by_cases q : i = N + 1
      · subst q
        omega
      · have := ih (by omega)
        rw [cv, cv, e N (by omega)]
        omega
theorem ovr_uniq {b : Nat} {f g q r q0 : List Int} (o : Ovr b f g q r) (hg : Good g) (t0 : Tr q0) (e : ∀ m, coef f m = cv q0 g q0.length m) : q = q0 ∧ r = [] := by
  obtain ⟨g0, g1⟩ := hg
  have lg := List.length_pos_iff.mpr g0
  have key : ∀ k i : Nat, max q.length q0.length ≤ i + k → coef q i = coef q0 i := by
    intro k
    induction k with
    | zero =>
      intro i hi
      rw [coef_ge (show q.length ≤ i by omega), coef_ge (show q0.length ≤ i by omega)]
    | succ k ih =>
      intro i hi
      have hr : coef r (i + (g.length - 1)) = 0 := coef_ge (by have := o.lr; omega)
      have e1 := o.is (i + (g.length - 1))
      rw [hr, e, Int.zero_add] at e1
      have e2 := cv_tail (a := q) (b := q0) (g := g) (i := i + 1) (m := i + (g.length - 1)) (N := max (i + 1) (max q.length q0.length)) (by omega) fun j hj => ih j (by omega)
      rw [cv_more (q := q) (by omega), cv_more (q := q0) (by omega)] at e2
      have e3 : cv q g (i + 1) (i + (g.length - 1)) = coef q i := by
        rw [cv, cv_far _ _ _ i (by omega), if_pos (by omega), Nat.add_sub_cancel_left, g1]
        omega
      have e4 : cv q0 g (i + 1) (i + (g.length - 1)) = coef q0 i := by
        rw [cv, cv_far _ _ _ i (by omega), if_pos (by omega), Nat.add_sub_cancel_left, g1]
        omega
      rw [e3, e4] at e2
      omega
  have hq : q = q0 := tr_uniq o.tq t0 fun m => key (max q.length q0.length) m (by omega)
  refine ⟨hq, tr_uniq o.tr Tr.nil fun m => ?_⟩
  have := o.is m
  rw [e, hq] at this
  rw [coef_nil]
  omega
theorem bd_of_l1 {f : List Int} (h : l1 f < BB) : Bd 256 f := fun m => Nat.lt_of_le_of_lt (coef_l1 f m) h
/-- parted with nothing left -/
def spOverX (K : PySem.W.Frag) : Sp := fun vs H Q _ => ∃ (a b : Addr) (q g : List Int), vs = [.ref a, .ref b] ∧ SqL K H a ((mulK q g).map V.int) ∧ SqL K H b (g.map V.int) ∧ (mulK q g).length ≤ 450 ∧ g.length ≤ 450 ∧ Tr q ∧ Tr (mulK q g) ∧ Bd 1000 (mulK q g) ∧ Bd 1000 g ∧ Good g ∧ RetU2 q [] H Q
theorem overX_of {K : PySem.W.Frag} {C : Addr} {vs : List V} {H : Hp} {Q : VK} {E : XK} (h : spOverX K vs H Q E) : spOver K C vs H Q (fun _ _ _ => False) := by
  obtain ⟨a, b, q, g, rfl, h1, h2, l1, l2, tq, tf, bf, bg, hg, k⟩ := h
  refine ⟨a, b, mulK q g, g, rfl, h1, h2, l1, l2, tf, bf, bg, fun _ q' r o => ?_, fun n => absurd hg n⟩
  obtain ⟨rfl, rfl⟩ := ovr_uniq o hg tq (fun m => coef_mulK q g m)
  exact k
section
variable {σ : L2.St} {H : Hp} {ta : TA} {K : PySem.W.Frag} {E : XK} {i : Nat} {tz : TS} {D : Ends}
/-- x = over(..)[0] -/
theorem q_asgOv0 {te tf : TE} {q g : List Int} {b : Addr} (h1 : EvL te σ H ((mulK q g).map V.int)) (hb : Ev tf σ H (.ref b)) (h2 : SqL K H b (g.map V.int)) (l1 : (mulK q g).length ≤ 450) (l2 : g.length ≤ 450) (tq : Tr q) (tf' : Tr (mulK q g)) (bf : Bd 1000 (mulK q g)) (bg : Bd 1000 g) (hg : Good g)
    (k : ∀ p H1, H p = none → Ex H H1 → H1 p = some (.lst (q.map V.int)) → tz D (σ.set i (some (.ref p))) H1) : tSeq (tAsg (tOp (rIxT K) (tCall (spOverX K) [] E (tCons te (tCons tf tNil))) (tC (.int 0))) (gName i)) tz D σ H :=
  h1 H (Ex.refl H) _ fun a H1 na e1 ha => hb H1 e1 _ fun H2 e2 => by
    refine ⟨a, b, q, g, rfl, SqL.of (e2 _ _ ha), ex_l (e1.trans e2) h2, l1, l2, tq, tf', bf, bg, hg, fun t p1 p2 H3 nt n1 n2 _ e3 ht h1 h2 => ?_⟩
    exact ⟨t, _, 0, .ref p1, rfl, rfl, SqT.of ht, atI_nat (j := 0) rfl, k p1 H3 (fresh_back (e1.trans e2) n1) ((e1.trans e2).trans e3) h1⟩
end
/- root_poly: slots 0 n, 1 f, 2 left, 3 p, 4 _; calls parted, over, at_power -/
abbrev s_root_poly : Stmt := topS 19
theorem sc_root_poly : FnScope ["n", "f", "left", "p", "_"] ["n"] (defScope s_root_poly) := ⟨rfl, rfl, rfl, by decide +kernel, rfl, by decide +kernel, by decide +kernel⟩

def spRoot : Sp := fun vs H Q _ => ∃ n : Nat, vs = [.int (n : Nat)] ∧ 1 ≤ n ∧ n ≤ 420 ∧ RetL ((phi n).map V.int) H Q
section
variable {P : Program} {w : World} {K : PySem.W.Frag} {mg : Str → Option Value} {base : Heap}
theorem cal_root (nb : Nb mg) (c_parted : Cal P w K mg base CX0 "parted" 1 ["n"] (spParted K)) (c_over : Cal P w K mg base CX0 "over" 2 ["f", "g"] (spOverX K)) (c_at_power : Cal P w K mg base CX0 "at_power" 1 ["f", "k"] (spAtP K)) (d : Dfn K mg "root_poly" ["n"] s_root_poly) : Cal P w K mg base CX0 "root_poly" 3 ["n"] spRoot := by
  refine d.cal sc_root_poly (fun vs H Q E h => ?_) (fun fa cdv A outer s H vs Q E hr h => ?_)
  · obtain ⟨n, rfl, _⟩ := h
    rfl
  · obtain ⟨n, rfl, n1, n2, q⟩ := h
    refine ⟨_, (pss_cons (ps_set (i := 1) sc_root_poly.nd rfl (.inl rfl) (pe_lst (pa_cons (pe_un un_neg pe_int) (pa_cons pe_int pa_nil))))
      (pss_cons (ps_set (i := 2) sc_root_poly.nd rfl (.inl rfl) (pv 0))
      (pss_cons (ps_for PassesOwn.never rfl (pi_list (pe_cal c_parted (hr.mono (by first | decide | omega)) (by rfl) pass0 (pa_cons (pv 0) pa_nil))) (pg_tup (by rfl) (pgs_cons (pg_name (i := 3) sc_root_poly.nd rfl (.inl rfl)) (pgs_cons (pg_name (i := 4) sc_root_poly.nd rfl (.inl rfl)) pgs_nil))) (pss_cons (ps_set (i := 1) sc_root_poly.nd rfl (.inl rfl) (pe_ix ix_tup (pe_cal c_over (hr.mono (by first | decide | omega)) (by rfl) pass0 (pa_cons (pe_cal c_at_power (hr.mono (by first | decide | omega)) (by rfl) pass0 (pa_cons (pv 1) (pa_cons (pv 3) pa_nil))) (pa_cons (pv 1) pa_nil))) pe_int (fun _ _ => rfl)))
      (pss_one (ps_aug (i := 2) sc_root_poly.nd rfl (.inl rfl) (pv 3) (pip_of iop_fdivW)))))
      (pss_one (ps_ret (pe_cal c_at_power (hr.mono (by first | decide | omega)) (by rfl) pass0 (pa_cons (pv 1) (pa_cons (pv 2) pa_nil)))))))), ?_⟩
    refine q_asgL (xs := ([-1, 1] : List Int).map V.int) (el_lst (by one_place) (by show 2 ≤ 100000; decide)) fun f0 H1 nf e1 h1 => ?_
    refine q_asg (v := .int (n : Nat)) (by one_place) fun H2 e2 => ?_
    refine q_forP (rows := partedF n) (ep_cal (by one_place) fun H3 e3 Q k E => ⟨n, rfl, by omega, by omega, k⟩) (fun H0 i σ' H' => ∃ (f : Addr) (F : List Int) (l : Nat) (x y : Option V), σ' = [some (.int (n : Nat)), some (.ref f), some (.int (l : Nat)), x, y] ∧ Ex H H' ∧ Ex H0 H' ∧ H' f = some (.lst (F.map V.int)) ∧ StP ((partedF n).drop i) F ∧ ((partedF n).drop i).foldl (fun f r => stepF f r.1.toNat) F = GF n ∧ ((partedF n).drop i).foldl (fun l r => l / r.1.toNat) l = LF n)
      (fun H3 e3 => ⟨f0, _, n, none, none, rfl, (e1.trans e2).trans e3, Ex.refl _, e3 _ _ (e2 _ _ h1), stP0 n1 n2, rfl, rfl⟩) (fun H0 i σ' H' hp => ?_) (fun H0 i r σ' H' e0 hr hp => ?_) (fun H0 σ' H' e0 hp => ?_)
    · obtain ⟨_, _, _, _, _, _, _, e, _⟩ := hp
      exact e
    · obtain ⟨f, F, l, x, y, rfl, e3, e4, h4, st, eF, eL⟩ := hp
      have hi := (List.getElem?_eq_some_iff.mp hr).1
      have hri : (partedF n)[i] = r := (List.getElem?_eq_some_iff.mp hr).2
      obtain ⟨r2, r3⟩ := rows_bd n1 n2 (List.mem_of_getElem? hr)
      have ed : (partedF n).drop i = r :: (partedF n).drop (i + 1) := by rw [List.drop_eq_getElem_cons hi, hri]
      rw [ed] at st eF eL
      obtain ⟨c1, c2, c3, c4, c5, c6, c7⟩ := chk_step st.chk st.mon
      have st2 := st.step r2
      have er : r.1 = ((r.1.toNat : Nat) : Int) := by omega
      have la : (atP F r.1.toNat).length = (F.length - 1) * r.1.toNat + 1 := atP_len st.mon.ne
      have lF := st.len
      refine q_asgOv0 (q := stepF F r.1.toNat) (g := F) (b := f) (el_cal (vs := [.ref f, .int ((r.1.toNat : Nat) : Int)]) (ea_cons (by one_place) (ea_cons (ev_is (ev_var rfl) (by rw [← er])) ea_nil)) fun H5 e5 Q k E => ⟨f, F, r.1.toNat, rfl, SqL.of (e5 _ _ h4), by omega, by omega, by omega, by omega, by rw [← c3]; exact k⟩) (by one_place) (SqL.of h4) (by rw [c3]; omega) (by omega) st2.mon.tr (by rw [c3]; exact (st.mon.atP (by omega)).tr) (by rw [c3]; exact (bd_of_l1 (Nat.lt_of_le_of_lt (atP_l1 (by omega) st.mon.tr) st.bd)).mono (by decide)) ((bd_of_l1 st.bd).mono (by decide)) ⟨st.mon.ne, st.mon.one⟩ fun p H5 np e5 h5 => ?_
      refine ⟨.int (l : Nat), rfl, .int r.1, rfl, (l : Nat), r.1, rfl, rfl, divW (by omega) (by omega), ?_⟩
      refine ⟨p, _, l / r.1.toNat, some (.int r.1), some (.int r.2), ?_, e3.trans e5, e4.trans e5, h5, st2, eF, eL⟩
      have : ((l : Nat) : Int) / r.1 = ((l / r.1.toNat : Nat) : Int) := by rw [Int.natCast_ediv, ← er]
      show [some (V.int (n : Nat)), some (V.ref p), some (V.int (((l : Nat) : Int) / r.1)), some (.int r.1), some (.int r.2)] = _
      rw [this]
    · obtain ⟨f, F, l, x, y, rfl, e3, e4, h4, st, eF, eL⟩ := hp
      rw [List.drop_length] at st eF eL
      have eF : F = GF n := eF
      have eL : l = LF n := eL
      subst eF eL
      have a1 := LF_pos n1 n2
      have a2 := LF_le n
      have a3 := st.len
      refine s_retL (xs := (phi n).map V.int) (el_cal (by one_place) fun H5 e5 Q k E => ⟨f, GF n, LF n, rfl, SqL.of (e5 _ _ h4), by omega, a1, by omega, ?_, k⟩) fun p H5 np e5 hp => q.go e3 np e5 hp
      have a4 := phi_len n1 n2
      have a5 := phi_le n1 n2
      omega
end

/-! ### cosine polynomials, of the program -/
def chkDb (i : Nat) : Bool := decide ((dbS i).1.length ≤ 60 ∧ (dbS i).2.length ≤ 60) && ((dbS i).2.all fun x => decide (x.natAbs < 2 ^ 200))
theorem chkDb_all : ((List.range 40).all chkDb) = true := by decide +kernel
theorem db_at {i : Nat} (h : i < 40) : (dbS i).1.length ≤ 60 ∧ (dbS i).2.length ≤ 60 ∧ ∀ x ∈ (dbS i).2, x.natAbs < 2 ^ 200 := by
  have t := List.all_eq_true.mp chkDb_all i (List.mem_range.mpr h)
  unfold chkDb at t
  rw [Bool.and_eq_true] at t
  exact ⟨(of_decide_eq_true t.1).1, (of_decide_eq_true t.1).2, fun x hx => of_decide_eq_true (List.all_eq_true.mp t.2 x hx)⟩
theorem addP_le (c : Int) (f g : List Int) : (addP c f g).length ≤ max f.length g.length := by
  unfold addP trim addL
  rw [List.length_take, mkL_len]
  omega
def fdI (f : List Int) (i : Nat) : List Int × List Int × List Int := ((f.drop (f.length / 2 + 1)).take i).foldl fdS ([coef f (f.length / 2)], [2], [0, 1])
theorem fdI_step {f : List Int} {i : Nat} {c : Int} (h : (f.drop (f.length / 2 + 1))[i]? = some c) : fdI f (i + 1) = fdS (fdI f i) c := by
  unfold fdI
  rw [List.take_add_one, h]
  show ((((f.drop (f.length / 2 + 1)).take i) ++ [c]).foldl fdS _) = _
  rw [List.foldl_append]
  rfl
theorem fdI_db (f : List Int) : ∀ i, i ≤ (f.drop (f.length / 2 + 1)).length → (fdI f i).2 = dbS i
  | 0, _ => by
    unfold fdI
    rw [List.take_zero]
    rfl
  | i + 1, h => by
    have ih := fdI_db f i (by omega)
    rw [fdI_step (List.getElem?_eq_getElem (by omega))]
    show ((fdI f i).2.2, nxD (fdI f i).2.2 (fdI f i).2.1) = _
    rw [ih]
    rfl
theorem fdI_le (f : List Int) : ∀ i, i ≤ (f.drop (f.length / 2 + 1)).length → i ≤ 39 → (fdI f i).1.length ≤ 60
  | 0, _, _ => by
    unfold fdI
    rw [List.take_zero]
    exact (by decide : 1 ≤ 60)
  | i + 1, h, l => by
    have ih := fdI_le f i (by omega) (by omega)
    have db := fdI_db f i (by omega)
    have b := db_at (i := i) (by omega)
    rw [fdI_step (List.getElem?_eq_getElem (by omega))]
    show (addP 1 (fdI f i).1 ((fdI f i).2.2.map fun x => _ * x)).length ≤ _
    refine Nat.le_trans (addP_le _ _ _) ?_
    rw [List.length_map, db]
    omega
theorem cut_drop62 (xs : List V) (m : Nat) : cutV xs (some (m : Int)) none = xs.drop m := by
  have e : HT.sIx xs.length 0 (some (m : Int)) = min m xs.length := by
    unfold HT.sIx
    simp
    omega
  have e2 : HT.sIx xs.length xs.length none = xs.length := by
    unfold HT.sIx
    rfl
  unfold cutV
  rw [e, e2]
  by_cases c : m ≤ xs.length
  · rw [Nat.min_eq_left c, List.take_of_length_le (by rw [List.length_drop]; exact Nat.le_refl _)]
  · rw [Nat.min_eq_right (by omega), List.drop_of_length_le (Nat.le_refl _), List.drop_of_length_le (by omega), List.take_nil]
section
variable {σ : L2.St} {H : Hp} {t1 t2 : TE} {D : Ends} {x : V} {ys : List V} {i j : Nat}
theorem el_cat62 {l : Addr} {xs : List V} (ha : EvL t1 σ H xs) (hb : ∀ H1, Ex H H1 → Ev t2 σ H1 (.ref l)) (hl : H l = some (.lst ys)) (hz : xs.length + ys.length ≤ 100000) : EvL (tOp rCat t1 t2) σ H (xs ++ ys) := fun H1 e Q q =>
  ha H1 e _ fun p H2 np e2 hp => hb H2 (e.trans e2) H2 (Ex.refl H2) _ fun H3 e3 => ⟨p, l, xs, ys, rfl, rfl, e3 p _ hp, (e.trans (e2.trans e3)) _ _ hl, sz_of hz, fun l hl => q l _ (fresh_back (e2.trans e3) hl) ((e2.trans e3).trans (Ex.new hl)) upd_same⟩
theorem s_parVL (h1 : Ev t1 σ H x) (h2 : ∀ H1, Ex H H1 → EvL t2 σ H1 ys) (k : ∀ p H1, H p = none → Ex H H1 → H1 p = some (.lst ys) → D.nx ((σ.set i (some x)).set j (some (.ref p))) H1) : tPar i j (tCons t1 (tCons t2 tNil)) D σ H :=
  h1 H (Ex.refl H) _ fun H1 e1 => h2 H1 e1 H1 (Ex.refl H1) _ fun p H2 np e2 hp => ⟨x, .ref p, rfl, k p H2 (fresh_back e1 np) (e1.trans e2) hp⟩
end
/- next_doubled: slots 0 here, 1 last; calls minus -/
abbrev s_next_doubled : Stmt := topS 21
theorem sc_next_doubled : FnScope ["here", "last"] ["here", "last"] (defScope s_next_doubled) := ⟨rfl, rfl, rfl, by decide +kernel, rfl, by decide +kernel, by decide +kernel⟩

def spNx : Sp := fun vs H Q _ => ∃ (a b : Addr) (f g : List Int), vs = [.ref a, .ref b] ∧ H a = some (.lst (f.map V.int)) ∧ H b = some (.lst (g.map V.int)) ∧ f.length ≤ 1000 ∧ g.length ≤ 1000 ∧ RetL ((nxD f g).map V.int) H Q
section
variable {P : Program} {w : World} {K : PySem.W.Frag} {mg : Str → Option Value} {base : Heap} {C : Addr}
theorem cal_nx62 {l : Nat} (nb : Nb mg) (c_minus : Cal P w K mg base CX0 "minus" l ["f", "g"] (spMinus K)) (d : Dfn K mg "next_doubled" ["here", "last"] s_next_doubled) : Cal P w K mg base CX0 "next_doubled" (l + 1) ["here", "last"] spNx := by
  refine d.cal sc_next_doubled (fun vs H Q E h => ?_) (fun fa cdv A outer s H vs Q E hr h => ?_)
  · obtain ⟨a, b, f, g, rfl, _⟩ := h
    rfl
  · obtain ⟨a, b, f, g, rfl, hA, hB, lf, lg, q⟩ := h
    refine ⟨_, (pss_one (ps_ret (pe_cal c_minus (hr.mono (by first | decide | omega)) (by rfl) pass0 (pa_cons (pe_op op_cat (pe_lst (pa_cons pe_int pa_nil)) (pv 0)) (pa_cons (pv 1) pa_nil))))), ?_⟩
    exact s_retL (el_calL (xs := (0 :: f).map V.int) (vs := [.ref b]) (el_is (el_cat62 (el_lst (vs := [.int 0]) (by one_place) (by decide)) (fun _ _ => ev_var rfl) hA (by rw [List.length_singleton, List.length_map]; omega)) rfl) (by one_place) fun p H1 e1 hp Q kk E => ⟨p, b, 0 :: f, g, rfl, SqL.of hp, SqL.of (e1 _ _ hB), by rw [List.length_cons]; omega, by omega, kk⟩) fun p H1 np e1 h1 => q p H1 np e1 h1
end
theorem pick_rev (ns : List Int) : pickV ns (-1) = ns.reverse := by
  unfold pickV
  rw [PySem.W.krv_bounds]
  show (sliceRange ((ns.length : Int) - 1) (-1) (-1)).filterMap (ns[·]?) = _
  rw [PySem.W.krv_sliceRange, PySem.W.krv_range, List.filterMap_reverse]
  congr 1
  refine List.ext_getElem? fun i => ?_
  have key : ∀ l : List Int, (List.range l.length).filterMap (l[·]?) = l := by
    intro l
    induction l with
    | nil => rfl
    | cons x l ih =>
      rw [List.length_cons, List.range_succ_eq_map]
      show x :: List.filterMap (fun i => (x :: l)[i]?) (List.map Nat.succ (List.range l.length)) = x :: l
      rw [List.filterMap_map]
      exact congrArg (x :: ·) ih
  rw [key]

section
variable {σ : L2.St} {H : Hp}
theorem el_calVL62 {sp : Sp} {t0 te : TE} {v : V} {xs ys : List V} {E : XK} (h0 : Ev t0 σ H v) (h : EvL te σ H xs) (hs : ∀ l H1, Ex H H1 → H1 l = some (.lst xs) → ∀ Q : VK, RetL ys H1 Q → ∀ E : XK, sp [v, .ref l] H1 Q E) : EvL (tCall sp [] E (tCons t0 (tCons te tNil))) σ H ys := fun H1 e Q q =>
  h0 H1 e _ fun H2 e2 => h H2 (e.trans e2) _ fun l H3 nl e3 hl => by
    show sp ([v, .ref l] ++ []) H3 Q E
    rw [List.append_nil]
    exact hs l H3 ((e.trans e2).trans e3) hl Q (fun p H4 np e4 h4 => q p H4 (fresh_back (e2.trans e3) np) ((e2.trans e3).trans e4) h4) E
end
/- folded: slots 0 f, 1 middle, 2 g, 3 last, 4 here, 5 number, 6 part; calls plus, next_doubled -/
abbrev s_folded : Stmt := topS 22
theorem sc_folded : FnScope ["f", "middle", "g", "last", "here", "number", "part"] ["f"] (defScope s_folded) := ⟨rfl, rfl, rfl, by decide +kernel, rfl, by decide +kernel, by decide +kernel⟩

def spFd (C : Addr) : Sp := fun vs H Q E => ∃ (a : Addr) (f : List Int), vs = [.ref a] ∧ H a = some (.lst (f.map V.int)) ∧ f.length % 2 = 1 ∧ f.reverse = f ∧ f.length ≤ 75 ∧ Bd 256 f ∧ RetL ((foldF f).map V.int) H Q
section
variable {P : Program} {w : World} {K : PySem.W.Frag} {mg : Str → Option Value} {base : Heap} {C : Addr}
theorem cal_fd62 (nb : Nb mg) (x_NoFold : OwnX K mg "NoFold" C) (c_plus : Cal P w K mg base CX0 "plus" 2 ["f", "g"] (spPlus K)) (c_next_doubled : Cal P w K mg base CX0 "next_doubled" 4 ["here", "last"] spNx) (d : Dfn K mg "folded" ["f"] s_folded) : Cal P w K mg base (L2.CX P w) "folded" 5 ["f"] (spFd C) := by
  refine d.calX sc_folded (fun vs H Q E h => ?_) (fun fa cdv A outer s H vs Q E hr h => ?_)
  · obtain ⟨a, f, rfl, _⟩ := h
    rfl
  · obtain ⟨a, f, rfl, hA, odd, rv, len, bf, q⟩ := h
    refine ⟨_, (pss_cons (ps_if (pt_cmpR op_eq (pe_callB call_len_seq (by rfl) nb.len PySem.boot_len (pa_cons (pv 0) pa_nil)) pe_int (nomark _)) (pss_one (ps_ret (pe_lst pa_nil))) pss_nil)
      (pss_cons (ps_if (PW.pt (pw_or (pt_cmpR op_eq (pe_op op_mod (pe_callB call_len_seq (by rfl) nb.len PySem.boot_len (pa_cons (pv 0) pa_nil)) pe_int) pe_int (nomark _)) (pw_or1 (pt_cmpR (op_neD hr.units) (pv 0) (pe_sliceS (pv 0) (pe_un un_neg pe_int)) (nomark _))))) (pss_one (ps_raise rfl (takes_of rfl rfl rfl rfl) (pmk_of x_NoFold rfl))) pss_nil)
      (pss_cons (ps_set (i := 1) sc_folded.nd rfl (.inl rfl) (pe_op op_fdivW (pe_callB call_len_seq (by rfl) nb.len PySem.boot_len (pa_cons (pv 0) pa_nil)) pe_int))
      (pss_cons (ps_set (i := 2) sc_folded.nd rfl (.inl rfl) (pe_lst (pa_cons (pe_ix ix_list (pv 0) (pv 1) (fun _ _ => rfl)) pa_nil)))
      (pss_cons (ps_set (i := 3) sc_folded.nd rfl (.inl rfl) (pe_lst (pa_cons pe_int pa_nil)))
      (pss_cons (ps_set (i := 4) sc_folded.nd rfl (.inl rfl) (pe_lst (pa_cons pe_int (pa_cons pe_int pa_nil))))
      (pss_cons (ps_for (passes_of rfl) rfl (pi_list (pe_slice sl_list (pv 0) (po_some (pe_op op_add (pv 1) pe_int)) po_none)) (pg_name (i := 5) sc_folded.nd rfl (.inr rfl)) (pss_cons (ps_set (i := 2) sc_folded.nd rfl (.inl rfl) (pe_cal c_plus (hr.mono (by first | decide | omega)) (by rfl) pass0 (pa_cons (pv 2) (pa_cons (pe_lc (own := [("part", 6)]) (g := gName 6) (tt := tYes) (by rfl) sc_folded.nd (pi_list (pv 4)) (blkOk_by (N := ["f", "middle", "g", "last", "here", "number", "part"]) (sc := defScope s_folded) (by decide +kernel)) (fun _ _ _ _ _ => (pg_name (i := 6) sc_folded.nd rfl (Or.inl rfl))) (fun _ _ _ _ _ => pts_nil) (fun _ _ _ _ _ => (pe_op op_mulW (pv 5) (pv 6)))) pa_nil))))
      (pss_one (ps_par (i := 3) (j := 4) (by rfl) sc_folded.nd rfl rfl (by decide) (by rfl) (by rfl) (pa_cons (pv 4) (pa_cons (pe_cal c_next_doubled (hr.mono (by first | decide | omega)) (by rfl) pass0 (pa_cons (pv 4) (pa_cons (pv 3) pa_nil))) pa_nil)) (by rfl)))))
      (pss_one (ps_ret (pv 2)))))))))), ?_⟩
    have hl : ∀ {σ : L2.St} {H' : Hp}, Ex H H' → σ[0]? = some (some (.ref a)) → Ev (tCB (rLenS K) (tCons (tVar 0) tNil)) σ H' (.int (f.length : Nat)) := fun e hs => ev_is (ev_len (ev_var hs) (SqL.of (e _ _ hA))) (by rw [List.length_map])
    refine q_when (b := false) (et_is (et_test (ev_eqI (hl (Ex.refl _) rfl) ev_c)) (decide_eq_false (by omega))) (fun hb => nomatch hb) (fun _ H1 e1 => ?_)
    refine q_when (b := false) (et_is (et_or (et_test (ev_eqI (ev_mod (hl e1 rfl) ev_c (by decide)) ev_c)) fun _ => et_test (ev_opL (xs := (pickV f (-1)).map V.int) (ev_var rfl) (el_is (el_slS (xs := f.map V.int) (k := -1) (ev_var rfl) (ev_neg ev_c) (SqL.of (e1 _ _ hA)) (by decide)) (pickV_map _ _ _)) fun u H4 hu e4 => rv_neI (ns := f) (ms := pickV f (-1)) (SqL.of ((e1.trans e4) _ _ hA)) (SqL.of hu))) (by rw [pick_rev, rv, decide_eq_true rfl, decide_eq_false (by omega)]; rfl)) (fun hb => nomatch hb) (fun _ H2 e2 => ?_)
    have e12 := e1.trans e2
    have mid : f.length / 2 < f.length := by omega
    refine q_asg (v := .int ((f.length / 2 : Nat) : Int)) (ev_is (ev_div (hl e12 rfl) ev_c (divW (by decide) (by decide))) (by rw [Int.natCast_ediv]; rfl)) fun H3 e3 => ?_
    refine q_asgL (xs := ([coef f (f.length / 2)] : List Int).map V.int) (el_lst (vs := [.int (coef f (f.length / 2))]) (ea_cons (ev_ixI (j := f.length / 2) (SqL.of ((e12.trans e3) _ _ hA)) (ev_var rfl) (ev_var rfl) (coef_get mid)) ea_nil) (by show 1 ≤ 100000; decide)) fun g H4 ng e4 h4 => ?_
    refine q_asgL (xs := ([2] : List Int).map V.int) (el_lst (vs := [.int 2]) (by one_place) (by decide)) fun la H5 nl e5 h5 => ?_
    refine q_asgL (xs := ([0, 1] : List Int).map V.int) (el_lst (vs := [.int 0, .int 1]) (by one_place) (by decide)) fun he H6 nh e6 h6 => ?_
    have e36 := (e3.trans e4).trans (e5.trans e6)
    have hA6 := (e12.trans e36) _ _ hA
    have dl : (f.drop (f.length / 2 + 1)).length ≤ 37 := by
      rw [List.length_drop]
      omega
    refine q_forNLn (xs := (f.drop (f.length / 2 + 1)).map V.int) (el_is (el_sl (ev_var rfl) (eo_some (ev_is (ev_add (ev_var rfl) ev_c) (show V.int (((f.length / 2 : Nat) : Int) + 1) = V.int ((f.length / 2 + 1 : Nat) : Int) by rw [Int.natCast_add]; rfl))) eo_none (SqL.of hA6)) (by rw [cut_drop62, List.map_drop]))
      (fun p i σ' H' => ∃ (gr lr hr : Addr) (y5 : Option V), σ' = [some (.ref a), some (.int ((f.length / 2 : Nat) : Int)), some (.ref gr), some (.ref lr), some (.ref hr), y5, none] ∧ Ex H6 H' ∧ H' p = some (.lst ((f.drop (f.length / 2 + 1)).map V.int)) ∧ H2 gr = none ∧ H' gr = some (.lst ((fdI f i).1.map V.int)) ∧ H' lr = some (.lst ((fdI f i).2.1.map V.int)) ∧ H' hr = some (.lst ((fdI f i).2.2.map V.int)))
      (fun p H7 np e7 hp => ⟨g, la, he, none, rfl, e7, hp, fresh_back e3 ng, (e5.trans (e6.trans e7)) _ _ h4, (e6.trans e7) _ _ h5, e7 _ _ h6⟩) (fun p i σ' H' _ hp => ?_) (fun p i x σ' H7 hx hp => ?_) (fun p σ' H7 hp => ?_)
    · obtain ⟨_, _, _, _, _, _, hp, _⟩ := hp
      exact SqL.of hp
    · obtain ⟨gr, lr, hr, y5, rfl, e7, hp, ngr, hg, hll, hh⟩ := hp
      obtain ⟨c, hc, rfl⟩ := map_get hx
      have il := (List.getElem?_eq_some_iff.mp hc).1
      have db := fdI_db f i (by omega)
      have b := db_at (i := i) (by omega)
      have gl := fdI_le f i (by omega) (by omega)
      have st := fdI_step hc
      have cb : c.natAbs < 2 ^ 256 := by
        rw [List.getElem?_drop] at hc
        have := bf (f.length / 2 + 1 + i)
        rwa [coef_of hc] at this
      rw [db] at hll hh
      have e26 := e36.trans e7
      refine q_asgL (xs := (addP 1 (fdI f i).1 ((dbS i).2.map fun x => c * x)).map V.int) (el_calVL62 (v := .ref gr) (xs := ((dbS i).2.map fun x => c * x).map V.int) (by one_place) (el_is (el_lcI (ns := (dbS i).2) (fun _ => true) (fun x => .int (c * x)) (ev_var rfl) (SqL.of hh) (by omega) (fun _ => rfl) (fun _ _ _ _ => et_yes) fun x H8 e8 hx _ => ev_mul (ev_var rfl) (ev_var rfl) (mulW (Nat.lt_of_lt_of_le cb (Nat.pow_le_pow_right (by decide) (by decide))) (Nat.lt_of_lt_of_le (b.2.2 x hx) (Nat.pow_le_pow_right (by decide) (by decide))))) (by rw [filter_yes, List.map_map]; rfl)) fun l H8 e8 hl Q kk E => ⟨gr, l, (fdI f i).1, _, rfl, SqL.of (e8 _ _ hg), SqL.of hl, by omega, by rw [List.length_map]; omega, kk⟩) fun g2 H8 ng2 e8 h8 => ?_
      refine s_parVL (ys := (nxD (dbS i).2 (dbS i).1).map V.int) (ev_var rfl) (fun H9 e9 => el_cal (vs := [.ref hr, .ref lr]) (by one_place) fun H10 e10 Q kk E => ⟨hr, lr, (dbS i).2, (dbS i).1, rfl, (e8.trans (e9.trans e10)) _ _ hh, (e8.trans (e9.trans e10)) _ _ hll, by omega, by omega, kk⟩) fun nx H9 nnx e9 h9 => ?_
      have st2 : fdI f (i + 1) = (addP 1 (fdI f i).1 ((dbS i).2.map fun x => c * x), (dbS i).2, nxD (dbS i).2 (dbS i).1) := by
        rw [st]
        unfold fdS
        rw [db]
      refine ⟨g2, hr, nx, _, rfl, e7.trans (e8.trans e9), (e8.trans e9) _ _ hp, fresh_back e26 ng2, ?_, ?_, ?_⟩
      · rw [st2]
        exact e9 _ _ h8
      · rw [st2]
        exact (e8.trans e9) _ _ hh
      · rw [st2]
        exact h9
    · obtain ⟨gr, lr, hr, y5, rfl, e7, hp, ngr, hg, hll, hh⟩ := hp
      rw [List.length_map] at hg
      have ff : (fdI f (f.drop (f.length / 2 + 1)).length).1 = foldF f := by
        unfold fdI foldF
        rw [List.take_length]
      rw [ff] at hg
      exact s_ret (v := .ref gr) (by one_place) fun H8 e8 => q gr H8 (fresh_back e12 ngr) ((e12.trans e36).trans (e7.trans e8)) (e8 _ _ hg)
end
/- cosine_poly: slots 0 n; calls folded, root_poly -/
abbrev s_cosine_poly : Stmt := topS 24
theorem sc_cosine_poly : FnScope ["n"] ["n"] (defScope s_cosine_poly) := ⟨rfl, rfl, rfl, by decide +kernel, rfl, by decide +kernel, by decide +kernel⟩

theorem phi_odd {d : Nat} (h1 : 3 ≤ d) (h2 : d ≤ 60) : (phi d).length % 2 = 1 ∧ (phi d).reverse = phi d := by
  have t := chk62_at (show 1 ≤ d by omega) h2
  unfold chk62 at t
  rw [Bool.and_eq_true, Bool.and_eq_true, Bool.or_eq_true] at t
  rcases t.2.2 with t | t
  · have := of_decide_eq_true t
    omega
  · exact of_decide_eq_true t
def spCp : Sp := fun vs H Q _ => ∃ n : Nat, vs = [.int (n : Nat)] ∧ 1 ≤ n ∧ n ≤ 60 ∧ RetL ((cosF n).map V.int) H Q
section
variable {P : Program} {w : World} {K : PySem.W.Frag} {mg : Str → Option Value} {base : Heap} {C : Addr}
theorem cal_cp62 (nb : Nb mg) (c_folded : Cal P w K mg base CX0 "folded" 5 ["f"] (fun vs H Q _ => spFd C vs H Q (fun _ _ _ => False))) (c_root_poly : Cal P w K mg base CX0 "root_poly" 3 ["n"] spRoot) (d : Dfn K mg "cosine_poly" ["n"] s_cosine_poly) : Cal P w K mg base CX0 "cosine_poly" 6 ["n"] spCp := by
  refine d.cal sc_cosine_poly (fun vs H Q E h => ?_) (fun fa cdv A outer s H vs Q E hr h => ?_)
  · obtain ⟨n, rfl, _⟩ := h
    rfl
  · obtain ⟨n, rfl, n1, n2, q⟩ := h
    refine ⟨_, (pss_cons (ps_if (pt_cmpR op_eq (pv 0) pe_int (nomark _)) (pss_one (ps_ret (pe_lst (pa_cons (pe_un un_neg pe_int) (pa_cons pe_int pa_nil))))) pss_nil)
      (pss_cons (ps_if (pt_cmpR op_eq (pv 0) pe_int (nomark _)) (pss_one (ps_ret (pe_lst (pa_cons pe_int (pa_cons pe_int pa_nil))))) pss_nil)
      (pss_one (ps_ret (pe_cal c_folded (hr.mono (by first | decide | omega)) (by rfl) pass0 (pa_cons (pe_cal c_root_poly (hr.mono (by first | decide | omega)) (by rfl) pass0 (pa_cons (pv 0) pa_nil)) pa_nil)))))), ?_⟩
    refine q_when (b := decide ((n : Int) = 1)) (et_test (ev_eqI (ev_var rfl) ev_c)) (fun hb H1 e1 => ?_) (fun hb H1 e1 => ?_)
    · have hb := of_decide_eq_true hb
      exact s_retL (xs := (cosF n).map V.int) (el_is (el_lst (vs := [.int (-2), .int 1]) (ea_cons (ev_neg ev_c) (ea_cons ev_c ea_nil)) (by show 2 ≤ 100000; decide)) (by unfold cosF; rw [if_pos (show n = 1 by omega)]; rfl)) fun p H2 np e2 h2 => q p H2 (fresh_back e1 np) (e1.trans e2) h2
    · have hb := of_decide_eq_false hb
      refine q_when (b := decide ((n : Int) = 2)) (et_test (ev_eqI (ev_var rfl) ev_c)) (fun hb2 H2 e2 => ?_) (fun hb2 H2 e2 => ?_)
      · have hb2 := of_decide_eq_true hb2
        exact s_retL (xs := (cosF n).map V.int) (el_is (el_lst (vs := [.int 2, .int 1]) (by one_place) (by show 2 ≤ 100000; decide)) (by unfold cosF; rw [if_neg (show ¬ n = 1 by omega), if_pos (show n = 2 by omega)]; rfl)) fun p H3 np e3 h3 => q p H3 (fresh_back (e1.trans e2) np) ((e1.trans e2).trans e3) h3
      · have hb2 := of_decide_eq_false hb2
        have po := phi_odd (show 3 ≤ n by omega) n2
        have pl := phi_le n1 (show n ≤ 420 by omega)
        exact s_retL (xs := (cosF n).map V.int) (el_is (el_calL (xs := (phi n).map V.int) (vs := []) (el_cal (vs := [.int (n : Nat)]) (by one_place) fun H3 e3 Q kk E => ⟨n, rfl, n1, by omega, kk⟩) ea_nil fun p H3 e3 hp Q kk E => ⟨p, phi n, rfl, hp, po.1, po.2, by omega, bd_of_l1 (phi_bd n1 (by omega)), kk⟩) (by unfold cosF; rw [if_neg (show ¬ n = 1 by omega), if_neg (show ¬ n = 2 by omega)])) fun p H3 np e3 h3 => q p H3 (fresh_back (e1.trans e2) np) ((e1.trans e2).trans e3) h3
end

/-! ### how the rows come out: primes, rising, their product -/
def Prm (p : Nat) : Prop := 2 ≤ p ∧ ∀ d, d ∣ p → d = 1 ∨ d = p
def stripN (p : Nat) : Nat → Nat → Nat × Nat
  | 0, l => (l, 0)
  | m + 1, l => if l % p = 0 then ((stripN p m (l / p)).1, (stripN p m (l / p)).2 + 1) else (l, 0)
theorem strip_cast (p : Nat) : ∀ (m l : Nat) (t : Int), Kp.strip (p : Int) m (l : Int) t = (((stripN p m l).1 : Int), t + ((stripN p m l).2 : Int))
  | 0, l, t => by
    show ((l : Int), t) = ((l : Int), t + 0)
    rw [Int.add_zero]
  | m + 1, l, t => by
    unfold Kp.strip stripN
    by_cases h : l % p = 0
    · rw [if_pos h, if_pos (show (l : Int) % (p : Int) = 0 by omega)]
      have := strip_cast p m (l / p) (t + 1)
      rw [show ((l / p : Nat) : Int) = (l : Int) / (p : Int) from Int.natCast_ediv l p] at this
      rw [this]
      show (_, t + 1 + _) = (_, t + ((_ + 1 : Nat) : Int))
      congr 1
      omega
    · rw [if_neg h, if_neg (show ¬ (l : Int) % (p : Int) = 0 by omega)]
      show ((l : Int), t) = ((l : Int), t + 0)
      rw [Int.add_zero]
theorem stripN_spec {p : Nat} (hp : 2 ≤ p) : ∀ (m l : Nat), 0 < l → l < 2 ^ m → l = (stripN p m l).1 * p ^ (stripN p m l).2 ∧ ¬ p ∣ (stripN p m l).1 ∧ 0 < (stripN p m l).1
  | 0, l, h0, h1 => by
    rw [Nat.pow_zero] at h1
    omega
  | m + 1, l, h0, h1 => by
    unfold stripN
    by_cases h : l % p = 0
    · rw [if_pos h]
      have e := Nat.div_add_mod l p
      rw [h, Nat.add_zero] at e
      have l0 : 0 < l / p := Nat.pos_of_ne_zero fun z => by
        rw [z, Nat.mul_zero] at e
        omega
      have l1 : 2 * (l / p) ≤ p * (l / p) := Nat.mul_le_mul_right _ hp
      rw [Nat.pow_succ] at h1
      obtain ⟨a1, a2, a3⟩ := stripN_spec hp m (l / p) l0 (by omega)
      refine ⟨?_, a2, a3⟩
      show l = (stripN p m (l / p)).1 * p ^ ((stripN p m (l / p)).2 + 1)
      rw [Nat.pow_succ, ← Nat.mul_assoc, ← a1, Nat.mul_comm]
      exact e.symm
    · rw [if_neg h]
      refine ⟨by rw [Nat.pow_zero, Nat.mul_one], fun z => h (Nat.mod_eq_zero_of_dvd z), h0⟩
def pLoopN : Nat → Nat → Nat → List (Nat × Nat) → Nat × List (Nat × Nat)
  | 0, _, l, rows => (l, rows)
  | m + 1, p, l, rows => if p * p ≤ l then pLoopN m (p + 1) (stripN p 64 l).1 (if 0 < (stripN p 64 l).2 then rows ++ [(p, (stripN p 64 l).2)] else rows) else (l, rows)
def castR (r : Nat × Nat) : Int × Int := ((r.1 : Int), (r.2 : Int))
theorem pLoop_cast : ∀ (m p l : Nat) (rows : List (Nat × Nat)), pLoop m (p : Int) (l : Int) (rows.map castR) = (((pLoopN m p l rows).1 : Int), (pLoopN m p l rows).2.map castR)
  | 0, _, _, _ => rfl
  | m + 1, p, l, rows => by
    unfold pLoop pLoopN
    by_cases h : p * p ≤ l
    · rw [if_pos h, if_pos (show (p : Int) * (p : Int) ≤ (l : Int) by exact_mod_cast h), strip_cast]
      simp only
      rw [Int.zero_add]
      by_cases h2 : 0 < (stripN p 64 l).2
      · rw [if_pos h2, if_pos (show (0 : Int) < ((stripN p 64 l).2 : Int) by omega)]
        have := pLoop_cast m (p + 1) (stripN p 64 l).1 (rows ++ [(p, (stripN p 64 l).2)])
        rw [List.map_append] at this
        exact this
      · rw [if_neg h2, if_neg (show ¬ (0 : Int) < ((stripN p 64 l).2 : Int) by omega)]
        exact pLoop_cast m (p + 1) (stripN p 64 l).1 rows
    · rw [if_neg h, if_neg (show ¬ (p : Int) * (p : Int) ≤ (l : Int) by exact_mod_cast h)]
def partedN (n : Nat) : List (Nat × Nat) := if 1 < (pLoopN n 2 n []).1 then (pLoopN n 2 n []).2 ++ [((pLoopN n 2 n []).1, 1)] else (pLoopN n 2 n []).2
theorem parted_cast (n : Nat) : partedF (n : Int) = (partedN n).map castR := by
  unfold partedF partedN
  have := pLoop_cast n 2 n []
  rw [Int.toNat_natCast]
  rw [show pLoop n 2 (n : Int) [] = pLoop n ((2 : Nat) : Int) (n : Int) (([] : List (Nat × Nat)).map castR) from rfl, this]
  simp only
  by_cases h : 1 < (pLoopN n 2 n []).1
  · rw [if_pos h, if_pos (show (1 : Int) < _ by omega), List.map_append]
    rfl
  · rw [if_neg h, if_neg (show ¬ (1 : Int) < _ by omega)]
def prodR : List (Nat × Nat) → Nat
  | [] => 1
  | r :: rows => r.1 ^ r.2 * prodR rows
theorem prodR_snoc : ∀ (rows : List (Nat × Nat)) (r : Nat × Nat), prodR (rows ++ [r]) = prodR rows * r.1 ^ r.2
  | [], r => by
    show r.1 ^ r.2 * 1 = 1 * r.1 ^ r.2
    omega
  | q :: rows, r => by
    show q.1 ^ q.2 * prodR (rows ++ [r]) = q.1 ^ q.2 * prodR rows * r.1 ^ r.2
    rw [prodR_snoc rows r, Nat.mul_assoc]
/-- rows of primes below p, rising, once or oftener each -/
def Rows (p : Nat) (rows : List (Nat × Nat)) : Prop := (∀ r ∈ rows, Prm r.1 ∧ 1 ≤ r.2 ∧ r.1 < p) ∧ rows.Pairwise fun a b => a.1 < b.1
theorem Rows.snoc {p q k : Nat} {rows : List (Nat × Nat)} (h : Rows p rows) (hp : Prm p) (hk : 1 ≤ k) (hq : p < q) : Rows q (rows ++ [(p, k)]) := by
  refine ⟨fun r hr => ?_, ?_⟩
  · rcases List.mem_append.mp hr with hr | hr
    · obtain ⟨a, b, c⟩ := h.1 r hr
      exact ⟨a, b, by omega⟩
    · rw [List.mem_singleton.mp hr]
      exact ⟨hp, hk, hq⟩
  · rw [List.pairwise_append]
    refine ⟨h.2, List.pairwise_singleton .., fun a ha b hb => ?_⟩
    rw [List.mem_singleton.mp hb]
    exact (h.1 a ha).2.2
theorem Rows.mono {p q : Nat} {rows : List (Nat × Nat)} (h : Rows p rows) (hq : p ≤ q) : Rows q rows := ⟨fun r hr => by
  obtain ⟨a, b, c⟩ := h.1 r hr
  exact ⟨a, b, by omega⟩, h.2⟩
/-- nothing from 2 on below p divides l -/
def Low (p l : Nat) : Prop := ∀ d, 2 ≤ d → d < p → ¬ d ∣ l
theorem prm_of_low {p l : Nat} (hl : Low p l) (hp : 2 ≤ p) (hd : p ∣ l) : Prm p := ⟨hp, fun d h => by
  by_cases h1 : d = 1
  · exact .inl h1
  · by_cases h2 : d = p
    · exact .inr h2
    · have := Nat.le_of_dvd (by omega) h
      have d0 : d ≠ 0 := fun z => by
        rw [z] at h
        have := Nat.eq_zero_of_zero_dvd h
        omega
      exact absurd (Nat.dvd_trans h hd) (hl d (by omega) (by omega))⟩
theorem prm_of_sq {p l : Nat} (hl : Low p l) (h1 : 1 < l) (hs : l < p * p) : Prm l := ⟨h1, fun d h => by
  obtain ⟨k, hk⟩ := h
  by_cases hd1 : d = 1
  · exact .inl hd1
  · refine .inr ?_
    have d0 : d ≠ 0 := fun z => by
      rw [z, Nat.zero_mul] at hk
      omega
    have k0 : k ≠ 0 := fun z => by
      rw [z, Nat.mul_zero] at hk
      omega
    by_cases hk1 : k = 1
    · rw [hk, hk1, Nat.mul_one]
    · exfalso
      have a1 : ¬ d < p := fun z => hl d (by omega) z ⟨k, hk⟩
      have a2 : ¬ k < p := fun z => hl k (by omega) z ⟨d, by rw [hk, Nat.mul_comm]⟩
      have := Nat.mul_le_mul (show p ≤ d by omega) (show p ≤ k by omega)
      omega⟩
theorem pLoopN_spec : ∀ (m p l : Nat) (rows : List (Nat × Nat)), 2 ≤ p → 0 < l → l < 2 ^ 64 → l < p + m → Low p l → Rows p rows →
    Rows (p + m + 1) (pLoopN m p l rows).2 ∧ 0 < (pLoopN m p l rows).1 ∧ prodR (pLoopN m p l rows).2 * (pLoopN m p l rows).1 = prodR rows * l ∧ (1 < (pLoopN m p l rows).1 → Prm (pLoopN m p l rows).1 ∧ Rows (pLoopN m p l rows).1 (pLoopN m p l rows).2)
  | 0, p, l, rows, hp, h0, h64, hm, hl, hr => by
    refine ⟨hr.mono (by omega), h0, rfl, fun h1 => ?_⟩
    exact absurd (Nat.dvd_refl l) (hl l h1 (by omega))
  | m + 1, p, l, rows, hp, h0, h64, hm, hl, hr => by
    unfold pLoopN
    by_cases h : p * p ≤ l
    · rw [if_pos h]
      obtain ⟨s1, s2, s3⟩ := stripN_spec hp 64 l h0 h64
      generalize (stripN p 64 l).1 = l' at *
      generalize (stripN p 64 l).2 = k at *
      have hdl : l' ∣ l := ⟨p ^ k, s1⟩
      have hll := Nat.le_of_dvd h0 hdl
      have hl' : Low (p + 1) l' := fun d d1 d2 z => by
        by_cases e : d = p
        · subst e
          exact s2 z
        · exact hl d d1 (by omega) (Nat.dvd_trans z hdl)
      by_cases hk : 0 < k
      · rw [if_pos hk]
        have pp : Prm p := prm_of_low hl hp ⟨l' * p ^ (k - 1), by
          rw [s1, Nat.mul_left_comm, ← Nat.pow_succ']
          congr 2
          omega⟩
        obtain ⟨a1, a2, a3, a4⟩ := pLoopN_spec m (p + 1) l' (rows ++ [(p, k)]) (by omega) s3 (by omega) (by omega) hl' (hr.snoc pp hk (Nat.lt_succ_self p))
        refine ⟨a1.mono (by omega), a2, ?_, a4⟩
        rw [a3, prodR_snoc, Nat.mul_assoc]
        congr 1
        rw [Nat.mul_comm]
        exact s1.symm
      · rw [if_neg hk]
        have k0 : k = 0 := by omega
        subst k0
        rw [Nat.pow_zero, Nat.mul_one] at s1
        obtain ⟨a1, a2, a3, a4⟩ := pLoopN_spec m (p + 1) l' rows (by omega) s3 (by omega) (by omega) hl' (hr.mono (Nat.le_succ p))
        refine ⟨a1.mono (by omega), a2, ?_, a4⟩
        rw [a3, s1]
    · rw [if_neg h]
      refine ⟨hr.mono (by omega), h0, rfl, fun h1 => ⟨prm_of_sq hl h1 (by omega), ⟨fun r hr' => ?_, hr.2⟩⟩⟩
      obtain ⟨b1, b2, b3⟩ := hr.1 r hr'
      refine ⟨b1, b2, ?_⟩
      have : ¬ l < p := fun z => hl l h1 z (Nat.dvd_refl l)
      omega
theorem parted_spec {n : Nat} (h0 : 0 < n) (h64 : n < 2 ^ 64) : (∃ p, Rows p (partedN n)) ∧ prodR (partedN n) = n := by
  obtain ⟨a1, a2, a3, a4⟩ := pLoopN_spec n 2 n [] (Nat.le_refl 2) h0 h64 (by omega) (fun d d1 d2 => by omega) ⟨(fun _ h => nomatch h), List.Pairwise.nil⟩
  unfold partedN
  split
  · rename_i h1
    obtain ⟨b1, b2⟩ := a4 h1
    refine ⟨⟨_, b2.snoc b1 (Nat.le_refl 1) (Nat.lt_succ_self _)⟩, ?_⟩
    rw [prodR_snoc, Nat.pow_one, a3]
    show 1 * n = n
    omega
  · rename_i h1
    refine ⟨⟨_, a1⟩, ?_⟩
    have e : (pLoopN n 2 n []).1 = 1 := by omega
    rw [e, Nat.mul_one] at a3
    rw [a3]
    show 1 * n = n
    omega
theorem prm_cop {p m : Nat} (hp : Prm p) (h : ¬ p ∣ m) : Nat.Coprime p m := by
  have g := Nat.gcd_dvd_left p m
  rcases hp.2 _ g with e | e
  · exact e
  · have := Nat.gcd_dvd_right p m
    rw [e] at this
    exact absurd this h
theorem prm_ndvd_prod {p : Nat} (hp : Prm p) : ∀ {rows : List (Nat × Nat)}, (∀ r ∈ rows, Prm r.1) → (∀ r ∈ rows, r.1 ≠ p) → ¬ p ∣ prodR rows
  | [], _, _ => fun z => by
    have := Nat.le_of_dvd (by decide) z
    have := hp.1
    show False
    simp only [prodR] at *
    omega
  | r :: rows, h1, h2 => fun z => by
    have c : Nat.Coprime p (r.1 ^ r.2) := Nat.Coprime.pow_right _ (prm_cop hp fun d => by
      rcases (h1 r (List.mem_cons_self ..)).2 p d with e | e
      · have := hp.1
        omega
      · exact h2 r (List.mem_cons_self ..) e.symm)
    exact prm_ndvd_prod hp (fun q hq => h1 q (List.mem_cons_of_mem _ hq)) (fun q hq => h2 q (List.mem_cons_of_mem _ hq)) (c.dvd_of_dvd_mul_left z)
/-- the divisors of m times a power of a prime that doesn't divide m -/
theorem dvd_mul_pow {p m : Nat} (hp : Prm p) (hm : ¬ p ∣ m) : ∀ (e d : Nat), d ∣ m * p ^ e ↔ ∃ j d', j ≤ e ∧ d' ∣ m ∧ d = p ^ j * d'
  | 0, d => by
    rw [Nat.pow_zero, Nat.mul_one]
    refine ⟨fun h => ⟨0, d, Nat.le_refl 0, h, by rw [Nat.pow_zero, Nat.one_mul]⟩, fun ⟨j, d', h1, h2, h3⟩ => ?_⟩
    have : j = 0 := by omega
    subst this
    rw [Nat.pow_zero, Nat.one_mul] at h3
    rw [h3]
    exact h2
  | e + 1, d => by
    refine ⟨fun h => ?_, fun ⟨j, d', h1, h2, h3⟩ => ?_⟩
    · by_cases hd : p ∣ d
      · obtain ⟨d1, rfl⟩ := hd
        have h' : d1 ∣ m * p ^ e := by
          rw [Nat.pow_succ, ← Nat.mul_assoc, Nat.mul_comm _ p] at h
          exact Nat.dvd_of_mul_dvd_mul_left (by have := hp.1; omega) h
        obtain ⟨j, d', a1, a2, a3⟩ := (dvd_mul_pow hp hm e d1).mp h'
        exact ⟨j + 1, d', by omega, a2, by rw [a3, Nat.pow_succ, Nat.mul_comm (p ^ j) p, Nat.mul_assoc]⟩
      · have c : Nat.Coprime d (p ^ (e + 1)) := Nat.Coprime.pow_right _ (prm_cop hp hd).symm
        exact ⟨0, d, Nat.zero_le _, c.dvd_of_dvd_mul_right h, by rw [Nat.pow_zero, Nat.one_mul]⟩
    · rw [h3, Nat.mul_comm]
      exact Nat.mul_dvd_mul h2 (Nat.pow_dvd_pow p h1)

/-! ### all divisors: as products of the primes, as the program tells them -/
def turnsN (p : Nat) (told : List Nat) : Nat → List Nat × List Nat
  | 0 => (told, told)
  | t + 1 => ((turnsN p told t).1 ++ ((turnsN p told t).2.map fun d => p * d).filter fun d => !decide (d ∈ (turnsN p told t).1), (turnsN p told t).2.map fun d => p * d)
def allStep (told : List Nat) (r : Nat × Nat) : List Nat := (turnsN r.1 told r.2).1
def allN (n : Nat) : List Nat := (partedN n).foldl allStep [1]
theorem map_nodup {α β : Type} {f : α → β} (hf : ∀ a b, f a = f b → a = b) : ∀ {l : List α}, l.Nodup → (l.map f).Nodup
  | [], _ => List.nodup_nil
  | a :: l, h => by
    rw [List.nodup_cons] at h
    rw [List.map_cons, List.nodup_cons]
    refine ⟨fun z => ?_, map_nodup hf h.2⟩
    obtain ⟨b, hb, e⟩ := List.mem_map.mp z
    rw [hf _ _ e] at hb
    exact h.1 hb
theorem filter_nodup {α : Type} (f : α → Bool) {l : List α} (h : l.Nodup) : (l.filter f).Nodup := List.Pairwise.filter f h
theorem turns_spec {p m : Nat} (hp : Prm p) (hm : ¬ p ∣ m) {told : List Nat} (h1 : told.Nodup) (h2 : ∀ x, x ∈ told ↔ x ∣ m) : ∀ t, (turnsN p told t).1.Nodup ∧ (∀ x, x ∈ (turnsN p told t).1 ↔ x ∣ m * p ^ t) ∧ (turnsN p told t).2 = told.map fun d => p ^ t * d
  | 0 => by
    refine ⟨h1, fun x => by rw [Nat.pow_zero, Nat.mul_one]; exact h2 x, ?_⟩
    show told = _
    simp
  | t + 1 => by
    obtain ⟨a1, a2, a3⟩ := turns_spec hp hm h1 h2 t
    have hmore : (turnsN p told (t + 1)).2 = told.map fun d => p ^ (t + 1) * d := by
      show (turnsN p told t).2.map (fun d => p * d) = _
      rw [a3, List.map_map]
      refine List.map_congr_left fun d _ => ?_
      show p * (p ^ t * d) = _
      rw [Nat.pow_succ, Nat.mul_comm (p ^ t) p, Nat.mul_assoc]
    have hmore' : ((turnsN p told t).2.map fun d => p * d) = told.map fun d => p ^ (t + 1) * d := hmore
    have hpos : 0 < p ^ (t + 1) := Nat.pow_pos (by have := hp.1; omega)
    refine ⟨?_, fun x => ?_, hmore⟩
    · show ((turnsN p told t).1 ++ ((turnsN p told t).2.map fun d => p * d).filter fun d => !decide (d ∈ (turnsN p told t).1)).Nodup
      rw [hmore', List.nodup_append]
      refine ⟨a1, filter_nodup _ (map_nodup (fun a b e => Nat.eq_of_mul_eq_mul_left hpos e) h1), fun a ha b hb e => ?_⟩
      subst e
      have := (List.mem_filter.mp hb).2
      rw [decide_eq_true ha] at this
      exact absurd this (by decide)
    · show x ∈ ((turnsN p told t).1 ++ ((turnsN p told t).2.map fun d => p * d).filter fun d => !decide (d ∈ (turnsN p told t).1)) ↔ _
      rw [hmore', List.mem_append, List.mem_filter, List.mem_map, dvd_mul_pow hp hm]
      constructor
      · rintro (h | ⟨⟨d, hd, rfl⟩, _⟩)
        · obtain ⟨j, d', b1, b2, b3⟩ := (dvd_mul_pow hp hm t x).mp ((a2 x).mp h)
          exact ⟨j, d', by omega, b2, b3⟩
        · exact ⟨t + 1, d, Nat.le_refl _, (h2 d).mp hd, rfl⟩
      · rintro ⟨j, d', b1, b2, rfl⟩
        by_cases hx : p ^ j * d' ∈ (turnsN p told t).1
        · exact .inl hx
        · refine .inr ⟨?_, by rw [decide_eq_false hx]; rfl⟩
          have hj : j = t + 1 := by
            refine Nat.le_antisymm b1 (Nat.lt_of_not_le fun z => hx ((a2 _).mpr ?_))
            exact (dvd_mul_pow hp hm t _).mpr ⟨j, d', z, b2, rfl⟩
          subst hj
          exact ⟨d', (h2 d').mpr b2, rfl⟩
theorem all_spec : ∀ (rows : List (Nat × Nat)) (told : List Nat) (m : Nat), (∀ r ∈ rows, Prm r.1) → rows.Pairwise (fun a b => a.1 < b.1) → (∀ r ∈ rows, ¬ r.1 ∣ m) → told.Nodup → (∀ x, x ∈ told ↔ x ∣ m) →
    (rows.foldl allStep told).Nodup ∧ ∀ x, x ∈ rows.foldl allStep told ↔ x ∣ m * prodR rows
  | [], told, m, _, _, _, h4, h5 => ⟨h4, fun x => by
    show x ∈ told ↔ x ∣ m * 1
    rw [Nat.mul_one]
    exact h5 x⟩
  | r :: rows, told, m, h1, h2, h3, h4, h5 => by
    have hp := h1 r (List.mem_cons_self ..)
    rw [List.pairwise_cons] at h2
    obtain ⟨a1, a2, _⟩ := turns_spec hp (h3 r (List.mem_cons_self ..)) h4 h5 r.2
    have := all_spec rows (allStep told r) (m * r.1 ^ r.2) (fun q hq => h1 q (List.mem_cons_of_mem _ hq)) h2.2 (fun q hq z => ?_) a1 a2
    · rw [List.foldl_cons]
      refine ⟨this.1, fun x => ?_⟩
      rw [this.2 x]
      show x ∣ m * r.1 ^ r.2 * prodR rows ↔ x ∣ m * (r.1 ^ r.2 * prodR rows)
      rw [Nat.mul_assoc]
    · have hq1 := h1 q (List.mem_cons_of_mem _ hq)
      have lt := h2.1 q hq
      have c : Nat.Coprime q.1 (r.1 ^ r.2) := Nat.Coprime.pow_right _ (prm_cop hq1 fun d => by
        rcases hp.2 _ d with e | e
        · have := hq1.1
          omega
        · omega)
      exact h3 q (List.mem_cons_of_mem _ hq) (c.dvd_of_dvd_mul_right z)
theorem allN_spec {n : Nat} (h0 : 0 < n) (h64 : n < 2 ^ 64) : (allN n).Nodup ∧ ∀ x, x ∈ allN n ↔ x ∣ n := by
  obtain ⟨⟨p, hr1, hr2⟩, hprod⟩ := parted_spec h0 h64
  have := all_spec (partedN n) [1] 1 (fun r hr => (hr1 r hr).1) hr2 (fun r hr z => by
    have := Nat.le_of_dvd (by decide) z
    have := (hr1 r hr).1.1
    omega) (by simp) (fun x => by rw [List.mem_singleton, Nat.dvd_one])
  rw [hprod, Nat.one_mul] at this
  exact this
def lowN (n : Nat) : List Nat := ((List.range (PySem.Float64.isqrt n)).filter fun i => decide (n % (1 + i) = 0)).map fun i => 1 + i
def highN (n : Nat) : List Nat := ((lowN n).reverse.filter fun d => !decide (d * d = n)).map fun d => n / d
def divN (n : Nat) : List Nat := lowN n ++ highN n
theorem low_mem (n x : Nat) : x ∈ lowN n ↔ 0 < x ∧ x ≤ PySem.Float64.isqrt n ∧ x ∣ n := by
  unfold lowN
  rw [List.mem_map]
  constructor
  · rintro ⟨i, hi, rfl⟩
    rw [List.mem_filter, List.mem_range, decide_eq_true_iff] at hi
    exact ⟨by omega, by omega, Nat.dvd_of_mod_eq_zero hi.2⟩
  · rintro ⟨h1, h2, h3⟩
    refine ⟨x - 1, ?_, by omega⟩
    rw [List.mem_filter, List.mem_range, decide_eq_true_iff]
    refine ⟨by omega, ?_⟩
    rw [show 1 + (x - 1) = x by omega]
    exact Nat.mod_eq_zero_of_dvd h3
theorem pairwise_map_of {α β : Type} {R : α → α → Prop} {S : β → β → Prop} {f : α → β} (h : ∀ a b, R a b → S (f a) (f b)) {l : List α} (hl : l.Pairwise R) : (l.map f).Pairwise S := by
  rw [List.pairwise_map]
  exact hl.imp fun {a b} r => h a b r
theorem low_pw (n : Nat) : (lowN n).Pairwise (· < ·) := pairwise_map_of (R := (· < ·)) (fun a b h => by omega) (List.Pairwise.filter _ List.pairwise_lt_range)
theorem div_mem {n : Nat} (h0 : 0 < n) (x : Nat) : x ∈ divN n ↔ x ∣ n := by
  obtain ⟨r1, r2⟩ := isqrt_ok n
  unfold divN highN
  rw [List.mem_append, low_mem, List.mem_map]
  constructor
  · rintro (⟨_, _, h⟩ | ⟨d, hd, rfl⟩)
    · exact h
    · rw [List.mem_filter, List.mem_reverse, low_mem] at hd
      exact Nat.div_dvd_of_dvd hd.1.2.2
  · intro h
    have x0 : 0 < x := Nat.pos_of_dvd_of_pos h h0
    by_cases hx : x ≤ PySem.Float64.isqrt n
    · exact .inl ⟨x0, hx, h⟩
    · refine .inr ⟨n / x, ?_, Nat.div_div_self h (by omega)⟩
      obtain ⟨k, rfl⟩ := h
      rw [Nat.mul_div_cancel_left k x0, List.mem_filter, List.mem_reverse, low_mem]
      have k0 : 0 < k := Nat.pos_of_ne_zero fun z => by
        rw [z, Nat.mul_zero] at h0
        omega
      refine ⟨⟨k0, Nat.le_of_not_lt fun z => ?_, ⟨x, Nat.mul_comm x k⟩⟩, ?_⟩
      · have := Nat.mul_le_mul (show PySem.Float64.isqrt (x * k) + 1 ≤ x by omega) (show PySem.Float64.isqrt (x * k) + 1 ≤ k by omega)
        omega
      · rw [decide_eq_false]
        · rfl
        · intro e
          have : k = x := Nat.eq_of_mul_eq_mul_right k0 e
          subst this
          have := Nat.mul_le_mul (show PySem.Float64.isqrt (k * k) + 1 ≤ k by omega) (show PySem.Float64.isqrt (k * k) + 1 ≤ k by omega)
          omega
theorem div_anti {n a b : Nat} (h0 : 0 < n) (ha : a ∣ n) (hb : b ∣ n) (h : a < b) : n / b < n / a := by
  obtain ⟨k, rfl⟩ := ha
  obtain ⟨j, e⟩ := hb
  have a0 : 0 < a := Nat.pos_of_ne_zero fun z => by
    rw [z, Nat.zero_mul] at h0
    omega
  rw [Nat.mul_div_cancel_left k a0, e, Nat.mul_div_cancel_left j (by omega)]
  refine Nat.lt_of_not_le fun z => ?_
  have k0 : 0 < k := Nat.pos_of_ne_zero fun y => by
    rw [y, Nat.mul_zero] at h0
    omega
  have h1 : a * k < b * k := Nat.mul_lt_mul_of_pos_right h k0
  have h2 := Nat.mul_le_mul_left b z
  omega
theorem div_pw {n : Nat} (h0 : 0 < n) : (divN n).Pairwise (· < ·) := by
  obtain ⟨r1, r2⟩ := isqrt_ok n
  unfold divN highN
  rw [List.pairwise_append]
  refine ⟨low_pw n, ?_, fun a ha b hb => ?_⟩
  · rw [List.pairwise_map]
    refine List.Pairwise.filter _ ?_
    rw [List.pairwise_reverse]
    exact List.Pairwise.imp_of_mem (fun {a b} ha hb h => div_anti h0 ((low_mem n a).mp ha).2.2 ((low_mem n b).mp hb).2.2 h) (low_pw n)
  · obtain ⟨d, hd, rfl⟩ := List.mem_map.mp hb
    rw [List.mem_filter, List.mem_reverse, low_mem] at hd
    rw [low_mem] at ha
    obtain ⟨⟨d0, d1, k, hk⟩, d3⟩ := hd
    have hkk : n / d = k := by rw [hk, Nat.mul_div_cancel_left k d0]
    rw [hkk]
    refine Nat.lt_of_not_le fun z => ?_
    have e1 : k ≤ PySem.Float64.isqrt n := by omega
    have e2 := Nat.mul_le_mul d1 e1
    have e3 : d * k = n := hk.symm
    have e4 : n = PySem.Float64.isqrt n * PySem.Float64.isqrt n := by omega
    have e5 : d = PySem.Float64.isqrt n := Nat.le_antisymm d1 (Nat.le_of_not_lt fun y => by
      have y1 : d * k ≤ d * PySem.Float64.isqrt n := Nat.mul_le_mul_left d e1
      have y2 : d * PySem.Float64.isqrt n < PySem.Float64.isqrt n * PySem.Float64.isqrt n := Nat.mul_lt_mul_of_pos_right y (by omega)
      omega)
    have e6 : d * d = n := by rw [e5]; exact e4.symm
    rw [decide_eq_true e6] at d3
    exact absurd d3 (by decide)
theorem strict_uniq : ∀ {a b : List Int}, a.Pairwise (· < ·) → b.Pairwise (· < ·) → (∀ x, x ∈ a ↔ x ∈ b) → a = b
  | [], [], _, _, _ => rfl
  | [], y :: b, _, _, h => absurd ((h y).mpr (List.mem_cons_self ..)) (by simp)
  | x :: a, [], _, _, h => absurd ((h x).mp (List.mem_cons_self ..)) (by simp)
  | x :: a, y :: b, ha, hb, h => by
    rw [List.pairwise_cons] at ha hb
    have e : x = y := by
      rcases List.mem_cons.mp ((h x).mp (List.mem_cons_self ..)) with e | m
      · exact e
      · rcases List.mem_cons.mp ((h y).mpr (List.mem_cons_self ..)) with e | m2
        · exact e.symm
        · have := hb.1 x m
          have := ha.1 y m2
          omega
    subst e
    congr 1
    refine strict_uniq ha.2 hb.2 fun z => ⟨fun hz => ?_, fun hz => ?_⟩
    · rcases List.mem_cons.mp ((h z).mp (List.mem_cons_of_mem _ hz)) with e | m
      · have := ha.1 z hz
        omega
      · exact m
    · rcases List.mem_cons.mp ((h z).mpr (List.mem_cons_of_mem _ hz)) with e | m
      · have := hb.1 z hz
        omega
      · exact m
def castI (l : List Nat) : List Int := l.map fun d : Nat => (d : Int)
theorem sorted_all {n : Nat} (h0 : 0 < n) (h64 : n < 2 ^ 64) {ns : List Int} (hp : ns.Perm (castI (allN n))) (hs : ns.Pairwise (· ≤ ·)) : ns = castI (divN n) := by
  obtain ⟨a1, a2⟩ := allN_spec h0 h64
  have nd : ns.Nodup := hp.nodup_iff.mpr (map_nodup (fun a b e => by omega) a1)
  refine strict_uniq ?_ (pairwise_map_of (R := (· < ·)) (fun a b h => by omega) (div_pw h0)) fun x => ?_
  · exact (List.Pairwise.and hs nd).imp fun {a b} h => by
      have := h.1
      have := h.2
      omega
  · rw [hp.mem_iff]
    unfold castI
    rw [List.mem_map, List.mem_map]
    constructor
    · rintro ⟨d, hd, rfl⟩
      exact ⟨d, (div_mem h0 d).mpr ((a2 d).mp hd), rfl⟩
    · rintro ⟨d, hd, rfl⟩
      exact ⟨d, (a2 d).mpr ((div_mem h0 d).mp hd), rfl⟩

/-! ### their readings -/
theorem len_le_of_sub : ∀ {a b : List Nat}, a.Nodup → (∀ x, x ∈ a → x ∈ b) → a.length ≤ b.length
  | [], _, _, _ => Nat.zero_le _
  | x :: a, b, h1, h2 => by
    rw [List.nodup_cons] at h1
    have hx := h2 x (List.mem_cons_self ..)
    have := len_le_of_sub (a := a) (b := b.erase x) h1.2 fun y hy => by
      have hne : y ≠ x := fun e => h1.1 (e ▸ hy)
      exact (List.mem_erase_of_ne hne).mpr (h2 y (List.mem_cons_of_mem _ hy))
    rw [List.length_erase_of_mem hx] at this
    have pos : 0 < b.length := List.length_pos_of_mem hx
    rw [List.length_cons]
    omega
theorem sq1000 {n : Nat} (h : n ≤ 1000000) : Float64.isqrt n ≤ 1000 := by
  refine Nat.le_of_not_lt fun z => ?_
  have := (isqrt_ok n).1
  have := Nat.mul_le_mul (show 1001 ≤ Float64.isqrt n by omega) (show 1001 ≤ Float64.isqrt n by omega)
  omega
theorem low_len {n : Nat} (h : n ≤ 1000000) : (lowN n).length ≤ 1000 := by
  unfold lowN
  rw [List.length_map]
  have h1 := List.length_filter_le (fun i => decide (n % (1 + i) = 0)) (List.range (Float64.isqrt n))
  rw [List.length_range] at h1
  have := sq1000 h
  omega
theorem high_len {n : Nat} (h : n ≤ 1000000) : (highN n).length ≤ 1000 := by
  unfold highN
  rw [List.length_map]
  have h1 := List.length_filter_le (fun d => !decide (d * d = n)) (lowN n).reverse
  rw [List.length_reverse] at h1
  have := low_len h
  omega
theorem div_len {n : Nat} (h : n ≤ 1000000) : (divN n).length ≤ 2000 := by
  unfold divN
  rw [List.length_append]
  have := low_len h
  have := high_len h
  omega
theorem castI_filter (f : Nat → Bool) (g : Int → Bool) (h : ∀ d : Nat, g (d : Int) = f d) : ∀ l : List Nat, (castI l).filter g = castI (l.filter f)
  | [] => rfl
  | d :: l => by
    show ((d : Int) :: castI l).filter g = _
    rw [List.filter_cons, List.filter_cons, h, castI_filter f g h l]
    split <;> rfl
theorem castI_len (l : List Nat) : (castI l).length = l.length := by
  unfold castI
  rw [List.length_map]
theorem castI_rev (l : List Nat) : (castI l).reverse = castI l.reverse := by
  unfold castI
  rw [List.map_reverse]
theorem castI_mem {l : List Nat} {x : Int} (h : x ∈ castI l) : ∃ d, d ∈ l ∧ x = (d : Int) := by
  obtain ⟨d, h1, h2⟩ := List.mem_map.mp h
  exact ⟨d, h1, h2.symm⟩
theorem castI_in (l : List Nat) (d : Nat) : ((d : Int) ∈ castI l) ↔ d ∈ l := by
  constructor
  · intro h
    obtain ⟨e, h1, h2⟩ := castI_mem h
    have : d = e := by omega
    rw [this]
    exact h1
  · intro h
    exact List.mem_map.mpr ⟨d, h, rfl⟩
/- divisors: slots 0 n, 1 low, 2 high, 3 d; calls  -/
abbrev s_divisors : Stmt := topS 10
theorem sc_divisors : FnScope ["n", "low", "high", "d"] ["n"] (defScope s_divisors) := ⟨rfl, rfl, rfl, by decide +kernel, rfl, by decide +kernel, by decide +kernel⟩

def spDivs : Sp := fun vs H Q _ => ∃ n : Nat, vs = [.int (n : Nat)] ∧ 1 ≤ n ∧ n ≤ 1000000 ∧ RetL ((castI (divN n)).map V.int) H Q
section
variable {P : Program} {w : World} {K : PySem.W.Frag} {mg : Str → Option Value} {base : Heap}
theorem cal_divisors (nb : Nb mg) (nb_isqrt : mg "isqrt" = some (.builtin "math.isqrt")) (d : Dfn K mg "divisors" ["n"] s_divisors) : Cal P w K mg base CX0 "divisors" 1 ["n"] spDivs := by
  refine d.cal sc_divisors (fun vs H Q E h => ?_) (fun f cdv A outer s H vs Q E hr h => ?_)
  · obtain ⟨a, rfl, _⟩ := h
    rfl
  · obtain ⟨n, rfl, n1, n2, q⟩ := h
    refine ⟨_, (pss_cons (ps_setLc (i := 1) (own := [("d", 3)]) (g := gName 3) (by rfl) sc_divisors.nd rfl rfl (sw_true rfl rfl rfl (by decide +kernel)) (pi_range2 (by rfl) nb.range (pa_cons pe_int (pa_cons (pe_op op_add (pe_callBfun cr_isqrt (by rfl) nb_isqrt (pa_cons (pv 0) pa_nil)) pe_int) pa_nil))) (blkOk_by (N := ["n", "low", "high", "d"]) (sc := defScope s_divisors) (by decide +kernel)) (fun _ _ _ _ _ => (pg_name (i := 3) sc_divisors.nd rfl (Or.inl rfl))) (fun _ _ _ _ _ => pts_one (pt_cmpR op_eq (pe_op op_mod (pv 0) (pv 3)) pe_int (nomark _))) (fun _ _ _ _ _ => (pv 3)))
      (pss_cons (ps_setLc (i := 2) (own := [("d", 3)]) (g := gName 3) (by rfl) sc_divisors.nd rfl rfl (sw_true rfl rfl rfl (by decide +kernel)) (pi_reversed (by rfl) nb.reversed (pa_cons (pv 1) pa_nil)) (blkOk_by (N := ["n", "low", "high", "d"]) (sc := defScope s_divisors) (by decide +kernel)) (fun _ _ _ _ _ => (pg_name (i := 3) sc_divisors.nd rfl (Or.inl rfl))) (fun _ _ _ _ _ => pts_one (pt_cmpR op_ne (pe_op op_mulW (pv 3) (pv 3)) (pv 0) (nomark _))) (fun _ _ _ _ _ => (pe_op op_fdivW (pv 0) (pv 3))))
      (pss_one (ps_ret (pe_op op_cat (pv 1) (pv 2)))))), ?_⟩
    have hsq := sq1000 n2
    refine q_asgL (xs := (castI (lowN n)).map V.int) (el_is (el_lcR2 (lo := 1) (hi := (Float64.isqrt n : Int) + 1) (fun i => decide (n % (1 + i) = 0)) (fun i => .int (1 + (i : Int))) (ea_cons ev_c (ea_cons (ev_add (ev_isqrt (ev_var rfl) (by omega)) ev_c) ea_nil)) (by omega) (fun _ => rfl) (fun i H1 e1 hi => ?_) (fun i H1 e1 hi hf => ev_var rfl)) ?_) fun a H1 na e1 h1 => ?_
    · refine et_is (et_test (ev_eqI (ev_mod (i := (n : Int)) (j := 1 + (i : Int)) (ev_var rfl) (ev_var rfl) (by omega)) ev_c)) ?_
      rw [Bool.eq_iff_iff, decide_eq_true_iff, decide_eq_true_iff]
      have : ((n % (1 + i) : Nat) : Int) = (n : Int) % (1 + (i : Int)) := by
        rw [Int.natCast_emod]
        rfl
      omega
    · rw [show ((Float64.isqrt n : Int) + 1 - 1).toNat = Float64.isqrt n by omega]
      unfold castI lowN
      rw [List.map_map, List.map_map]
      refine List.map_congr_left fun i _ => ?_
      show V.int (1 + (i : Int)) = V.int ((1 + i : Nat) : Int)
      congr 1
    refine q_asgL (xs := (castI (highN n)).map V.int) (el_is (el_lcV (ns := castI (lowN n)) (fun x => !decide (x * x = (n : Int))) (fun x => .int ((n : Int) / x)) (by one_place) (SqL.of h1) (by rw [castI_len]; have := low_len n2; omega) (fun _ => rfl) (fun r H2 e2 hr => ?_) (fun r H2 e2 hr hf => ?_)) ?_) fun b H2 nb' e2 h2 => ?_
    · obtain ⟨x, hx, rfl⟩ := castI_mem hr
      have hx2 := (low_mem n x).mp hx
      exact et_test (ev_neI (ev_mul (ev_var rfl) (ev_var rfl) (mulW (by omega) (by omega))) (ev_var rfl))
    · obtain ⟨x, hx, rfl⟩ := castI_mem hr
      have hx2 := (low_mem n x).mp hx
      exact ev_div (ev_var rfl) (ev_var rfl) (divW (by omega) (by omega))
    · rw [castI_rev, castI_filter (fun d => !decide (d * d = n)) _ fun d => by
        rw [Bool.eq_iff_iff, Bool.not_eq_true', Bool.not_eq_true', decide_eq_false_iff_not, decide_eq_false_iff_not]
        constructor
        · intro h e
          exact h (by exact_mod_cast e)
        · intro h e
          exact h (by exact_mod_cast e)]
      unfold castI highN
      rw [List.map_map, List.map_map, List.map_map]
      refine List.map_congr_left fun i _ => ?_
      show V.int ((n : Int) / (i : Int)) = V.int ((n / i : Nat) : Int)
      rw [Int.natCast_ediv]
    refine s_retL (xs := (castI (divN n)).map V.int) (el_is (el_cat2 (ev_var rfl) (e2 _ _ h1) (ev_var rfl) h2 (by rw [List.length_map, List.length_map, castI_len, castI_len]; have := low_len n2; have := high_len n2; omega)) ?_) fun p H3 np e3 hp => q.go (e1.trans e2) np e3 hp
    unfold divN castI
    rw [List.map_append, List.map_append]
end

/- cosine_polys: slots 0 n, 1 d; calls divisors, cosine_poly -/
abbrev s_cosine_polys : Stmt := topS 23
theorem sc_cosine_polys : FnScope ["n", "d"] ["n"] (defScope s_cosine_polys) := ⟨rfl, rfl, rfl, by decide +kernel, rfl, by decide +kernel, by decide +kernel⟩

def cosRows (n : Nat) : List (Int × List Int) := (castI (dvL n)).map fun d => (d, cosF d.toNat)
def spCps : Sp := fun vs H Q _ => ∃ n : Nat, vs = [.int (n : Nat)] ∧ 1 ≤ n ∧ n ≤ 60 ∧ RetRws (cosRows n) H Q
theorem divN_eq {n : Nat} (h : 1 ≤ n) : divN n = dvL n := rise_uniq (div_pw (by omega)) (dvL_rise n) fun x => by rw [div_mem (by omega), dvL_mem h]
theorem dvL_len (n : Nat) : (dvL n).length ≤ n := by
  unfold dvL dvs
  rw [List.length_map]
  have := List.length_filter_le (fun i => decide (n % (i + 1) = 0)) (List.range n)
  rw [List.length_range] at this
  exact this
theorem castI_dv {n : Nat} (h1 : 1 ≤ n) {x : Int} (hx : x ∈ castI (dvL n)) : ∃ d : Nat, x = (d : Int) ∧ 1 ≤ d ∧ d ≤ n := by
  obtain ⟨d, hd, rfl⟩ := castI_mem hx
  have hd := (dvL_mem h1).mp hd
  exact ⟨d, rfl, Nat.pos_of_dvd_of_pos hd (by omega), Nat.le_of_dvd (by omega) hd⟩
section
variable {P : Program} {w : World} {K : PySem.W.Frag} {mg : Str → Option Value} {base : Heap}
theorem cal_cps62 (nb : Nb mg) (c_divisors : Cal P w K mg base CX0 "divisors" 1 ["n"] spDivs) (c_cosine_poly : Cal P w K mg base CX0 "cosine_poly" 6 ["n"] spCp) (d : Dfn K mg "cosine_polys" ["n"] s_cosine_polys) : Cal P w K mg base CX0 "cosine_polys" 7 ["n"] spCps := by
  refine d.cal sc_cosine_polys (fun vs H Q E h => ?_) (fun fa cdv A outer s H vs Q E hr h => ?_)
  · obtain ⟨n, rfl, _⟩ := h
    rfl
  · obtain ⟨n, rfl, n1, n2, q⟩ := h
    refine ⟨_, (pss_one (ps_ret (pe_lc (own := [("d", 1)]) (g := gName 1) (tt := tYes) (by rfl) sc_cosine_polys.nd (pi_list (pe_cal c_divisors (hr.mono (by first | decide | omega)) (by rfl) pass0 (pa_cons (pv 0) pa_nil))) (blkOk_by (N := ["n", "d"]) (sc := defScope s_cosine_polys) (by decide +kernel)) (fun _ _ _ _ _ => (pg_name (i := 1) sc_cosine_polys.nd rfl (Or.inl rfl))) (fun _ _ _ _ _ => pts_nil) (fun _ _ _ _ _ => (pe_tup (pa_cons (pv 1) (pa_cons (pe_cal c_cosine_poly (hr.mono (by first | decide | omega)) (by rfl) pass0 (pa_cons (pv 1) pa_nil)) pa_nil))))))), ?_⟩
    refine (evR_lc (ns := castI (dvL n)) (fun d => cosF d.toNat) (el_cal (by one_place) fun H5 e5 Q k E => ⟨n, rfl, n1, by omega, by rw [divN_eq n1]; exact k⟩) (by rw [castI_len]; have := dvL_len n; omega) (fun _ => rfl) fun r H1 e1 hr => ?_) H (Ex.refl H) _ fun p ts H2 np e2 h2 R => q.go (Ex.refl H) np e2 h2 R
    obtain ⟨d, rfl, d1, d2⟩ := castI_dv n1 hr
    exact ⟨by one_place, el_cal (by one_place) fun H5 e5 Q k E => ⟨d, rfl, d1, by omega, by rw [Int.toNat_natCast] at k; exact k⟩⟩
end

/- _law_mix: slots 0 _law_cell, 1 _law_k, 2 _law_time, 3 _law_number; calls  -/
abbrev s__law_mix : Stmt := topS 28
theorem sc__law_mix : FnScope ["_law_cell", "_law_k", "_law_time", "_law_number"] ["_law_cell", "_law_k"] (defScope s__law_mix) := ⟨rfl, rfl, rfl, by decide +kernel, rfl, by decide +kernel, by decide +kernel⟩

/-- the law's own mixing of a cell -/
def divs : Nat → Int → Int
  | 0, c => c
  | n + 1, c => divs n c / 1000000
def mix0 (c k : Int) : Int := (c % 1000003 + k * k * 7919 + k) * 48271 % 2147483629
def mix1 (c k : Int) : Int := mix0 c k * mix0 c k % 2147483587
def mix (c k : Int) : Int := if 1000000000000000000 ≤ c then divs k.toNat (c % (1000000000000000000000000000000000000000000000000000000000000 : Int) ^ 20) % 1000000 else mix1 c k * (mix1 c k + 2) % 2147483579 / 7
theorem mix_nn (c k : Int) : 0 ≤ mix c k := by
  unfold mix
  split
  · omega
  · omega
theorem mix_le (c k : Int) : mix c k ≤ 306783369 := by
  unfold mix
  split
  · omega
  · omega
def spMix : Sp := fun vs H Q _ => ∃ c k : Int, vs = [.int c, .int k] ∧ 0 ≤ k ∧ k ≤ 100 ∧ RetV (.int (mix c k)) H Q
section
variable {P : Program} {w : World} {K : PySem.W.Frag} {mg : Str → Option Value} {base : Heap}
theorem cal_mix (nb : Nb mg) (d : Dfn K mg "_law_mix" ["_law_cell", "_law_k"] s__law_mix) : Cal P w K mg base CX0 "_law_mix" 1 ["_law_cell", "_law_k"] spMix := by
  refine d.cal sc__law_mix (fun vs H Q E h => ?_) (fun f cdv A outer s H vs Q E hr h => ?_)
  · obtain ⟨c, k, rfl, _⟩ := h
    rfl
  · obtain ⟨c, k, rfl, h0, h1, q⟩ := h
    refine ⟨_, (pss_cons (ps_if (pt_cmpR op_ge (pv 0) (pe_op op_powW pe_int pe_int) (nomark _)) (pss_cons (ps_set (i := 0) sc__law_mix.nd rfl (.inl rfl) (pe_op op_mod (pv 0) (pe_op op_powW (pe_op op_powW pe_int pe_int) pe_int)))
      (pss_cons (ps_for PassesOwn.never rfl (pi_range1 (by rfl) nb.range (pa_cons (pv 1) pa_nil)) (pg_name (i := 2) sc__law_mix.nd rfl (.inl rfl)) (pss_one (ps_set (i := 0) sc__law_mix.nd rfl (.inl rfl) (pe_op op_fdivW (pv 0) (pe_op op_powW pe_int pe_int)))))
      (pss_one (ps_ret (pe_op op_mod (pv 0) (pe_op op_powW pe_int pe_int)))))) pss_nil)
      (pss_cons (ps_set (i := 3) sc__law_mix.nd rfl (.inl rfl) (pe_op op_mod (pe_op op_mulW (pe_op op_add (pe_op op_add (pe_op op_mod (pv 0) pe_int) (pe_op op_mulW (pe_op op_mulW (pv 1) (pv 1)) pe_int)) (pv 1)) pe_int) pe_int))
      (pss_cons (ps_set (i := 3) sc__law_mix.nd rfl (.inl rfl) (pe_op op_mod (pe_op op_mulW (pv 3) (pv 3)) pe_int))
      (pss_one (ps_ret (pe_op op_fdivW (pe_op op_mod (pe_op op_mulW (pv 3) (pe_op op_add (pv 3) pe_int)) pe_int) pe_int)))))), ?_⟩
    refine q_when (b := decide (1000000000000000000 ≤ c)) (by one_place) (fun hb H1 e1 => ?_) (fun hb H1 e1 => ?_)
    · refine q_asg (v := .int (c % (1000000000000000000000000000000000000000000000000000000000000 : Int) ^ 20)) (ev_mod (by one_place) (ev_pow (i := 1000000000000000000000000000000000000000000000000000000000000) (ev_pow (i := 10) (by one_place) (by one_place) ⟨by decide, by decide +kernel⟩ (by rfl)) (by one_place) ⟨by decide, by decide +kernel⟩ rfl) (Int.pow_pos (by decide))) fun H2 e2 => ?_
      refine q_forR1 (n := k) (by one_place) (by omega) (fun i σ' H' => ∃ x, σ' = [some (.int (divs i (c % (1000000000000000000000000000000000000000000000000000000000000 : Int) ^ 20))), some (.int k), x, none] ∧ Ex H H') (fun H3 e3 => ⟨none, rfl, (e1.trans e2).trans e3⟩) (fun i σ' H' hi hp => ?_) (fun σ' H' hp => ?_)
      · obtain ⟨x, rfl, e4⟩ := hp
        refine s_asg (v := .int (divs (i + 1) (c % (1000000000000000000000000000000000000000000000000000000000000 : Int) ^ 20))) (ev_is (by one_place) rfl) fun H5 e5 => ⟨_, rfl, e4.trans e5⟩
      · obtain ⟨x, rfl, e4⟩ := hp
        refine s_ret (v := .int (mix c k)) (ev_is (by one_place) ?_) fun H5 e5 => q _ (e4.trans e5)
        unfold mix
        rw [if_pos (of_decide_eq_true hb)]
    · have b0 : 0 ≤ mix0 c k := by
        unfold mix0
        omega
      have b1 : mix0 c k < 2147483629 := by
        unfold mix0
        omega
      have b2 : 0 ≤ mix1 c k := by
        unfold mix1
        omega
      have b3 : mix1 c k < 2147483587 := by
        unfold mix1
        omega
      have b4 : 0 ≤ k * k := Int.mul_nonneg h0 h0
      have b5 : k * k ≤ 100 * 100 := Int.mul_le_mul h1 h1 h0 (by decide)
      refine q_asg (v := .int (mix0 c k)) (by one_place) fun H2 e2 => ?_
      refine q_asg (v := .int (mix1 c k)) (by one_place) fun H3 e3 => ?_
      refine s_ret (v := .int (mix c k)) (ev_is (by one_place) ?_) fun H5 e5 => q _ (((e1.trans e2).trans e3).trans e5)
      unfold mix
      rw [if_neg (of_decide_eq_false hb)]
end

section
variable {P : Program} {w : World} {K : PySem.W.Frag} {mg : Str → Option Value} {base : Heap}
end
section
variable {P : Program} {w : World} {K : PySem.W.Frag} {mg : Str → Option Value} {base : Heap}
end
/- _law_divisors: slots 0 _law_n_here, 1 _law_d; calls  -/
abbrev s__law_divisors : Stmt := topS 35
theorem sc__law_divisors : FnScope ["_law_n_here", "_law_d"] ["_law_n_here"] (defScope s__law_divisors) := ⟨rfl, rfl, rfl, by decide +kernel, rfl, by decide +kernel, by decide +kernel⟩

section
variable {P : Program} {w : World} {K : PySem.W.Frag} {mg : Str → Option Value} {base : Heap}
def spDv62 : Sp := fun vs H Q _ => ∃ n : Nat, vs = [.int (n : Nat)] ∧ 1 ≤ n ∧ n ≤ 60 ∧ RetL ((castI (dvL n)).map V.int) H Q
theorem cal_dv62 (nb : Nb mg) (d : Dfn K mg "_law_divisors" ["_law_n_here"] s__law_divisors) : Cal P w K mg base CX0 "_law_divisors" 1 ["_law_n_here"] spDv62 := by
  refine d.cal sc__law_divisors (fun vs H Q E h => ?_) (fun fa cdv A outer s H vs Q E hr h => ?_)
  · obtain ⟨n, rfl, _⟩ := h
    rfl
  · obtain ⟨n, rfl, n1, n2, q⟩ := h
    refine ⟨_, (pss_one (ps_ret (pe_lc (own := [("_law_d", 1)]) (g := gName 1) (by rfl) sc__law_divisors.nd (pi_range2 (by rfl) nb.range (pa_cons pe_int (pa_cons (pe_op op_add (pv 0) pe_int) pa_nil))) (blkOk_by (N := ["_law_n_here", "_law_d"]) (sc := defScope s__law_divisors) (by decide +kernel)) (fun _ _ _ _ _ => (pg_name (i := 1) sc__law_divisors.nd rfl (Or.inl rfl))) (fun _ _ _ _ _ => pts_one (pt_cmpR op_eq (pe_op op_mod (pv 0) (pv 1)) pe_int (nomark _))) (fun _ _ _ _ _ => (pv 1))))), ?_⟩
    refine s_retL (xs := (castI (dvL n)).map V.int) (el_is (el_lcR2 (lo := 1) (hi := (n : Int) + 1) (fun i => decide ((n : Int) % (1 + (i : Int)) = 0)) (fun i => .int (1 + (i : Int))) (by one_place) (by omega) (fun _ => rfl) (fun i H2 e2 hi => by one_place) (fun i H2 e2 hi _ => ev_var rfl)) ?_) q
    unfold castI dvL dvs
    rw [List.map_map, List.map_map, show ((n : Int) + 1 - 1).toNat = n by omega]
    have ef : (List.range n).filter (fun i : Nat => decide ((n : Int) % (1 + (i : Int)) = 0)) = (List.range n).filter fun i : Nat => decide (n % (i + 1) = 0) := by
      congr 1
      funext i
      refine decide_eq_decide.mpr ?_
      rw [show (1 + (i : Int)) = ((i + 1 : Nat) : Int) by omega]
      omega
    rw [ef]
    refine List.map_congr_left fun i _ => ?_
    show V.int (1 + (i : Int)) = V.int ((i + 1 : Nat) : Int)
    congr 1
    omega
end


/-! ### the law's own polynomials -/
/- _law_trim: slots 0 _law_row; calls  -/
abbrev s__law_trim : Stmt := topS 29
theorem sc__law_trim : FnScope ["_law_row"] ["_law_row"] (defScope s__law_trim) := ⟨rfl, rfl, rfl, by decide +kernel, rfl, by decide +kernel, by decide +kernel⟩

section
variable {P : Program} {w : World} {K : PySem.W.Frag} {mg : Str → Option Value} {base : Heap}
theorem cal_lt62 (nb : Nb mg) (d : Dfn K mg "_law_trim" ["_law_row"] s__law_trim) : Cal P w K mg base CX0 "_law_trim" 1 ["_law_row"] (spTrim K) := by
  refine d.cal sc__law_trim (fun vs H Q E h => ?_) (fun fa cdv A outer s H vs Q E hr h => ?_)
  · obtain ⟨a, ns, rfl, _⟩ := h
    rfl
  · obtain ⟨a, ns, rfl, hS, hz, q⟩ := h
    refine ⟨_, (pss_cons (ps_set (i := 0) sc__law_trim.nd rfl (.inl rfl) (pe_callTy call_list_of (by rfl) nb.list (by decide +kernel) (pa_cons (pv 0) pa_nil)))
      (pss_cons (ps_while PassesOwn.never (PW.pt (pw_and (pt_cmpR (op_neD hr.units) (pv 0) (pe_lst pa_nil) (nomark _)) (pw_and1 (pt_cmpR op_eq (pe_ix ix_list (pv 0) (pe_un un_neg pe_int) (fun _ _ => rfl)) pe_int (nomark _))))) (pss_one (ps_expr (pe_bm0 PySem.F.plainAttrs_list PySem.F.slot_list_pop PySem.F.type_list_pop mt_pop (pv 0)))))
      (pss_one (ps_ret (pv 0))))), ?_⟩
    refine q_asgL (xs := ns.map V.int) (el_list (ev_var rfl) hS) fun r H1 nr e1 h1 => ?_
    refine q_while (fun k σ' H' => ∃ T : List Int, σ' = [some (.ref r)] ∧ k = T.length ∧ T.length ≤ ns.length ∧ trim T = trim ns ∧ Ex H H' ∧ H' r = some (.lst (T.map V.int))) ns.length ⟨ns, rfl, rfl, Nat.le_refl _, rfl, e1, h1⟩ fun k σ' H2 hW => ?_
    obtain ⟨T, rfl, hk, lT, tT, e2, h2⟩ := hW
    refine ⟨!decide (T = []) && decide (coef T (T.length - 1) = 0), et_and (et_test (ev_opL (xs := []) (ev_var rfl) (el_lst ea_nil (by decide)) fun u H3 hu e3 => rv_neI (ns := T) (ms := []) (SqL.of (e3 _ _ h2)) (SqL.of hu))) fun hb => et_test (ev_eqI (ev_op (ev_var rfl) (ev_neg ev_c) (rv_ixL (v := .int (coef T (T.length - 1))) (SqL.of h2) (atI_last ?_))) ev_c), fun hb H3 e3 => ?_, fun hb H3 e3 => ?_⟩
    · have ne : T ≠ [] := by simpa using hb
      have := List.length_pos_iff.mpr ne
      rw [List.length_map, List.getElem?_map, coef_get (by omega)]
      rfl
    · rw [Bool.and_eq_true] at hb
      have ne : T ≠ [] := by simpa using hb.1
      have z := of_decide_eq_true hb.2
      have pos := List.length_pos_iff.mpr ne
      have sp : T = T.dropLast ++ [coef T (T.length - 1)] := by
        conv => lhs; rw [← List.dropLast_concat_getLast ne]
        congr 2
        rw [List.getLast_eq_getElem, coef_lt (by omega)]
      refine ⟨_, fun σ2 H4 hN => ⟨T.length - 1, by omega, hN⟩, ?_⟩
      have h3 := e3 _ _ h2
      rw [sp, List.map_append] at h3
      refine s_pop (xs := T.dropLast.map V.int) (y := .int (coef T (T.length - 1))) h3 (ev_var rfl) fun H4 e4 => ⟨T.dropLast, rfl, by rw [List.length_dropLast], by rw [List.length_dropLast]; omega, ?_, ?_, upd_same⟩
      · rw [← tT]
        refine trim_ext fun m => ?_
        conv => rhs; rw [sp]
        rw [coef_app, List.length_dropLast, z]
        split
        · rfl
        · rw [coef_ge (by rw [List.length_dropLast]; omega)]
          cases m - (T.length - 1) with
          | zero => rfl
          | succ j => rfl
      · exact Ex.mut (e2.trans (e3.trans e4)) nr
    · have tr : trim T = T := by
        refine trim_of_tr fun ne => ?_
        rw [Bool.and_eq_false_iff] at hb
        rcases hb with hb | hb
        · have : T = [] := by simpa using hb
          exact absurd this ne
        · exact of_decide_eq_false hb
      rw [tr] at tT
      exact s_ret (v := .ref r) (by one_place) fun H4 e4 => q r H4 nr (e2.trans (e3.trans e4)) (by rw [← tT]; exact (e3.trans e4) _ _ h2)
end
/- _law_sum_of: slots 0 _law_one, 1 _law_other, 2 _law_many, 3 _law_row, 4 _law_k; calls _law_trim -/
abbrev s__law_sum_of : Stmt := topS 30
theorem sc__law_sum_of : FnScope ["_law_one", "_law_other", "_law_many", "_law_row", "_law_k"] ["_law_one", "_law_other"] (defScope s__law_sum_of) := ⟨rfl, rfl, rfl, by decide +kernel, rfl, by decide +kernel, by decide +kernel⟩

def spSo62 (K : PySem.W.Frag) : Sp := fun vs H Q _ => ∃ (a b : Addr) (f g : List Int), vs = [.ref a, .ref b] ∧ SqL K H a (f.map V.int) ∧ SqL K H b (g.map V.int) ∧ f.length ≤ 1000 ∧ g.length ≤ 1000 ∧ RetL ((addP 1 f g).map V.int) H Q
section
variable {P : Program} {w : World} {K : PySem.W.Frag} {mg : Str → Option Value} {base : Heap}
theorem ev_sum62 {σ : L2.St} {H : Hp} {te : TE} {ns : List Int} (h : EvL te σ H (ns.map V.int)) : Ev (tCB (rSum K) (tCons te tNil)) σ H (.int ns.sum) := fun H1 e Q q =>
  h H1 e _ fun p H2 np e2 hp => ⟨p, ns, rfl, SqL.of hp, q H2 e2⟩
theorem cut_one (f : List Int) (k : Nat) : ∃ l : List Int, cutV (f.map V.int) (some (k : Int)) (some ((k + 1 : Nat) : Int)) = l.map V.int ∧ l.sum = coef f k := by
  refine ⟨(f.drop (min k f.length)).take (min (k + 1) f.length - min k f.length), ?_, ?_⟩
  · unfold cutV
    rw [HT.sIx_nat, HT.sIx_nat, List.length_map, List.map_take, List.map_drop]
  · by_cases c : k < f.length
    · rw [Nat.min_eq_left (by omega), Nat.min_eq_left (by omega), show k + 1 - k = 1 by omega, List.drop_eq_getElem_cons c, coef_lt c, List.take_succ_cons, List.take_zero, List.sum_cons, List.sum_nil, Int.add_zero]
    · rw [Nat.min_eq_right (by omega), Nat.min_eq_right (by omega), Nat.sub_self, List.take_zero, coef_ge (by omega)]
      rfl
theorem cal_so62 (nb : Nb mg) (c__law_trim : Cal P w K mg base CX0 "_law_trim" 1 ["_law_row"] (spTrim K)) (d : Dfn K mg "_law_sum_of" ["_law_one", "_law_other"] s__law_sum_of) : Cal P w K mg base CX0 "_law_sum_of" 2 ["_law_one", "_law_other"] (spSo62 K) := by
  refine d.cal sc__law_sum_of (fun vs H Q E h => ?_) (fun fa cdv A outer s H vs Q E hr h => ?_)
  · obtain ⟨a, b, f, g, rfl, _⟩ := h
    rfl
  · obtain ⟨a, b, f, g, rfl, hA, hB, lf, lg, q⟩ := h
    refine ⟨_, (pss_cons (ps_set (i := 2) sc__law_sum_of.nd rfl (.inl rfl) (pe_callB (call_max2 rfl) (by rfl) nb.max (by decide +kernel) (pa_cons (pe_callB call_len_seq (by rfl) nb.len PySem.boot_len (pa_cons (pv 0) pa_nil)) (pa_cons (pe_callB call_len_seq (by rfl) nb.len PySem.boot_len (pa_cons (pv 1) pa_nil)) pa_nil))))
      (pss_cons (ps_set (i := 3) sc__law_sum_of.nd rfl (.inl rfl) (pe_op op_rep (pe_lst (pa_cons pe_int pa_nil)) (pv 2)))
      (pss_cons (ps_for PassesOwn.never rfl (pi_range1 (by rfl) nb.range (pa_cons (pv 2) pa_nil)) (pg_name (i := 4) sc__law_sum_of.nd rfl (.inl rfl)) (pss_one (ps_asg (pe_op op_add (pe_callB (cr_sum rfl) (by rfl) nb.sum (by decide +kernel) (pa_cons (pe_slice sl_list (pv 0) (po_some (pv 4)) (po_some (pe_op op_add (pv 4) pe_int))) pa_nil)) (pe_callB (cr_sum rfl) (by rfl) nb.sum (by decide +kernel) (pa_cons (pe_slice sl_list (pv 1) (po_some (pv 4)) (po_some (pe_op op_add (pv 4) pe_int))) pa_nil))) (pg_sub (pv 3) (pv 4) set_list))))
      (pss_one (ps_ret (pe_cal c__law_trim (hr.mono (by first | decide | omega)) (by rfl) pass0 (pa_cons (pv 3) pa_nil))))))), ?_⟩
    refine q_asg (v := .int ((max f.length g.length : Nat) : Int)) (ev_is (ev_max2 (i := (f.length : Int)) (j := (g.length : Int)) (ev_is (ev_len (ev_var rfl) hA) (by rw [List.length_map])) (ev_is (ev_len (ev_var rfl) hB) (by rw [List.length_map]))) (by congr 1; split <;> omega)) fun H1 e1 => ?_
    obtain ⟨m, hm⟩ : ∃ m, max f.length g.length = m := ⟨_, rfl⟩
    rw [hm]
    refine q_asgL (xs := (List.replicate m (0 : Int)).map V.int) (el_is (el_rep (k := (m : Nat)) (x := .int 0) (el_lst (by one_place) (by decide)) (ev_var rfl) (by omega) (by omega)) (by rw [List.map_replicate, Int.toNat_natCast])) fun t H2 nt e2 h2 => ?_
    have e12 := e1.trans e2
    refine q_forR1 (n := (m : Int)) (by one_place) (by omega) (fun i σ' H' => ∃ (T : List Int) (y : Option V), σ' = [some (.ref a), some (.ref b), some (.int (m : Nat)), some (.ref t), y] ∧ Ex H H' ∧ H' t = some (.lst (T.map V.int)) ∧ T.length = m ∧ ∀ j, coef T j = if j < i then coef f j + coef g j else 0)
      (fun H3 e3 => ⟨_, none, rfl, e12.trans e3, e3 _ _ h2, List.length_replicate, fun j => by rw [coef_rep, if_neg (by omega)]⟩) (fun i σ' H' hi hp => ?_) (fun σ' H' hp => ?_)
    · obtain ⟨T, y, rfl, e3, h3, lT, cT⟩ := hp
      obtain ⟨l1, c1, s1⟩ := cut_one f i
      obtain ⟨l2, c2, s2⟩ := cut_one g i
      refine s_setI (j := i) (b := coef f i + coef g i) h3 (ev_var rfl) (ev_var rfl) (by omega) (ev_is (ev_add (ev_sum62 (ns := l1) (el_is (el_sl (ev_var rfl) (eo_some (ev_var rfl)) (eo_some (ev_is (ev_add (ev_var rfl) ev_c) (show V.int ((i : Int) + 1) = V.int ((i + 1 : Nat) : Int) by rw [Int.natCast_add]; rfl))) (ex_l e3 hA)) c1)) (ev_sum62 (ns := l2) (el_is (el_sl (ev_var rfl) (eo_some (ev_var rfl)) (eo_some (ev_is (ev_add (ev_var rfl) ev_c) (show V.int ((i : Int) + 1) = V.int ((i + 1 : Nat) : Int) by rw [Int.natCast_add]; rfl))) (ex_l e3 hB)) c2))) (by rw [s1, s2])) fun H4 e4 => ⟨_, _, rfl, Ex.mut (e3.trans e4) (fresh_back e1 nt), upd_same, by rw [List.length_set]; exact lT, fun j => ?_⟩
      rw [coef_set (by omega), cT j]
      by_cases c : j = i
      · rw [if_pos c, if_pos (by omega), c]
      · rw [if_neg c]
        by_cases c2 : j < i
        · rw [if_pos c2, if_pos (by omega)]
        · rw [if_neg c2, if_neg (by omega)]
    · obtain ⟨T, y, rfl, e3, h3, lT, cT⟩ := hp
      rw [Int.toNat_natCast] at cT
      have eT : trim T = addP 1 f g := by
        unfold addP
        refine trim_ext fun j => ?_
        rw [cT j, coef_addL]
        split
        · omega
        · rw [coef_ge (l := f) (by omega), coef_ge (l := g) (by omega)]
          omega
      exact s_retL (el_cal (vs := [.ref t]) (by one_place) fun H4 e4 Q kk E => ⟨t, T, rfl, SqL.of (e4 _ _ h3), by omega, kk⟩) fun p H4 np e4 h4 => q p H4 (fresh_back e3 np) (e3.trans e4) (by rw [← eT]; exact h4)
end
/- _law_product: slots 0 _law_one, 1 _law_other, 2 _law_row, 3 _law_i, 4 _law_k; calls _law_trim -/
abbrev s__law_product : Stmt := topS 31
theorem sc__law_product : FnScope ["_law_one", "_law_other", "_law_row", "_law_i", "_law_k"] ["_law_one", "_law_other"] (defScope s__law_product) := ⟨rfl, rfl, rfl, by decide +kernel, rfl, by decide +kernel, by decide +kernel⟩

def spPd62 (K : PySem.W.Frag) : Sp := fun vs H Q _ => ∃ (a b : Addr) (f g : List Int) (n m : Nat), vs = [.ref a, .ref b] ∧ SqL K H a (f.map V.int) ∧ SqL K H b (g.map V.int) ∧ f.length ≤ 4000 ∧ g.length ≤ 1000 ∧ Bd n f ∧ Bd m g ∧ n + m ≤ 900000 ∧ RetL ((pdL f g).map V.int) H Q
section
variable {P : Program} {w : World} {K : PySem.W.Frag} {mg : Str → Option Value} {base : Heap}
/-- what stands at m when the first i of f, and of f's i-th the first j of g, are gone through -/
theorem cal_pd62 (nb : Nb mg) (c__law_trim : Cal P w K mg base CX0 "_law_trim" 1 ["_law_row"] (spTrim K)) (d : Dfn K mg "_law_product" ["_law_one", "_law_other"] s__law_product) : Cal P w K mg base CX0 "_law_product" 2 ["_law_one", "_law_other"] (spPd62 K) := by
  refine d.cal sc__law_product (fun vs H Q E h => ?_) (fun fa cdv A outer s H vs Q E hr h => ?_)
  · obtain ⟨a, b, f, g, n, m, rfl, _⟩ := h
    rfl
  · obtain ⟨a, b, f, g, n, m, rfl, hA, hB, lf, lg, bf, bg, nm, q⟩ := h
    refine ⟨_, (pss_cons (ps_set (i := 2) sc__law_product.nd rfl (.inl rfl) (pe_op op_rep (pe_lst (pa_cons pe_int pa_nil)) (pe_op op_add (pe_callB call_len_seq (by rfl) nb.len PySem.boot_len (pa_cons (pv 0) pa_nil)) (pe_callB call_len_seq (by rfl) nb.len PySem.boot_len (pa_cons (pv 1) pa_nil)))))
      (pss_cons (ps_for PassesOwn.never rfl (pi_range1 (by rfl) nb.range (pa_cons (pe_callB call_len_seq (by rfl) nb.len PySem.boot_len (pa_cons (pv 0) pa_nil)) pa_nil)) (pg_name (i := 3) sc__law_product.nd rfl (.inl rfl)) (pss_one (ps_for PassesOwn.never rfl (pi_range1 (by rfl) nb.range (pa_cons (pe_callB call_len_seq (by rfl) nb.len PySem.boot_len (pa_cons (pv 1) pa_nil)) pa_nil)) (pg_name (i := 4) sc__law_product.nd rfl (.inl rfl)) (pss_one (ps_asg (pe_op op_add (pe_ix ix_list (pv 2) (pe_op op_add (pv 3) (pv 4)) (fun _ _ => rfl)) (pe_op op_mulW (pe_ix ix_list (pv 0) (pv 3) (fun _ _ => rfl)) (pe_ix ix_list (pv 1) (pv 4) (fun _ _ => rfl)))) (pg_sub (pv 2) (pe_op op_add (pv 3) (pv 4)) set_list))))))
      (pss_one (ps_ret (pe_cal c__law_trim (hr.mono (by first | decide | omega)) (by rfl) pass0 (pa_cons (pv 2) pa_nil)))))), ?_⟩
    have hlA : ∀ {σ : L2.St} {H' : Hp}, Ex H H' → σ[0]? = some (some (.ref a)) → Ev (tCB (rLenS K) (tCons (tVar 0) tNil)) σ H' (.int (f.length : Nat)) := fun e hs => ev_is (ev_len (ev_var hs) (ex_l e hA)) (by rw [List.length_map])
    have hlB : ∀ {σ : L2.St} {H' : Hp}, Ex H H' → σ[1]? = some (some (.ref b)) → Ev (tCB (rLenS K) (tCons (tVar 1) tNil)) σ H' (.int (g.length : Nat)) := fun e hs => ev_is (ev_len (ev_var hs) (ex_l e hB)) (by rw [List.length_map])
    refine q_asgL (xs := (List.replicate (f.length + g.length) (0 : Int)).map V.int) (el_is (el_rep (k := ((f.length + g.length : Nat) : Int)) (x := .int 0) (el_lst (by one_place) (by decide)) (ev_is (ev_add (hlA (Ex.refl _) rfl) (hlB (Ex.refl _) rfl)) (by rw [Int.natCast_add])) (by omega) (by omega)) (by rw [List.map_replicate, Int.toNat_natCast])) fun t H1 nt e1 h1 => ?_
    refine q_forR1 (n := (f.length : Int)) (ea_cons (hlA e1 rfl) ea_nil) (by omega) (fun i σ' H' => ∃ (T : List Int) (y3 y4 : Option V), σ' = [some (.ref a), some (.ref b), some (.ref t), y3, y4] ∧ Ex H H' ∧ H' t = some (.lst (T.map V.int)) ∧ T.length = f.length + g.length ∧ ∀ k, coef T k = cv f g i k)
      (fun H2 e2 => ⟨_, none, none, rfl, e1.trans e2, e2 _ _ h1, List.length_replicate, fun k => by rw [coef_rep]; rfl⟩) (fun i σ' H2 hi hp => ?_) (fun σ' H2 hp => ?_)
    · obtain ⟨T, y3, y4, rfl, e2, h2, lT, cT⟩ := hp
      refine s_forR1 (n := (g.length : Int)) (ea_cons (hlB e2 rfl) ea_nil) (by omega) (fun j σ' H' => ∃ (T : List Int) (y4 : Option V), σ' = [some (.ref a), some (.ref b), some (.ref t), some (.int (i : Nat)), y4] ∧ Ex H H' ∧ H' t = some (.lst (T.map V.int)) ∧ T.length = f.length + g.length ∧ ∀ k, coef T k = cv f g i k + if i ≤ k ∧ k - i < j then coef f i * coef g (k - i) else 0)
        (fun H3 e3 => ⟨T, _, rfl, e2.trans e3, e3 _ _ h2, lT, fun k => by rw [cT k, if_neg (by omega), Int.add_zero]⟩) (fun j σ' H3 hj hp => ?_) (fun σ' H3 hp => ?_)
      · obtain ⟨T, y4, rfl, e3, h3, lT, cT⟩ := hp
        refine s_setI (j := i + j) (b := coef T (i + j) + coef f i * coef g j) h3 (ev_var rfl) (ev_is (ev_add (ev_var rfl) (ev_var rfl)) (by rw [Int.natCast_add])) (by omega) (ev_add (ev_ixI (j := i + j) (SqL.of h3) (ev_var rfl) (ev_is (ev_add (ev_var rfl) (ev_var rfl)) (by rw [Int.natCast_add])) (coef_get (by omega))) (ev_mul (ev_ixI (j := i) (ex_l e3 hA) (ev_var rfl) (ev_var rfl) (coef_get (by omega))) (ev_ixI (j := j) (ex_l e3 hB) (ev_var rfl) (ev_var rfl) (coef_get (by omega))) (mulB (bf i) (bg j) nm))) fun H4 e4 => ⟨_, _, rfl, Ex.mut (e3.trans e4) nt, upd_same, by rw [List.length_set]; exact lT, fun k => ?_⟩
        rw [coef_set (by omega)]
        by_cases c : k = i + j
        · rw [if_pos c, c, cT, if_neg (by omega), if_pos (by omega), Int.add_zero, Nat.add_sub_cancel_left]
        · rw [if_neg c, cT]
          congr 1
          by_cases c2 : i ≤ k ∧ k - i < j
          · rw [if_pos c2, if_pos (by omega)]
          · rw [if_neg c2, if_neg (by omega)]
      · obtain ⟨T, y4, rfl, e3, h3, lT, cT⟩ := hp
        rw [Int.toNat_natCast] at cT
        refine ⟨T, _, _, rfl, e3, h3, lT, fun k => ?_⟩
        rw [cT k]
        show _ = cv f g i k + if i ≤ k then coef f i * coef g (k - i) else 0
        congr 1
        by_cases c : i ≤ k
        · rw [if_pos c]
          by_cases c2 : k - i < g.length
          · rw [if_pos ⟨c, c2⟩]
          · rw [if_neg (fun z => c2 z.2), coef_ge (l := g) (by omega), Int.mul_zero]
        · rw [if_neg c, if_neg (fun z => c z.1)]
    · obtain ⟨T, y3, y4, rfl, e2, h2, lT, cT⟩ := hp
      rw [Int.toNat_natCast] at cT
      have eT : trim T = pdL f g := by
        unfold pdL
        exact trim_ext fun k => by rw [cT k, coef_mulP]
      exact s_retL (el_cal (vs := [.ref t]) (by one_place) fun H4 e4 Q kk E => ⟨t, T, rfl, SqL.of (e4 _ _ h2), by omega, kk⟩) fun p H4 np e4 h4 => q p H4 (fresh_back e2 np) (e2.trans e4) (by rw [← eT]; exact h4)
end

/-! ### lists of new lists, made of others -/
section
open RZ
variable {K : PySem.W.Frag} {σ : L2.St} {H : Hp} {te tl : TE} {D : Ends} {tu tz : TS}
/-- x = [a new list for each of a list] -/
theorem q_asgLcNL {L : Addr} {qs : List Addr} {yss : List (List V)} {i j : Nat} {vs : List Nat} (hv : Ev tl σ H (.ref L)) (hL : SqL K H L (qs.map V.ref)) (hz : qs.length ≤ 40000) (hn : yss.length = qs.length) (hw : ∀ x, wipe ((wipe σ vs).set j (some x)) vs = wipe σ vs)
    (he : ∀ (n : Nat) q ys H1, Ex H H1 → qs[n]? = some q → yss[n]? = some ys → EvL te ((wipe σ vs).set j (some (.ref q))) H1 ys)
    (k : ∀ Dl ps H1, H Dl = none → Ex H H1 → H1 Dl = some (.lst (ps.map V.ref)) → NewL H H1 ps yss → Dl ∉ ps → tz D (σ.set i (some (.ref Dl))) H1) : tSeq (tAsg (tLc (iList K tl) (gName j) tYes te vs) (gName i)) tz D σ H :=
  hv H (Ex.refl H) _ fun H1 e1 => ⟨L, rfl, ⟨qs.map V.ref, ex_l e1 hL⟩, fun Dl hD =>
    lc_it (n := (qs.map V.ref).length) walk_list (fun n H' => H1 Dl = none ∧ Ex H1 H' ∧ ∃ ps, H' Dl = some (.lst (ps.map V.ref)) ∧ Dl ∉ ps ∧ NewL H1 H' ps (yss.take n)) ⟨hD, Ex.new hD, [], upd_same, List.not_mem_nil, NewL.nil⟩ (fun n H' _ p => ex_l (e1.trans p.2.1) hL) (fun n v H' H'' hn' p y => by
      obtain ⟨p1, p2, ps, p3, p4, N⟩ := p
      obtain ⟨rfl, y⟩ := y
      rw [List.getElem?_map] at y
      obtain ⟨q, hq, rfl⟩ := Option.map_eq_some_iff.mp y
      have hnq := (List.getElem?_eq_some_iff.mp hq).1
      obtain ⟨ys, hys⟩ : ∃ ys, yss[n]? = some ys := ⟨yss[n]'(by omega), List.getElem?_eq_getElem (by omega)⟩
      refine ⟨hw _, ?_⟩
      refine et_yes _ (Ex.refl _) _ fun H3 e3 => ?_
      show te _ H3 _
      have pl := N.len
      rw [List.length_take] at pl
      refine he n q ys H3 (e1.trans (p2.trans e3)) hq hys H3 (Ex.refl H3) _ fun r H4 nr e4 h4 => ⟨ps.map V.ref, e4 Dl _ (e3 Dl _ p3), sz_lt (by rw [List.length_map]; omega), p1, Ex.mut ((p2.trans e3).trans e4) p1, ps ++ [r], ?_, ?_, ?_⟩
      · rw [upd_same, List.map_append]
        rfl
      · intro m
        rcases List.mem_append.mp m with m | m
        · exact p4 m
        · exact ne_of_none (e3 Dl _ p3) nr (List.mem_singleton.mp m)
      · rw [List.take_add_one, hys]
        refine NewL.upd ((N.mono e3).app (p2.trans e3) (NewL.one nr h4) e4) fun m => ?_
        rcases List.mem_append.mp m with m | m
        · exact p4 m
        · exact ne_of_none (e3 Dl _ p3) nr (List.mem_singleton.mp m)) (fun H' p => by
      obtain ⟨p1, p2, ps, p3, p4, N⟩ := p
      rw [List.length_map, List.take_of_length_le (by omega)] at N
      exact k Dl ps H' (fresh_back e1 p1) (e1.trans p2) p3 (N.back e1) p4)⟩
/-- it tells a new list of new lists -/
def EvNLv (te : TE) (σ : L2.St) (H : Hp) (yss : List (List V)) : Prop := ∀ H1, Ex H H1 → ∀ Q : VK, RetNL yss H1 Q → te σ H1 Q
/-- two lists, as arguments -/
def EvAB (tg : TA) (σ : L2.St) (H : Hp) (A B : List V) : Prop := ∀ H1, Ex H H1 → ∀ Q : List V → Hp → Prop, (∀ a b H2, Ex H1 H2 → H2 a = some (.lst A) → H2 b = some (.lst B) → Q [.ref a, .ref b] H2) → tg σ H1 Q
theorem eab_of {t1 t2 : TE} {A B : List V} (h1 : EvL t1 σ H A) (h2 : EvL t2 σ H B) : EvAB (tCons t1 (tCons t2 tNil)) σ H A B := fun H1 e Q q =>
  h1 H1 e _ fun a H2 na e2 ha => h2 H2 (e.trans e2) _ fun b H3 nb e3 hb => q a b H3 (e2.trans e3) (e3 _ _ ha) hb
/-- [a new list for x, y in zip(a, b)] -/
theorem enl_lcZ {tg : TA} {A B : List V} {yss : List (List V)} {i j : Nat} {vs : List Nat} (h : EvAB tg σ H A B) (hl : A.length = B.length) (hy : yss.length = A.length) (hz : A.length ≤ 40000) (hw : ∀ x y, wipe (((wipe σ vs).set i (some x)).set j (some y)) vs = wipe σ vs)
    (he : ∀ (n : Nat) x y ys H1, Ex H H1 → A[n]? = some x → B[n]? = some y → yss[n]? = some ys → EvL te (((wipe σ vs).set i (some x)).set j (some y)) H1 ys) :
    EvNLv (tLc (iZip K tg) (gTup K 2 (gCons (gName i) (gCons (gName j) gNil))) tYes te vs) σ H yss := fun H0 e Q q => h H0 e _ fun a b H1 e1 ha hb => ⟨a, b, A, B, rfl, SqL.of ha, SqL.of hb, fun Dl hD =>
  lc_it (n := A.length) (walk_zip (by omega)) (fun n H' => H1 Dl = none ∧ Ex H1 H' ∧ ∃ ps, H' Dl = some (.lst (ps.map V.ref)) ∧ Dl ∉ ps ∧ NewL H1 H' ps (yss.take n)) ⟨hD, Ex.new hD, [], upd_same, List.not_mem_nil, NewL.nil⟩ (fun n H' _ p => ⟨SqL.of (p.2.1 _ _ ha), SqL.of (p.2.1 _ _ hb)⟩) (fun n v H' H'' hn p y => by
    obtain ⟨p1, p2, ps, p3, p4, N⟩ := p
    obtain ⟨T, x, y, rfl, hT, rfl, hx, hy'⟩ := y
    obtain ⟨ys, hys⟩ : ∃ ys, yss[n]? = some ys := ⟨yss[n]'(by omega), List.getElem?_eq_getElem (by omega)⟩
    have e2 : Ex H' (upd H' T (.tup [x, y])) := Ex.new hT
    refine ⟨T, _, rfl, .inl (.inl upd_same), rfl, x, [y], rfl, y, [], rfl, rfl, hw _ _, ?_⟩
    refine et_yes (H := H') _ e2 _ fun H3 e3 => ?_
    show te _ H3 _
    have pl := N.len
    rw [List.length_take] at pl
    have a3 := e2.trans e3
    refine he n x y ys H3 ((e.trans e1).trans (p2.trans a3)) hx hy' hys H3 (Ex.refl H3) _ fun r H4 nr e4 h4 => ⟨ps.map V.ref, e4 Dl _ (a3 Dl _ p3), sz_lt (by rw [List.length_map]; omega), p1, Ex.mut ((p2.trans a3).trans e4) p1, ps ++ [r], ?_, ?_, ?_⟩
    · rw [upd_same, List.map_append]
      rfl
    · intro m
      rcases List.mem_append.mp m with m | m
      · exact p4 m
      · exact ne_of_none (a3 Dl _ p3) nr (List.mem_singleton.mp m)
    · rw [List.take_add_one, hys]
      refine NewL.upd ((N.mono a3).app (p2.trans a3) (NewL.one nr h4) e4) fun m => ?_
      rcases List.mem_append.mp m with m | m
      · exact p4 m
      · exact ne_of_none (a3 Dl _ p3) nr (List.mem_singleton.mp m)) (fun H' p => by
    obtain ⟨p1, p2, ps, p3, p4, N⟩ := p
    rw [List.take_of_length_le (by omega)] at N
    exact q Dl ps H' (fresh_back e1 p1) (e1.trans p2) p3 (N.back e1) p4)⟩
/-- for x in a new list of new lists -/
theorem q_forNLv {yss : List (List V)} {j : Nat} (h : EvNLv te σ H yss) (Pv : Hp → Nat → L2.St → Hp → Prop) (h0 : ∀ H1, Ex H H1 → Pv H1 0 σ H1) (hl : ∀ H1 i σ' H', Pv H1 i σ' H' → Ex H1 H')
    (hs : ∀ H1 i p ys σ' H', Ex H H1 → yss[i]? = some ys → H' p = some (.lst ys) → Pv H1 i σ' H' → tu { D with nx := Pv H1 (i + 1), ct := Pv H1 (i + 1), bk := tz D } (σ'.set j (some (.ref p))) H') (hd : ∀ H1 σ' H', Ex H H1 → Pv H1 yss.length σ' H' → tz D σ' H') : tSeq (tFor (iList K te) (gName j) tu) tz D σ H :=
  h H (Ex.refl H) _ fun L ps H1 nL e1 hL N _ => ⟨L, rfl, ⟨ps.map V.ref, sq_of hL⟩, for_list (xs := ps.map V.ref) (D := { D with nx := tz D }) (Pv H1) (h0 H1 e1) (fun i σ' H' _ p => sq_of (hl _ _ _ _ p _ _ hL)) (fun i x σ' H' hx p => by
    rw [List.getElem?_map] at hx
    obtain ⟨q, hq, rfl⟩ := Option.map_eq_some_iff.mp hx
    obtain ⟨ys, hys, _, hyq⟩ := Kp.paired_get N.1 hq
    exact hs H1 i q ys σ' H' e1 hys (hl _ _ _ _ p _ _ hyq) p) (fun σ' H' p => by
    rw [List.length_map, N.len] at p
    exact hd H1 σ' H' e1 p)⟩
/-- x = a new list of new lists, the last row -/
theorem s_asgNLv {yss : List (List V)} {i : Nat} (h : EvNLv te σ H yss) (k : ∀ L ps H1, H L = none → Ex H H1 → H1 L = some (.lst (ps.map V.ref)) → NewL H H1 ps yss → L ∉ ps → D.nx (σ.set i (some (.ref L))) H1) : tAsg te (gName i) D σ H := h H (Ex.refl H) _ k
theorem enl_cal {sp : Sp} {vs : List V} {E : XK} {ta : TA} {yss : List (List V)} (h : EvA ta σ H vs) (hs : ∀ H1, Ex H H1 → ∀ Q : VK, RetNL yss H1 Q → ∀ E : XK, sp vs H1 Q E) : EvNLv (tCall sp [] E ta) σ H yss := fun H1 e Q q =>
  h H1 e _ fun H2 e2 => by
    show sp (vs ++ []) H2 Q E
    rw [List.append_nil]
    exact hs H2 (e.trans e2) Q (fun L ps H3 nL e3 hL N nm => q L ps H3 (fresh_back e2 nL) (e2.trans e3) hL (N.back e2) nm) E
end

theorem atI_snd {α : Type} {xs : List α} {v : α} (h2 : 2 ≤ xs.length) (h : xs[xs.length - 2]? = some v) : atI xs (-2) = some v := by
  unfold atI ixN
  rw [if_neg (by omega), if_pos (by omega)]
  show xs[((-2 : Int) + (xs.length : Int)).toNat]? = some v
  rw [show ((-2 : Int) + (xs.length : Int)).toNat = xs.length - 2 by omega]
  exact h
theorem coef_neg62 (g : List Int) (m : Nat) : coef (g.map fun x => 0 - x) m = 0 - coef g m := by
  by_cases h : m < g.length
  · rw [coef_lt (by rw [List.length_map]; exact h), coef_lt h, List.getElem_map]
  · rw [coef_ge (by rw [List.length_map]; omega), coef_ge (by omega)]
    rfl
theorem nx_add (f g : List Int) : addP 1 f (g.map fun x => 0 - x) = addP (-1) f g := by
  unfold addP
  refine trim_ext fun m => ?_
  rw [coef_addL, coef_addL, coef_neg62]
  omega
def dbR (i : Nat) : List (List V) := (List.range i).map fun j => (dbF j).map V.int
theorem dbR_snoc (i : Nat) : dbR (i + 1) = dbR i ++ [(dbF i).map V.int] := by
  unfold dbR
  rw [List.range_succ, List.map_append]
  rfl
theorem dbF_next (i : Nat) : dbF (i + 2) = nxD (dbF (i + 1)) (dbF i) := rfl
theorem db_len {i : Nat} (h : i < 62) : (dbF i).length ≤ 70 := by
  have t : ((List.range 62).all fun i => decide ((dbF i).length ≤ 70)) = true := by decide +kernel
  exact of_decide_eq_true (List.all_eq_true.mp t i (List.mem_range.mpr h))
section
variable {σ : L2.St} {H : Hp} {tg : TA} {A B ys : List V} {E : XK}
theorem el_calAB {sp : Sp} (h : EvAB tg σ H A B) (hs : ∀ a b H1, Ex H H1 → H1 a = some (.lst A) → H1 b = some (.lst B) → ∀ Q : VK, RetL ys H1 Q → ∀ E : XK, sp [.ref a, .ref b] H1 Q E) : EvL (tCall sp [] E tg) σ H ys := fun H1 e Q q =>
  h H1 e _ fun a b H2 e2 ha hb => by
    show sp ([.ref a, .ref b] ++ []) H2 Q E
    rw [List.append_nil]
    exact hs a b H2 (e.trans e2) ha hb Q (fun p H3 np e3 h3 => q p H3 (fresh_back e2 np) (e2.trans e3) h3) E
end
/- _law_doubled_row: slots 0 _law_k, 1 _law_rows, 2 _law_again, 3 _law_number; calls _law_sum_of -/
abbrev s__law_doubled_row : Stmt := topS 34
theorem sc__law_doubled_row : FnScope ["_law_k", "_law_rows", "_law_again", "_law_number"] ["_law_k"] (defScope s__law_doubled_row) := ⟨rfl, rfl, rfl, by decide +kernel, rfl, by decide +kernel, by decide +kernel⟩

def spDr62 : Sp := fun vs H Q _ => ∃ k : Nat, vs = [.int (k : Nat)] ∧ k ≤ 60 ∧ RetL ((dbF k).map V.int) H Q
section
variable {P : Program} {w : World} {K : PySem.W.Frag} {mg : Str → Option Value} {base : Heap}
theorem cal_dr62 (nb : Nb mg) (c__law_sum_of : Cal P w K mg base CX0 "_law_sum_of" 2 ["_law_one", "_law_other"] (spSo62 K)) (d : Dfn K mg "_law_doubled_row" ["_law_k"] s__law_doubled_row) : Cal P w K mg base CX0 "_law_doubled_row" 3 ["_law_k"] spDr62 := by
  refine d.cal sc__law_doubled_row (fun vs H Q E h => ?_) (fun fa cdv A outer s H vs Q E hr h => ?_)
  · obtain ⟨k, rfl, _⟩ := h
    rfl
  · obtain ⟨k, rfl, k2, q⟩ := h
    refine ⟨_, (pss_cons (ps_set (i := 1) sc__law_doubled_row.nd rfl (.inl rfl) (pe_lst (pa_cons (pe_lst (pa_cons pe_int pa_nil)) (pa_cons (pe_lst (pa_cons pe_int (pa_cons pe_int pa_nil))) pa_nil))))
      (pss_cons (ps_for PassesOwn.never rfl (pi_range1 (by rfl) nb.range (pa_cons (pv 0) pa_nil)) (pg_name (i := 2) sc__law_doubled_row.nd rfl (.inl rfl)) (pss_one (ps_expr (pe_bm PySem.F.plainAttrs_list PySem.F.slot_list_append PySem.F.type_list_append mt_append (pv 1) (pa_cons (pe_cal c__law_sum_of (hr.mono (by first | decide | omega)) (by rfl) pass0 (pa_cons (pe_op op_cat (pe_lst (pa_cons pe_int pa_nil)) (pe_ix ix_list (pv 1) (pe_un un_neg pe_int) (fun _ _ => rfl))) (pa_cons (pe_lc (own := [("_law_number", 3)]) (g := gName 3) (tt := tYes) (by rfl) sc__law_doubled_row.nd (pi_list (pe_ix ix_list (pv 1) (pe_un un_neg pe_int) (fun _ _ => rfl))) (blkOk_by (N := ["_law_k", "_law_rows", "_law_again", "_law_number"]) (sc := defScope s__law_doubled_row) (by decide +kernel)) (fun _ _ _ _ _ => (pg_name (i := 3) sc__law_doubled_row.nd rfl (Or.inl rfl))) (fun _ _ _ _ _ => pts_nil) (fun _ _ _ _ _ => (pe_op op_sub pe_int (pv 3)))) pa_nil))) pa_nil)))))
      (pss_one (ps_ret (pe_ix ix_list (pv 1) (pv 0) (fun _ _ => rfl)))))), ?_⟩
    refine q_asgNL (xss := dbR 2) (enl_cons (xs := ([2] : List Int).map V.int) (el_lst (vs := [.int 2]) (by one_place) (by decide)) (enl_cons (xs := ([0, 1] : List Int).map V.int) (el_lst (vs := [.int 0, .int 1]) (by one_place) (by decide)) enl_nil)) (by decide) fun L ps H1 nL e1 hL N nm => ?_
    refine q_forR1 (n := (k : Int)) (by one_place) (by omega) (fun i σ' H' => ∃ (ps : List Addr) (y : Option V), σ' = [some (.int (k : Nat)), some (.ref L), y, none] ∧ Ex H H' ∧ H' L = some (.lst (ps.map V.ref)) ∧ L ∉ ps ∧ NewL H H' ps (dbR (i + 2)))
      (fun H2 e2 => ⟨ps, none, rfl, e1.trans e2, e2 _ _ hL, nm, N.mono e2⟩) (fun i σ' H2 hi hp => ?_) (fun σ' H2 hp => ?_)
    · obtain ⟨ps, y, rfl, e2, h2, nm, N⟩ := hp
      have pl : ps.length = i + 2 := by
        rw [N.len]
        unfold dbR
        rw [List.length_map, List.length_range]
      obtain ⟨p, hp⟩ : ∃ p, ps[i + 1]? = some p := ⟨ps[i + 1]'(by omega), List.getElem?_eq_getElem (by omega)⟩
      obtain ⟨r, hr⟩ : ∃ r, ps[i]? = some r := ⟨ps[i]'(by omega), List.getElem?_eq_getElem (by omega)⟩
      have at' : ∀ {j : Nat}, j < i + 2 → (dbR (i + 2))[j]? = some ((dbF j).map V.int) := fun h => by
        unfold dbR
        rw [List.getElem?_map, List.getElem?_range h]
        rfl
      obtain ⟨ys, hys, np, hpc⟩ := Kp.paired_get N.1 hp
      rw [at' (by omega)] at hys
      cases hys
      obtain ⟨zs, hzs, nr, hrc⟩ := Kp.paired_get N.1 hr
      rw [at' (by omega)] at hzs
      cases hzs
      have l1 := db_len (i := i + 1) (by omega)
      have l0 := db_len (i := i) (by omega)
      refine s_appL (ys := (dbF (i + 2)).map V.int) h2 (ev_var rfl) (el_calAB (A := (0 :: dbF (i + 1)).map V.int) (B := ((dbF i).map fun x => 0 - x).map V.int) (eab_of (el_is (el_cat62 (ys := (dbF (i + 1)).map V.int) (el_lst (vs := [.int 0]) (by one_place) (by decide)) (fun H3 e3 => ev_op (ev_var rfl) (ev_neg ev_c) (rv_ixL (v := .ref p) (SqL.of (e3 _ _ h2)) (atI_last (by rw [List.length_map, List.getElem?_map, pl, show i + 2 - 1 = i + 1 by omega, hp]; rfl)))) hpc (by rw [List.length_singleton, List.length_map]; omega)) rfl) (el_is (el_lcI (ns := dbF i) (fun _ => true) (fun x => .int (0 - x)) (ev_op (ev_var rfl) (ev_neg ev_c) (rv_ixL (v := .ref r) (SqL.of h2) (atI_snd (by rw [List.length_map]; omega) (by rw [List.length_map, List.getElem?_map, pl, show i + 2 - 2 = i by omega, hr]; rfl)))) (SqL.of hrc) (by omega) (fun _ => rfl) (fun _ _ _ _ => et_yes) fun x H8 e8 hx _ => ev_sub ev_c (ev_var rfl)) (by rw [filter_yes, List.map_map]; rfl))) fun a b H3 e3 ha hb Q kk E => ⟨a, b, 0 :: dbF (i + 1), (dbF i).map fun x => 0 - x, rfl, SqL.of ha, SqL.of hb, by rw [List.length_cons]; omega, by rw [List.length_map]; omega, by rw [nx_add]; exact kk⟩) (by rw [List.length_map]; omega) fun t H3 nt e3 ht => ⟨ps ++ [t], _, rfl, Ex.mut (e2.trans e3) nL, by rw [upd_same, List.map_append]; rfl, ?_, ?_⟩
      · intro m
        rcases List.mem_append.mp m with m | m
        · exact nm m
        · exact ne_of_none h2 nt (List.mem_singleton.mp m)
      · rw [show i + 1 + 2 = i + 2 + 1 by omega, dbR_snoc]
        refine NewL.upd (N.app e2 (NewL.one nt ht) e3) fun m => ?_
        rcases List.mem_append.mp m with m | m
        · exact nm m
        · exact ne_of_none h2 nt (List.mem_singleton.mp m)
    · obtain ⟨ps, y, rfl, e2, h2, nm, N⟩ := hp
      rw [Int.toNat_natCast] at N
      have pl : ps.length = k + 2 := by
        rw [N.len]
        unfold dbR
        rw [List.length_map, List.length_range]
      obtain ⟨p, hp⟩ : ∃ p, ps[k]? = some p := ⟨ps[k]'(by omega), List.getElem?_eq_getElem (by omega)⟩
      obtain ⟨ys, hys, np, hpc⟩ := Kp.paired_get N.1 hp
      have at' : (dbR (k + 2))[k]? = some ((dbF k).map V.int) := by
        unfold dbR
        rw [List.getElem?_map, List.getElem?_range (by omega)]
        rfl
      rw [at'] at hys
      cases hys
      exact s_ret (v := .ref p) (ev_op (ev_var rfl) (ev_var rfl) (rv_ixL (v := .ref p) (SqL.of h2) (atI_nat (by rw [List.getElem?_map, hp]; rfl)))) fun H3 e3 => q p H3 np (e2.trans e3) (e3 _ _ hpc)
end

/-! ### the law's numbers, polynomials, wheels -/
section
variable {P : Program} {w : World} {K : PySem.W.Frag} {mg : Str → Option Value} {base : Heap} {C : Addr}
end
section
variable {P : Program} {w : World} {K : PySem.W.Frag} {mg : Str → Option Value} {base : Heap} {C : Addr}
end
section
variable {P : Program} {w : World} {K : PySem.W.Frag} {mg : Str → Option Value} {base : Heap} {C : Addr}
end
/- _law_n: slots 0 _law_number, 1 _law_most, 2 _law_some; calls  -/
abbrev s__law_n : Stmt := topS 37
theorem sc__law_n : FnScope ["_law_number", "_law_most", "_law_some"] ["_law_number", "_law_most", "_law_some"] (defScope s__law_n) := ⟨rfl, rfl, rfl, by decide +kernel, rfl, by decide +kernel, by decide +kernel⟩

def spNn (K : PySem.W.Frag) (most : Nat) (L : List Int) : Sp := fun vs H Q _ => ∃ (z : Int) (a : Addr), vs = [.int z, .int (most : Nat), .ref a] ∧ SqL K H a (L.map V.int) ∧ ∀ n : Nat, 1 ≤ n → n ≤ most ∨ ((n : Int)) ∈ L → RetV (.int (n : Nat)) H Q
section
variable {P : Program} {w : World} {K : PySem.W.Frag} {mg : Str → Option Value} {base : Heap} {C : Addr}
theorem cal_nn (most : Nat) (L : List Int) (m1 : 1 ≤ most) (neL : L ≠ []) (Lp : ∀ x ∈ L, 1 ≤ x) (nb : Nb mg) (d : Dfn K mg "_law_n" ["_law_number", "_law_most", "_law_some"] s__law_n) : Cal P w K mg base CX0 "_law_n" 1 ["_law_number", "_law_most", "_law_some"] (spNn K most L) := by
  refine d.cal sc__law_n (fun vs H Q E h => ?_) (fun fa cdv A outer s H vs Q E hr h => ?_)
  · obtain ⟨z, a, rfl, _⟩ := h
    rfl
  · obtain ⟨z, a, rfl, hA, q⟩ := h
    refine ⟨_, (pss_cons (ps_if (pt_cmpR op_eq (pe_op op_mod (pv 0) pe_int) pe_int (nomark _)) (pss_one (ps_ret (pe_ix ix_list (pv 2) (pe_op op_mod (pe_op op_fdivW (pv 0) pe_int) (pe_callB call_len_seq (by rfl) nb.len PySem.boot_len (pa_cons (pv 2) pa_nil))) (fun _ _ => rfl)))) pss_nil)
      (pss_one (ps_ret (pe_op op_add pe_int (pe_op op_mod (pe_op op_fdivW (pv 0) pe_int) (pv 1)))))), ?_⟩
    have pos := List.length_pos_iff.mpr neL
    refine q_when (b := decide (z % 8 = 5)) (et_test (ev_eqI (ev_mod (ev_var rfl) ev_c (by decide)) ev_c)) (fun hb H1 e1 => ?_) (fun hb H1 e1 => ?_)
    · obtain ⟨j, hj, jl⟩ : ∃ j : Nat, (j : Int) = z / 8 % (L.length : Int) ∧ j < L.length := ⟨(z / 8 % (L.length : Int)).toNat, by have := Int.emod_nonneg (z / 8) (show (L.length : Int) ≠ 0 by omega); omega, by have := Int.emod_lt_of_pos (z / 8) (show (0 : Int) < (L.length : Int) by omega); have := Int.emod_nonneg (z / 8) (show (L.length : Int) ≠ 0 by omega); omega⟩
      have hm : L[j] ∈ L := List.getElem_mem jl
      have p := Lp _ hm
      obtain ⟨n, hn⟩ : ∃ n : Nat, (n : Int) = L[j] := ⟨L[j].toNat, by omega⟩
      exact s_ret (v := .int (n : Nat)) (ev_ixI (j := j) (b := (n : Int)) (ex_l e1 hA) (ev_var rfl) (ev_is (ev_mod (ev_div (ev_var rfl) ev_c (divW (by decide) (by decide))) (ev_len (ev_var rfl) (ex_l e1 hA)) (by rw [List.length_map]; omega)) (by rw [List.length_map, hj])) (by rw [List.getElem?_eq_getElem jl, hn])) fun H2 e2 => q n (by omega) (.inr (by rw [hn]; exact hm)) H2 (e1.trans e2)
    · obtain ⟨n, hn, n1, n2⟩ : ∃ n : Nat, (n : Int) = 1 + z / 8 % (most : Int) ∧ 1 ≤ n ∧ n ≤ most := ⟨(1 + z / 8 % (most : Int)).toNat, by have := Int.emod_nonneg (z / 8) (show (most : Int) ≠ 0 by omega); omega, by have := Int.emod_nonneg (z / 8) (show (most : Int) ≠ 0 by omega); omega, by have := Int.emod_lt_of_pos (z / 8) (show (0 : Int) < (most : Int) by omega); omega⟩
      exact s_ret (v := .int (n : Nat)) (ev_is (ev_add ev_c (ev_mod (ev_div (ev_var rfl) ev_c (divW (by decide) (by decide))) (ev_var rfl) (by omega))) (by rw [hn])) fun H2 e2 => q n n1 (.inl n2) H2 (e1.trans e2)
theorem q_asgNn {σ : L2.St} {H : Hp} {t0 tl : TE} {D : Ends} {tz : TS} {E : XK} {most : Nat} {L : List Int} {i : Nat} {c : Int} (h0 : Ev t0 σ H (.int c)) (hl : EvL tl σ H (L.map V.int)) (k : ∀ n : Nat, 1 ≤ n → n ≤ most ∨ ((n : Int)) ∈ L → ∀ H1, Ex H H1 → tz D (σ.set i (some (.int (n : Nat)))) H1) :
    tSeq (tAsg (tCall (spNn K most L) [] E (tCons t0 (tCons (tC (.int (most : Nat))) (tCons tl tNil)))) (gName i)) tz D σ H :=
  h0 H (Ex.refl H) _ fun H1 e1 => hl H1 e1 _ fun a H2 na e2 ha => by
    show spNn K most L ([.int c, .int (most : Nat), .ref a] ++ []) H2 _ E
    exact ⟨c, a, rfl, SqL.of ha, fun n n1 n2 H3 e3 => k n n1 n2 H3 ((e1.trans e2).trans e3)⟩
end



/-! ### the judges' looking -/
def isW : PyData → Bool
  | .int _ => true
  | _ => false
theorem isW_is (d : PyData) : (isK "int" d && !isK "bool" d) = isW d := by
  cases d <;> (simp only [isK, kindS, isW]; decide +kernel)
theorem alkA_is : ∀ xs ys : List PyData, alkA xs ys = (decide (xs.length = ys.length) && ((List.range xs.length).map fun i => alkF (xs.getD i .none) (ys.getD i .none)).all id)
  | [], [] => rfl
  | [], y :: ys => rfl
  | x :: xs, [] => rfl
  | x :: xs, y :: ys => by
    have ih := alkA_is xs ys
    unfold alkA
    rw [ih, List.length_cons, List.length_cons, List.range_succ_eq_map, List.map_cons, List.all_cons, List.map_map]
    have e : decide (xs.length + 1 = ys.length + 1) = decide (xs.length = ys.length) := decide_eq_decide.mpr (by omega)
    rw [e]
    show (alkF x y && (_ && _)) = (_ && (alkF x y && _))
    rw [← Bool.and_assoc, Bool.and_comm (alkF x y), Bool.and_assoc]
    rfl
/- is_whole: slots 0 thing; calls  -/
abbrev s_is_whole : Stmt := topS 6
theorem sc_is_whole : FnScope ["thing"] ["thing"] (defScope s_is_whole) := ⟨rfl, rfl, rfl, by decide +kernel, rfl, by decide +kernel, by decide +kernel⟩

def spIsW : Sp := fun vs H Q _ => ∃ (x : V) (d : PyData), vs = [x] ∧ Dq H x d ∧ RetV (.bl (isW d)) H Q
section
variable {P : Program} {w : World} {K : PySem.W.Frag} {mg : Str → Option Value} {base : Heap}
theorem cal_isw (nb : Nb mg) (d : Dfn K mg "is_whole" ["thing"] s_is_whole) : Cal P w K mg base CX0 "is_whole" 1 ["thing"] spIsW := by
  refine d.cal sc_is_whole (fun vs H Q E h => ?_) (fun f cdv A outer s H vs Q E hr h => ?_)
  · obtain ⟨x, d, rfl, _⟩ := h
    rfl
  · obtain ⟨x, d, rfl, hd, q⟩ := h
    refine ⟨_, (pss_one (ps_ret (pe_and (pe_callB call_isi (by rfl) nb.isinstance (by decide +kernel) (pa_cons (pv 0) (pa_cons (pe_bltn (v := .ty "int") (by rfl) nb.int (by decide +kernel) rfl) pa_nil))) (pe_one (pe_not (pe_callB call_isi (by rfl) nb.isinstance (by decide +kernel) (pa_cons (pv 0) (pa_cons (pe_bltn (v := .ty "bool") (by rfl) nb.bool (by decide +kernel) rfl) pa_nil)))))))), ?_⟩
    exact s_ret (v := .bl (isW d)) (ev_is (ev_andV (ev_isD (ev_var rfl) hd (.inr (.inr (.inl rfl)))) fun _ => ev_notV (ev_isD (ev_var rfl) hd (.inr (.inr (.inr rfl))))) (by rw [isW_is])) fun H1 e1 => q H1 e1
end
def spNo : Sp := fun vs _ _ _ => ∃ x y : V, vs = [x, y] ∧ False
/- alike: slots 0 thing, 1 told; calls parts_alike, is_whole -/
abbrev s_alike : Stmt := topS 7
theorem sc_alike : FnScope ["thing", "told"] ["thing", "told"] (defScope s_alike) := ⟨rfl, rfl, rfl, by decide +kernel, rfl, by decide +kernel, by decide +kernel⟩

def spAlk (D : Nat) : Sp := fun vs H Q _ => ∃ (x y : V) (dx dy : PyData), vs = [x, y] ∧ Dq H x dx ∧ Dq H y dy ∧ toldD D dy = true ∧ RetV (.bl (alkF dx dy)) H Q
/- parts_alike: slots 0 thing, 1 told, 2 part, 3 other; calls alike -/
abbrev s_parts_alike : Stmt := topS 8
theorem sc_parts_alike : FnScope ["thing", "told", "part", "other"] ["thing", "told"] (defScope s_parts_alike) := ⟨rfl, rfl, rfl, by decide +kernel, rfl, by decide +kernel, by decide +kernel⟩

def spPal (D : Nat) : Sp := fun vs H Q _ => ∃ (a b : Addr) (xs ys : List V) (dxs dys : List PyData), vs = [.ref a, .ref b] ∧ ((H a = some (.lst xs) ∧ H b = some (.lst ys)) ∨ (H a = some (.tup xs) ∧ H b = some (.tup ys))) ∧ DqAll H xs dxs ∧ DqAll H ys dys ∧ toldA D dys = true ∧ dys.length ≤ 40000 ∧ RetV (.bl (alkA dxs dys)) H Q
section
variable {P : Program} {w : World} {K : PySem.W.Frag} {mg : Str → Option Value} {base : Heap}
theorem told_at {D : Nat} : ∀ {ds : List PyData} {i : Nat} {d : PyData}, toldA D ds = true → ds[i]? = some d → toldD D d = true
  | d :: ds, 0, _, h, e => by
    unfold toldA at h
    rw [Bool.and_eq_true] at h
    cases e
    exact h.1
  | d :: ds, i + 1, _, h, e => by
    unfold toldA at h
    rw [Bool.and_eq_true] at h
    exact told_at (i := i) h.2 e
theorem cal_pal {L D : Nat} (nb : Nb mg) (c_alike : Cal P w K mg base CX0 "alike" L ["thing", "told"] (spAlk D)) (d : Dfn K mg "parts_alike" ["thing", "told"] s_parts_alike) : Cal P w K mg base CX0 "parts_alike" (L + 1) ["thing", "told"] (spPal D) := by
  refine d.cal sc_parts_alike (fun vs H Q E h => ?_) (fun f cdv A outer s H vs Q E hr h => ?_)
  · obtain ⟨a, b, xs, ys, dxs, dys, rfl, _⟩ := h
    rfl
  · obtain ⟨a, b, xs, ys, dxs, dys, rfl, hab, hx, hy, ht, hz, q⟩ := h
    refine ⟨_, (pss_one (ps_ret (pe_and (pe_cmpR op_eq (pe_callB call_len_seq (by rfl) nb.len PySem.boot_len (pa_cons (pv 0) pa_nil)) (pe_callB call_len_seq (by rfl) nb.len PySem.boot_len (pa_cons (pv 1) pa_nil)) (nomark _)) (pe_one (pe_callB (cr_all (by rfl)) (by rfl) nb.all (by decide +kernel) (pa_cons (pe_lc (own := [("part", 2), ("other", 3)]) (g := gTup K 2 (gCons (gName 2) (gCons (gName 3) gNil))) (tt := tYes) (by rfl) sc_parts_alike.nd (RZ.pi_zipA (by rfl) nb.zip (pa_cons (pv 0) (pa_cons (pv 1) pa_nil))) (blkOk_by (N := ["thing", "told", "part", "other"]) (sc := defScope s_parts_alike) (by decide +kernel)) (fun _ _ _ _ _ => (pg_tup (by rfl) (pgs_cons (pg_name (i := 2) sc_parts_alike.nd rfl (Or.inl rfl)) (pgs_cons (pg_name (i := 3) sc_parts_alike.nd rfl (Or.inl rfl)) pgs_nil)))) (fun _ _ _ _ _ => pts_nil) (fun _ _ _ _ _ => (pe_cal c_alike (hr.mono (by first | decide | omega)) (by rfl) pass0 (pa_cons (pv 2) (pa_cons (pv 3) pa_nil))))) pa_nil)))))), ?_⟩
    have lx := hx.len
    have ly := hy.len
    have ha : H a = some (.lst xs) ∨ H a = some (.tup xs) := hab.imp And.left And.left
    have hb : H b = some (.lst ys) ∨ H b = some (.tup ys) := hab.imp And.right And.right
    refine s_ret (v := .bl (alkA dxs dys)) (ev_is (ev_andV (a := decide ((xs.length : Int) = (ys.length : Int))) (b := ((List.range xs.length).map fun i => alkF (dxs.getD i .none) (dys.getD i .none)).all id) (ev_eqI (ev_lenA (ev_var rfl) ha) (ev_lenA (ev_var rfl) hb)) fun hl => ?_) ?_) fun H1 e1 => q H1 e1
    · have hl := of_decide_eq_true hl
      have hl : xs.length = ys.length := by omega
      refine ev_all (el_is (el_lcZA (fun i => .bl (alkF (dxs.getD i .none) (dys.getD i .none))) (by one_place) hab hl (by omega) (fun _ _ => rfl) fun n x y H1 e1 h1 h2 => ?_) (by rw [List.map_map]; rfl))
      obtain ⟨d1, g1, q1⟩ := hx.at h1
      obtain ⟨d2, g2, q2⟩ := hy.at h2
      rw [List.getD_eq_getElem?_getD, List.getD_eq_getElem?_getD, g1, g2]
      exact ev_cal (vs := [x, y]) (by one_place) fun H2 e2 Q k E => ⟨x, y, d1, d2, rfl, q1.mono (e1.trans e2), q2.mono (e1.trans e2), told_at ht g2, k⟩
    · rw [alkA_is, lx]
      have e : decide ((dxs.length : Int) = (ys.length : Int)) = decide (dxs.length = dys.length) := decide_eq_decide.mpr (by omega)
      rw [e]
theorem cal_alk {L : Nat} {spP : Sp} {D : Nat} (hL : 1 ≤ L) (nb : Nb mg) (c_is_whole : Cal P w K mg base CX0 "is_whole" 1 ["thing"] spIsW) (c_parts_alike : Cal P w K mg base CX0 "parts_alike" L ["thing", "told"] spP) (hP : ∀ k, D = k + 1 → ∀ vs H Q E, spPal k vs H Q E → spP vs H Q E) (d : Dfn K mg "alike" ["thing", "told"] s_alike) : Cal P w K mg base CX0 "alike" (L + 1) ["thing", "told"] (spAlk D) := by
  refine d.cal sc_alike (fun vs H Q E h => ?_) (fun f cdv A outer s H vs Q E hr h => ?_)
  · obtain ⟨x, y, dx, dy, rfl, _⟩ := h
    rfl
  · obtain ⟨x, y, dx, dy, rfl, hx, hy, ht, q⟩ := h
    refine ⟨_, (pss_cons (ps_if (pt_val (pe_callB call_isi (by rfl) nb.isinstance (by decide +kernel) (pa_cons (pv 1) (pa_cons (pe_bltn (v := .ty "list") (by rfl) nb.list (by decide +kernel) rfl) pa_nil)))) (pss_one (ps_ret (pe_and (pe_callB call_isi (by rfl) nb.isinstance (by decide +kernel) (pa_cons (pv 0) (pa_cons (pe_bltn (v := .ty "list") (by rfl) nb.list (by decide +kernel) rfl) pa_nil))) (pe_one (pe_cal c_parts_alike (hr.mono (by first | decide | omega)) (by rfl) pass0 (pa_cons (pv 0) (pa_cons (pv 1) pa_nil))))))) pss_nil)
      (pss_cons (ps_if (pt_val (pe_callB call_isi (by rfl) nb.isinstance (by decide +kernel) (pa_cons (pv 1) (pa_cons (pe_bltn (v := .ty "tuple") (by rfl) nb.tuple (by decide +kernel) rfl) pa_nil)))) (pss_one (ps_ret (pe_and (pe_callB call_isi (by rfl) nb.isinstance (by decide +kernel) (pa_cons (pv 0) (pa_cons (pe_bltn (v := .ty "tuple") (by rfl) nb.tuple (by decide +kernel) rfl) pa_nil))) (pe_one (pe_cal c_parts_alike (hr.mono (by first | decide | omega)) (by rfl) pass0 (pa_cons (pv 0) (pa_cons (pv 1) pa_nil))))))) pss_nil)
      (pss_one (ps_ret (pe_and (pe_cal c_is_whole (hr.mono (by first | decide | omega)) (by rfl) pass0 (pa_cons (pv 0) pa_nil)) (pe_one (pe_cmpR op_eq (pv 0) (pv 1) (nomark _)))))))), ?_⟩
    have tL : isK "list" dx = true → ∃ ds, dx = .list ds := fun h => by
      cases dx <;> first | exact ⟨_, rfl⟩ | exact absurd h (by simp only [isK, kindS]; decide +kernel)
    have tT : isK "tuple" dx = true → ∃ ds, dx = .tuple ds := fun h => by
      cases dx <;> first | exact ⟨_, rfl⟩ | exact absurd h (by simp only [isK, kindS]; decide +kernel)
    have tI : isW dx = true → ∃ i, dx = .int i := fun h => by
      cases dx <;> first | exact ⟨_, rfl⟩ | exact absurd h (by simp only [isW]; decide)
    refine q_when (b := isK "list" dy) (et_B (ev_isD (ev_var rfl) hy (.inl rfl))) (fun hb H1 e1 => ?_) (fun hb H1 e1 => ?_)
    · obtain ⟨ds, rfl⟩ : ∃ ds, dy = .list ds := by cases dy <;> first | exact ⟨_, rfl⟩ | exact absurd hb (by simp only [isK, kindS]; decide +kernel)
      obtain ⟨k, rfl⟩ : ∃ k, D = k + 1 := by
        cases D with
        | zero => unfold toldD at ht; exact nomatch ht
        | succ k => exact ⟨k, rfl⟩
      unfold toldD at ht
      rw [Bool.and_eq_true] at ht
      cases hy with
      | lst hb2 hds =>
        refine s_ret (v := .bl (alkF dx (.list ds))) (ev_is (ev_andV (b := alkF dx (.list ds)) (ev_isD (ev_var rfl) (hx.mono e1) (.inl rfl)) fun hl => ?_) ?_) fun H2 e2 => q H2 (e1.trans e2)
        · obtain ⟨xs, rfl⟩ := tL hl
          cases hx with
          | lst ha2 hxs => exact ev_cal (vs := [_, _]) (ea_cons (ev_var rfl) (ea_cons (ev_var rfl) ea_nil)) fun H2 e2 Q kk E => hP k rfl _ _ _ _ ⟨_, _, _, _, xs, ds, rfl, .inl ⟨(e1.trans e2) _ _ ha2, (e1.trans e2) _ _ hb2⟩, hxs.mono (e1.trans e2), hds.mono (e1.trans e2), ht.1, of_decide_eq_true ht.2, by unfold alkF at kk; exact kk⟩
        · cases hl : isK "list" dx with
          | true => rfl
          | false =>
            have : alkF dx (.list ds) = false := by
              cases dx <;> first | rfl | exact absurd hl (by simp only [isK, kindS]; decide +kernel)
            rw [this]
            rfl
    · refine q_when (b := isK "tuple" dy) (et_B (ev_isD (ev_var rfl) (hy.mono e1) (.inr (.inl rfl)))) (fun hc H2 e2 => ?_) (fun hc H2 e2 => ?_)
      · obtain ⟨ds, rfl⟩ : ∃ ds, dy = .tuple ds := by cases dy <;> first | exact ⟨_, rfl⟩ | exact absurd hc (by simp only [isK, kindS]; decide +kernel)
        have e12 := e1.trans e2
        obtain ⟨k, rfl⟩ : ∃ k, D = k + 1 := by
          cases D with
          | zero => unfold toldD at ht; exact nomatch ht
          | succ k => exact ⟨k, rfl⟩
        unfold toldD at ht
        rw [Bool.and_eq_true] at ht
        cases hy with
        | tup hb2 hds =>
          refine s_ret (v := .bl (alkF dx (.tuple ds))) (ev_is (ev_andV (b := alkF dx (.tuple ds)) (ev_isD (ev_var rfl) (hx.mono e12) (.inr (.inl rfl))) fun hl => ?_) ?_) fun H3 e3 => q H3 (e12.trans e3)
          · obtain ⟨xs, rfl⟩ := tT hl
            cases hx with
            | tup ha2 hxs => exact ev_cal (vs := [_, _]) (ea_cons (ev_var rfl) (ea_cons (ev_var rfl) ea_nil)) fun H3 e3 Q kk E => hP k rfl _ _ _ _ ⟨_, _, _, _, xs, ds, rfl, .inr ⟨(e12.trans e3) _ _ ha2, (e12.trans e3) _ _ hb2⟩, hxs.mono (e12.trans e3), hds.mono (e12.trans e3), ht.1, of_decide_eq_true ht.2, by unfold alkF at kk; exact kk⟩
          · cases hl : isK "tuple" dx with
            | true => rfl
            | false =>
              have : alkF dx (.tuple ds) = false := by
                cases dx <;> first | rfl | exact absurd hl (by simp only [isK, kindS]; decide +kernel)
              rw [this]
              rfl
      · have e12 := e1.trans e2
        obtain ⟨j, rfl⟩ : ∃ j, dy = .int j := by
          cases dy with
          | int j => exact ⟨j, rfl⟩
          | list ds => exact absurd hb (by simp only [isK, kindS]; decide +kernel)
          | tuple ds => exact absurd hc (by simp only [isK, kindS]; decide +kernel)
          | none => cases D <;> (unfold toldD at ht; exact nomatch ht)
          | bool b => cases D <;> (unfold toldD at ht; exact nomatch ht)
          | str b => cases D <;> (unfold toldD at ht; exact nomatch ht)
          | dict b => cases D <;> (unfold toldD at ht; exact nomatch ht)
        cases hy with
        | int =>
          refine s_ret (v := .bl (alkF dx (.int j))) (ev_is (ev_andV (b := alkF dx (.int j)) (ev_cal (vs := [x]) (z := .bl (isW dx)) (by one_place) fun H3 e3 Q kk E => ⟨x, dx, rfl, hx.mono (e12.trans e3), kk⟩) fun hw => ?_) ?_) fun H3 e3 => q H3 (e12.trans e3)
          · obtain ⟨i, rfl⟩ := tI hw
            cases hx with
            | int => exact ev_eqI (ev_var rfl) (ev_var rfl)
          · cases hl : isW dx with
            | true => rfl
            | false =>
              have : alkF dx (.int j) = false := by
                cases dx <;> first | rfl | exact absurd hl (by simp only [isW]; decide)
              rw [this]
              rfl
/-- three deep -/
theorem cal_alk3 (nb : Nb mg) (d_is_whole : Dfn K mg "is_whole" ["thing"] s_is_whole) (d_alike : Dfn K mg "alike" ["thing", "told"] s_alike) (d_parts : Dfn K mg "parts_alike" ["thing", "told"] s_parts_alike) : Cal P w K mg base CX0 "alike" 8 ["thing", "told"] (spAlk 3) := by
  have c_w := cal_isw (P := P) (w := w) (base := base) nb d_is_whole
  have a0' : Cal P w K mg base CX0 "alike" 1 ["thing", "told"] spNo := d_alike.cal sc_alike (fun vs H Q E h => by
    obtain ⟨x, y, rfl, h⟩ := h
    exact h.elim) fun fa cdv A outer s H vs Q E hr h => by
    obtain ⟨x, y, _, h⟩ := h
    exact h.elim
  have p0 : Cal P w K mg base CX0 "parts_alike" 1 ["thing", "told"] spNo := d_parts.cal sc_parts_alike (fun vs H Q E h => by
    obtain ⟨x, y, rfl, h⟩ := h
    exact h.elim) fun fa cdv A outer s H vs Q E hr h => by
    obtain ⟨x, y, _, h⟩ := h
    exact h.elim
  have a0 : Cal P w K mg base CX0 "alike" 2 ["thing", "told"] (spAlk 0) := cal_alk (by decide) nb c_w p0 (fun k h => nomatch h) d_alike
  have a1 : Cal P w K mg base CX0 "alike" 4 ["thing", "told"] (spAlk 1) := cal_alk (by decide) nb c_w (cal_pal nb a0 d_parts) (fun k h vs H Q E hh => by cases h; exact hh) d_alike
  have a2 : Cal P w K mg base CX0 "alike" 6 ["thing", "told"] (spAlk 2) := cal_alk (by decide) nb c_w (cal_pal nb a1 d_parts) (fun k h vs H Q E hh => by cases h; exact hh) d_alike
  exact cal_alk (by decide) nb c_w (cal_pal nb a2 d_parts) (fun k h vs H Q E hh => by cases h; exact hh) d_alike
end

/-! ### the judge of root polynomials, to 210 -/
section
variable {K : PySem.W.Frag} {σ : L2.St} {H : Hp} {te tl t0 : TE} {vs : List Nat} {D : Ends} {tu tz : TS} {z : V}
theorem ev_calVR {sp : Sp} {v : V} {rows : List (Int × List Int)} {E : XK} (h0 : Ev t0 σ H v) (h : EvR te σ H rows) (hs : ∀ p ts H0 H1, Ex H H1 → H1 p = some (.lst (ts.map V.ref)) → RwsN p H0 H1 ts rows → ∀ Q : VK, RetV z H1 Q → ∀ E : XK, sp [v, .ref p] H1 Q E) : Ev (tCall sp [] E (tCons t0 (tCons te tNil))) σ H z := fun H1 e Q q =>
  h0 H1 e _ fun H2 e2 => h H2 (e.trans e2) _ fun p ts H3 np e3 hp R => by
    show sp ([v, .ref p] ++ []) H3 Q E
    rw [List.append_nil]
    exact hs p ts H2 H3 ((e.trans e2).trans e3) hp R Q (fun H4 e4 => q H4 ((e2.trans e3).trans e4)) E
end
def dRw (rows : List (Int × List Int)) : PyData := .list (rows.map dNL)
theorem dq_rows {p : Addr} {H0 H : Hp} : ∀ {ts : List Addr} {rows : List (Int × List Int)}, RwsN p H0 H ts rows → DqAll H (ts.map V.ref) (rows.map dNL)
  | _, _, .nil => .nil
  | _, _, .cons ⟨_, _, _, _, h1, h2⟩ hs => .cons (.tup h1 (.cons (.int _) (.cons (dq_ints h2) .nil))) (dq_rows hs)
theorem told_ints : ∀ (k : Nat) (ns : List Int), toldA k (ns.map PyData.int) = true
  | _, [] => by unfold toldA; rfl
  | k, n :: ns => by
    rw [List.map_cons]
    unfold toldA
    rw [told_ints k ns, Bool.and_true]
    cases k <;> (unfold toldD; rfl)
theorem told_NL {r : Int × List Int} (h : r.2.length ≤ 40000) : toldD 2 (dNL r) = true := by
  unfold dNL dI toldD
  rw [Bool.and_eq_true]
  refine ⟨?_, rfl⟩
  unfold toldA
  rw [Bool.and_eq_true]
  refine ⟨by unfold toldD; rfl, ?_⟩
  unfold toldA
  rw [Bool.and_eq_true]
  refine ⟨?_, by unfold toldA; rfl⟩
  unfold toldD
  rw [Bool.and_eq_true, told_ints, List.length_map]
  exact ⟨rfl, decide_eq_true h⟩
theorem told_rows : ∀ {rows : List (Int × List Int)}, (∀ r ∈ rows, r.2.length ≤ 40000) → toldA 2 (rows.map dNL) = true
  | [], _ => by unfold toldA; rfl
  | r :: rows, h => by
    rw [List.map_cons]
    unfold toldA
    rw [told_NL (h r (List.mem_cons_self ..)), told_rows fun z hz => h z (List.mem_cons_of_mem _ hz)]
    rfl
theorem told_rw {rows : List (Int × List Int)} (h : ∀ r ∈ rows, r.2.length ≤ 40000) (h2 : rows.length ≤ 40000) : toldD 3 (dRw rows) = true := by
  unfold dRw toldD
  rw [told_rows h, List.length_map]
  exact decide_eq_true h2
section
variable {P : Program} {w : World} {K : PySem.W.Frag} {mg : Str → Option Value} {base : Heap}
end


/-! ### the judge of cosine polynomials -/
theorem cosRows_sz {n : Nat} (n1 : 1 ≤ n) (n2 : n ≤ 60) : (∀ r ∈ cosRows n, r.2.length ≤ 40000) ∧ (cosRows n).length ≤ 40000 := by
  refine ⟨fun r hr => ?_, ?_⟩
  · unfold cosRows at hr
    obtain ⟨x, hx, rfl⟩ := List.mem_map.mp hr
    obtain ⟨d, rfl, d1, d2⟩ := castI_dv n1 hx
    have := (cosL d1 (show d ≤ 60 by omega)).1
    show (cosF ((d : Int)).toNat).length ≤ 40000
    rw [Int.toNat_natCast]
    omega
  · unfold cosRows
    have := dvL_len n
    rw [List.length_map, castI_len]
    omega
/- are_cosines: slots 0 n, 1 thing; calls alike, cosine_polys -/
abbrev s_are_cosines : Stmt := topS 25
theorem sc_are_cosines : FnScope ["n", "thing"] ["n", "thing"] (defScope s_are_cosines) := ⟨rfl, rfl, rfl, by decide +kernel, rfl, by decide +kernel, by decide +kernel⟩

def spAreC : Sp := fun vs H Q _ => ∃ (x : V) (d : PyData) (n : Nat), vs = [.int (n : Nat), x] ∧ Dq H x d ∧ 1 ≤ n ∧ n ≤ 60 ∧ RetV (.bl (alkF d (dRw (cosRows n)))) H Q
section
variable {P : Program} {w : World} {K : PySem.W.Frag} {mg : Str → Option Value} {base : Heap}
theorem cal_arec (nb : Nb mg) (c_alike : Cal P w K mg base CX0 "alike" 8 ["thing", "told"] (spAlk 3)) (c_cosine_polys : Cal P w K mg base CX0 "cosine_polys" 7 ["n"] spCps) (d : Dfn K mg "are_cosines" ["n", "thing"] s_are_cosines) : Cal P w K mg base CX0 "are_cosines" 9 ["n", "thing"] spAreC := by
  refine d.cal sc_are_cosines (fun vs H Q E h => ?_) (fun f cdv A outer s H vs Q E hr h => ?_)
  · obtain ⟨x, d, n, rfl, _⟩ := h
    rfl
  · obtain ⟨x, d, n, rfl, hx, n1, n2, q⟩ := h
    refine ⟨_, (pss_one (ps_ret (pe_cal c_alike (hr.mono (by first | decide | omega)) (by rfl) pass0 (pa_cons (pv 1) (pa_cons (pe_cal c_cosine_polys (hr.mono (by first | decide | omega)) (by rfl) pass0 (pa_cons (pv 0) pa_nil)) pa_nil))))), ?_⟩
    obtain ⟨z1, z2⟩ := cosRows_sz n1 n2
    exact s_ret (v := .bl (alkF d (dRw (cosRows n)))) (ev_calVR (v := x) (rows := cosRows n) (ev_var rfl) (evR_cal (vs := [.int (n : Nat)]) (by one_place) fun H1 e1 Q k E => ⟨n, rfl, n1, n2, k⟩) fun p ts H0 H1 e1 hp R Q k E => ⟨x, .ref p, d, dRw (cosRows n), rfl, hx.mono e1, .lst hp (dq_rows R), told_rw z1 z2, k⟩) fun H1 e1 => q H1 e1
end

/-! ### things of some kinds, made: each with a property -/
section
variable {K : PySem.W.Frag} {σ : L2.St} {H : Hp} {te ta tb ti : TE} {tr : TA} {D : Ends} {E : XK} {Pd : PyData → Prop} {n : Nat} {x : V} {d : PyData}
def EvQd (Pd : PyData → Prop) (te : TE) (σ : L2.St) (H : Hp) : Prop := ∀ H1, Ex H H1 → ∀ Q : VK, (∀ x d H2, Ex H1 H2 → Dq H2 x d → Pd d → Q x H2) → te σ H1 Q
def EvQs (Pd : PyData → Prop) (tr : TA) (σ : L2.St) (H : Hp) (n : Nat) : Prop := ∀ H1, Ex H H1 → ∀ Q : List V → Hp → Prop, (∀ xs ds H2, Ex H1 H2 → DqAll H2 xs ds → (∀ d ∈ ds, Pd d) → xs.length = n → Q xs H2) → tr σ H1 Q
theorem eq_val (h : Ev te σ H x) (g : ∀ H1, Ex H H1 → Dq H1 x d) (p : Pd d) : EvQd Pd te σ H := fun H1 e Q q => h H1 e _ fun H2 e2 => q x d H2 e2 (g H2 (e.trans e2)) p
theorem eq_ints {ns : List Int} (h : EvL te σ H (ns.map V.int)) (p : Pd (dI ns)) : EvQd Pd te σ H := fun H1 e Q q => h H1 e _ fun a H2 na e2 ha => q (.ref a) (dI ns) H2 e2 (dq_ints ha) p
theorem eqs_nil : EvQs Pd tNil σ H 0 := fun H1 e Q q => q [] [] H1 (Ex.refl H1) .nil (fun _ h => absurd h List.not_mem_nil) rfl
theorem eqs_cons (h : EvQd Pd te σ H) (hr : EvQs Pd tr σ H n) : EvQs Pd (tCons te tr) σ H (n + 1) := fun H1 e Q q =>
  h H1 e _ fun x d H2 e2 g p => hr H2 (e.trans e2) _ fun xs ds H3 e3 gs ps l => q (x :: xs) (d :: ds) H3 (e2.trans e3) (.cons (g.mono e3) gs) (fun y hy => by
    rcases List.mem_cons.mp hy with rfl | hy
    · exact p
    · exact ps y hy) (by rw [List.length_cons, l])
theorem eq_lst {Pe : PyData → Prop} (h : EvQs Pe tr σ H n) (hn : n ≤ 100000) (hp : ∀ ds, ds.length = n → (∀ d ∈ ds, Pe d) → Pd (.list ds)) : EvQd Pd (tLst tr) σ H := fun H1 e Q q =>
  h H1 e _ fun xs ds H2 e2 gs ps l => ⟨sz_of (by omega), fun p np => q (.ref p) (.list ds) _ (e2.trans (Ex.new np)) (.lst upd_same (gs.mono (Ex.new np))) (hp ds (by rw [← gs.len, l]) ps)⟩
theorem eq_tup {Pe : PyData → Prop} (h : EvQs Pe tr σ H n) (hn : n ≤ 100000) (hp : ∀ ds, ds.length = n → (∀ d ∈ ds, Pe d) → Pd (.tuple ds)) : EvQd Pd (tTup tr) σ H := fun H1 e Q q =>
  h H1 e _ fun xs ds H2 e2 gs ps l => ⟨sz_of (by omega), fun p np => q (.ref p) (.tuple ds) _ (e2.trans (Ex.new np)) (.tup upd_same (gs.mono (Ex.new np))) (hp ds (by rw [← gs.len, l]) ps)⟩
theorem eq_pick {i : Int} (h : EvQs Pd tr σ H n) (hn : n ≤ 100000) (hi : Ev ti σ H (.int i)) (h0 : 0 ≤ i) (h1 : i < (n : Int)) : EvQd Pd (tOp (rIxL K) (tLst tr) ti) σ H := fun H1 e Q q =>
  h H1 e _ fun xs ds H2 e2 gs ps l => ⟨sz_of (by omega), fun p np => by
    have eN : Ex H2 (upd H2 p (.lst xs)) := Ex.new np
    refine hi _ ((e.trans e2).trans eN) _ fun H3 e3 => ?_
    obtain ⟨j, rfl⟩ := Int.eq_ofNat_of_zero_le h0
    have hj : j < xs.length := by omega
    obtain ⟨d, hd, g⟩ := gs.at (List.getElem?_eq_getElem hj)
    exact (rv_ixL (K := K) (xs := xs) (i := (j : Int)) (sq_of (e3 _ _ upd_same)) (atI_nat (List.getElem?_eq_getElem hj))) H3 (Ex.refl _) _ fun H4 e4 => q _ d H4 ((e2.trans eN).trans (e3.trans e4)) (g.mono (eN.trans (e3.trans e4))) (ps d (List.mem_of_getElem? hd))⟩
theorem eq_tupOf {p : Addr} {xs : List V} {ds : List PyData} (h : Ev te σ H (.ref p)) (hp : H p = some (.lst xs)) (g : DqAll H xs ds) (s : Pd (.tuple ds)) : EvQd Pd (tCB (fun vs H Q => ∃ p ys, vs = [.ref p] ∧ ((SqL K H p ys ∧ ∀ l, H l = none → Q (.ref l) (upd H l (.tup ys))) ∨ (SqT K H p ys ∧ Q (.ref p) H))) (tCons te tNil)) σ H := fun H1 e Q q =>
  h H1 e _ fun H2 e2 => ⟨p, xs, rfl, .inl ⟨sq_of ((e.trans e2) _ _ hp), fun l nl => q (.ref l) (.tuple ds) _ (e2.trans (Ex.new nl)) (.tup upd_same (g.mono ((e.trans e2).trans (Ex.new nl)))) s⟩⟩
/-- numbers, a thing, numbers, in a row -/
theorem eq_mid {Pe : PyData → Prop} {ns ms : List Int} (h1 : EvL ta σ H (ns.map V.int)) (h2 : EvQd Pe te σ H) (h3 : ∀ H1, Ex H H1 → EvL tb σ H1 (ms.map V.int)) (hz : ns.length ≤ 1000 ∧ ms.length ≤ 1000) (hp : ∀ d, Pe d → Pd (.list (ns.map PyData.int ++ [d] ++ ms.map PyData.int))) : EvQd Pd (tOp rCat (tOp rCat ta (tLst (tCons te tNil))) tb) σ H := fun H1 e Q q =>
  h1 H1 e _ fun a H2 na e2 ha => h2 H2 (e.trans e2) _ fun x d H3 e3 g p => ⟨sz_of (show 1 ≤ 100000 by decide), fun l nl => by
    have e4 : Ex H3 (upd H3 l (.lst [x])) := Ex.new nl
    refine ⟨a, l, ns.map V.int, [x], rfl, rfl, e4 _ _ (e3 _ _ ha), upd_same, sz_of (by rw [List.length_map]; show _ + 1 ≤ _; omega), fun b nb => ?_⟩
    have e5 : Ex (upd H3 l (.lst [x])) (upd (upd H3 l (.lst [x])) b (.lst (ns.map V.int ++ [x]))) := Ex.new nb
    refine h3 _ ((((e.trans e2).trans e3).trans e4).trans e5) _ (Ex.refl _) _ fun c H6 nc e6 hc => ?_
    refine ⟨b, c, ns.map V.int ++ [x], ms.map V.int, rfl, rfl, e6 _ _ upd_same, hc, sz_of (by rw [List.length_append, List.length_map, List.length_map]; show _ + 1 + _ ≤ _; omega), fun r nr => ?_⟩
    have e7 : Ex H6 (upd H6 r (.lst (ns.map V.int ++ [x] ++ ms.map V.int))) := Ex.new nr
    exact q (.ref r) _ _ ((e2.trans e3).trans (e4.trans (e5.trans (e6.trans e7)))) (.lst upd_same (((dqa_ints _ ns).app (.cons (g.mono (e4.trans (e5.trans (e6.trans e7)))) .nil)).app (dqa_ints _ ms))) (hp d p)⟩
theorem el_calVL65 {sp : Sp} {v : V} {xs ys : List V} (h0 : Ev ta σ H v) (h : EvL te σ H xs) (hs : ∀ p H1, Ex H H1 → H1 p = some (.lst xs) → ∀ Q : VK, RetL ys H1 Q → ∀ E : XK, sp [v, .ref p] H1 Q E) : EvL (tCall sp [] E (tCons ta (tCons te tNil))) σ H ys := fun H1 e Q q =>
  h0 H1 e _ fun H2 e2 => h H2 (e.trans e2) _ fun p H3 np e3 hp => by
    show sp ([v, .ref p] ++ []) H3 Q E
    rw [List.append_nil]
    exact hs p H3 ((e.trans e2).trans e3) hp Q (fun l H4 nl e4 hl => q l H4 (fresh_back (e2.trans e3) nl) ((e2.trans e3).trans e4) hl) E
/-- [..][:k] -/
theorem el_slN65 {xs ys : List V} {k : Nat} (h : EvL ta σ H xs) (hk : ∀ H1, Ex H H1 → Ev tb σ H1 (.int (k : Nat))) (hy : xs.take k = ys) : EvL (tSl (rSlL K) ta tNoPart (tPart tb)) σ H ys := fun H1 e Q q =>
  h H1 e _ fun p H2 np e2 hp => eo_none (H := H2) H2 (Ex.refl H2) _ fun H3 e3 => (eo_some (hk H3 (e.trans (e2.trans e3)))) H3 (Ex.refl H3) _ fun H4 e4 => ⟨p, xs, rfl, SqL.of ((e3.trans e4) _ _ hp), fun l nl => by
    rw [cut_take, hy]
    exact q l _ (fresh_back (e2.trans (e3.trans e4)) nl) ((e2.trans (e3.trans e4)).trans (Ex.new nl)) upd_same⟩
theorem s_retQ (h : EvQd Pd te σ H) (k : ∀ x d H1, Ex H H1 → Dq H1 x d → Pd d → D.rt x H1) : tRet te D σ H := h H (Ex.refl H) _ k
end
/-- a thing that is read, shown and compared -/
theorem trim_le66 (l : List Int) : (trim l).length ≤ l.length := by
  rw [trim_len]
  exact tlen_le l _
def Ok65 (b k : Nat) (d : PyData) : Prop := d.canLay0 = true ∧ Sz b k d
theorem Ok65.up {b b' k k' : Nat} {d : PyData} (h : Ok65 b k d) (hb : b ≤ b') (hk : k ≤ k') : Ok65 b' k' d := ⟨h.1, h.2.mono hb hk⟩
theorem ok_ints {ns : List Int} (hz : ns.length ≤ 81) (hb : Bd 1900 ns) : Ok65 157990 1 (dI ns) := by
  refine ⟨dI_lay ns, (Sz.lst (sza_ints (ns := ns) fun i hi => ?_)).mono (by omega) (by decide)⟩
  obtain ⟨m, hm⟩ := List.mem_iff_getElem?.mp hi
  have := hb m
  rwa [coef_of hm] at this
theorem ok_int {i : Int} (h : i.natAbs < 2 ^ 1900) : Ok65 1921 0 (.int i) := ⟨rfl, sz_int h⟩
theorem lay_app : ∀ {ds es : List PyData}, PyData.canLayAll0 ds = true → PyData.canLayAll0 es = true → PyData.canLayAll0 (ds ++ es) = true
  | [], es, _, h => h
  | d :: ds, es, h, g => by
    rw [List.cons_append]
    unfold PyData.canLayAll0 at h ⊢
    rw [Bool.and_eq_true] at h ⊢
    exact ⟨h.1, lay_app h.2 g⟩
theorem lay_all {ds : List PyData} (h : ∀ d ∈ ds, d.canLay0 = true) : PyData.canLayAll0 ds = true := by
  induction ds with
  | nil => rfl
  | cons d ds ih =>
    unfold PyData.canLayAll0
    rw [h d List.mem_cons_self, ih fun x hx => h x (List.mem_cons_of_mem _ hx)]
    rfl
theorem ok_one {b k : Nat} {d : PyData} (h : Ok65 b k d) : Ok65 (b + 5) (k + 1) (.list [d]) := by
  refine ⟨?_, (Sz.lst (SzA.cons h.2 (SzA.nil.mono (Nat.le_refl _) (Nat.zero_le _)))).mono (by omega) (Nat.le_refl _)⟩
  show PyData.canLayAll0 [d] = true
  exact lay_all fun x hx => by rw [List.mem_singleton.mp hx]; exact h.1
theorem ok_two {b c k : Nat} {d e : PyData} (h : Ok65 b k d) (g : Ok65 c k e) : Ok65 (b + c + 7) (k + 1) (.list [d, e]) := by
  refine ⟨?_, (Sz.lst (SzA.cons h.2 (SzA.cons g.2 (SzA.nil.mono (Nat.le_refl _) (Nat.zero_le _))))).mono (by omega) (Nat.le_refl _)⟩
  show PyData.canLayAll0 [d, e] = true
  refine lay_all fun x hx => ?_
  rcases List.mem_cons.mp hx with rfl | hx
  · exact h.1
  · rw [List.mem_singleton.mp hx]
    exact g.1
theorem ok_mid {ns ms : List Int} {d : PyData} (hz : ns.length ≤ 40 ∧ ms.length ≤ 40) (h1 : Bd 1900 ns) (h2 : Bd 1900 ms) (h : Ok65 2000 2 d) : Ok65 157990 3 (.list (ns.map PyData.int ++ [d] ++ ms.map PyData.int)) := by
  have bi : ∀ {l : List Int}, Bd 1900 l → ∀ i ∈ l, i.natAbs < 2 ^ 1900 := fun hb i hi => by
    obtain ⟨m, hm⟩ := List.mem_iff_getElem?.mp hi
    have := hb m
    rwa [coef_of hm] at this
  refine ⟨?_, (Sz.lst (((sza_ints (bi h1)).mono (Nat.le_refl _) (show 0 ≤ 2 by decide)).app (SzA.cons h.2 (SzA.nil.mono (Nat.le_refl _) (Nat.zero_le _))) |>.app ((sza_ints (bi h2)).mono (Nat.le_refl _) (show 0 ≤ 2 by decide)))).mono (by omega) (Nat.le_refl _)⟩
  show PyData.canLayAll0 (ns.map PyData.int ++ [d] ++ ms.map PyData.int) = true
  exact lay_app (lay_app (lay_map _ (fun _ => rfl) ns) (lay_all fun x hx => by rw [List.mem_singleton.mp hx]; exact h.1)) (lay_map _ (fun _ => rfl) ms)
theorem ok_str0 : Ok65 2000 0 (.str (Str.ofString "0")) := ⟨by decide +kernel, sz_str (by decide +kernel) (by decide +kernel)⟩
theorem ok_strE : Ok65 2000 0 (.str (Str.ofString "")) := ⟨by decide +kernel, sz_str (by decide +kernel) (by decide +kernel)⟩
theorem Bd.take65 {b : Nat} {f : List Int} (h : Bd b f) (k : Nat) : Bd b (f.take k) := fun m => by
  rw [coef_take]
  split
  · exact h m
  · exact Nat.two_pow_pos _
theorem Bd.drop65 {b : Nat} {f : List Int} (h : Bd b f) (k : Nat) : Bd b (f.drop k) := Bd.of fun x hx => by
  obtain ⟨m, hm⟩ := List.mem_iff_getElem?.mp (List.mem_of_mem_drop hx)
  have := h m
  rwa [coef_of hm] at this
theorem Bd.app65 {b : Nat} {f g : List Int} (h : Bd b f) (k : Bd b g) : Bd b (f ++ g) := fun m => by
  rw [coef_app]
  split
  · exact h m
  · exact k _
theorem Bd.one65 {b : Nat} {c : Int} (h : c.natAbs < 2 ^ b) : Bd b [c] := Bd.of fun x hx => by rw [List.mem_singleton.mp hx]; exact h
theorem addP_bd65 {b : Nat} {f g : List Int} (hf : Bd b f) (hg : Bd b g) : Bd (b + 1) (addP 1 f g) := fun m => by
  rw [coef_addP]
  have a := hf m
  have c := hg m
  have p : 2 ^ (b + 1) = 2 * 2 ^ b := by rw [Nat.pow_succ, Nat.mul_comm]
  omega
theorem addP_len65 (f g : List Int) : (addP 1 f g).length ≤ max f.length g.length := by
  unfold addP addL
  refine Nat.le_trans (trim_le66 _) ?_
  rw [mkL_len]
  exact Nat.le_refl _
theorem cv_bd65 {a b : Nat} {f g : List Int} (hf : Bd a f) (hg : Bd b g) (m : Nat) : ∀ i, (cv f g i m).natAbs ≤ i * 2 ^ (a + b)
  | 0 => by rw [Nat.zero_mul]; exact Nat.le_refl _
  | i + 1 => by
    have ih := cv_bd65 hf hg m i
    have h : ∀ j, (coef f i * coef g j).natAbs ≤ 2 ^ (a + b) := fun j => by
      rw [Int.natAbs_mul, Nat.pow_add]
      exact Nat.mul_le_mul (Nat.le_of_lt (hf i)) (Nat.le_of_lt (hg j))
    show (cv f g i m + if i ≤ m then coef f i * coef g (m - i) else 0).natAbs ≤ (i + 1) * 2 ^ (a + b)
    rw [Nat.add_mul, Nat.one_mul]
    generalize 2 ^ (a + b) = B at *
    split
    · have := h (m - i)
      omega
    · omega
theorem pdL_bd65 {a b : Nat} {f g : List Int} (hf : Bd a f) (hg : Bd b g) (hl : f.length ≤ 63) : Bd (a + b + 6) (pdL f g) := fun m => by
  unfold pdL
  rw [coef_trim, coef_mulP]
  have h := cv_bd65 hf hg m f.length
  have p : 2 ^ (a + b + 6) = 2 ^ (a + b) * 64 := by rw [Nat.pow_add]
  have : f.length * 2 ^ (a + b) ≤ 63 * 2 ^ (a + b) := Nat.mul_le_mul_right _ hl
  have := Nat.two_pow_pos (a + b)
  omega
theorem pdL_len65 (f g : List Int) : (pdL f g).length ≤ f.length + g.length := by
  unfold pdL
  refine Nat.le_trans (trim_le66 _) ?_
  unfold mulP
  split
  · exact Nat.zero_le _
  · rw [mkL_len]
    omega
theorem dqa_intsL65 {H : Hp} : ∀ {xs : List V} {L : List Int}, DqAll H xs (L.map PyData.int) → xs = L.map V.int
  | [], [], _ => rfl
  | [], y :: L, h => nomatch h
  | x :: xs, [], h => nomatch h
  | x :: xs, y :: L, .cons h t => by
    cases h
    rw [List.map_cons, dqa_intsL65 t]
theorem dq_intsL65 {H : Hp} {x : V} {L : List Int} (h : Dq H x (dI L)) : ∃ p, x = .ref p ∧ H p = some (.lst (L.map V.int)) := by
  cases h with
  | lst ha hs =>
    have := dqa_intsL65 hs
    subst this
    exact ⟨_, rfl, ha⟩
/-! ### whether any thing is a polynomial, of the law -/
def nOf : PyData → Int
  | .int i => i
  | _ => 0
theorem ints_of65 : ∀ {ds : List PyData}, ds.all isW = true → ds = (ds.map nOf).map PyData.int
  | [], _ => rfl
  | d :: ds, h => by
    rw [List.all_cons, Bool.and_eq_true] at h
    rw [List.map_cons, List.map_cons, ← ints_of65 h.2]
    have a := h.1
    cases d <;> first | rfl | (simp [isW] at a)
def trB (ns : List Int) : Bool := decide (ns = []) || !decide (coef ns (ns.length - 1) = 0)
theorem trB_tr {ns : List Int} (h : trB ns = true) : Tr ns := fun ne => by
  unfold trB at h
  rw [Bool.or_eq_true, decide_eq_true_iff, Bool.not_eq_true', decide_eq_false_iff_not] at h
  rcases h with h | h
  · exact absurd h ne
  · exact h
theorem tr_trB {ns : List Int} (h : Tr ns) : trB ns = true := by
  unfold trB
  rw [Bool.or_eq_true, decide_eq_true_iff, Bool.not_eq_true', decide_eq_false_iff_not]
  by_cases e : ns = []
  · exact .inl e
  · exact .inr (h e)
def ipF : PyData → Bool
  | .list ds => ds.all isW && trB (ds.map nOf)
  | _ => false
theorem ipF_of {d : PyData} (h : ipF d = true) : ∃ ns : List Int, d = dI ns ∧ Tr ns := by
  obtain ⟨ds, rfl⟩ : ∃ ds, d = .list ds := by
    cases d <;> first | (simp [ipF] at h) | skip
    exact ⟨_, rfl⟩
  unfold ipF at h
  rw [Bool.and_eq_true] at h
  exact ⟨ds.map nOf, by rw [dI, ← ints_of65 h.1], trB_tr h.2⟩
theorem isWA65 (ns : List Int) : (ns.map PyData.int).all isW = true := List.all_eq_true.mpr fun x hx => by
  obtain ⟨i, _, rfl⟩ := List.mem_map.mp hx
  rfl
theorem nOf65 (ns : List Int) : (ns.map PyData.int).map nOf = ns := by
  rw [List.map_map]
  exact List.map_id ns
theorem ipF_ints (ns : List Int) : ipF (dI ns) = trB ns := by
  show ((ns.map PyData.int).all isW && trB ((ns.map PyData.int).map nOf)) = trB ns
  rw [isWA65, nOf65, Bool.true_and]
mutual
theorem dq_dp65 {K : PySem.W.Frag} {H : Hp} : ∀ {v : V} {d : PyData}, Dq H v d → Dp K H v d
  | _, _, .non => .non
  | _, _, .bl b => .bl b
  | _, _, .int i => .int i
  | _, _, .str x => .str x
  | _, _, .lst h hs => .lst (SqL.of h) (dqa_dpa65 hs)
  | _, _, .tup h hs => .tup (SqT.of h) (dqa_dpa65 hs)
theorem dqa_dpa65 {K : PySem.W.Frag} {H : Hp} : ∀ {vs : List V} {ds : List PyData}, DqAll H vs ds → DpAll K H vs ds
  | _, _, .nil => .nil
  | _, _, .cons h hs => .cons (dq_dp65 h) (dqa_dpa65 hs)
end
theorem dqa_pick65 {H : Hp} {xs : List V} {ds : List PyData} (h : DqAll H xs ds) : ∀ l : List Nat, (∀ i ∈ l, i < xs.length) → DqAll H (l.map fun i => xs.getD i .non) (l.map fun i => ds.getD i .none)
  | [], _ => .nil
  | i :: l, hl => by
    have hi := hl i List.mem_cons_self
    obtain ⟨d, hd, g⟩ := h.at (List.getElem?_eq_getElem hi)
    rw [List.map_cons, List.map_cons, List.getD_eq_getElem?_getD, List.getElem?_eq_getElem hi, List.getD_eq_getElem?_getD, hd]
    exact .cons g (dqa_pick65 h l fun j hj => hl j (List.mem_cons_of_mem _ hj))
theorem lay_at65 : ∀ {ds : List PyData} {d : PyData}, PyData.canLayAll0 ds = true → d ∈ ds → d.canLay0 = true
  | e :: ds, d, h, m => by
    unfold PyData.canLayAll0 at h
    rw [Bool.and_eq_true] at h
    rcases List.mem_cons.mp m with rfl | m
    · exact h.1
    · exact lay_at65 h.2 m
theorem dep_at65 {k : Nat} : ∀ {ds : List PyData} {d : PyData}, PyData.depthAll ds ≤ k → d ∈ ds → d.depth ≤ k
  | e :: ds, d, h, m => by
    unfold PyData.depthAll at h
    have h := Nat.max_le.mp h
    rcases List.mem_cons.mp m with rfl | m
    · exact h.1
    · exact dep_at65 h.2 m
theorem dep_all65 {k : Nat} : ∀ {ds : List PyData}, (∀ d ∈ ds, d.depth ≤ k) → PyData.depthAll ds ≤ k
  | [], _ => Nat.zero_le _
  | d :: ds, h => by
    unfold PyData.depthAll
    exact Nat.max_le.mpr ⟨h d List.mem_cons_self, dep_all65 fun e he => h e (List.mem_cons_of_mem _ he)⟩
theorem shBA_len65 {H : Hp} : ∀ {vs : List V} {ds : List PyData}, DqAll H vs ds → 4 * ds.length ≤ shBA ds
  | _, _, .nil => Nat.zero_le _
  | _, _, .cons (d := d) h hs => by
    have ih := shBA_len65 hs
    have : 2 ≤ shB d := by
      cases h <;> (simp only [shB]; omega)
    simp only [shBA]
    rw [List.length_cons]
    omega
theorem eqv_list_nil65 (d : PyData) (ds : List PyData) : PyData.eqv (.list (d :: ds)) (.list []) = false := by
  simp [PyData.eqv, PyData.eqvAll]
theorem isKl65 (d : PyData) : isK "list" d = (match d with | .list _ => true | _ => false) := by
  cases d <;> (simp only [isK, kindS]; decide +kernel)

/-! ### the law's judge of cosine polynomials -/
def chkC62 (d : Nat) : Bool := decide ((cosF d).length ≤ 31) && ((cosF d).all fun x => decide (x.natAbs < 2 ^ 64))
theorem chkC62_all : ((List.range 60).all fun i => chkC62 (i + 1)) = true := by decide +kernel
theorem cosF_at {d : Nat} (h1 : 1 ≤ d) (h2 : d ≤ 60) : (cosF d).length ≤ 31 ∧ Bd 64 (cosF d) := by
  have t := List.all_eq_true.mp chkC62_all (d - 1) (List.mem_range.mpr (by omega))
  rw [Nat.sub_add_cancel h1] at t
  unfold chkC62 at t
  rw [Bool.and_eq_true] at t
  exact ⟨of_decide_eq_true t.1, Bd.of fun x hx => of_decide_eq_true (List.all_eq_true.mp t.2 x hx)⟩
theorem cosF_last {d : Nat} (h1 : 1 ≤ d) (h2 : d ≤ 60) : cosF d ≠ [] ∧ coef (cosF d) ((cosF d).length - 1) = 1 := by
  have t := chk62_at h1 h2
  unfold chk62 at t
  rw [Bool.and_eq_true] at t
  have t := of_decide_eq_true t.1
  generalize cosF d = l at *
  have ne : l ≠ [] := fun e => by
    rw [e] at t
    cases t
  have pos := List.length_pos_iff.mpr ne
  refine ⟨ne, ?_⟩
  rw [List.getLast?_eq_getElem?] at t
  exact coef_of t
theorem mdF_eq {d : Nat} (h1 : 1 ≤ d) (h2 : d ≤ 60) : mdF d = addP 1 (dbF d) [-2] := by
  have t := chk62_at h1 h2
  unfold chk62 at t
  rw [Bool.and_eq_true, Bool.and_eq_true] at t
  exact of_decide_eq_true t.2.1
theorem mdS_skip {d : Nat} {t : List Int} {e : Nat} (h : ¬ d % e = 0) : mdS d t e = t := by
  unfold mdS
  rw [if_neg h]
theorem mdS_fold (d : Nat) : ∀ (l : List Nat) (t : List Int), l.foldl (mdS d) t = (l.filter fun e => decide (d % e = 0)).foldl (mdS d) t
  | [], _ => rfl
  | e :: l, t => by
    by_cases h : d % e = 0
    · rw [List.filter_cons_of_pos (by exact decide_eq_true h)]
      show l.foldl (mdS d) (mdS d t e) = (l.filter fun e => decide (d % e = 0)).foldl (mdS d) (mdS d t e)
      exact mdS_fold d l _
    · rw [List.filter_cons_of_neg (by rw [decide_eq_false h]; decide)]
      show l.foldl (mdS d) (mdS d t e) = _
      rw [mdS_skip h]
      exact mdS_fold d l _
theorem dvL_filter {n d : Nat} (h1 : 1 ≤ n) (hd : d ∣ n) : (dvL n).filter (fun e => decide (d % e = 0)) = dvL d := by
  have d1 : 1 ≤ d := Nat.pos_of_dvd_of_pos hd (by omega)
  refine rise_uniq ((dvL_rise n).filter _) (dvL_rise d) fun x => ?_
  rw [List.mem_filter, dvL_mem h1, dvL_mem d1]
  constructor
  · intro h
    exact Nat.dvd_of_mod_eq_zero (of_decide_eq_true h.2)
  · intro h
    exact ⟨Nat.dvd_trans h hd, decide_eq_true (Nat.mod_eq_zero_of_dvd h)⟩
def mdI (n d i : Nat) : List Int := ((dvL n).take i).foldl (mdS d) [1]
theorem mdI_step {n d i e : Nat} (h : (dvL n)[i]? = some e) : mdI n d (i + 1) = mdS d (mdI n d i) e := by
  unfold mdI
  rw [List.take_add_one, h]
  show ((((dvL n).take i) ++ [e]).foldl (mdS d) _) = _
  rw [List.foldl_append]
  rfl
theorem mdI_end {n d : Nat} (h1 : 1 ≤ n) (hd : d ∣ n) : mdI n d (dvL n).length = mdF d := by
  unfold mdI mdF
  rw [List.take_length, mdS_fold, dvL_filter h1 hd]
theorem cv_bd62 {a b : Nat} {f g : List Int} (hf : Bd a f) (hg : Bd b g) (m : Nat) : ∀ i, (cv f g i m).natAbs < 2 ^ (a + b + i)
  | 0 => Nat.two_pow_pos _
  | i + 1 => by
    have h1 := cv_bd62 hf hg m i
    have h2 := Nat.mul_lt_mul'' (hf i) (hg (m - i))
    rw [← Int.natAbs_mul, ← Nat.pow_add] at h2
    have h3 : 2 ^ (a + b) ≤ 2 ^ (a + b + i) := Nat.pow_le_pow_right (by decide) (by omega)
    have h4 : 2 ^ (a + b + (i + 1)) = 2 * 2 ^ (a + b + i) := by
      rw [show a + b + (i + 1) = a + b + i + 1 by omega, Nat.pow_succ, Nat.mul_comm]
    show (cv f g i m + if i ≤ m then coef f i * coef g (m - i) else 0).natAbs < _
    split <;> omega
theorem mulP_le62 (f g : List Int) : (mulP f g).length ≤ f.length + g.length := by
  unfold mulP
  split
  · exact Nat.zero_le _
  · rw [mkL_len]
    omega
theorem trim_le62 (l : List Int) : (trim l).length ≤ l.length := by
  rw [trim_len]
  exact tlen_le l _
theorem pdL_len {f g : List Int} : (pdL f g).length ≤ f.length + g.length := by
  unfold pdL
  have := trim_le62 (mulP f g)
  have := mulP_le62 f g
  omega
theorem pdL_bd {a b : Nat} {f g : List Int} (hf : Bd a f) (hg : Bd b g) : Bd (a + b + f.length) (pdL f g) := fun m => by
  unfold pdL
  rw [coef_trim, coef_mulP]
  exact cv_bd62 hf hg m _
/-- so long and so great what is made may be behind i rows -/
def MdOk (i : Nat) (t : List Int) : Prop := t.length ≤ 1 + 62 * i ∧ Bd (1 + 7700 * i) t
theorem Bd.le {a b : Nat} {l : List Int} (h : Bd a l) (q : a ≤ b) : Bd b l := fun m => Nat.lt_of_lt_of_le (h m) (Nat.pow_le_pow_right (by decide) q)
theorem mdS_ok {d e i : Nat} {t : List Int} (h : MdOk i t) (hi : i < 60) (e1 : 1 ≤ e) (e2 : e ≤ 60) : MdOk (i + 1) (mdS d t e) := by
  have c := cosF_at e1 e2
  have l1 := pdL_len (f := t) (g := cosF e)
  have b1 := pdL_bd h.2 c.2
  have l2 := pdL_len (f := pdL t (cosF e)) (g := cosF e)
  have b2 := pdL_bd b1 c.2
  have hl := h.1
  unfold mdS
  split
  · split
    · exact ⟨by omega, b2.le (by omega)⟩
    · exact ⟨by omega, b1.le (by omega)⟩
  · exact ⟨by omega, h.2.le (by omega)⟩
theorem mdI_ok {n d : Nat} (h1 : 1 ≤ n) (h2 : n ≤ 60) : ∀ i, i ≤ (dvL n).length → MdOk i (mdI n d i)
  | 0, _ => by
    unfold mdI
    rw [List.take_zero]
    exact ⟨by show 1 ≤ 1 + 62 * 0; omega, Bd.of fun x hx => by rw [List.mem_singleton.mp hx]; decide⟩
  | i + 1, h => by
    have l := dvL_len n
    obtain ⟨e, he⟩ : ∃ e, (dvL n)[i]? = some e := ⟨(dvL n)[i]'(by omega), List.getElem?_eq_getElem (by omega)⟩
    have m := (dvL_mem h1).mp (List.mem_of_getElem? he)
    rw [mdI_step he]
    exact mdS_ok (mdI_ok h1 h2 i (by omega)) (by omega) (Nat.pos_of_dvd_of_pos m (by omega)) (by have := Nat.le_of_dvd (by omega) m; omega)
theorem cut_last62 {xs l : List V} {v : V} (h : xs = l ++ [v]) : cutV xs (some (-1)) none = [v] := by
  have e : HT.sIx xs.length 0 (some (-1)) = xs.length - 1 := by
    have : xs.length = l.length + 1 := by rw [h, List.length_append, List.length_singleton]
    unfold HT.sIx
    simp
    omega
  have e2 : HT.sIx xs.length xs.length none = xs.length := by
    unfold HT.sIx
    rfl
  unfold cutV
  rw [e, e2, h, List.length_append, List.length_singleton, Nat.add_sub_cancel, List.drop_left, List.take_of_length_le (by rw [List.length_singleton]; omega)]
theorem cosRows_get {n i : Nat} {r : Int × List Int} (h1 : 1 ≤ n) (h2 : n ≤ 60) (h : (cosRows n)[i]? = some r) : ∃ d : Nat, (dvL n)[i]? = some d ∧ r = ((d : Int), cosF d) ∧ d ∣ n ∧ 1 ≤ d ∧ d ≤ 60 := by
  unfold cosRows castI at h
  rw [List.map_map, List.getElem?_map] at h
  obtain ⟨d, hd, rfl⟩ := Option.map_eq_some_iff.mp h
  have m := (dvL_mem h1).mp (List.mem_of_getElem? hd)
  exact ⟨d, hd, rfl, m, Nat.pos_of_dvd_of_pos m (by omega), by have := Nat.le_of_dvd (by omega) m; omega⟩
theorem cosRows_len (n : Nat) : (cosRows n).length = (dvL n).length := by
  unfold cosRows castI
  rw [List.length_map, List.length_map]
theorem cosRows_fst (n : Nat) : (cosRows n).map (fun r => V.int r.1) = (castI (dvL n)).map V.int := by
  unfold cosRows
  rw [List.map_map]
  rfl

/-! ### polynomials have no parts of nought; the cosine polynomials are told by their products -/
theorem mulK_rcons (b : Int) (g : List Int) : ∀ (f : List Int) (m : Nat), coef (mulK f (b :: g)) m = b * coef f m + if 1 ≤ m then coef (mulK f g) (m - 1) else 0
  | [], m => by
    show coef [] m = b * coef [] m + if 1 ≤ m then coef [] (m - 1) else 0
    rw [coef_nil, coef_nil, Int.mul_zero]
    split <;> rfl
  | a :: f, m => by
    rw [coef_mulK_cons]
    cases m with
    | zero =>
      rw [if_neg (by omega), if_neg (by omega), coef_cons0, coef_cons0, Int.mul_comm]
    | succ k =>
      rw [if_pos (by omega), if_pos (by omega), Nat.add_sub_cancel, coef_cons, coef_cons, mulK_rcons b g f k, coef_mulK_cons]
      omega
theorem mulK_rnil : ∀ (f : List Int) (m : Nat), coef (mulK f []) m = 0
  | [], m => coef_nil m
  | a :: f, m => by
    rw [coef_mulK_cons, coef_nil, Int.mul_zero, mulK_rnil f]
    split <;> rfl
theorem mulK_comm : ∀ (f g : List Int) (m : Nat), coef (mulK f g) m = coef (mulK g f) m
  | [], g, m => by
    show coef [] m = _
    rw [coef_nil, mulK_rnil]
  | a :: f, g, m => by
    rw [coef_mulK_cons, mulK_rcons a f g m]
    split
    · rw [mulK_comm f g]
    · rfl
theorem mulK_assoc (g h : List Int) : ∀ (f : List Int) (m : Nat), coef (mulK (mulK f g) h) m = coef (mulK f (mulK g h)) m
  | [], m => rfl
  | a :: f, m => by
    show coef (mulK (addK (g.map fun x => a * x) (0 :: mulK f g)) h) m = _
    rw [mulK_add, mulK_scale, coef_mulK_cons, coef_mulK_cons, Int.zero_mul, Int.zero_add]
    split
    · rw [mulK_assoc g h f]
    · rfl
theorem mulK_cl {a b : List Int} (g : List Int) (h : ∀ m, coef a m = coef b m) (m : Nat) : coef (mulK a g) m = coef (mulK b g) m := by
  have key : ∀ (a : List Int) (i : Nat), a.length ≤ i → cv a g i m = cv a g a.length m := fun a i hi => by
    obtain ⟨k, rfl⟩ : ∃ k, i = a.length + k := ⟨i - a.length, by omega⟩
    induction k with
    | zero => rfl
    | succ k ih =>
      show cv a g (a.length + k) m + (if a.length + k ≤ m then coef a (a.length + k) * coef g (m - (a.length + k)) else 0) = _
      rw [ih (by omega), coef_ge (show a.length ≤ a.length + k by omega), Int.zero_mul]
      split <;> exact Int.add_zero _
  rw [coef_mulK, coef_mulK, ← key a (max a.length b.length) (Nat.le_max_left ..), ← key b (max a.length b.length) (Nat.le_max_right ..)]
  exact cv_congr _ fun j _ => h j
theorem mulK_cr {a b : List Int} (g : List Int) (h : ∀ m, coef a m = coef b m) (m : Nat) : coef (mulK g a) m = coef (mulK g b) m := by
  rw [mulK_comm g a, mulK_comm g b, mulK_cl g h]
theorem mulK_radd (f a b : List Int) (m : Nat) : coef (mulK f (addK a b)) m = coef (mulK f a) m + coef (mulK f b) m := by
  rw [mulK_comm f, mulK_add, mulK_comm a, mulK_comm b]
theorem mulK_rscale (c : Int) (f a : List Int) (m : Nat) : coef (mulK f (a.map fun x => c * x)) m = c * coef (mulK f a) m := by
  rw [mulK_comm f, mulK_scale, mulK_comm a]
theorem dom63 {f g : List Int} (tf : Tr f) (tg : Tr g) (h : ∀ m, coef (mulK f g) m = 0) : f = [] ∨ g = [] := by
  by_cases hf : f = []
  · exact .inl hf
  by_cases hg : g = []
  · exact .inr hg
  have t := cv_last hf hg
  rw [← coef_mulK, h] at t
  rcases Int.mul_eq_zero.mp t.symm with e | e
  · exact absurd e (tf hf)
  · exact absurd e (tg hg)
def sub63 (g c : List Int) : List Int := addK g (c.map fun x => -1 * x)
theorem sub63_at (g c : List Int) (m : Nat) : coef (sub63 g c) m = coef g m - coef c m := by
  unfold sub63
  rw [coef_addK, coef_scale]
  omega
theorem cancel63 {M g c : List Int} (tM : Tr M) (hM : M ≠ []) (h : ∀ m, coef (mulK M g) m = coef (mulK M c) m) (m : Nat) : coef g m = coef c m := by
  have z : ∀ m, coef (mulK M (trim (sub63 g c))) m = 0 := fun m => by
    rw [mulK_cr M (fun m => coef_trim (sub63 g c) m)]
    unfold sub63
    rw [mulK_radd, mulK_rscale, h]
    omega
  rcases dom63 tM (tr_trim _) z with e | e
  · exact absurd e hM
  · have := coef_trim (sub63 g c) m
    rw [e, coef_nil, sub63_at] at this
    omega
theorem sq63 {g c : List Int} (tg : Tr g) (tc : Tr c) (hg : g ≠ []) (hc : c ≠ []) (g1 : coef g (g.length - 1) = 1) (c1 : coef c (c.length - 1) = 1) (h : ∀ m, coef (mulK g g) m = coef (mulK c c) m) : g = c := by
  have z : ∀ m, coef (mulK (trim (sub63 g c)) (trim (addK g c))) m = 0 := fun m => by
    rw [mulK_cl _ (fun m => coef_trim (sub63 g c) m), mulK_cr _ (fun m => coef_trim (addK g c) m), mulK_radd]
    unfold sub63
    rw [mulK_add, mulK_add, mulK_scale, mulK_scale, h m, mulK_comm c g]
    omega
  rcases dom63 (tr_trim _) (tr_trim _) z with e | e
  · refine tr_uniq tg tc fun m => ?_
    have := coef_trim (sub63 g c) m
    rw [e, coef_nil, sub63_at] at this
    omega
  · have p : ∀ m, coef g m + coef c m = 0 := fun m => by
      have := coef_trim (addK g c) m
      rw [e, coef_nil, coef_addK] at this
      omega
    have lg := List.length_pos_iff.mpr hg
    have lc := List.length_pos_iff.mpr hc
    have a := p (g.length - 1)
    have b := p (c.length - 1)
    rw [g1] at a
    rw [c1] at b
    by_cases q : g.length = c.length
    · rw [← q, g1] at b
      omega
    · by_cases r : g.length < c.length
      · rw [coef_ge (l := g) (by omega)] at b
        omega
      · rw [coef_ge (l := c) (by omega)] at a
        omega
theorem pdL_at (f g : List Int) (m : Nat) : coef (pdL f g) m = coef (mulK f g) m := by
  unfold pdL
  rw [coef_trim, coef_mulP, coef_mulK]
theorem pdL_tr (f g : List Int) : Tr (pdL f g) := tr_trim _
/-- what is made, a row more -/
def stG (d : Nat) (t : List Int) (r : Int × List Int) : List Int := if (d : Int) % r.1 = 0 then (if 2 < r.1 then pdL (pdL t r.2) r.2 else pdL t r.2) else t
theorem stG_tr {d : Nat} {t : List Int} {r : Int × List Int} (h : Tr t) : Tr (stG d t r) := by
  unfold stG
  split
  · split <;> exact pdL_tr _ _
  · exact h
theorem stG_fold_tr (d : Nat) : ∀ (rows : List (Int × List Int)) (t : List Int), Tr t → Tr (rows.foldl (stG d) t)
  | [], t, h => h
  | r :: rows, t, h => stG_fold_tr d rows _ (stG_tr h)
theorem stG_one {d : Nat} {M g c : List Int} (d1 : 1 ≤ d) (tM : Tr M) (tg : Tr g) (tc : Tr c) (hg : g ≠ []) (hc : c ≠ []) (g1 : coef g (g.length - 1) = 1) (c1 : coef c (c.length - 1) = 1) (ne : stG d M ((d : Int), c) ≠ []) (h : stG d M ((d : Int), g) = stG d M ((d : Int), c)) : g = c := by
  have dd : (d : Int) % (d : Int) = 0 := Int.emod_self
  unfold stG at h ne
  rw [if_pos dd] at ne
  rw [if_pos dd, if_pos dd] at h
  have hM : M ≠ [] := fun e => by
    rw [e] at ne
    have : ∀ x, pdL [] x = [] := fun x => by
      unfold pdL mulP
      rw [if_pos (.inl rfl)]
      rfl
    rw [this, this] at ne
    split at ne <;> exact ne rfl
  by_cases q : 2 < (d : Int)
  · rw [if_pos q, if_pos q] at h
    refine sq63 tg tc hg hc g1 c1 fun m => cancel63 tM hM (fun m => ?_) m
    rw [← mulK_assoc, ← mulK_assoc, ← mulK_cl g (fun m => pdL_at M g m), ← mulK_cl c (fun m => pdL_at M c m), ← pdL_at, ← pdL_at, h]
  · rw [if_neg q, if_neg q] at h
    exact tr_uniq tg tc (cancel63 tM hM fun m => by rw [← pdL_at, ← pdL_at, h])
theorem stG_skip {d : Nat} {t : List Int} {r : Int × List Int} (h : ¬ (d : Int) % r.1 = 0) : stG d t r = t := by
  unfold stG
  rw [if_neg h]
theorem stG_skips {d : Nat} : ∀ (rows : List (Int × List Int)) (t : List Int), (∀ r ∈ rows, ¬ (d : Int) % r.1 = 0) → rows.foldl (stG d) t = t
  | [], _, _ => rfl
  | r :: rows, t, h => by
    show rows.foldl (stG d) (stG d t r) = t
    rw [stG_skip (h r List.mem_cons_self), stG_skips rows t fun x hx => h x (List.mem_cons_of_mem _ hx)]
theorem cosRows_fold (n d : Nat) (t : List Int) : (cosRows n).foldl (stG d) t = (dvL n).foldl (mdS d) t := by
  unfold cosRows castI
  rw [List.map_map, List.foldl_map]
  have e : ∀ (t : List Int) (e : Nat), stG d t ((e : Int), cosF ((e : Int)).toNat) = mdS d t e := fun t e => by
    unfold stG mdS
    rw [Int.toNat_natCast]
    have a : ((d : Int) % (e : Int) = 0) ↔ d % e = 0 := by omega
    have b : (2 < (e : Int)) ↔ 2 < e := by omega
    simp only [a, b]
  generalize dvL n = l
  induction l generalizing t with
  | nil => rfl
  | cons x l ih =>
    show l.foldl _ _ = l.foldl _ _
    rw [show (mdS d t x) = stG d t ((x : Int), cosF ((x : Int)).toNat) from (e t x).symm]
    exact ih _
theorem ne63_all : ((List.range 60).all fun i => !decide (addP 1 (dbF (i + 1)) [-2] = [])) = true := by decide +kernel
theorem ne63 {d : Nat} (h1 : 1 ≤ d) (h2 : d ≤ 60) : addP 1 (dbF d) [-2] ≠ [] := by
  have t := List.all_eq_true.mp ne63_all (d - 1) (List.mem_range.mpr (by omega))
  rw [Nat.sub_add_cancel h1, Bool.not_eq_true', decide_eq_false_iff_not] at t
  exact t
theorem cosRows_made {n d : Nat} (h1 : 1 ≤ n) (h2 : n ≤ 60) (hd : d ∣ n) : (cosRows n).foldl (stG d) [1] = addP 1 (dbF d) [-2] := by
  have d1 := Nat.pos_of_dvd_of_pos hd h1
  have d2 := Nat.le_of_dvd h1 hd
  rw [cosRows_fold]
  have t := mdI_end h1 hd
  unfold mdI at t
  rw [List.take_length] at t
  rw [t, mdF_eq d1 (by omega)]
def good63 (f : List Int) : Prop := Tr f ∧ f ≠ [] ∧ coef f (f.length - 1) = 1
theorem good_cos {d : Nat} (h1 : 1 ≤ d) (h2 : d ≤ 60) : good63 (cosF d) := by
  obtain ⟨a, b⟩ := cosF_last h1 h2
  exact ⟨fun _ => by rw [b]; decide, a, b⟩
theorem uniq63 {n : Nat} (h1 : 1 ≤ n) (h2 : n ≤ 60) {rows : List (Int × List Int)} (hf : rows.map Prod.fst = castI (dvL n)) (ht : ∀ r ∈ rows, good63 r.2) (hm : ∀ (d : Nat) g, ((d : Int), g) ∈ rows → rows.foldl (stG d) [1] = addP 1 (dbF d) [-2]) : rows = cosRows n := by
  have ln : rows.length = (dvL n).length := by
    have := congrArg List.length hf
    rwa [List.length_map, castI_len] at this
  have fst : ∀ (i : Nat) (r : Int × List Int), rows[i]? = some r → ∃ d : Nat, (dvL n)[i]? = some d ∧ r.1 = (d : Int) := fun i r hr => by
    have t : (rows.map Prod.fst)[i]? = some r.1 := by rw [List.getElem?_map, hr]; rfl
    rw [hf] at t
    unfold castI at t
    rw [List.getElem?_map] at t
    obtain ⟨d, hd, e⟩ := Option.map_eq_some_iff.mp t
    exact ⟨d, hd, e.symm⟩
  have key : ∀ i, i ≤ rows.length → rows.take i = (cosRows n).take i := fun i => by
    induction i with
    | zero => intro _; rfl
    | succ i ih =>
      intro hi
      have ih := ih (by omega)
      obtain ⟨r, hr⟩ : ∃ r, rows[i]? = some r := ⟨_, List.getElem?_eq_getElem (by omega)⟩
      obtain ⟨c, hc⟩ : ∃ c, (cosRows n)[i]? = some c := ⟨_, List.getElem?_eq_getElem (by rw [cosRows_len]; omega)⟩
      obtain ⟨d, hd, rd⟩ := fst i r hr
      obtain ⟨d', hd', rfl, dn, d1, d2⟩ := cosRows_get h1 h2 hc
      obtain rfl : d = d' := by rw [hd] at hd'; exact Option.some.inj hd'
      obtain ⟨r1, g⟩ := r
      obtain rfl : r1 = (d : Int) := rd
      rw [List.take_add_one, List.take_add_one, hr, hc, ih]
      have hgr := ht _ (List.mem_of_getElem? hr)
      have hgc := good_cos d1 d2
      have m1 := hm d g (List.mem_of_getElem? hr)
      have m2 := cosRows_made h1 h2 dn
      have up : ∀ (l : List (Int × List Int)) (y : List Int), l.length = (dvL n).length → l[i]? = some ((d : Int), y) → (∀ (j : Nat) (r : Int × List Int), l[j]? = some r → ∃ d : Nat, (dvL n)[j]? = some d ∧ r.1 = (d : Int)) → l.foldl (stG d) [1] = stG d ((l.take i).foldl (stG d) [1]) ((d : Int), y) := fun l y ll hl hf => by
        have e : l = l.take i ++ ((d : Int), y) :: l.drop (i + 1) := by
          have il := (List.getElem?_eq_some_iff.mp hl).1
          have ev := (List.getElem?_eq_some_iff.mp hl).2
          rw [← ev, List.getElem_cons_drop, List.take_append_drop]
        conv => lhs; rw [e]
        rw [List.foldl_append, List.foldl_cons]
        refine stG_skips _ _ fun r hr => ?_
        obtain ⟨j, hj⟩ := List.mem_iff_getElem?.mp hr
        rw [List.getElem?_drop] at hj
        obtain ⟨e', he, re⟩ := hf _ _ hj
        have ris := dvL_rise n
        have i1 := (List.getElem?_eq_some_iff.mp hd)
        have i2 := (List.getElem?_eq_some_iff.mp he)
        have lt := List.pairwise_iff_getElem.mp ris i (i + 1 + j) i1.1 i2.1 (by omega)
        rw [i1.2, i2.2] at lt
        rw [re, Int.emod_eq_of_lt (by omega) (by omega)]
        omega
      have fc : ∀ (j : Nat) (r : Int × List Int), (cosRows n)[j]? = some r → ∃ d : Nat, (dvL n)[j]? = some d ∧ r.1 = (d : Int) := fun j r hj => by
        obtain ⟨e, he, rfl, _⟩ := cosRows_get h1 h2 hj
        exact ⟨e, he, rfl⟩
      rw [up rows g ln hr fst, ih] at m1
      rw [up (cosRows n) (cosF d) (cosRows_len n) hc fc] at m2
      have tM := stG_fold_tr d ((cosRows n).take i) [1] (fun _ => by decide)
      have : g = cosF d := stG_one d1 tM hgr.1 hgc.1 hgr.2.1 hgc.2.1 hgr.2.2 hgc.2.2 (by rw [m2]; exact ne63 d1 d2) (by rw [m1, m2])
      rw [this]
  have a := key rows.length (Nat.le_refl _)
  rw [List.take_length, List.take_of_length_le (by rw [cosRows_len]; omega)] at a
  exact a

/-! ### whole, or a polynomial: of any thing, of the law -/
/- _law_whole: slots 0 _law_thing; calls  -/
abbrev s__law_whole : Stmt := topS 32
theorem sc__law_whole : FnScope ["_law_thing"] ["_law_thing"] (defScope s__law_whole) := ⟨rfl, rfl, rfl, by decide +kernel, rfl, by decide +kernel, by decide +kernel⟩

def spWh63 : Sp := fun vs H Q _ => ∃ (x : V) (d : PyData), vs = [x] ∧ Dq H x d ∧ RetV (.bl (isW d)) H Q
section
variable {P : Program} {w : World} {K : PySem.W.Frag} {mg : Str → Option Value} {base : Heap}
theorem cal_wh63 (nb : Nb mg) (d : Dfn K mg "_law_whole" ["_law_thing"] s__law_whole) : Cal P w K mg base CX0 "_law_whole" 1 ["_law_thing"] spWh63 := by
  refine d.cal sc__law_whole (fun vs H Q E h => ?_) (fun f cdv A outer s H vs Q E hr h => ?_)
  · obtain ⟨x, d, rfl, _⟩ := h
    rfl
  · obtain ⟨x, d, rfl, hd, q⟩ := h
    refine ⟨_, (pss_one (ps_ret (pe_and (pe_callB call_isi (by rfl) nb.isinstance (by decide +kernel) (pa_cons (pv 0) (pa_cons (pe_bltn (v := .ty "int") (by rfl) nb.int (by decide +kernel) rfl) pa_nil))) (pe_one (pe_not (pe_callB call_isi (by rfl) nb.isinstance (by decide +kernel) (pa_cons (pv 0) (pa_cons (pe_bltn (v := .ty "bool") (by rfl) nb.bool (by decide +kernel) rfl) pa_nil)))))))), ?_⟩
    exact s_ret (v := .bl (isW d)) (ev_is (ev_andV (ev_isD (ev_var rfl) hd (.inr (.inr (.inl rfl)))) fun _ => ev_notV (ev_isD (ev_var rfl) hd (.inr (.inr (.inr rfl))))) (by rw [isW_is])) fun H1 e1 => q H1 e1
end
/- _law_is_poly: slots 0 _law_thing, 1 _law_one; calls  -/
abbrev s__law_is_poly : Stmt := topS 33
theorem sc__law_is_poly : FnScope ["_law_thing", "_law_one"] ["_law_thing"] (defScope s__law_is_poly) := ⟨rfl, rfl, rfl, by decide +kernel, rfl, by decide +kernel, by decide +kernel⟩

def spIp63 : Sp := fun vs H Q _ => ∃ (x : V) (d : PyData), vs = [x] ∧ Dq H x d ∧ Ok65 158000 60 d ∧ RetV (.bl (ipF d)) H Q
section
variable {P : Program} {w : World} {K : PySem.W.Frag} {mg : Str → Option Value} {base : Heap}
theorem cal_ip63 (nb : Nb mg) (d : Dfn K mg "_law_is_poly" ["_law_thing"] s__law_is_poly) : Cal P w K mg base CX0 "_law_is_poly" 1 ["_law_thing"] spIp63 := by
  refine d.cal sc__law_is_poly (fun vs H Q E h => ?_) (fun fa cdv A outer s H vs Q E hr h => ?_)
  · obtain ⟨x, d, rfl, _⟩ := h
    rfl
  · obtain ⟨x, d, rfl, hx, ok, q⟩ := h
    refine ⟨_, (pss_cons (ps_if (pt_not (pt_val (pe_callB call_isi (by rfl) nb.isinstance (by decide +kernel) (pa_cons (pv 0) (pa_cons (pe_bltn (v := .ty "list") (by rfl) nb.list (by decide +kernel) rfl) pa_nil))))) (pss_one (ps_ret pe_bl)) pss_nil)
      (pss_cons (ps_if (pt_cmpR (op_neD hr.units) (pe_lc (own := [("_law_one", 1)]) (g := gName 1) (tt := (tOr (tB (tCB (rIsi K) (tCons (tVar 1) (tCons (tC (.ty "bool")) tNil)))) (tNot (tB (tCB (rIsi K) (tCons (tVar 1) (tCons (tC (.ty "int")) tNil))))))) (by rfl) sc__law_is_poly.nd (pi_list (pv 0)) (blkOk_by (N := ["_law_thing", "_law_one"]) (sc := defScope s__law_is_poly) (by decide +kernel)) (fun _ _ _ _ _ => (pg_name (i := 1) sc__law_is_poly.nd rfl (Or.inl rfl))) (fun _ _ _ _ _ => pts_one (PW.pt (pw_or (pt_val (pe_callB call_isi (by rfl) nb.isinstance (by decide +kernel) (pa_cons (pv 1) (pa_cons (pe_bltn (v := .ty "bool") (by rfl) nb.bool (by decide +kernel) rfl) pa_nil)))) (pw_or1 (pt_not (pt_val (pe_callB call_isi (by rfl) nb.isinstance (by decide +kernel) (pa_cons (pv 1) (pa_cons (pe_bltn (v := .ty "int") (by rfl) nb.int (by decide +kernel) rfl) pa_nil))))))))) (fun _ _ _ _ _ => (pv 1))) (pe_lst pa_nil) (nomark _)) (pss_one (ps_ret pe_bl)) pss_nil)
      (pss_one (ps_ret (pe_or (pe_cmpR (op_eqD hr.units) (pv 0) (pe_lst pa_nil) (nomark _)) (pe_one (pe_cmpR op_ne (pe_ix ix_list (pv 0) (pe_un un_neg pe_int) (fun _ _ => rfl)) pe_int (nomark _)))))))), ?_⟩
    refine q_when (b := !isK "list" d) (et_not (et_B (ev_isD (ev_var rfl) hx (.inl rfl)))) (fun hb H1 e1 => ?_) (fun hb H1 e1 => ?_)
    · have : ipF d = false := by
        rw [isKl65] at hb
        cases d <;> first | rfl | (cases hb)
      exact s_ret (v := .bl false) ev_c fun H2 e2 => by rw [← this]; exact q H2 (e1.trans e2)
    · obtain ⟨ds, rfl⟩ : ∃ ds, d = .list ds := by
        rw [isKl65] at hb
        cases d <;> first | (exact ⟨_, rfl⟩) | (cases hb)
      obtain ⟨a, xs, rfl, hA, hs⟩ : ∃ a xs, x = .ref a ∧ H a = some (.lst xs) ∧ DqAll H xs ds := by
        cases hx with
        | lst h hs => exact ⟨_, _, rfl, h, hs⟩
      have le := hs.len
      have hz : xs.length ≤ 40000 := by
        have a := shBA_len65 hs
        have b := ok.2.len
        simp only [shB] at b
        omega
      have hA1 := e1 _ _ hA
      have hs1 := hs.mono e1
      have elem : ∀ i x, xs[i]? = some x → ∃ d, ds[i]? = some d ∧ Dq H1 x d := fun i x hi => hs1.at hi
      have tst : ∀ {σ : L2.St} {H2 : Hp} {x : V} {d : PyData}, σ[1]? = some (some x) → Dq H2 x d → EvT (tOr (tB (tCB (rIsi K) (tCons (tVar 1) (tCons (tC (.ty "bool")) tNil)))) (tNot (tB (tCB (rIsi K) (tCons (tVar 1) (tCons (tC (.ty "int")) tNil)))))) σ H2 (!isW d) := fun hi hd => et_is (et_or (et_B (ev_isD (ev_var hi) hd (.inr (.inr (.inr rfl))))) fun _ => et_not (et_B (ev_isD (ev_var hi) hd (.inr (.inr (.inl rfl)))))) (by rw [← isW_is]; cases isK "int" _ <;> cases isK "bool" _ <;> rfl)
      by_cases al : ds.all isW = true
      · obtain ⟨ns, rfl⟩ : ∃ ns : List Int, ds = ns.map PyData.int := ⟨_, ints_of65 al⟩
        obtain rfl := dqa_intsL65 hs
        have eI : ipF (.list (ns.map PyData.int)) = trB ns := ipF_ints ns
        refine q_when (b := false) (et_test (ev_opLL (xs := []) (ys := []) (el_is (el_lcI (ns := ns) (fun _ => false) (fun i => .int i) (ev_var rfl) (SqL.of hA1) (by rw [List.length_map] at hz; exact hz) (fun _ => rfl) (fun i H6 e6 hi => et_is (tst (d := .int i) rfl (.int i)) rfl) fun i H6 e6 hi hf => nomatch hf) (by simp)) (el_lst ea_nil (by decide)) fun u v H7 hu hv e7 => rv_neI (ns := []) (ms := []) (SqL.of hu) (SqL.of hv))) (fun hb => nomatch hb) (fun _ H2 e2 => ?_)
        have h2 := e2 _ _ hA1
        refine s_ret (v := .bl (trB ns)) (ev_orV (ev_opL (xs := []) (ev_var rfl) (el_lst ea_nil (by decide)) fun u H3 hu e3 => rv_eqI (ns := ns) (ms := []) (SqL.of (e3 _ _ h2)) (SqL.of hu)) fun hb => ?_) fun H3 e3 => by rw [← eI]; exact q H3 ((e1.trans e2).trans e3)
        have ne := of_decide_eq_false hb
        have pos := List.length_pos_iff.mpr ne
        exact ev_neI (i := coef ns (ns.length - 1)) (j := 0) (ev_op (ev_var rfl) (ev_neg ev_c) (rv_ixL (v := .int (coef ns (ns.length - 1))) (SqL.of h2) (atI_last (by rw [List.length_map, List.getElem?_map, coef_get (by omega)]; rfl)))) ev_c
      · have eI : ipF (.list ds) = false := by
          show (ds.all isW && trB (ds.map nOf)) = false
          rw [Bool.eq_false_iff.mpr al, Bool.false_and]
        refine q_when (b := true) (et_test (ev_opLL (xs := given xs.length (fun i => !isW (ds.getD i .none)) fun i => xs.getD i .non) (ys := []) (el_lcL (xs := xs) (fun i => !isW (ds.getD i .none)) (fun i => xs.getD i .non) (ev_var rfl) (SqL.of hA1) hz (fun _ => rfl) (fun i x H6 e6 hi => ?_) fun i x H6 e6 hi hf => ?_) (el_lst ea_nil (by decide)) fun u v H7 hu hv e7 => ?_)) (fun _ H2 e2 => ?_) (fun hb => nomatch hb)
        · obtain ⟨d, hd, g⟩ := elem i x hi
          rw [List.getD_eq_getElem?_getD, hd]
          exact tst rfl (g.mono e6)
        · rw [List.getD_eq_getElem?_getD, hi]
          exact ev_var rfl
        · obtain ⟨es, hes⟩ : ∃ es, es = ((List.range xs.length).filter fun i => !isW (ds.getD i .none)).map fun i => ds.getD i .none := ⟨_, rfl⟩
          have D := dqa_pick65 (hs1.mono e7) ((List.range xs.length).filter fun i => !isW (ds.getD i .none)) fun i hi => List.mem_range.mp (List.mem_filter.mp hi).1
          rw [← hes] at D
          have mem : ∀ d ∈ es, d ∈ ds := fun d hd => by
            rw [hes] at hd
            obtain ⟨i, hi, rfl⟩ := List.mem_map.mp hd
            have := List.mem_range.mp (List.mem_filter.mp hi).1
            rw [List.getD_eq_getElem?_getD, List.getElem?_eq_getElem (by omega)]
            exact List.getElem_mem _
          obtain ⟨d, es', rfl⟩ : ∃ d es', es = d :: es' := by
            match es, hes with
            | d :: es', _ => exact ⟨d, es', rfl⟩
            | [], hes =>
              refine absurd (List.all_eq_true.mpr fun d hd => ?_) al
              obtain ⟨i, hi⟩ := List.mem_iff_getElem?.mp hd
              have li := (List.getElem?_eq_some_iff.mp hi).1
              have nil := List.map_eq_nil_iff.mp hes.symm
              have := List.filter_eq_nil_iff.mp nil i (List.mem_range.mpr (by omega))
              rw [List.getD_eq_getElem?_getD, hi] at this
              simpa using this
          have lay : PyData.canLay0 (.list (d :: es')) = true := lay_all fun x hx => lay_at65 ok.1 (mem x hx)
          have dp : PyData.depth (.list (d :: es')) ≤ 64 := by
            have h := ok.2.dep
            simp only [PyData.depth] at h ⊢
            have := dep_all65 (k := PyData.depthAll ds) fun x hx => dep_at65 (Nat.le_refl _) (mem x hx)
            omega
          exact rv_neD (fun H8 e8 => dq_dp65 (.lst (e8 _ _ hu) (D.mono e8))) (fun H8 e8 => dp_ints (ns := []) (SqL.of (e8 _ _ hv))) (shaped_of lay dp) (dI_sh []) (by rw [show dI [] = .list [] from rfl, eqv_list_nil65]; rfl)
        · exact s_ret (v := .bl false) ev_c fun H3 e3 => by rw [← eI]; exact q H3 ((e1.trans e2).trans e3)
end

/-! ### the law's judge of cosine polynomials, of any thing -/
def nsD63 : PyData → List Int
  | .list ds => ds.map nOf
  | _ => []
def rowOf : PyData → Int × List Int
  | .tuple [a, b] => (nOf a, nsD63 b)
  | _ => (0, [])
def rowOk : PyData → Bool
  | .tuple [a, b] => isW a && ipF b
  | _ => false
theorem isW_of {d : PyData} (h : isW d = true) : d = .int (nOf d) := by
  cases d <;> first | rfl | (simp [isW] at h)
theorem isWK63 (d : PyData) : isK "tuple" d = (match d with | .tuple _ => true | _ => false) := by
  cases d <;> (simp only [isK, kindS]; decide +kernel)
theorem row_cases (d : PyData) : (isK "tuple" d = false ∧ rowOk d = false) ∨ (∃ ys, d = .tuple ys ∧ ys.length ≠ 2 ∧ rowOk d = false) ∨ ∃ a b, d = .tuple [a, b] := by
  by_cases h : isK "tuple" d = true
  · obtain ⟨ys, rfl⟩ : ∃ ys, d = .tuple ys := by
      rw [isWK63] at h
      cases d <;> first | (exact ⟨_, rfl⟩) | (cases h)
    match ys with
    | [a, b] => exact .inr (.inr ⟨a, b, rfl⟩)
    | [] => exact .inr (.inl ⟨[], rfl, by decide, rfl⟩)
    | [a] => exact .inr (.inl ⟨[a], rfl, by simp, rfl⟩)
    | a :: b :: c :: l => exact .inr (.inl ⟨_, rfl, by simp, rfl⟩)
  · have h := Bool.eq_false_iff.mpr h
    refine .inl ⟨h, ?_⟩
    rw [isWK63] at h
    cases d <;> first | rfl | (cases h)
theorem rowOk_of {d : PyData} (h : rowOk d = true) : d = dNL (rowOf d) ∧ Tr (rowOf d).2 := by
  rcases row_cases d with ⟨_, g⟩ | ⟨_, _, _, g⟩ | ⟨a, b, rfl⟩
  · rw [g] at h; cases h
  · rw [g] at h; cases h
  · have h : (isW a && ipF b) = true := h
    rw [Bool.and_eq_true] at h
    obtain ⟨ns, rfl, t⟩ := ipF_of h.2
    show PyData.tuple [a, dI ns] = .tuple [.int (nOf a), dI ((ns.map PyData.int).map nOf)] ∧ Tr ((ns.map PyData.int).map nOf)
    rw [nOf65, ← isW_of h.1]
    exact ⟨rfl, t⟩
theorem rowOk_NL (r : Int × List Int) (t : Tr r.2) : rowOk (dNL r) = true := by
  show (isW (.int r.1) && ipF (dI r.2)) = true
  rw [ipF_ints, tr_trB t]
  rfl
theorem rows_of63 : ∀ {ds : List PyData}, (∀ d ∈ ds, rowOk d = true) → ds = (ds.map rowOf).map dNL
  | [], _ => rfl
  | d :: ds, h => by
    rw [List.map_cons, List.map_cons, ← rows_of63 fun x hx => h x (List.mem_cons_of_mem _ hx), ← (rowOk_of (h d List.mem_cons_self)).1]
theorem dNL_inj (a b : Int × List Int) (e : dNL a = dNL b) : a = b := by
  obtain ⟨a1, a2⟩ := a
  obtain ⟨b1, b2⟩ := b
  simp [dNL, dI] at e
  rw [e.1, map_inj (fun _ _ q => PyData.int.inj q) a2 b2 e.2]
theorem alk_int65 {d : PyData} {i : Int} (h : alkF d (.int i) = true) : d = .int i := by
  cases d <;> first | (simp [alkF] at h; done) | (simp [alkF] at h; rw [h])
theorem alkA_ints65 : ∀ {ds : List PyData} {ns : List Int}, alkA ds (ns.map PyData.int) = true → ds = ns.map PyData.int
  | [], [], _ => rfl
  | [], n :: ns, h => by simp [alkA] at h
  | d :: ds, [], h => by simp [alkA] at h
  | d :: ds, n :: ns, h => by
    rw [List.map_cons] at h ⊢
    unfold alkA at h
    rw [Bool.and_eq_true] at h
    rw [alk_int65 h.1, alkA_ints65 h.2]
theorem alk_ints65 {d : PyData} {ns : List Int} (h : alkF d (dI ns) = true) : d = dI ns := by
  unfold dI at *
  cases d <;> first | (simp [alkF] at h; done) | skip
  unfold alkF at h
  rw [alkA_ints65 h]
theorem alk_NL63 {d : PyData} {r : Int × List Int} (h : alkF d (dNL r) = true) : d = dNL r := by
  unfold dNL at *
  cases d <;> first | (simp [alkF] at h; done) | skip
  rename_i ys
  unfold alkF at h
  match ys, h with
  | [], h => simp [alkA] at h
  | [a], h => simp [alkA] at h
  | a :: b :: c :: l, h => simp [alkA] at h
  | [a, b], h =>
    simp only [alkA, Bool.and_eq_true] at h
    rw [alk_int65 h.1, alk_ints65 h.2.1]
theorem alkA_rows63 : ∀ {ds : List PyData} {rows : List (Int × List Int)}, alkA ds (rows.map dNL) = true → ds = rows.map dNL
  | [], [], _ => rfl
  | [], n :: ns, h => by simp [alkA] at h
  | d :: ds, [], h => by simp [alkA] at h
  | d :: ds, n :: ns, h => by
    rw [List.map_cons] at h ⊢
    unfold alkA at h
    rw [Bool.and_eq_true] at h
    rw [alk_NL63 h.1, alkA_rows63 h.2]
theorem alk_rows63 {d : PyData} {rows : List (Int × List Int)} (h : alkF d (dRw rows) = true) : d = dRw rows := by
  unfold dRw at *
  cases d <;> first | (simp [alkF] at h; done) | skip
  unfold alkF at h
  rw [alkA_rows63 h]
theorem alkA_int_self : ∀ ns : List Int, alkA (ns.map PyData.int) (ns.map PyData.int) = true
  | [] => rfl
  | n :: ns => by
    rw [List.map_cons]
    unfold alkA
    rw [alkA_int_self ns]
    simp [alkF]
theorem alkA_rows_self : ∀ rows : List (Int × List Int), alkA (rows.map dNL) (rows.map dNL) = true
  | [] => rfl
  | r :: rows => by
    rw [List.map_cons]
    unfold alkA
    rw [alkA_rows_self rows, Bool.and_true]
    unfold dNL dI
    simp [alkF, alkA, alkA_int_self]
theorem alk_rw_self (rows : List (Int × List Int)) : alkF (dRw rows) (dRw rows) = true := by
  unfold dRw alkF
  exact alkA_rows_self rows
theorem shBA_ints63 : ∀ ns : List Int, shBA (ns.map PyData.int) = 1923 * ns.length
  | [] => by simp only [List.map_nil, shBA]; rfl
  | n :: ns => by
    rw [List.map_cons]
    simp only [shBA, shB]
    rw [shBA_ints63 ns, List.length_cons]
    omega
theorem ok_bd63 : ∀ {ns : List Int}, shOA (ns.map PyData.int) = true → ∀ i ∈ ns, i.natAbs < 2 ^ 1921
  | n :: ns, h, i, hi => by
    rw [List.map_cons] at h
    simp only [shOA, shO, Bool.and_eq_true, decide_eq_true_iff] at h
    rcases List.mem_cons.mp hi with rfl | hi
    · by_cases z : i.natAbs = 0
      · rw [z]
        exact Nat.two_pow_pos _
      · exact (Nat.log2_lt z).mp (by omega)
    · exact ok_bd63 h.2 i hi
theorem row_bd63 {k : Nat} {r : Int × List Int} (h : Ok65 158000 k (dNL r)) : r.2.length ≤ 82 ∧ Bd 1921 r.2 := by
  have l := h.2.len
  have o := h.2.ok
  unfold dNL dI at l o
  simp only [shB, shBA, shBA_ints63] at l
  simp only [shO, shOA, Bool.and_eq_true] at o
  exact ⟨by omega, Bd.of (ok_bd63 o.2.1)⟩
theorem ok_item63 {b k : Nat} {ds : List PyData} (h : Ok65 b k (.list ds)) : ∀ d ∈ ds, Ok65 b k d := fun d hd => by
  obtain ⟨i, hi⟩ := List.mem_iff_getElem?.mp hd
  have z : SzA b k ds := ⟨by have := h.2.ok; simpa only [shO] using this, by have := h.2.len; simp only [shB] at this; omega, by have := h.2.dep; simp only [PyData.depth] at this; omega⟩
  exact ⟨lay_at65 h.1 hd, z.at hi⟩
theorem ok_itemT63 {b k : Nat} {ds : List PyData} (h : Ok65 b k (.tuple ds)) : ∀ d ∈ ds, Ok65 b k d := fun d hd => by
  obtain ⟨i, hi⟩ := List.mem_iff_getElem?.mp hd
  have z : SzA b k ds := ⟨by have := h.2.ok; simpa only [shO] using this, by have := h.2.len; simp only [shB] at this; omega, by have := h.2.dep; simp only [PyData.depth] at this; omega⟩
  exact ⟨lay_at65 h.1 hd, z.at hi⟩
theorem dq_NL63 {H : Hp} {x : V} {r : Int × List Int} (h : Dq H x (dNL r)) : ∃ t q, x = .ref t ∧ H t = some (.tup [.int r.1, .ref q]) ∧ H q = some (.lst (r.2.map V.int)) := by
  unfold dNL at h
  cases h with
  | tup h hs =>
    cases hs with
    | cons h1 hs =>
      cases hs with
      | cons h2 hs =>
        cases hs
        cases h1
        obtain ⟨q, rfl, hq⟩ := dq_intsL65 h2
        exact ⟨_, q, rfl, h, hq⟩
theorem rowsD_get {H : Hp} {xs : List V} {rows : List (Int × List Int)} {i : Nat} {x : V} (h : DqAll H xs (rows.map dNL)) (hx : xs[i]? = some x) : ∃ r t q, rows[i]? = some r ∧ x = .ref t ∧ H t = some (.tup [.int r.1, .ref q]) ∧ H q = some (.lst (r.2.map V.int)) := by
  obtain ⟨d, hd, g⟩ := h.at hx
  rw [List.getElem?_map] at hd
  obtain ⟨r, hr, rfl⟩ := Option.map_eq_some_iff.mp hd
  obtain ⟨t, q, rfl, ht, hq⟩ := dq_NL63 g
  exact ⟨r, t, q, hr, rfl, ht, hq⟩
theorem cut_last63 (f : List Int) : cutV (f.map V.int) (some (-1)) none = (f.drop (f.length - 1)).map V.int := by
  by_cases h : f = []
  · subst h
    rfl
  · have pos := List.length_pos_iff.mpr h
    have e : f.map V.int = f.dropLast.map V.int ++ [V.int (f.getLast h)] := by
      conv => lhs; rw [← List.dropLast_concat_getLast h]
      rw [List.map_append]
      rfl
    rw [cut_last62 e, List.drop_eq_getElem_cons (by omega), List.drop_of_length_le (by omega), List.getLast_eq_getElem]
    rfl
theorem last_good {f : List Int} (t : Tr f) : f.drop (f.length - 1) = [1] ↔ good63 f := by
  constructor
  · intro h
    have ne : f ≠ [] := fun e => by rw [e] at h; cases h
    have pos := List.length_pos_iff.mpr ne
    rw [List.drop_eq_getElem_cons (by omega)] at h
    injection h with h1 h2
    exact ⟨t, ne, by rw [coef_lt (by omega), h1]⟩
  · rintro ⟨_, ne, h⟩
    have pos := List.length_pos_iff.mpr ne
    rw [coef_lt (by omega)] at h
    rw [List.drop_eq_getElem_cons (by omega), h, List.drop_of_length_le (by omega)]
/-- so long and so great what is made may be behind i rows -/
def MdG (i : Nat) (t : List Int) : Prop := t.length ≤ 1 + 164 * i ∧ Bd (1 + 8000 * i) t
theorem stG_ok {d i : Nat} {t : List Int} {r : Int × List Int} (h : MdG i t) (hi : i < 13) (l : r.2.length ≤ 82) (b : Bd 1921 r.2) : MdG (i + 1) (stG d t r) := by
  have l1 := pdL_len (f := t) (g := r.2)
  have b1 := pdL_bd h.2 b
  have l2 := pdL_len (f := pdL t r.2) (g := r.2)
  have b2 := pdL_bd b1 b
  have hl := h.1
  unfold stG
  split
  · split
    · exact ⟨by omega, b2.le (by omega)⟩
    · exact ⟨by omega, b1.le (by omega)⟩
  · exact ⟨by omega, h.2.le (by omega)⟩
section
variable {K : PySem.W.Frag} {σ : L2.St} {H : Hp} {te tl : TE} {D : Ends} {tu tz : TS} {vs : List Nat}
/-- for a, b in rows, by their data -/
theorem q_forDqP {a : Addr} {xs : List V} {rows : List (Int × List Int)} {j1 j2 : Nat} (h : Ev tl σ H (.ref a)) (hx : H a = some (.lst xs)) (hp : DqAll H xs (rows.map dNL)) (Pv : Nat → L2.St → Hp → Prop) (h0 : ∀ H1, Ex H H1 → Pv 0 σ H1) (hl : ∀ i σ' H', Pv i σ' H' → Ex H H')
    (hs : ∀ (i : Nat) (r : Int × List Int) (q : Addr) (σ' : L2.St) (H' : Hp), rows[i]? = some r → H' q = some (.lst (r.2.map V.int)) → Pv i σ' H' → tu { D with nx := Pv (i + 1), ct := Pv (i + 1), bk := tz D } ((σ'.set j1 (some (.int r.1))).set j2 (some (.ref q))) H') (hd : ∀ σ' H', Pv rows.length σ' H' → tz D σ' H') :
    tSeq (tFor (iList K tl) (gTup K 2 (gCons (gName j1) (gCons (gName j2) gNil))) tu) tz D σ H :=
  h H (Ex.refl H) _ fun H1 e => ⟨a, rfl, ⟨xs, SqL.of (e _ _ hx)⟩, for_list (xs := xs) Pv (h0 H1 e) (fun i σ' H' _ q => SqL.of (hl _ _ _ q _ _ hx)) (fun i x σ' H' hx q => by
    obtain ⟨r, t, qq, hr, rfl, h3, h4⟩ := rowsD_get (hp.mono (hl _ _ _ q)) hx
    exact ⟨t, _, rfl, SqT.of h3, rfl, .int r.1, [.ref qq], rfl, .ref qq, [], rfl, rfl, hs i r qq σ' H' hr h4 q⟩) (fun σ' H' q => by
    have hln : xs.length = rows.length := by rw [hp.len, List.length_map]
    rw [hln] at q
    exact hd σ' H' q)⟩
theorem given_map {α : Type} (rows : List α) (w : α → V) (v : Nat → V) (h : ∀ i r, rows[i]? = some r → v i = w r) : given rows.length (fun _ => true) v = rows.map w := by
  unfold given
  rw [filter_yes]
  refine List.ext_getElem? fun i => ?_
  rw [List.getElem?_map, List.getElem?_map]
  by_cases c : i < rows.length
  · rw [List.getElem?_range c, List.getElem?_eq_getElem c]
    exact congrArg some (h i _ (List.getElem?_eq_getElem c))
  · rw [List.getElem?_eq_none (by rw [List.length_range]; omega), List.getElem?_eq_none (by omega)]
    rfl
/-- [e of r for r in rows], by their data -/
theorem el_lcDq {a : Addr} {xs : List V} {rows : List (Int × List Int)} {j : Nat} (w : Int × List Int → V) (h : Ev tl σ H (.ref a)) (hx : H a = some (.lst xs)) (hp : DqAll H xs (rows.map dNL)) (hz : rows.length ≤ 40000) (hw : ∀ x, wipe ((wipe σ vs).set j (some x)) vs = wipe σ vs)
    (he : ∀ (i : Nat) (r : Int × List Int) (t q : Addr) (H1 : Hp), Ex H H1 → rows[i]? = some r → H1 t = some (.tup [.int r.1, .ref q]) → Ev te ((wipe σ vs).set j (some (.ref t))) H1 (w r)) : EvL (tLc (iList K tl) (gName j) tYes te vs) σ H (rows.map w) := by
  have hln : xs.length = rows.length := by rw [hp.len, List.length_map]
  refine el_is (el_lcL (xs := xs) (fun _ => true) (fun i => match rows[i]? with | some r => w r | none => .non) h (SqL.of hx) (by omega) hw (fun _ _ _ _ _ => et_yes) (fun i x H1 e hx _ => ?_)) ?_
  · obtain ⟨r, t, qq, hr, rfl, h3, h4⟩ := rowsD_get (hp.mono e) hx
    rw [hr]
    exact he i r t qq H1 e hr h3
  · rw [hln]
    exact given_map rows w _ fun i r hr => by rw [hr]
end
/- _law_are: slots 0 _law_n_here, 1 _law_thing, 2 _law_row, 3 _law_d, 4 _law_f, 5 _law_made, 6 _law_e, 7 _law_g; calls _law_is_poly, _law_whole, _law_divisors, _law_product, _law_sum_of, _law_doubled_row -/
abbrev s__law_are : Stmt := topS 36
theorem sc__law_are : FnScope ["_law_n_here", "_law_thing", "_law_row", "_law_d", "_law_f", "_law_made", "_law_e", "_law_g"] ["_law_n_here", "_law_thing"] (defScope s__law_are) := ⟨rfl, rfl, rfl, by decide +kernel, rfl, by decide +kernel, by decide +kernel⟩

def spAre63 : Sp := fun vs H Q _ => ∃ (n : Nat) (x : V) (d : PyData), vs = [.int (n : Nat), x] ∧ 1 ≤ n ∧ n ≤ 60 ∧ (dvL n).length ≤ 12 ∧ Dq H x d ∧ Ok65 158000 50 d ∧ RetV (.bl (alkF d (dRw (cosRows n)))) H Q
section
variable {P : Program} {w : World} {K : PySem.W.Frag} {mg : Str → Option Value} {base : Heap}
theorem cal_ar63 (nb : Nb mg) (c__law_whole : Cal P w K mg base CX0 "_law_whole" 1 ["_law_thing"] spWh63) (c__law_is_poly : Cal P w K mg base CX0 "_law_is_poly" 1 ["_law_thing"] spIp63) (c__law_divisors : Cal P w K mg base CX0 "_law_divisors" 1 ["_law_n_here"] spDv62) (c__law_product : Cal P w K mg base CX0 "_law_product" 2 ["_law_one", "_law_other"] (spPd62 K)) (c__law_sum_of : Cal P w K mg base CX0 "_law_sum_of" 2 ["_law_one", "_law_other"] (spSo62 K)) (c__law_doubled_row : Cal P w K mg base CX0 "_law_doubled_row" 3 ["_law_k"] spDr62) (d : Dfn K mg "_law_are" ["_law_n_here", "_law_thing"] s__law_are) : Cal P w K mg base CX0 "_law_are" 4 ["_law_n_here", "_law_thing"] spAre63 := by
  refine d.cal sc__law_are (fun vs H Q E h => ?_) (fun fa cdv A outer s H vs Q E hr h => ?_)
  · obtain ⟨n, x, d, rfl, _⟩ := h
    rfl
  · obtain ⟨n, x, d, rfl, n1, n2, dl, hx, ok, q⟩ := h
    refine ⟨_, (pss_cons (ps_if (pt_not (pt_val (pe_callB call_isi (by rfl) nb.isinstance (by decide +kernel) (pa_cons (pv 1) (pa_cons (pe_bltn (v := .ty "list") (by rfl) nb.list (by decide +kernel) rfl) pa_nil))))) (pss_one (ps_ret pe_bl)) pss_nil)
      (pss_cons (ps_for PassesOwn.never rfl (pi_list (pv 1)) (pg_name (i := 2) sc__law_are.nd rfl (.inl rfl)) (pss_one (ps_if (PW.pt (pw_or (pt_not (pt_val (pe_callB call_isi (by rfl) nb.isinstance (by decide +kernel) (pa_cons (pv 2) (pa_cons (pe_bltn (v := .ty "tuple") (by rfl) nb.tuple (by decide +kernel) rfl) pa_nil))))) (pw_or (pt_cmpR op_ne (pe_callB call_len_seq (by rfl) nb.len PySem.boot_len (pa_cons (pv 2) pa_nil)) pe_int (nomark _)) (pw_or (pt_not (pt_val (pe_cal c__law_whole (hr.mono (by first | decide | omega)) (by rfl) pass0 (pa_cons (pe_ix ix_tup (pv 2) pe_int (fun _ _ => rfl)) pa_nil)))) (pw_or1 (pt_not (pt_val (pe_cal c__law_is_poly (hr.mono (by first | decide | omega)) (by rfl) pass0 (pa_cons (pe_ix ix_tup (pv 2) pe_int (fun _ _ => rfl)) pa_nil))))))))) (pss_one (ps_ret pe_bl)) pss_nil)))
      (pss_cons (ps_if (pt_cmpR (op_neD hr.units) (pe_lc (own := [("_law_row", 2)]) (g := gName 2) (tt := tYes) (te := (tOp (rIxT K) (tVar 2) (tC (.int 0)))) (by rfl) sc__law_are.nd (pi_list (pv 1)) (blkOk_by (N := ["_law_n_here", "_law_thing", "_law_row", "_law_d", "_law_f", "_law_made", "_law_e", "_law_g"]) (sc := defScope s__law_are) (by decide +kernel)) (fun _ _ _ _ _ => (pg_name (i := 2) sc__law_are.nd rfl (Or.inl rfl))) (fun _ _ _ _ _ => pts_nil) (fun _ _ _ _ _ => (pe_ix ix_tup (pv 2) pe_int (fun _ _ => rfl)))) (pe_cal c__law_divisors (hr.mono (by first | decide | omega)) (by rfl) pass0 (pa_cons (pv 0) pa_nil)) (nomark _)) (pss_one (ps_ret pe_bl)) pss_nil)
      (pss_cons (ps_for PassesOwn.never rfl (pi_list (pv 1)) (pg_tup (by rfl) (pgs_cons (pg_name (i := 3) sc__law_are.nd rfl (.inl rfl)) (pgs_cons (pg_name (i := 4) sc__law_are.nd rfl (.inl rfl)) pgs_nil))) (pss_cons (ps_set (i := 5) sc__law_are.nd rfl (.inl rfl) (pe_lst (pa_cons pe_int pa_nil)))
      (pss_cons (ps_for PassesOwn.never rfl (pi_list (pv 1)) (pg_tup (by rfl) (pgs_cons (pg_name (i := 6) sc__law_are.nd rfl (.inl rfl)) (pgs_cons (pg_name (i := 7) sc__law_are.nd rfl (.inl rfl)) pgs_nil))) (pss_cons (ps_if (pt_cmpR op_eq (pe_op op_mod (pv 3) (pv 6)) pe_int (nomark _)) (pss_one (ps_set (i := 5) sc__law_are.nd rfl (.inl rfl) (pe_cal c__law_product (hr.mono (by first | decide | omega)) (by rfl) pass0 (pa_cons (pv 5) (pa_cons (pv 7) pa_nil))))) pss_nil)
      (pss_one (ps_if (PW.pt (pw_and (pt_cmpR op_eq (pe_op op_mod (pv 3) (pv 6)) pe_int (nomark _)) (pw_and1 (pt_cmpR op_gt (pv 6) pe_int (nomark _))))) (pss_one (ps_set (i := 5) sc__law_are.nd rfl (.inl rfl) (pe_cal c__law_product (hr.mono (by first | decide | omega)) (by rfl) pass0 (pa_cons (pv 5) (pa_cons (pv 7) pa_nil))))) pss_nil))))
      (pss_one (ps_if (PW.pt (pw_or (pt_cmpR (op_neD hr.units) (pe_slice sl_list (pv 4) (po_some (pe_un un_neg pe_int)) po_none) (pe_lst (pa_cons pe_int pa_nil)) (nomark _)) (pw_or1 (pt_cmpR (op_neD hr.units) (pv 5) (pe_cal c__law_sum_of (hr.mono (by first | decide | omega)) (by rfl) pass0 (pa_cons (pe_cal c__law_doubled_row (hr.mono (by first | decide | omega)) (by rfl) pass0 (pa_cons (pv 3) pa_nil)) (pa_cons (pe_lst (pa_cons (pe_un un_neg pe_int) pa_nil)) pa_nil))) (nomark _))))) (pss_one (ps_ret pe_bl)) pss_nil)))))
      (pss_one (ps_ret pe_bl)))))), ?_⟩
    have no : ¬ d = dRw (cosRows n) → alkF d (dRw (cosRows n)) = false := fun h => Bool.eq_false_iff.mpr fun e => h (alk_rows63 e)
    refine q_when (b := !isK "list" d) (et_not (et_B (ev_isD (ev_var rfl) hx (.inl rfl)))) (fun hb H1 e1 => ?_) (fun hb H1 e1 => ?_)
    · rw [no (fun e => by rw [e] at hb; exact absurd hb (by rw [isKl65]; unfold dRw; simp))] at q
      exact s_ret (v := .bl false) ev_c fun H2 e2 => q H2 (e1.trans e2)
    · obtain ⟨ds, rfl⟩ : ∃ ds, d = .list ds := by
        rw [isKl65] at hb
        cases d <;> first | (exact ⟨_, rfl⟩) | (cases hb)
      obtain ⟨p, xs, rfl, hp, hs⟩ : ∃ a xs, x = .ref a ∧ H a = some (.lst xs) ∧ DqAll H xs ds := by
        cases hx with
        | lst h hs => exact ⟨_, _, rfl, h, hs⟩
      have itm := ok_item63 ok
      have hp1 := e1 _ _ hp
      refine q_forLn (xs := xs) (ev_var rfl) (SqL.of hp1) (fun i σ' H' => (∀ (j : Nat) d, j < i → ds[j]? = some d → rowOk d = true) ∧ ∃ x2, σ' = [some (.int (n : Nat)), some (.ref p), x2, none, none, none, none, none] ∧ Ex H1 H') (fun H2 e2 => ⟨fun j d hj => absurd hj (Nat.not_lt_zero _), _, rfl, e2⟩) (fun i σ' H' _ h => SqL.of (h.2.choose_spec.2 _ _ hp1)) (fun i x σ' H2 hxi hP => ?_) (fun σ' H2 hP => ?_)
      · obtain ⟨hok, x2, rfl, e2⟩ := hP
        obtain ⟨d, hd, hdq⟩ := (hs.mono (e1.trans e2)).at hxi
        have mem := List.mem_of_getElem? hd
        have okd := itm d mem
        refine s_when (b := !rowOk d) ?_ (fun hb H3 e3 => ?_) (fun hb H3 e3 => ⟨fun j d' hj hd' => ?_, _, rfl, e2.trans e3⟩)
        · rcases row_cases d with ⟨h1, h2⟩ | ⟨ys, rfl, h1, h2⟩ | ⟨a, b, rfl⟩
          · exact et_is (et_or (b := true) (et_not (et_B (ev_isD (ev_var rfl) hdq (.inr (.inl rfl))))) fun hb => absurd hb (by rw [h1]; decide)) (by rw [h1, h2]; rfl)
          · cases hdq with
            | tup h3 hs3 =>
              exact et_is (et_or (et_not (et_B (ev_isi (b := true) (ev_var rfl) (tx_tup h3) (by decide +kernel)))) fun _ => et_or (b := true) (et_test (ev_neI (j := 2) (ev_lenT (ev_var rfl) (SqT.of h3)) ev_c)) fun hb => absurd hb (by rw [hs3.len, decide_eq_false (by omega)]; decide)) (by rw [hs3.len, decide_eq_false (by omega), h2]; rfl)
          · cases hdq with
            | tup h3 hs3 =>
              cases hs3 with
              | cons g1 hs3 =>
                cases hs3 with
                | cons g2 hs3 =>
                  cases hs3
                  rename_i t v1 v2
                  have okb := (ok_itemT63 okd b (by simp)).up (Nat.le_refl _) (show 50 ≤ 60 by decide)
                  refine et_is (et_or (et_not (et_B (ev_isi (b := true) (ev_var rfl) (tx_tup h3) (by decide +kernel)))) fun _ => et_or (et_test (ev_neI (i := 2) (j := 2) (ev_lenT (ev_var rfl) (SqT.of h3)) ev_c)) fun _ => et_or (et_not (et_B (ev_cal (vs := [v1]) (z := .bl (isW a)) (ea_cons (ev_ixT (j := 0) (SqT.of h3) (ev_var rfl) ev_c rfl) ea_nil) fun H7 e7 Q kk E => ⟨v1, a, rfl, g1.mono e7, kk⟩))) fun _ => et_not (et_B (ev_cal (vs := [v2]) (z := .bl (ipF b)) (ea_cons (ev_ixT (j := 1) (SqT.of h3) (ev_var rfl) ev_c rfl) ea_nil) fun H7 e7 Q kk E => ⟨v2, b, rfl, g2.mono e7, okb, kk⟩))) ?_
                  show _ = !(isW a && ipF b)
                  rw [decide_eq_true rfl]
                  cases isW a <;> cases ipF b <;> rfl
        · rw [no (fun e => ?_)] at q
          · exact s_ret (v := .bl false) ev_c fun H4 e4 => q H4 ((e1.trans e2).trans (e3.trans e4))
          · injection e with e
            rw [e] at mem
            obtain ⟨r, hr, rfl⟩ := List.mem_map.mp mem
            obtain ⟨k, hk⟩ := List.mem_iff_getElem?.mp hr
            obtain ⟨d', _, rfl, _, d1, d2⟩ := cosRows_get n1 n2 hk
            rw [rowOk_NL _ (good_cos d1 d2).1] at hb
            cases hb
        · by_cases z : j = i
          · subst z
            rw [hd] at hd'
            cases hd'
            simpa using hb
          · exact hok j d' (by omega) hd'
      · obtain ⟨hok, x2, rfl, e2⟩ := hP
        have le := hs.len
        obtain ⟨rows, rfl, trs⟩ : ∃ rows : List (Int × List Int), ds = rows.map dNL ∧ ∀ r ∈ rows, Tr r.2 := by
          have all : ∀ d ∈ ds, rowOk d = true := fun d hd => by
            obtain ⟨j, hj⟩ := List.mem_iff_getElem?.mp hd
            exact hok j d (by have := (List.getElem?_eq_some_iff.mp hj).1; omega) hj
          refine ⟨ds.map rowOf, rows_of63 all, fun r hr => ?_⟩
          obtain ⟨d, hd, rfl⟩ := List.mem_map.mp hr
          exact (rowOk_of (all d hd)).2
        have same : PyData.list (rows.map dNL) = dRw (cosRows n) ↔ rows = cosRows n := by
          constructor
          · intro e
            injection e with e
            exact map_inj dNL_inj _ _ e
          · intro e
            rw [e]
            rfl
        have bd : ∀ r ∈ rows, r.2.length ≤ 82 ∧ Bd 1921 r.2 := fun r hr => row_bd63 (itm _ (List.mem_map.mpr ⟨r, hr, rfl⟩))
        have e12 := e1.trans e2
        have lz : rows.length ≤ 40000 := by
          have a := shBA_len65 hs
          have b := ok.2.len
          simp only [shB] at b
          rw [List.length_map] at a
          omega
        refine q_when (b := !decide (rows.map Prod.fst = castI (dvL n))) (et_test (ev_opLL (xs := (rows.map Prod.fst).map V.int) (ys := (castI (dvL n)).map V.int) (el_is (el_lcDq (fun r => .int r.1) (ev_var rfl) (e12 _ _ hp) (hs.mono e12) lz (fun _ => rfl) fun i r t qq H7 e7 hr h3 => ev_ixT (j := 0) (SqT.of h3) (ev_var rfl) ev_c rfl) (by rw [List.map_map]; rfl)) (el_cal (vs := [.int (n : Nat)]) (by one_place) fun H7 e7 Q kk E => ⟨n, rfl, n1, n2, kk⟩) fun u v H6 hu hv e6 => rv_neI (SqL.of hu) (SqL.of hv))) (fun hb H3 e3 => ?_) (fun hb H3 e3 => ?_)
        · rw [no (fun e => ?_)] at q
          · exact s_ret (v := .bl false) ev_c fun H4 e4 => q H4 (e12.trans (e3.trans e4))
          · rw [same.mp e] at hb
            have : (cosRows n).map Prod.fst = castI (dvL n) := by
              unfold cosRows
              rw [List.map_map]
              exact List.map_id _
            rw [decide_eq_true this] at hb
            cases hb
        have fe : rows.map Prod.fst = castI (dvL n) := by simpa using hb
        have ln : rows.length = (dvL n).length := by
          have := congrArg List.length fe
          rwa [List.length_map, castI_len] at this
        have row1 : ∀ (i : Nat) (r : Int × List Int), rows[i]? = some r → ∃ d : Nat, r.1 = (d : Int) ∧ d ∣ n ∧ 1 ≤ d ∧ d ≤ 60 := fun i r hr => by
          have t : (rows.map Prod.fst)[i]? = some r.1 := by rw [List.getElem?_map, hr]; rfl
          rw [fe] at t
          unfold castI at t
          rw [List.getElem?_map] at t
          obtain ⟨d, hd, e⟩ := Option.map_eq_some_iff.mp t
          have dn := (dvL_mem n1).mp (List.mem_of_getElem? hd)
          have d1 := Nat.pos_of_dvd_of_pos dn n1
          have d2 := Nat.le_of_dvd n1 dn
          exact ⟨d, e.symm, dn, d1, by omega⟩
        have e13 := e12.trans e3
        refine q_forDqP (rows := rows) (ev_var rfl) (e13 _ _ hp) (hs.mono e13) (fun i σ' H' => (∀ (j : Nat) (d : Nat) g, j < i → rows[j]? = some ((d : Int), g) → good63 g ∧ rows.foldl (stG d) [1] = addP 1 (dbF d) [-2]) ∧ ∃ x3 x4 x5 x6 x7, σ' = [some (.int (n : Nat)), some (.ref p), x2, x3, x4, x5, x6, x7] ∧ Ex H3 H') (fun H4 e4 => ⟨fun j d g hj => absurd hj (Nat.not_lt_zero _), _, _, _, _, _, rfl, e4⟩) (fun i σ' H' h => by obtain ⟨_, _, _, _, _, _, _, e⟩ := h; exact e) (fun i r qq σ' H4 hr h4 hP => ?_) (fun σ' H4 hP => ?_)
        · obtain ⟨hgo, x3, x4, x5, x6, x7, rfl, e4⟩ := hP
          obtain ⟨d, rd, dn, d1, d2⟩ := row1 i r hr
          obtain ⟨r1, f⟩ := r
          obtain rfl : r1 = (d : Int) := rd
          have mr := List.mem_of_getElem? hr
          have trf : Tr f := trs _ mr
          have hp4 := (e13.trans e4) _ _ hp
          have hs4 := hs.mono (e13.trans e4)
          refine q_asgL (xs := ([1] : List Int).map V.int) (el_lst (vs := [.int 1]) (by one_place) (by decide)) fun m0 H5 nm0 e5 h5 => ?_
          refine q_forDqP (rows := rows) (ev_var rfl) (e5 _ _ hp4) (hs4.mono e5) (fun i σ' H' => ∃ (m : Addr) (x6 x7 : Option V), σ' = [some (.int (n : Nat)), some (.ref p), x2, some (.int (d : Nat)), some (.ref qq), some (.ref m), x6, x7] ∧ Ex H5 H' ∧ H' m = some (.lst (((rows.take i).foldl (stG d) [1]).map V.int)) ∧ MdG i ((rows.take i).foldl (stG d) [1])) (fun H6 e6 => ⟨m0, _, _, rfl, e6, e6 _ _ h5, by show 1 ≤ 1 + 164 * 0; decide, Bd.of fun x hx => by rw [List.mem_singleton.mp hx]; decide⟩) (fun i σ' H' h => by obtain ⟨_, _, _, _, e, _⟩ := h; exact e) (fun j r qe σ' H6 hr2 h6 hP => ?_) (fun σ' H6 hP => ?_)
          · obtain ⟨m, x6, x7, rfl, e6, hm, okm⟩ := hP
            have jl := (List.getElem?_eq_some_iff.mp hr2).1
            obtain ⟨e, re, en, ee1, ee2⟩ := row1 j r hr2
            have bg := bd r (List.mem_of_getElem? hr2)
            have tk : (rows.take (j + 1)).foldl (stG d) [1] = stG d ((rows.take j).foldl (stG d) [1]) r := by
              rw [List.take_add_one, hr2]
              show (rows.take j ++ [r]).foldl _ _ = _
              rw [List.foldl_append]
              rfl
            have okn := stG_ok (d := d) okm (by omega) bg.1 bg.2
            rw [← tk] at okn
            generalize (rows.take j).foldl (stG d) [1] = M at *
            obtain ⟨r1, g⟩ := r
            obtain rfl : r1 = (e : Int) := re
            have okl := okm.1
            have pl := pdL_len (f := M) (g := g)
            have bg1 : g.length ≤ 82 := bg.1
            have bg2 : Bd 1921 g := bg.2
            have tm : ∀ {σ : L2.St} {H' : Hp}, σ[3]? = some (some (.int (d : Nat))) → σ[6]? = some (some (.int (e : Nat))) → EvT (tTest (tOp rEq (tOp (rI (fun _ j => 0 < j) fun i j => .int (i % j)) (tVar 3) (tVar 6)) (tC (.int 0)))) σ H' (decide ((d : Int) % (e : Int) = 0)) := fun h1 h2 => et_test (ev_eqI (ev_mod (ev_var h1) (ev_var h2) (by omega)) ev_c)
            refine q_when (b := decide ((d : Int) % (e : Int) = 0)) (tm rfl rfl) (fun hb H7 e7 => ?_) (fun hb H7 e7 => ?_)
            · have hb := of_decide_eq_true hb
              refine s_asgL (xs := (pdL M g).map V.int) (el_cal (vs := [.ref m, .ref qe]) (by one_place) fun H8 e8 Q kk E => ⟨m, qe, M, g, 1 + 8000 * j, 1921, rfl, SqL.of ((e7.trans e8) _ _ hm), SqL.of ((e7.trans e8) _ _ h6), by omega, by omega, okm.2, bg2, by omega, kk⟩) fun m2 H8 nm2 e8 h8 => ?_
              refine s_when (b := decide ((2 : Int) < e)) (et_is (et_and (tm rfl rfl) fun _ => et_test (ev_gt (ev_var rfl) ev_c)) (by rw [decide_eq_true hb, Bool.true_and])) (fun hb2 H9 e9 => ?_) (fun hb2 H9 e9 => ?_)
              · have hb2 := of_decide_eq_true hb2
                refine s_asgL (xs := (pdL (pdL M g) g).map V.int) (el_cal (vs := [.ref m2, .ref qe]) (by one_place) fun H10 e10 Q kk E => ⟨m2, qe, pdL M g, g, _, 1921, rfl, SqL.of ((e9.trans e10) _ _ h8), SqL.of (((e7.trans e8).trans (e9.trans e10)) _ _ h6), by omega, by omega, pdL_bd okm.2 bg2, bg2, by omega, kk⟩) fun m3 H10 nm3 e10 h10 => ⟨m3, _, _, rfl, (e6.trans e7).trans (e8.trans (e9.trans e10)), ?_, okn⟩
                rw [tk]
                unfold stG
                rw [if_pos hb, if_pos hb2]
                exact h10
              · have hb2 := of_decide_eq_false hb2
                refine ⟨m2, _, _, rfl, (e6.trans e7).trans (e8.trans e9), ?_, okn⟩
                rw [tk]
                unfold stG
                rw [if_pos hb, if_neg hb2]
                exact e9 _ _ h8
            · have hb := of_decide_eq_false hb
              refine s_when (b := false) (et_is (et_and (tm rfl rfl) fun _ => et_test (ev_gt (ev_var rfl) ev_c)) (by rw [decide_eq_false hb]; rfl)) (fun hb2 => nomatch hb2) (fun _ H8 e8 => ⟨m, _, _, rfl, (e6.trans e7).trans e8, ?_, okn⟩)
              rw [tk, stG_skip hb]
              exact (e7.trans e8) _ _ hm
          · obtain ⟨m, x6, x7, rfl, e6, hm, okm⟩ := hP
            rw [List.take_length] at hm okm
            have hq := (e5.trans e6) _ _ h4
            have dbl := db_len (i := d) (by omega)
            have e46 := (e4.trans e5).trans e6
            refine s_when (b := !decide (f.drop (f.length - 1) = [1]) || !decide (rows.foldl (stG d) [1] = addP 1 (dbF d) [-2])) (et_or (et_test (ev_opLL (xs := (f.drop (f.length - 1)).map V.int) (ys := ([1] : List Int).map V.int) (el_is (el_sl (ev_var rfl) (eo_some (ev_neg ev_c)) eo_none (SqL.of hq)) (cut_last63 f)) (el_lst (vs := [.int 1]) (by one_place) (by decide)) fun u v H7 hu hv e7 => rv_neI (SqL.of hu) (SqL.of hv))) fun _ => et_test (ev_opL (xs := (addP 1 (dbF d) [-2]).map V.int) (ev_var rfl) (el_calAB (A := (dbF d).map V.int) (B := ([-2] : List Int).map V.int) (eab_of (el_cal (vs := [.int (d : Nat)]) (by one_place) fun H7 e7 Q kk E => ⟨d, rfl, d2, kk⟩) (el_lst (vs := [.int (-2)]) (ea_cons (ev_neg ev_c) ea_nil) (by show 1 ≤ 100000; decide))) fun a b H7 e7 ha hb Q kk E => ⟨a, b, dbF d, [-2], rfl, SqL.of ha, SqL.of hb, by omega, by decide, kk⟩) fun u H7 hu e7 => rv_neI (SqL.of (e7 _ _ hm)) (SqL.of hu))) (fun hb H7 e7 => ?_) (fun hb H7 e7 => ⟨fun j d' g hj hg => ?_, _, _, _, _, _, rfl, e46.trans e7⟩)
            · rw [no (fun e => ?_)] at q
              · exact s_ret (v := .bl false) ev_c fun H8 e8 => q H8 (e13.trans (e46.trans (e7.trans e8)))
              · have e := same.mp e
                rw [e] at hb hr
                obtain ⟨d', _, re, _, _, _⟩ := cosRows_get n1 n2 hr
                injection re with re1 re2
                obtain rfl : d = d' := by omega
                rw [cosRows_made n1 n2 dn, re2, decide_eq_true ((last_good (good_cos d1 d2).1).mpr (good_cos d1 d2)), decide_eq_true rfl] at hb
                cases hb
            · by_cases z : j = i
              · subst z
                rw [hr] at hg
                injection hg with hg
                injection hg with g1 g2
                obtain rfl : d = d' := by omega
                subst g2
                rw [Bool.or_eq_false_iff, Bool.not_eq_false', Bool.not_eq_false', decide_eq_true_iff, decide_eq_true_iff] at hb
                exact ⟨(last_good trf).mp hb.1, hb.2⟩
              · exact hgo j d' g (by omega) hg
        · obtain ⟨hgo, x3, x4, x5, x6, x7, rfl, e4⟩ := hP
          have fin : rows = cosRows n := uniq63 n1 n2 fe (fun r hr => by
            obtain ⟨j, hj⟩ := List.mem_iff_getElem?.mp hr
            obtain ⟨d, rd, _⟩ := row1 j r hj
            obtain ⟨r1, g⟩ := r
            obtain rfl : r1 = (d : Int) := rd
            exact (hgo j d g (List.getElem?_eq_some_iff.mp hj).1 hj).1) fun d g hg => by
            obtain ⟨j, hj⟩ := List.mem_iff_getElem?.mp hg
            exact (hgo j d g (List.getElem?_eq_some_iff.mp hj).1 hj).2
          rw [same.mpr fin, alk_rw_self] at q
          exact s_ret (v := .bl true) ev_c fun H5 e5 => q H5 ((e13.trans e4).trans e5)
end

/-! ### bent: a number, a row, the whole, of the law -/
def OkA (b k : Nat) (ds : List PyData) : Prop := PyData.canLayAll0 ds = true ∧ SzA b k ds
theorem OkA.list {b k : Nat} {ds : List PyData} (h : OkA b k ds) : Ok65 (b + 3) (k + 1) (.list ds) := ⟨h.1, Sz.lst h.2⟩
theorem OkA.tuple {b k : Nat} {ds : List PyData} (h : OkA b k ds) : Ok65 (b + 3) (k + 1) (.tuple ds) := ⟨h.1, Sz.tup h.2⟩
theorem OkA.up {b b' k k' : Nat} {ds : List PyData} (h : OkA b k ds) (hb : b ≤ b') (hk : k ≤ k') : OkA b' k' ds := ⟨h.1, h.2.mono hb hk⟩
theorem OkA.nil (k : Nat) : OkA 0 k [] := ⟨rfl, SzA.nil.mono (Nat.le_refl _) (Nat.zero_le _)⟩
theorem OkA.cons {b c k : Nat} {d : PyData} {ds : List PyData} (h : Ok65 b k d) (g : OkA c k ds) : OkA (b + 2 + c) k (d :: ds) := ⟨by
  unfold PyData.canLayAll0
  rw [h.1, g.1]
  rfl, SzA.cons h.2 g.2⟩
theorem OkA.app {b c k : Nat} {ds es : List PyData} (h : OkA b k ds) (g : OkA c k es) : OkA (b + c) k (ds ++ es) := ⟨lay_app h.1 g.1, h.2.app g.2⟩
theorem OkA.mem {b k : Nat} {ds : List PyData} (h : OkA b k ds) : ∀ d ∈ ds, Ok65 b k d := fun d hd => by
  obtain ⟨i, hi⟩ := List.mem_iff_getElem?.mp hd
  exact ⟨lay_at65 h.1 hd, h.2.at hi⟩
theorem OkA.set {b c k : Nat} {d : PyData} {ds : List PyData} (h : Ok65 c k d) (g : OkA b k ds) (i : Nat) : OkA (b + c + 2) k (ds.set i d) := ⟨lay_all fun x hx => by
  rcases List.mem_or_eq_of_mem_set hx with hx | rfl
  · exact lay_at65 g.1 hx
  · exact h.1, g.2.set h.2⟩
theorem OkA.take {b k : Nat} {ds : List PyData} (h : OkA b k ds) (m : Nat) : OkA b k (ds.take m) := ⟨lay_all fun x hx => lay_at65 h.1 (List.mem_of_mem_take hx), h.2.take⟩
theorem OkA.tail {b k : Nat} {d : PyData} {ds : List PyData} (h : OkA b k (d :: ds)) : OkA b k ds := ⟨lay_all fun x hx => lay_at65 h.1 (List.mem_cons_of_mem _ hx), by
  have h1 := h.2.ok
  have h2 := h.2.len
  have h3 := h.2.dep
  simp only [shOA, Bool.and_eq_true] at h1
  simp only [shBA] at h2
  simp only [PyData.depthAll] at h3
  exact ⟨h1.2, by omega, (Nat.max_le.mp h3).2⟩⟩
theorem OkA.drop {b k : Nat} : ∀ {ds : List PyData} (m : Nat), OkA b k ds → OkA b k (ds.drop m)
  | ds, 0, h => h
  | [], m + 1, h => h
  | d :: ds, m + 1, h => OkA.drop m h.tail
theorem OkA.rev {b k : Nat} : ∀ {ds : List PyData}, OkA b k ds → OkA b k ds.reverse := fun {ds} h => ⟨lay_all fun x hx => lay_at65 h.1 (List.mem_reverse.mp hx), by
  have key : ∀ {ds : List PyData}, SzA (shBA ds) (PyData.depthAll ds) ds → ∃ c, c = shBA ds ∧ SzA c (PyData.depthAll ds) ds.reverse := fun {ds} h => by
    induction ds with
    | nil => exact ⟨_, rfl, h⟩
    | cons d ds ih =>
      have h1 := h.ok
      simp only [shOA, Bool.and_eq_true] at h1
      obtain ⟨c, rfl, g⟩ := ih ⟨h1.2, Nat.le_refl _, Nat.le_refl _⟩
      refine ⟨_, rfl, ?_⟩
      rw [List.reverse_cons]
      have m1 : PyData.depthAll ds ≤ PyData.depthAll (d :: ds) := by simp only [PyData.depthAll]; exact Nat.le_max_right _ _
      have m2 : d.depth ≤ PyData.depthAll (d :: ds) := by simp only [PyData.depthAll]; exact Nat.le_max_left _ _
      refine ((g.mono (Nat.le_refl _) m1).app (SzA.cons (d := d) ⟨h1.1, Nat.le_refl _, m2⟩ (SzA.nil.mono (Nat.le_refl _) (Nat.zero_le _)))).mono ?_ (Nat.le_refl _)
      simp only [shBA]
      omega
  obtain ⟨c, rfl, g⟩ := key ⟨h.2.ok, Nat.le_refl _, Nat.le_refl _⟩
  exact g.mono h.2.len h.2.dep⟩
theorem okA_ints {ns : List Int} (hb : Bd 1900 ns) : OkA (1923 * ns.length) 0 (ns.map PyData.int) := ⟨lay_map _ (fun _ => rfl) ns, sza_ints fun i hi => by
  obtain ⟨m, hm⟩ := List.mem_iff_getElem?.mp hi
  have := hb m
  rwa [coef_of hm] at this⟩
theorem DqAll.drop63 {H : Hp} : ∀ {xs : List V} {ds : List PyData} (m : Nat), DqAll H xs ds → DqAll H (xs.drop m) (ds.drop m)
  | _, _, 0, h => h
  | _, _, m + 1, .nil => .nil
  | _, _, m + 1, .cons _ t => DqAll.drop63 m t
theorem DqAll.rev63 {H : Hp} : ∀ {xs : List V} {ds : List PyData}, DqAll H xs ds → DqAll H xs.reverse ds.reverse
  | _, _, .nil => .nil
  | _, _, .cons h t => by
    rw [List.reverse_cons, List.reverse_cons]
    exact (DqAll.rev63 t).app (.cons h .nil)
section
variable {K : PySem.W.Frag} {σ : L2.St} {H : Hp} {te ta tb ti : TE} {tr : TA} {D : Ends} {E : XK} {Pd : PyData → Prop} {n : Nat} {x : V} {d : PyData} {tz : TS}
/-- things, a thing, things, in a row -/
theorem eq_midD {Pe : PyData → Prop} {xs ys : List V} {ds es : List PyData} (h1 : EvL ta σ H xs) (h2 : EvQd Pe te σ H) (h3 : ∀ H1, Ex H H1 → EvL tb σ H1 ys) (g1 : DqAll H xs ds) (g2 : DqAll H ys es) (hz : xs.length ≤ 1000 ∧ ys.length ≤ 1000) (hp : ∀ d, Pe d → Pd (.list (ds ++ [d] ++ es))) : EvQd Pd (tOp rCat (tOp rCat ta (tLst (tCons te tNil))) tb) σ H := fun H1 e Q q =>
  h1 H1 e _ fun a H2 na e2 ha => h2 H2 (e.trans e2) _ fun x d H3 e3 g p => ⟨sz_of (show 1 ≤ 100000 by decide), fun l nl => by
    have e4 : Ex H3 (upd H3 l (.lst [x])) := Ex.new nl
    refine ⟨a, l, xs, [x], rfl, rfl, e4 _ _ (e3 _ _ ha), upd_same, sz_of (by show _ + 1 ≤ _; omega), fun b nb => ?_⟩
    have e5 : Ex (upd H3 l (.lst [x])) (upd (upd H3 l (.lst [x])) b (.lst (xs ++ [x]))) := Ex.new nb
    refine h3 _ ((((e.trans e2).trans e3).trans e4).trans e5) _ (Ex.refl _) _ fun c H6 nc e6 hc => ?_
    refine ⟨b, c, xs ++ [x], ys, rfl, rfl, e6 _ _ upd_same, hc, sz_of (by rw [List.length_append]; show _ + 1 + _ ≤ _; omega), fun r nr => ?_⟩
    have e7 : Ex H6 (upd H6 r (.lst (xs ++ [x] ++ ys))) := Ex.new nr
    have e47 := e4.trans (e5.trans (e6.trans e7))
    have e17 := ((e.trans e2).trans e3).trans e47
    exact q (.ref r) _ _ ((e2.trans e3).trans e47) (.lst upd_same (((g1.mono e17).app (.cons (g.mono e47) .nil)).app (g2.mono e17))) (hp d p)⟩
/-- things and things in a row -/
theorem eq_catD {xs ys : List V} {ds es : List PyData} (h1 : EvL ta σ H xs) (h3 : ∀ H1, Ex H H1 → EvL tb σ H1 ys) (g1 : DqAll H xs ds) (g2 : DqAll H ys es) (hz : xs.length ≤ 1000 ∧ ys.length ≤ 1000) (hp : Pd (.list (ds ++ es))) : EvQd Pd (tOp rCat ta tb) σ H := fun H1 e Q q =>
  h1 H1 e _ fun a H2 na e2 ha => h3 H2 (e.trans e2) _ (Ex.refl _) _ fun c H6 nc e6 hc => ⟨a, c, xs, ys, rfl, rfl, e6 _ _ ha, hc, sz_of (by omega), fun r nr => by
    have e7 : Ex H6 (upd H6 r (.lst (xs ++ ys))) := Ex.new nr
    exact q (.ref r) _ _ (e2.trans (e6.trans e7)) (.lst upd_same ((g1.mono ((e.trans e2).trans (e6.trans e7))).app (g2.mono ((e.trans e2).trans (e6.trans e7))))) hp⟩
/-- a new list of things -/
theorem eq_new {xs : List V} {ds : List PyData} (h : EvL te σ H xs) (g : DqAll H xs ds) (hp : Pd (.list ds)) : EvQd Pd te σ H := fun H1 e Q q =>
  h H1 e _ fun a H2 na e2 ha => q (.ref a) _ H2 e2 (.lst ha (g.mono (e.trans e2))) hp
/-- a value of which something holds, and stays -/
def EvP (Pp : V → Hp → Prop) (te : TE) (σ : L2.St) (H : Hp) : Prop := ∀ H1, Ex H H1 → ∀ Q : VK, (∀ x H2, Ex H1 H2 → Pp x H2 → Q x H2) → te σ H1 Q
/-- o[i], o[j] = e, f -/
theorem s_set2P {A B : V → Hp → Prop} {to ti te to2 ti2 te2 : TE} {l : Addr} {xs : List V} {j j2 : Nat} (mA : ∀ x H1 H2, Ex H1 H2 → A x H1 → A x H2) (mB : ∀ x H1 H2, Ex H1 H2 → B x H1 → B x H2) (hl : H l = some (.lst xs)) (ho : ∀ H1, Ex H H1 → Ev to σ H1 (.ref l)) (hi : ∀ H1, Ex H H1 → Ev ti σ H1 (.int (j : Nat))) (hj : j < xs.length)
    (ho2 : ∀ H1 ys, H1 l = some (.lst ys) → Ev to2 σ H1 (.ref l)) (hi2 : ∀ H1, Ev ti2 σ H1 (.int (j2 : Nat))) (hj2 : j2 < xs.length) (he : EvP A te σ H) (he2 : EvP B te2 σ H)
    (kk : ∀ x y H1, Ex H H1 → A x H1 → B y H1 → ∀ H2, H2 l = some (.lst ((xs.set j x).set j2 y)) → (∀ a o, a ≠ l → H1 a = some o → H2 a = some o) → D.nx σ H2) : tAsg (tTup (tCons te (tCons te2 tNil))) (gTup K 2 (gCons (gSub to ti rSetL) (gCons (gSub to2 ti2 rSetL) gNil))) D σ H :=
  he H (Ex.refl H) _ fun x H1 e1 g => he2 H1 e1 _ fun y H2 e2 g2 => ⟨sz_of (by show 2 ≤ 100000; decide), fun T nT => by
    have eT : Ex H2 (upd H2 T (.tup [x, y])) := Ex.new nT
    refine ⟨T, [x, y], rfl, SqT.of upd_same, rfl, x, [y], rfl, ?_⟩
    have e3 := e1.trans (e2.trans eT)
    refine ho _ e3 _ (Ex.refl _) _ fun H4 e4 => hi H4 (e3.trans e4) H4 (Ex.refl _) _ fun H5 e5 => ?_
    have a5 := e3.trans (e4.trans e5)
    refine ⟨l, xs, (j : Int), j, rfl, rfl, a5 _ _ hl, ixN_nat hj, y, [], rfl, ?_⟩
    have nn : ∀ a o, a ≠ l → H5 a = some o → (upd H5 l (.lst (xs.set j x))) a = some o := fun a o n h => by rw [upd_ne n]; exact h
    refine ho2 _ (xs.set j x) upd_same _ (Ex.refl _) _ fun H6 e6 => hi2 H6 H6 (Ex.refl _) _ fun H7 e7 => ?_
    refine ⟨l, xs.set j x, (j2 : Int), j2, rfl, rfl, (e6.trans e7) _ _ upd_same, ixN_nat (by rw [List.length_set]; exact hj2), rfl, ?_⟩
    have e25 : Ex H2 H5 := eT.trans (e4.trans e5)
    exact kk x y H5 a5 (mA _ _ _ (e2.trans e25) g) (mB _ _ _ e25 g2) _ upd_same (fun a o n h => by rw [upd_ne n]; exact (e6.trans e7) _ _ (nn a o n h))⟩
theorem q_set2P {A B : V → Hp → Prop} {to ti te to2 ti2 te2 : TE} {l : Addr} {xs : List V} {j j2 : Nat} (mA : ∀ x H1 H2, Ex H1 H2 → A x H1 → A x H2) (mB : ∀ x H1 H2, Ex H1 H2 → B x H1 → B x H2) (hl : H l = some (.lst xs)) (ho : ∀ H1, Ex H H1 → Ev to σ H1 (.ref l)) (hi : ∀ H1, Ex H H1 → Ev ti σ H1 (.int (j : Nat))) (hj : j < xs.length)
    (ho2 : ∀ H1 ys, H1 l = some (.lst ys) → Ev to2 σ H1 (.ref l)) (hi2 : ∀ H1, Ev ti2 σ H1 (.int (j2 : Nat))) (hj2 : j2 < xs.length) (he : EvP A te σ H) (he2 : EvP B te2 σ H)
    (kk : ∀ x y H1, Ex H H1 → A x H1 → B y H1 → ∀ H2, H2 l = some (.lst ((xs.set j x).set j2 y)) → (∀ a o, a ≠ l → H1 a = some o → H2 a = some o) → tz D σ H2) : tSeq (tAsg (tTup (tCons te (tCons te2 tNil))) (gTup K 2 (gCons (gSub to ti rSetL) (gCons (gSub to2 ti2 rSetL) gNil)))) tz D σ H :=
  s_set2P (D := { D with nx := tz D }) mA mB hl ho hi hj ho2 hi2 hj2 he he2 kk
theorem evP_val {v : V} (h : Ev te σ H v) : EvP (fun x _ => x = v) te σ H := fun H1 e Q q => h H1 e _ fun H2 e2 => q v H2 e2 rfl
/-- a new tuple of two, not at l -/
theorem evP_tup {l : Addr} {o : HO} {v u : V} (hl : H l = some o) (h1 : Ev ta σ H v) (h2 : Ev tb σ H u) : EvP (fun x H1 => ∃ t, x = .ref t ∧ t ≠ l ∧ H1 t = some (.tup [v, u])) (tTup (tCons ta (tCons tb tNil))) σ H := fun H1 e Q q =>
  h1 H1 e _ fun H2 e2 => h2 H2 (e.trans e2) _ fun H3 e3 => ⟨sz_of (by show 2 ≤ 100000; decide), fun t nt => by
    have tl : t ≠ l := fun z => by rw [z, (e.trans (e2.trans e3)) _ _ hl] at nt; cases nt
    exact q _ _ ((e2.trans e3).trans (Ex.new nt)) ⟨t, rfl, tl, upd_same⟩⟩
end
theorem ok_flat63 {ns : List Int} {d : PyData} (h1 : Ok65 2000 2 d) (j : Nat) (hb : Bd 1900 ns) (hl : ns.length ≤ 7) (hj : j < ns.length) : Ok65 15400 3 (.list ((ns.take j).map PyData.int ++ [d] ++ (ns.drop (j + 1)).map PyData.int)) := by
  have a := (okA_ints (hb.take65 j)).up (Nat.le_refl _) (show 0 ≤ 2 by decide)
  have b := (okA_ints (hb.drop65 (j + 1))).up (Nat.le_refl _) (show 0 ≤ 2 by decide)
  have la : (ns.take j).length = j := by rw [List.length_take]; omega
  have lb : (ns.drop (j + 1)).length = ns.length - (j + 1) := List.length_drop
  exact ((a.app (OkA.cons h1 (OkA.nil 2))).app b).list.up (by omega) (by decide)
/- _law_number_bent: slots 0 _law_f, 1 _law_number, 2 _law_j, 3 _law_odd; calls  -/
abbrev s__law_number_bent : Stmt := topS 38
theorem sc__law_number_bent : FnScope ["_law_f", "_law_number", "_law_j", "_law_odd"] ["_law_f", "_law_number"] (defScope s__law_number_bent) := ⟨rfl, rfl, rfl, by decide +kernel, rfl, by decide +kernel, by decide +kernel⟩

def spNb63 : Sp := fun vs H Q _ => ∃ (a : Addr) (f : List Int) (z : Int), vs = [.ref a, .int z] ∧ H a = some (.lst (f.map V.int)) ∧ f ≠ [] ∧ f.length ≤ 7 ∧ Bd 100 f ∧ 0 ≤ z ∧ ∀ x d H1, Ex H H1 → Dq H1 x d → Ok65 15400 3 d → Q x H1
section
variable {P : Program} {w : World} {K : PySem.W.Frag} {mg : Str → Option Value} {base : Heap}
theorem cal_nb63 (nb : Nb mg) (d : Dfn K mg "_law_number_bent" ["_law_f", "_law_number"] s__law_number_bent) : Cal P w K mg base CX0 "_law_number_bent" 1 ["_law_f", "_law_number"] spNb63 := by
  refine d.cal sc__law_number_bent (fun vs H Q E h => ?_) (fun fa cdv A outer s H vs Q E hr h => ?_)
  · obtain ⟨a, f, z, rfl, _⟩ := h
    rfl
  · obtain ⟨a, f, z, rfl, hA, ne, lf, bf, z0, q⟩ := h
    refine ⟨_, (pss_cons (ps_set (i := 2) sc__law_number_bent.nd rfl (.inl rfl) (pe_op op_mod (pv 1) (pe_callB call_len_seq (by rfl) nb.len PySem.boot_len (pa_cons (pv 0) pa_nil))))
      (pss_cons (ps_set (i := 3) sc__law_number_bent.nd rfl (.inl rfl) (pe_lst (pa_cons (pe_op op_add (pe_ix ix_list (pv 0) (pv 2) (fun _ _ => rfl)) pe_int) (pa_cons (pe_op op_sub (pe_ix ix_list (pv 0) (pv 2) (fun _ _ => rfl)) pe_int) (pa_cons (pe_op op_add (pe_ix ix_list (pv 0) (pv 2) (fun _ _ => rfl)) (pe_op op_powW pe_int pe_int)) (pa_cons (pe_op op_sub pe_int (pe_ix ix_list (pv 0) (pv 2) (fun _ _ => rfl))) (pa_cons pe_bl (pa_cons pe_non (pa_cons pe_str (pa_cons (pe_op op_mulW (pe_ix ix_list (pv 0) (pv 2) (fun _ _ => rfl)) pe_int) pa_nil))))))))))
      (pss_one (ps_ret (pe_op op_cat (pe_op op_cat (pe_slice sl_list (pv 0) po_none (po_some (pv 2))) (pe_lst (pa_cons (pe_ix ix_list (pv 3) (pe_op op_mod (pe_op op_fdivW (pv 1) pe_int) pe_int) (fun _ _ => rfl)) pa_nil))) (pe_slice sl_list (pv 0) (po_some (pe_op op_add (pv 2) pe_int)) po_none)))))), ?_⟩
    have pos := List.length_pos_iff.mpr ne
    have b19 : Bd 1900 f := bf.mono (by decide)
    obtain ⟨j, hj, jl⟩ : ∃ j : Nat, (j : Int) = z % (f.length : Int) ∧ j < f.length := by
      have a := Int.emod_nonneg z (show (f.length : Int) ≠ 0 by omega)
      have b := Int.emod_lt_of_pos z (show 0 < (f.length : Int) by omega)
      exact ⟨(z % (f.length : Int)).toNat, by omega, by omega⟩
    refine q_asg (v := .int (j : Nat)) (ev_is (ev_mod (ev_var rfl) (ev_is (ev_len (ev_var rfl) (SqL.of hA)) (by rw [List.length_map])) (by omega)) (by rw [hj])) fun H1 e1 => ?_
    have hA1 := e1 _ _ hA
    have bj := bf j
    have gj : f[j]? = some (coef f j) := coef_get jl
    have pj : ∀ {σ : L2.St} {H' : Hp}, Ex H1 H' → σ[0]? = some (some (.ref a)) → σ[2]? = some (some (.int (j : Nat))) → Ev (tOp (rIxL K) (tVar 0) (tVar 2)) σ H' (.int (coef f j)) := fun e h0 h2 => ev_ixI (j := j) (SqL.of (e _ _ hA1)) (ev_var h0) (ev_var h2) gj
    generalize coef f j = c at *
    have e0 := Ex.refl H1
    refine q_asgL (xs := [.int (c + 1), .int (c - 1), .int (c + 100000000000000000000), .int (0 - c), .bl true, .non, .str (Str.ofString "1"), .int (c * 2)]) (el_lst (vs := [.int (c + 1), .int (c - 1), .int (c + 100000000000000000000), .int (0 - c), .bl true, .non, .str (Str.ofString "1"), .int (c * 2)]) (ea_cons (ev_add (pj e0 rfl rfl) ev_c) (ea_cons (ev_sub (pj e0 rfl rfl) ev_c) (ea_cons (ev_add (pj e0 rfl rfl) (ev_pow (i := 10) (j := 20) (c := 100000000000000000000) ev_c ev_c ⟨by decide, by decide +kernel⟩ (by rfl))) (ea_cons (ev_sub ev_c (pj e0 rfl rfl)) (ea_cons ev_c (ea_cons ev_c (ea_cons ev_c (ea_cons (ev_mul (pj e0 rfl rfl) ev_c (mulB (b := 3) bj (by decide) (by decide))) ea_nil)))))))) (by show 8 ≤ 100000; decide)) fun od H2 nod e2 hod => ?_
    have hA2 := e2 _ _ hA1
    have dv : ∀ H', DqAll H' [.int (c + 1), .int (c - 1), .int (c + 100000000000000000000), .int (0 - c), .bl true, .non, .str (Str.ofString "1"), .int (c * 2)] [.int (c + 1), .int (c - 1), .int (c + 100000000000000000000), .int (0 - c), .bool true, .none, .str (Str.ofString "1"), .int (c * 2)] := fun H' => .cons (.int _) (.cons (.int _) (.cons (.int _) (.cons (.int _) (.cons (.bl _) (.cons .non (.cons (.str _) (.cons (.int _) .nil)))))))
    have si : ∀ i : Int, i.natAbs < 2 ^ 102 → Ok65 2000 2 (.int i) := fun i hi => (ok_int (Nat.lt_of_lt_of_le hi (Nat.pow_le_pow_right (by decide) (by decide)))).up (by decide) (by decide)
    have p2 : (2 : Nat) ^ 102 = 2 ^ 100 * 4 := by
      show (2 : Nat) ^ (100 + 2) = _
      rw [Nat.pow_add]
    have p3 : 100000000000000000000 < (2 : Nat) ^ 100 := by decide +kernel
    have okd : ∀ d ∈ ([.int (c + 1), .int (c - 1), .int (c + 100000000000000000000), .int (0 - c), .bool true, .none, .str (Str.ofString "1"), .int (c * 2)] : List PyData), Ok65 2000 2 d := fun d hd => by
      simp only [List.mem_cons, List.not_mem_nil, or_false] at hd
      generalize (2 : Nat) ^ 100 = B at *
      rcases hd with rfl | rfl | rfl | rfl | rfl | rfl | rfl | rfl
      · exact si _ (by omega)
      · exact si _ (by omega)
      · exact si _ (by omega)
      · exact si _ (by omega)
      · exact ⟨rfl, (sz_bl true).mono (by decide) (by decide)⟩
      · exact ⟨rfl, sz_non.mono (by decide) (by decide)⟩
      · exact ⟨by decide +kernel, (sz_str (b := 2000) (by decide +kernel) (by decide +kernel)).mono (by decide) (by decide)⟩
      · exact si _ (by omega)
    obtain ⟨k, hk, kl⟩ : ∃ k : Nat, (k : Int) = z / 64 % 8 ∧ k < 8 := ⟨(z / 64 % 8).toNat, by omega, by omega⟩
    have tk : (f.take j).length ≤ 7 := by rw [List.length_take]; omega
    have dr : (f.drop (j + 1)).length ≤ 7 := by rw [List.length_drop]; omega
    refine s_retQ (Pd := Ok65 15400 3) (eq_mid (Pe := Ok65 2000 2) (ns := f.take j) (ms := f.drop (j + 1)) (el_is (el_sl (hi := some ((j : Nat) : Int)) (ev_var rfl) eo_none (eo_some (ev_var rfl)) (SqL.of hA2)) (by rw [cut_take, List.map_take])) (fun H3 e3 Q2 q2 => ?_) (fun H3 e3 => el_is (el_sl (lo := some (((j + 1 : Nat)) : Int)) (ev_var rfl) (eo_some (ev_is (ev_add (ev_var rfl) ev_c) (show V.int ((j : Int) + 1) = V.int ((j + 1 : Nat) : Int) by rw [Int.natCast_add]; rfl))) eo_none (SqL.of (e3 _ _ hA2))) (by rw [cut_drop62, List.map_drop])) ⟨by omega, by omega⟩ fun d o => ok_flat63 o j b19 lf jl) fun x d H3 e3 hd ok => q x d H3 ((e1.trans e2).trans e3) hd ok
    obtain ⟨v, hv⟩ : ∃ v, ([.int (c + 1), .int (c - 1), .int (c + 100000000000000000000), .int (0 - c), .bl true, .non, .str (Str.ofString "1"), .int (c * 2)] : List V)[k]? = some v := ⟨_, List.getElem?_eq_getElem (show k < 8 from kl)⟩
    obtain ⟨d, hd, g⟩ := (dv H3).at hv
    exact (ev_op (ev_var rfl) (ev_is (ev_mod (ev_div (ev_var rfl) ev_c (divW (by decide) (by decide))) ev_c (by decide)) (by rw [← hk])) (rv_ixL (v := v) (i := (k : Int)) (SqL.of hod) (atI_nat hv))) H3 e3 _ fun H4 e4 => q2 v d H4 e4 (g.mono e4) (okd d (List.mem_of_getElem? hd))
end

/-! ### a row bent, the whole bent, of the law -/
section
variable {K : PySem.W.Frag} {σ : L2.St} {H : Hp} {te ta tb ti : TE} {tr : TA} {D : Ends} {E : XK} {Pd : PyData → Prop} {n : Nat} {tz : TS}
theorem q_unp63 {t : Addr} {v u : V} {i j : Nat} (h : Ev te σ H (.ref t)) (ht : H t = some (.tup [v, u])) (k : ∀ H1, Ex H H1 → tz D ((σ.set i (some v)).set j (some u)) H1) : tSeq (tAsg te (gTup K 2 (gCons (gName i) (gCons (gName j) gNil)))) tz D σ H :=
  h H (Ex.refl H) _ fun H1 e1 => ⟨t, _, rfl, SqT.of (e1 _ _ ht), rfl, v, [u], rfl, u, [], rfl, rfl, k H1 e1⟩
/-- some thing told by a call -/
theorem eq_callP {sp : Sp} {vs : List V} (h : EvA tr σ H vs) (hs : ∀ H1, Ex H H1 → ∀ Q : VK, (∀ x d H2, Ex H1 H2 → Dq H2 x d → Pd d → Q x H2) → ∀ E : XK, sp vs H1 Q E) : EvQd Pd (tCall sp [] E tr) σ H := fun H1 e Q q =>
  h H1 e _ fun H2 e2 => by
    show sp (vs ++ []) H2 Q E
    rw [List.append_nil]
    exact hs H2 (e.trans e2) Q (fun x d H3 e3 g p => q x d H3 (e2.trans e3) g p) E
/-- l = [things] -/
theorem q_asgQs {i : Nat} (h : EvQs Pd tr σ H n) (hn : n ≤ 100000) (k : ∀ l xs ds H1, Ex H H1 → H1 l = some (.lst xs) → DqAll H1 xs ds → (∀ d ∈ ds, Pd d) → xs.length = n → tz D (σ.set i (some (.ref l))) H1) : tSeq (tAsg (tLst tr) (gName i)) tz D σ H :=
  h H (Ex.refl H) _ fun xs ds H1 e1 g p l => ⟨sz_of (by omega), fun a na => k a xs ds _ (e1.trans (Ex.new na)) upd_same (g.mono (Ex.new na)) p l⟩
theorem eq_str63 {d : Nat} (h : Ev te σ H (.int (d : Nat))) (hd : ((d : Int)).natAbs.log2 < 1920) (p : Pd (.str (toString (d : Int)))) : EvQd Pd (tCB (fun xs H Q => ∃ i, xs = [.int i] ∧ i.natAbs.log2 < 1920 ∧ Q (.str (toString i)) H) (tCons te tNil)) σ H := fun H1 e Q q =>
  h H1 e _ fun H2 e2 => ⟨(d : Int), rfl, hd, q _ _ H2 e2 (.str _) p⟩
end
theorem okA_len {b k : Nat} : ∀ {ds : List PyData}, (∀ d ∈ ds, Ok65 b k d) → OkA ((b + 2) * ds.length) k ds
  | [], _ => (OkA.nil k).up (Nat.zero_le _) (Nat.le_refl _)
  | d :: ds, h => (OkA.cons (h d List.mem_cons_self) (okA_len fun x hx => h x (List.mem_cons_of_mem _ hx))).up (by rw [List.length_cons, Nat.mul_add]; omega) (Nat.le_refl _)
theorem cut_init63 (f : List Int) : cutV (f.map V.int) none (some (-1)) = (f.take (f.length - 1)).map V.int := by
  by_cases h : f = []
  · subst h
    rfl
  · have pos := List.length_pos_iff.mpr h
    have e : HT.sIx (f.map V.int).length (f.map V.int).length (some (-1)) = f.length - 1 := by
      unfold HT.sIx
      rw [List.length_map]
      simp
      omega
    have e2 : HT.sIx (f.map V.int).length 0 none = 0 := by
      unfold HT.sIx
      rfl
    unfold cutV
    rw [e, e2, List.drop_zero, Nat.sub_zero, List.map_take]
theorem str63_all : ((List.range 61).all fun k => PyData.canLay0 (.str (toString ((k : Nat) : Int))) && (((toString ((k : Nat) : Int) : Str).cps.toList.all fun c => decide (c < 16 ^ 8)) && decide (10 * (toString ((k : Nat) : Int) : Str).length + 2 ≤ 2000))) = true := by decide +kernel
theorem str63 {d : Nat} (h : d ≤ 60) : Ok65 2000 0 (.str (toString (d : Int))) := by
  have t := List.all_eq_true.mp str63_all d (List.mem_range.mpr (by omega))
  rw [Bool.and_eq_true, Bool.and_eq_true, decide_eq_true_iff] at t
  exact ⟨t.1, sz_str t.2.1 t.2.2⟩
theorem ok_dI63 {ns : List Int} (hb : Bd 1900 ns) : Ok65 (1923 * ns.length + 3) 1 (dI ns) := (okA_ints hb).list
/- _law_row_bent: slots 0 _law_row, 1 _law_number, 2 _law_d, 3 _law_f, 4 _law_way, 5 _law_odd; calls _law_number_bent, _law_product -/
abbrev s__law_row_bent : Stmt := topS 39
theorem sc__law_row_bent : FnScope ["_law_row", "_law_number", "_law_d", "_law_f", "_law_way", "_law_odd"] ["_law_row", "_law_number"] (defScope s__law_row_bent) := ⟨rfl, rfl, rfl, by decide +kernel, rfl, by decide +kernel, by decide +kernel⟩

def spRb63 : Sp := fun vs H Q _ => ∃ (t q : Addr) (d : Nat) (f : List Int) (z : Int), vs = [.ref t, .int z] ∧ H t = some (.tup [.int (d : Nat), .ref q]) ∧ H q = some (.lst (f.map V.int)) ∧ d ≤ 60 ∧ f ≠ [] ∧ f.length ≤ 7 ∧ Bd 100 f ∧ 0 ≤ z ∧ ∀ x d H1, Ex H H1 → Dq H1 x d → Ok65 60000 8 d → Q x H1
section
variable {P : Program} {w : World} {K : PySem.W.Frag} {mg : Str → Option Value} {base : Heap}
theorem cal_rb63 (nb : Nb mg) (c__law_number_bent : Cal P w K mg base CX0 "_law_number_bent" 1 ["_law_f", "_law_number"] spNb63) (c__law_product : Cal P w K mg base CX0 "_law_product" 2 ["_law_one", "_law_other"] (spPd62 K)) (d : Dfn K mg "_law_row_bent" ["_law_row", "_law_number"] s__law_row_bent) : Cal P w K mg base CX0 "_law_row_bent" 3 ["_law_row", "_law_number"] spRb63 := by
  refine d.cal sc__law_row_bent (fun vs H Q E h => ?_) (fun fa cdv A outer s H vs Q E hr h => ?_)
  · obtain ⟨t, q, d, f, z, rfl, _⟩ := h
    rfl
  · obtain ⟨t, qf, d, f, z, rfl, hT, hF, d60, ne, lf, bf, z0, q⟩ := h
    refine ⟨_, (pss_cons (ps_asg (pv 0) (pg_tup (by rfl) (pgs_cons (pg_name (i := 2) sc__law_row_bent.nd rfl (.inl rfl)) (pgs_cons (pg_name (i := 3) sc__law_row_bent.nd rfl (.inl rfl)) pgs_nil))))
      (pss_cons (ps_set (i := 4) sc__law_row_bent.nd rfl (.inl rfl) (pe_op op_mod (pv 1) pe_int))
      (pss_cons (ps_set (i := 1) sc__law_row_bent.nd rfl (.inl rfl) (pe_op op_fdivW (pv 1) pe_int))
      (pss_cons (ps_if (pt_cmpR op_lt (pv 4) pe_int (nomark _)) (pss_one (ps_ret (pe_tup (pa_cons (pv 2) (pa_cons (pe_cal c__law_number_bent (hr.mono (by first | decide | omega)) (by rfl) pass0 (pa_cons (pv 3) (pa_cons (pv 1) pa_nil))) pa_nil))))) pss_nil)
      (pss_cons (ps_if (pt_cmpR op_eq (pv 4) pe_int (nomark _)) (pss_one (ps_ret (pe_tup (pa_cons (pe_ix ix_list (pe_lst (pa_cons (pe_op op_add (pv 2) pe_int) (pa_cons (pe_op op_sub (pv 2) pe_int) (pa_cons (pe_op op_sub pe_int (pv 2)) (pa_cons pe_bl (pa_cons pe_non (pa_cons (pe_callTy call_str_int (by rfl) nb.str (by decide +kernel) (pa_cons (pv 2) pa_nil)) pa_nil))))))) (pe_op op_mod (pv 1) pe_int) (fun _ _ => rfl)) (pa_cons (pv 3) pa_nil))))) pss_nil)
      (pss_cons (ps_if (pt_cmpR op_eq (pv 4) pe_int (nomark _)) (pss_one (ps_ret (pe_tup (pa_cons (pv 2) (pa_cons (pe_op op_cat (pv 3) (pe_lst (pa_cons pe_int pa_nil))) pa_nil))))) pss_nil)
      (pss_cons (ps_if (pt_cmpR op_eq (pv 4) pe_int (nomark _)) (pss_one (ps_ret (pe_tup (pa_cons (pv 2) (pa_cons (pe_lc (own := [("_law_number", 1)]) (g := gName 1) (tt := tYes) (by rfl) sc__law_row_bent.nd (pi_list (pv 3)) (blkOk_by (N := ["_law_row", "_law_number", "_law_d", "_law_f", "_law_way", "_law_odd"]) (sc := defScope s__law_row_bent) (by decide +kernel)) (fun _ _ _ _ _ => (pg_name (i := 1) sc__law_row_bent.nd rfl (Or.inl rfl))) (fun _ _ _ _ _ => pts_nil) (fun _ _ _ _ _ => (pe_op op_sub pe_int (pv 1)))) pa_nil))))) pss_nil)
      (pss_cons (ps_if (pt_cmpR op_eq (pv 4) pe_int (nomark _)) (pss_one (ps_ret (pe_tup (pa_cons (pv 2) (pa_cons (pe_cal c__law_product (hr.mono (by first | decide | omega)) (by rfl) pass0 (pa_cons (pv 3) (pa_cons (pv 3) pa_nil))) pa_nil))))) pss_nil)
      (pss_cons (ps_set (i := 5) sc__law_row_bent.nd rfl (.inl rfl) (pe_lst (pa_cons (pe_tup (pa_cons (pv 2) (pa_cons (pe_callTy call_tuple_of (by rfl) nb.tuple (by decide +kernel) (pa_cons (pv 3) pa_nil)) pa_nil))) (pa_cons (pe_lst (pa_cons (pv 2) (pa_cons (pv 3) pa_nil))) (pa_cons (pe_tup (pa_cons (pv 2) (pa_cons (pv 3) (pa_cons (pv 3) pa_nil)))) (pa_cons (pe_tup (pa_cons (pv 2) pa_nil)) (pa_cons (pe_tup (pa_cons (pv 3) (pa_cons (pv 2) pa_nil))) (pa_cons pe_non (pa_cons (pv 2) (pa_cons (pe_tup (pa_cons (pv 2) (pa_cons (pe_lst pa_nil) pa_nil))) (pa_cons (pe_tup (pa_cons (pv 2) (pa_cons (pe_lst (pa_cons (pv 3) pa_nil)) pa_nil))) (pa_cons (pe_tup (pa_cons (pv 2) (pa_cons (pe_slice sl_list (pv 3) po_none (po_some (pe_un un_neg pe_int))) pa_nil))) pa_nil))))))))))))
      (pss_one (ps_ret (pe_ix ix_list (pv 5) (pe_op op_mod (pv 1) pe_int) (fun _ _ => rfl))))))))))))), ?_⟩
    have pos := List.length_pos_iff.mpr ne
    have b19 : Bd 1900 f := bf.mono (by decide)
    refine q_unp63 (ev_var rfl) hT fun H1 e1 => ?_
    refine q_asg (v := .int (z % 12)) (by one_place) fun H2 e2 => ?_
    refine q_asg (v := .int (z / 12)) (by one_place) fun H3 e3 => ?_
    have e13 := e1.trans (e2.trans e3)
    have u0 : 0 ≤ z / 12 := by omega
    generalize z / 12 = u at *
    have w0 : 0 ≤ z % 12 := by omega
    generalize z % 12 = y at *
    have fin : ∀ {H' : Hp}, Ex H H' → ∀ x d H1, Ex H' H1 → Dq H1 x d → Ok65 60000 8 d → Q x H1 := fun e x d H1 e1 hd o => q x d H1 (e.trans e1) hd o
    have sd : ((d : Int)).natAbs < 2 ^ 1900 := Nat.lt_of_lt_of_le (show ((d : Int)).natAbs < 2 ^ 6 by omega) (Nat.pow_le_pow_right (by decide) (by decide))
    have okd : Ok65 1921 0 (.int (d : Nat)) := ok_int sd
    have okf : Ok65 13464 1 (dI f) := (ok_dI63 b19).up (by omega) (Nat.le_refl _)
    have vd : ∀ {Pd : PyData → Prop} {σ : L2.St} {H' : Hp}, σ[2]? = some (some (.int (d : Nat))) → Pd (.int (d : Nat)) → EvQd Pd (tVar 2) σ H' := fun h2 p => eq_val (ev_var h2) (fun _ _ => .int _) p
    have vf : ∀ {Pd : PyData → Prop} {σ : L2.St} {H' : Hp}, Ex H H' → σ[3]? = some (some (.ref qf)) → Pd (dI f) → EvQd Pd (tVar 3) σ H' := fun e h3 p => eq_val (ev_var h3) (fun _ e1 => dq_ints ((e.trans e1) _ _ hF)) p
    have t2 : ∀ {ds : List PyData}, ds.length = 2 → (∀ d ∈ ds, Ok65 27000 4 d) → Ok65 60000 8 (.tuple ds) := fun hl hd => ((okA_len hd).tuple).up (by rw [hl]; decide) (by decide)
    have l2 : ∀ {ds : List PyData}, ds.length = 2 → (∀ d ∈ ds, Ok65 27000 4 d) → Ok65 60000 8 (.list ds) := fun hl hd => ((okA_len hd).list).up (by rw [hl]; decide) (by decide)
    have gd : Ok65 27000 4 (.int (d : Nat)) := okd.up (by decide) (by decide)
    have gf : Ok65 27000 4 (dI f) := okf.up (by decide) (by decide)
    refine q_when (b := decide (y < 5)) (by one_place) (fun hb H4 e4 => ?_) (fun _ H4 e4 => ?_)
    · exact s_retQ (Pd := Ok65 60000 8) (eq_tup (Pe := Ok65 27000 4) (n := 2) (eqs_cons (vd rfl gd) (eqs_cons (eq_callP (vs := [.ref qf, .int u]) (by one_place) fun H5 e5 Q k E => ⟨qf, f, u, rfl, ((e13.trans e4).trans e5) _ _ hF, ne, lf, bf, u0, fun x d H6 e6 g o => k x d H6 e6 g (o.up (by decide) (by decide))⟩) eqs_nil)) (by decide) fun ds hl hd => t2 hl hd) (fin (e13.trans e4))
    have e14 := e13.trans e4
    refine q_when (b := decide (y = 5)) (by one_place) (fun hb H5 e5 => ?_) (fun _ H5 e5 => ?_)
    · exact s_retQ (Pd := Ok65 60000 8) (eq_tup (Pe := Ok65 27000 4) (n := 2) (eqs_cons (eq_pick (n := 6) (i := u % 6) (eqs_cons (eq_val (ev_add (ev_var rfl) ev_c) (fun _ _ => .int _) ((ok_int (Nat.lt_of_lt_of_le (show ((d : Int) + 1).natAbs < 2 ^ 6 by omega) (Nat.pow_le_pow_right (by decide) (by decide)))).up (by decide) (by decide))) (eqs_cons (eq_val (ev_sub (ev_var rfl) ev_c) (fun _ _ => .int _) ((ok_int (Nat.lt_of_lt_of_le (show ((d : Int) - 1).natAbs < 2 ^ 6 by omega) (Nat.pow_le_pow_right (by decide) (by decide)))).up (by decide) (by decide))) (eqs_cons (eq_val (ev_sub ev_c (ev_var rfl)) (fun _ _ => .int _) ((ok_int (Nat.lt_of_lt_of_le (show (0 - (d : Int)).natAbs < 2 ^ 6 by omega) (Nat.pow_le_pow_right (by decide) (by decide)))).up (by decide) (by decide))) (eqs_cons (eq_val ev_c (fun _ _ => .bl true) ⟨rfl, (sz_bl true).mono (by decide) (by decide)⟩) (eqs_cons (eq_val ev_c (fun _ _ => .non) ⟨rfl, sz_non.mono (by decide) (by decide)⟩) (eqs_cons (eq_str63 (ev_var rfl) (by
        by_cases z : ((d : Int)).natAbs = 0
        · rw [z]; decide
        · exact (Nat.log2_lt z).mpr (Nat.lt_of_lt_of_le (show ((d : Int)).natAbs < 2 ^ 6 by omega) (Nat.pow_le_pow_right (by decide) (by decide)))) ((str63 d60).up (by decide) (by decide))) eqs_nil)))))) (by decide) (by one_place) (by omega) (by omega)) (eqs_cons (vf (e14.trans e5) rfl gf) eqs_nil)) (by decide) fun ds hl hd => t2 hl hd) (fin (e14.trans e5))
    have e15 := e14.trans e5
    refine q_when (b := decide (y = 6)) (by one_place) (fun hb H6 e6 => ?_) (fun _ H6 e6 => ?_)
    · have b0 : Bd 1900 (f ++ [0]) := Bd.app65 b19 (Bd.one65 (Nat.two_pow_pos _))
      exact s_retQ (Pd := Ok65 60000 8) (eq_tup (Pe := Ok65 27000 4) (n := 2) (eqs_cons (vd rfl gd) (eqs_cons (eq_ints (ns := f ++ [0]) (el_is (el_cat1 (ys := [.int 0]) (ev_var rfl) ((e15.trans e6) _ _ hF) (el_lst (by one_place) (by show 1 ≤ 100000; decide)) (by rw [List.length_map]; show _ + 1 ≤ _; omega)) (by rw [List.map_append]; rfl)) ((ok_dI63 b0).up (by rw [List.length_append, List.length_singleton]; omega) (by decide))) eqs_nil)) (by decide) fun ds hl hd => t2 hl hd) (fin (e15.trans e6))
    have e16 := e15.trans e6
    refine q_when (b := decide (y = 7)) (by one_place) (fun hb H7 e7 => ?_) (fun _ H7 e7 => ?_)
    · have b0 : Bd 1900 (f.map fun i => 0 - i) := Bd.of fun x hx => by
        obtain ⟨i, hi, rfl⟩ := List.mem_map.mp hx
        obtain ⟨m, hm⟩ := List.mem_iff_getElem?.mp hi
        have := b19 m
        rw [coef_of hm] at this
        omega
      exact s_retQ (Pd := Ok65 60000 8) (eq_tup (Pe := Ok65 27000 4) (n := 2) (eqs_cons (vd rfl gd) (eqs_cons (eq_ints (ns := f.map fun i => 0 - i) (el_is (el_lcI (ns := f) (fun _ => true) (fun i => .int (0 - i)) (ev_var rfl) (SqL.of ((e16.trans e7) _ _ hF)) (by omega) (fun _ => rfl) (fun _ _ _ _ => et_yes) fun i H8 e8 hi _ => ev_sub ev_c (ev_var rfl)) (by rw [filter_yes, List.map_map]; rfl)) ((ok_dI63 b0).up (by rw [List.length_map]; omega) (by decide))) eqs_nil)) (by decide) fun ds hl hd => t2 hl hd) (fin (e16.trans e7))
    have e17 := e16.trans e7
    refine q_when (b := decide (y = 8)) (by one_place) (fun hb H8 e8 => ?_) (fun _ H8 e8 => ?_)
    · have b0 : Bd 1900 (pdL f f) := (pdL_bd bf bf).mono (by omega)
      have l0 := pdL_len (f := f) (g := f)
      exact s_retQ (Pd := Ok65 60000 8) (eq_tup (Pe := Ok65 27000 4) (n := 2) (eqs_cons (vd rfl gd) (eqs_cons (eq_ints (ns := pdL f f) (el_cal (vs := [.ref qf, .ref qf]) (by one_place) fun H9 e9 Q k E => ⟨qf, qf, f, f, 100, 100, rfl, SqL.of (((e17.trans e8).trans e9) _ _ hF), SqL.of (((e17.trans e8).trans e9) _ _ hF), by omega, by omega, bf, bf, by decide, k⟩) ((ok_dI63 b0).up (by omega) (by decide))) eqs_nil)) (by decide) fun ds hl hd => t2 hl hd) (fin (e17.trans e8))
    have e18 := e17.trans e8
    have hF8 := e18 _ _ hF
    refine q_asgQs (Pd := Ok65 60000 8) (n := 10) (eqs_cons (eq_tup (Pe := Ok65 27000 4) (n := 2) (eqs_cons (vd rfl gd) (eqs_cons (eq_tupOf (ev_var rfl) hF8 (dqa_ints _ f) (((okA_ints b19).tuple).up (by omega) (by decide))) eqs_nil)) (by decide) fun ds hl hd => t2 hl hd)
      (eqs_cons (eq_lst (Pe := Ok65 27000 4) (n := 2) (eqs_cons (vd rfl gd) (eqs_cons (vf e18 rfl gf) eqs_nil)) (by decide) fun ds hl hd => l2 hl hd)
      (eqs_cons (eq_tup (Pe := Ok65 13500 4) (n := 3) (eqs_cons (vd rfl (okd.up (by decide) (by decide))) (eqs_cons (vf e18 rfl (okf.up (by decide) (by decide))) (eqs_cons (vf e18 rfl (okf.up (by decide) (by decide))) eqs_nil))) (by decide) fun ds hl hd => ((okA_len hd).tuple).up (by rw [hl]; decide) (by decide))
      (eqs_cons (eq_tup (Pe := Ok65 27000 4) (n := 1) (eqs_cons (vd rfl gd) eqs_nil) (by decide) fun ds hl hd => ((okA_len hd).tuple).up (by rw [hl]; decide) (by decide))
      (eqs_cons (eq_tup (Pe := Ok65 27000 4) (n := 2) (eqs_cons (vf e18 rfl gf) (eqs_cons (vd rfl gd) eqs_nil)) (by decide) fun ds hl hd => t2 hl hd)
      (eqs_cons (eq_val ev_c (fun _ _ => .non) ⟨rfl, sz_non.mono (by decide) (by decide)⟩)
      (eqs_cons (vd rfl (gd.up (by decide) (by decide)))
      (eqs_cons (eq_tup (Pe := Ok65 27000 4) (n := 2) (eqs_cons (vd rfl gd) (eqs_cons (eq_ints (ns := []) (el_lst (vs := []) ea_nil (by decide)) ((ok_dI63 (ns := []) (fun m => by rw [coef_nil]; exact Nat.two_pow_pos _)).up (by decide) (by decide))) eqs_nil)) (by decide) fun ds hl hd => t2 hl hd)
      (eqs_cons (eq_tup (Pe := Ok65 27000 4) (n := 2) (eqs_cons (vd rfl gd) (eqs_cons (eq_lst (Pe := Ok65 13464 1) (n := 1) (eqs_cons (vf e18 rfl okf) eqs_nil) (by decide) fun ds hl hd => ((okA_len hd).list).up (by rw [hl]; decide) (by decide)) eqs_nil)) (by decide) fun ds hl hd => t2 hl hd)
      (eqs_cons (eq_tup (Pe := Ok65 27000 4) (n := 2) (eqs_cons (vd rfl gd) (eqs_cons (eq_ints (ns := f.take (f.length - 1)) (el_is (el_sl (ev_var rfl) eo_none (eo_some (ev_neg ev_c)) (SqL.of hF8)) (cut_init63 f)) ((ok_dI63 (b19.take65 _)).up (by rw [List.length_take]; omega) (by decide))) eqs_nil)) (by decide) fun ds hl hd => t2 hl hd) eqs_nil)))))))))) (by decide) fun l xs ds H9 e9 hl9 g9 p9 n9 => ?_
    obtain ⟨k, hk, kl⟩ : ∃ k : Nat, (k : Int) = u % 10 ∧ k < 10 := ⟨(u % 10).toNat, by omega, by omega⟩
    obtain ⟨v, hv⟩ : ∃ v, xs[k]? = some v := ⟨_, List.getElem?_eq_getElem (by omega)⟩
    obtain ⟨dd, hd, g⟩ := g9.at hv
    exact s_retQ (Pd := Ok65 60000 8) (eq_val (ev_op (ev_var rfl) (ev_is (ev_mod (ev_var rfl) ev_c (by decide)) (by rw [← hk])) (rv_ixL (v := v) (i := (k : Int)) (SqL.of hl9) (atI_nat hv))) (fun _ e => g.mono e) (p9 dd (List.mem_of_getElem? hd))) (fin (e18.trans e9))
end

/-! ### the whole bent, of the law -/
theorem pick_rev63 {α : Type} (ns : List α) : pickV ns (-1) = ns.reverse := by
  unfold pickV
  rw [PySem.W.krv_bounds]
  show (sliceRange ((ns.length : Int) - 1) (-1) (-1)).filterMap (ns[·]?) = _
  rw [PySem.W.krv_sliceRange, PySem.W.krv_range, List.filterMap_reverse]
  congr 1
  refine List.ext_getElem? fun i => ?_
  have key : ∀ l : List α, (List.range l.length).filterMap (l[·]?) = l := by
    intro l
    induction l with
    | nil => rfl
    | cons x l ih =>
      rw [List.length_cons, List.range_succ_eq_map]
      show x :: List.filterMap (fun i => (x :: l)[i]?) (List.map Nat.succ (List.range l.length)) = x :: l
      rw [List.filterMap_map]
      exact congrArg (x :: ·) ih
  rw [key]
/-- rows that are few and short -/
structure RwB63 (rows : List (Int × List Int)) : Prop where
  ne : rows ≠ []
  many : rows.length ≤ 12
  row : ∀ r ∈ rows, ∃ d : Nat, r.1 = (d : Int) ∧ d ≤ 60 ∧ r.2 ≠ [] ∧ r.2.length ≤ 7 ∧ Bd 100 r.2
  ok : OkA 62000 2 (rows.map dNL)
theorem ok_row63 {r : Int × List Int} (h : ∃ d : Nat, r.1 = (d : Int) ∧ d ≤ 60 ∧ r.2 ≠ [] ∧ r.2.length ≤ 7 ∧ Bd 100 r.2) : Ok65 15400 2 (dNL r) := by
  obtain ⟨d, rd, d60, _, l, b⟩ := h
  have sd : r.1.natAbs < 2 ^ 1900 := by
    rw [rd]
    exact Nat.lt_of_lt_of_le (show ((d : Int)).natAbs < 2 ^ 6 by omega) (Nat.pow_le_pow_right (by decide) (by decide))
  exact (OkA.cons ((ok_int sd).up (Nat.le_refl _) (show 0 ≤ 1 by decide)) (OkA.cons (ok_dI63 (b.mono (by decide))) (OkA.nil 1))).tuple.up (by omega) (by decide)
theorem dq_NL_of {H : Hp} {t q : Addr} {r : Int × List Int} (ht : H t = some (.tup [.int r.1, .ref q])) (hq : H q = some (.lst (r.2.map V.int))) : Dq H (.ref t) (dNL r) := .tup ht (.cons (.int _) (.cons (dq_ints hq) .nil))
/- _law_bent: slots 0 _law_thing, 1 _law_number, 2 _law_more, 3 _law_at, 4 _law_to, 5 _law_way, 6 _law_rows; calls _law_row_bent -/
abbrev s__law_bent : Stmt := topS 40
theorem sc__law_bent : FnScope ["_law_thing", "_law_number", "_law_more", "_law_at", "_law_to", "_law_way", "_law_rows"] ["_law_thing", "_law_number", "_law_more"] (defScope s__law_bent) := ⟨rfl, rfl, rfl, by decide +kernel, rfl, by decide +kernel, by decide +kernel⟩

def spBt63 : Sp := fun vs H Q _ => ∃ (p : Addr) (ts : List Addr) (rows : List (Int × List Int)) (z m : Int), vs = [.ref p, .int z, .int m] ∧ H p = some (.lst (ts.map V.ref)) ∧ DqAll H (ts.map V.ref) (rows.map dNL) ∧ RwB63 rows ∧ 0 ≤ z ∧ 0 ≤ m ∧ ∀ x d H1, Ex H H1 → Dq H1 x d → Ok65 158000 20 d → Q x H1
section
variable {P : Program} {w : World} {K : PySem.W.Frag} {mg : Str → Option Value} {base : Heap}
theorem cal_bt63 (nb : Nb mg) (c__law_row_bent : Cal P w K mg base CX0 "_law_row_bent" 3 ["_law_row", "_law_number"] spRb63) (d : Dfn K mg "_law_bent" ["_law_thing", "_law_number", "_law_more"] s__law_bent) : Cal P w K mg base CX0 "_law_bent" 4 ["_law_thing", "_law_number", "_law_more"] spBt63 := by
  refine d.cal sc__law_bent (fun vs H Q E h => ?_) (fun fa cdv A outer s H vs Q E hr h => ?_)
  · obtain ⟨p, ts, rows, z, m, rfl, _⟩ := h
    rfl
  · obtain ⟨p, ts, rows, z, m, rfl, hp, g, B, z0, m0, q⟩ := h
    refine ⟨_, (pss_cons (ps_set (i := 3) sc__law_bent.nd rfl (.inl rfl) (pe_op op_mod (pv 1) (pe_callB call_len_seq (by rfl) nb.len PySem.boot_len (pa_cons (pv 0) pa_nil))))
      (pss_cons (ps_set (i := 4) sc__law_bent.nd rfl (.inl rfl) (pe_op op_mod (pe_op op_fdivW (pv 1) pe_int) (pe_callB call_len_seq (by rfl) nb.len PySem.boot_len (pa_cons (pv 0) pa_nil))))
      (pss_cons (ps_set (i := 5) sc__law_bent.nd rfl (.inl rfl) (pe_op op_mod (pe_op op_fdivW (pv 1) pe_int) pe_int))
      (pss_cons (ps_if (pt_cmpR op_lt (pv 5) pe_int (nomark _)) (pss_one (ps_ret (pe_op op_cat (pe_op op_cat (pe_slice sl_list (pv 0) po_none (po_some (pv 3))) (pe_lst (pa_cons (pe_cal c__law_row_bent (hr.mono (by first | decide | omega)) (by rfl) pass0 (pa_cons (pe_ix ix_list (pv 0) (pv 3) (fun _ _ => rfl)) (pa_cons (pv 2) pa_nil))) pa_nil))) (pe_slice sl_list (pv 0) (po_some (pe_op op_add (pv 3) pe_int)) po_none)))) pss_nil)
      (pss_cons (ps_if (pt_cmpR op_eq (pv 5) pe_int (nomark _)) (pss_one (ps_ret (pe_op op_cat (pe_slice sl_list (pv 0) po_none (po_some (pv 3))) (pe_slice sl_list (pv 0) (po_some (pe_op op_add (pv 3) pe_int)) po_none)))) pss_nil)
      (pss_cons (ps_if (pt_cmpR op_eq (pv 5) pe_int (nomark _)) (pss_one (ps_ret (pe_op op_cat (pe_op op_cat (pe_slice sl_list (pv 0) po_none (po_some (pv 4))) (pe_lst (pa_cons (pe_ix ix_list (pv 0) (pv 3) (fun _ _ => rfl)) pa_nil))) (pe_slice sl_list (pv 0) (po_some (pv 4)) po_none)))) pss_nil)
      (pss_cons (ps_if (pt_cmpR op_eq (pv 5) pe_int (nomark _)) (pss_cons (ps_set (i := 6) sc__law_bent.nd rfl (.inl rfl) (pe_callTy call_list_of (by rfl) nb.list (by decide +kernel) (pa_cons (pv 0) pa_nil)))
      (pss_cons (ps_asg (pe_tup (pa_cons (pe_ix ix_list (pv 6) (pv 4) (fun _ _ => rfl)) (pa_cons (pe_ix ix_list (pv 6) (pv 3) (fun _ _ => rfl)) pa_nil))) (pg_tup (by rfl) (pgs_cons (pg_sub (pv 6) (pv 3) set_list) (pgs_cons (pg_sub (pv 6) (pv 4) set_list) pgs_nil))))
      (pss_one (ps_ret (pv 6))))) pss_nil)
      (pss_cons (ps_if (pt_cmpR op_eq (pv 5) pe_int (nomark _)) (pss_one (ps_ret (pe_ix ix_list (pe_lst (pa_cons (pe_callTy call_tuple_of (by rfl) nb.tuple (by decide +kernel) (pa_cons (pv 0) pa_nil)) (pa_cons pe_non (pa_cons (pe_lst pa_nil) (pa_cons pe_str (pa_cons pe_int (pa_cons (pe_lst (pa_cons (pe_lst pa_nil) pa_nil)) (pa_cons (pe_lst (pa_cons (pe_tup pa_nil) pa_nil)) (pa_cons pe_bl (pa_cons (pe_tup pa_nil) (pa_cons (pe_lst (pa_cons (pv 0) pa_nil)) (pa_cons (pe_sliceS (pv 0) (pe_un un_neg pe_int)) (pa_cons (pe_lst (pa_cons pe_non pa_nil)) pa_nil))))))))))))) (pe_op op_mod (pv 2) pe_int) (fun _ _ => rfl)))) pss_nil)
      (pss_cons (ps_set (i := 6) sc__law_bent.nd rfl (.inl rfl) (pe_callTy call_list_of (by rfl) nb.list (by decide +kernel) (pa_cons (pv 0) pa_nil)))
      (pss_cons (ps_asg (pe_tup (pa_cons (pe_tup (pa_cons (pe_ix ix_tup (pe_ix ix_list (pv 6) (pv 3) (fun _ _ => rfl)) pe_int (fun _ _ => rfl)) (pa_cons (pe_ix ix_tup (pe_ix ix_list (pv 6) (pv 4) (fun _ _ => rfl)) pe_int (fun _ _ => rfl)) pa_nil))) (pa_cons (pe_tup (pa_cons (pe_ix ix_tup (pe_ix ix_list (pv 6) (pv 4) (fun _ _ => rfl)) pe_int (fun _ _ => rfl)) (pa_cons (pe_ix ix_tup (pe_ix ix_list (pv 6) (pv 3) (fun _ _ => rfl)) pe_int (fun _ _ => rfl)) pa_nil))) pa_nil))) (pg_tup (by rfl) (pgs_cons (pg_sub (pv 6) (pv 3) set_list) (pgs_cons (pg_sub (pv 6) (pv 4) set_list) pgs_nil))))
      (pss_one (ps_ret (pv 6))))))))))))), ?_⟩
    have pos := List.length_pos_iff.mpr B.ne
    have many := B.many
    have ln : ts.length = rows.length := by
      have := g.len
      rwa [List.length_map, List.length_map] at this
    have lx : (ts.map V.ref).length = rows.length := by rw [List.length_map, ln]
    have lp : ∀ {σ : L2.St} {H' : Hp}, Ex H H' → σ[0]? = some (some (.ref p)) → Ev (tCB (rLenS K) (tCons (tVar 0) tNil)) σ H' (.int (rows.length : Int)) := fun e h0 => ev_is (ev_len (ev_var h0) (SqL.of (e _ _ hp))) (by rw [lx])
    obtain ⟨a, ha, al⟩ : ∃ a : Nat, (a : Int) = z % (rows.length : Int) ∧ a < rows.length := by
      have a := Int.emod_nonneg z (show (rows.length : Int) ≠ 0 by omega)
      have b := Int.emod_lt_of_pos z (show 0 < (rows.length : Int) by omega)
      exact ⟨(z % (rows.length : Int)).toNat, by omega, by omega⟩
    obtain ⟨b, hb, bl⟩ : ∃ b : Nat, (b : Int) = z / 16 % (rows.length : Int) ∧ b < rows.length := by
      have a := Int.emod_nonneg (z / 16) (show (rows.length : Int) ≠ 0 by omega)
      have b := Int.emod_lt_of_pos (z / 16) (show 0 < (rows.length : Int) by omega)
      exact ⟨(z / 16 % (rows.length : Int)).toNat, by omega, by omega⟩
    refine q_asg (v := .int (a : Nat)) (ev_is (ev_mod (ev_var rfl) (lp (Ex.refl _) rfl) (by omega)) (by rw [ha])) fun H1 e1 => ?_
    refine q_asg (v := .int (b : Nat)) (ev_is (ev_mod (ev_div (ev_var rfl) ev_c (divW (by decide) (by decide))) (lp e1 rfl) (by omega)) (by rw [hb])) fun H2 e2 => ?_
    refine q_asg (v := .int (z / 256 % 12)) (by one_place) fun H3 e3 => ?_
    have e03 := e1.trans (e2.trans e3)
    generalize z / 256 % 12 = y at *
    obtain ⟨ra, hra⟩ : ∃ r, rows[a]? = some r := ⟨_, List.getElem?_eq_getElem al⟩
    obtain ⟨rb, hrb⟩ : ∃ r, rows[b]? = some r := ⟨_, List.getElem?_eq_getElem bl⟩
    obtain ⟨xa, hxa⟩ : ∃ x, (ts.map V.ref)[a]? = some x := ⟨_, List.getElem?_eq_getElem (by omega)⟩
    obtain ⟨xb, hxb⟩ : ∃ x, (ts.map V.ref)[b]? = some x := ⟨_, List.getElem?_eq_getElem (by omega)⟩
    obtain ⟨ra', ta, qa, hra', rfl, hta, hqa⟩ := rowsD_get g hxa
    obtain rfl : ra = ra' := by rw [hra] at hra'; exact Option.some.inj hra'
    obtain ⟨rb', tb, qb, hrb', rfl, htb, hqb⟩ := rowsD_get g hxb
    obtain rfl : rb = rb' := by rw [hrb] at hrb'; exact Option.some.inj hrb'
    have fa := B.row ra (List.mem_of_getElem? hra)
    have fb := B.row rb (List.mem_of_getElem? hrb)
    have oka := ok_row63 fa
    have okb := ok_row63 fb
    have dqa : Dq H (.ref ta) (dNL ra) := dq_NL_of hta hqa
    have dqb : Dq H (.ref tb) (dNL rb) := dq_NL_of htb hqb
    have tk : (ts.map V.ref).length ≤ 12 := by omega
    have fin : ∀ {H' : Hp}, Ex H H' → ∀ x d H1, Ex H' H1 → Dq H1 x d → Ok65 158000 20 d → Q x H1 := fun e x d H1 e1 hd o => q x d H1 (e.trans e1) hd o
    have up : ∀ {c k : Nat} {es : List PyData}, OkA c k es → c ≤ 157000 → k ≤ 19 → Ok65 158000 20 (.list es) := fun h hc hk => h.list.up (by omega) (by omega)
    -- slices
    have low : ∀ {σ : L2.St} {H' : Hp} {i c : Nat}, Ex H H' → σ[0]? = some (some (.ref p)) → σ[i]? = some (some (.int (c : Nat))) → EvL (tSl (rSlL K) (tVar 0) tNoPart (tPart (tVar i))) σ H' ((ts.map V.ref).take c) := fun {σ H' i c} e h0 hi => el_is (el_sl (hi := some ((c : Nat) : Int)) (ev_var h0) eo_none (eo_some (ev_var hi)) (SqL.of (e _ _ hp))) (cut_take _ _)
    have high1 : ∀ {σ : L2.St} {H' : Hp} {i c : Nat}, Ex H H' → σ[0]? = some (some (.ref p)) → σ[i]? = some (some (.int (c : Nat))) → EvL (tSl (rSlL K) (tVar 0) (tPart (tOp (rI0 fun i j => .int (i + j)) (tVar i) (tC (.int 1)))) tNoPart) σ H' ((ts.map V.ref).drop (c + 1)) := fun {σ H' i c} e h0 hi => el_is (el_sl (lo := some (((c + 1 : Nat)) : Int)) (ev_var h0) (eo_some (ev_is (ev_add (ev_var hi) ev_c) (show V.int ((c : Int) + 1) = V.int ((c + 1 : Nat) : Int) by rw [Int.natCast_add]; rfl))) eo_none (SqL.of (e _ _ hp))) (cut_drop62 _ _)
    have high0 : ∀ {σ : L2.St} {H' : Hp} {i c : Nat}, Ex H H' → σ[0]? = some (some (.ref p)) → σ[i]? = some (some (.int (c : Nat))) → EvL (tSl (rSlL K) (tVar 0) (tPart (tVar i)) tNoPart) σ H' ((ts.map V.ref).drop c) := fun {σ H' i c} e h0 hi => el_is (el_sl (lo := some ((c : Nat) : Int)) (ev_var h0) (eo_some (ev_var hi)) eo_none (SqL.of (e _ _ hp))) (cut_drop62 _ _)
    have at0 : ∀ {σ : L2.St} {H' : Hp}, Ex H H' → σ[0]? = some (some (.ref p)) → σ[3]? = some (some (.int (a : Nat))) → Ev (tOp (rIxL K) (tVar 0) (tVar 3)) σ H' (.ref ta) := fun e h0 h3 => ev_op (ev_var h0) (ev_var h3) (rv_ixL (v := .ref ta) (i := (a : Int)) (SqL.of (e _ _ hp)) (atI_nat hxa))
    have lt : ∀ c, ((ts.map V.ref).take c).length ≤ 1000 := fun c => by rw [List.length_take]; omega
    have ld : ∀ c, ((ts.map V.ref).drop c).length ≤ 1000 := fun c => by rw [List.length_drop]; omega
    refine q_when (b := decide (y < 7)) (by one_place) (fun hb H4 e4 => ?_) (fun _ H4 e4 => ?_)
    · obtain ⟨d, rd, d60, ne, lf, bf⟩ := fa
      exact s_retQ (Pd := Ok65 158000 20) (eq_midD (Pe := Ok65 60000 8) (low (e03.trans e4) rfl rfl) (eq_callP (vs := [.ref ta, .int m]) (ea_cons (at0 (e03.trans e4) rfl rfl) (ea_cons (ev_var rfl) ea_nil)) fun H5 e5 Q k E => ⟨ta, qa, d, ra.2, m, rfl, by rw [((e03.trans e4).trans e5) _ _ hta, rd], ((e03.trans e4).trans e5) _ _ hqa, d60, ne, lf, bf, m0, k⟩) (fun H5 e5 => high1 ((e03.trans e4).trans e5) rfl rfl) ((g.mono (e03.trans e4)).take) (DqAll.drop63 _ (g.mono (e03.trans e4))) ⟨lt _, ld _⟩ fun d o => up (c := 62000 + 60000 + 2) (k := 8) (by
        have : (rows.map dNL).take a ++ [d] ++ (rows.map dNL).drop (a + 1) = (rows.map dNL).set a d := by
          rw [List.set_eq_take_append_cons_drop, if_pos (by rw [List.length_map]; exact al), List.append_assoc]
          rfl
        rw [this]
        exact OkA.set o (B.ok.up (Nat.le_refl _) (by decide)) a) (by decide) (by decide)) (fin (e03.trans e4))
    have e04 := e03.trans e4
    refine q_when (b := decide (y = 7)) (by one_place) (fun hb H5 e5 => ?_) (fun _ H5 e5 => ?_)
    · exact s_retQ (Pd := Ok65 158000 20) (eq_catD (low (e04.trans e5) rfl rfl) (fun H6 e6 => high1 ((e04.trans e5).trans e6) rfl rfl) ((g.mono (e04.trans e5)).take) (DqAll.drop63 _ (g.mono (e04.trans e5))) ⟨lt _, ld _⟩ (up ((B.ok.take a).app (B.ok.drop (a + 1))) (by decide) (by decide))) (fin (e04.trans e5))
    have e05 := e04.trans e5
    refine q_when (b := decide (y = 8)) (by one_place) (fun hb H6 e6 => ?_) (fun _ H6 e6 => ?_)
    · exact s_retQ (Pd := Ok65 158000 20) (eq_midD (Pe := Ok65 15400 2) (low (e05.trans e6) rfl rfl) (eq_val (at0 (e05.trans e6) rfl rfl) (fun _ e => dqa.mono ((e05.trans e6).trans e)) oka) (fun H7 e7 => high0 ((e05.trans e6).trans e7) rfl rfl) ((g.mono (e05.trans e6)).take) (DqAll.drop63 _ (g.mono (e05.trans e6))) ⟨lt _, ld _⟩ fun d o => up ((B.ok.take b).app (OkA.cons o (OkA.nil 2)) |>.app (B.ok.drop b)) (by decide) (by decide)) (fin (e05.trans e6))
    have e06 := e05.trans e6
    -- two rows changed in a list of its own
    have two : ∀ {l : Addr} {H' H8 : Hp} {x y : V} {r1 r2 : PyData}, Ex H H' → H' l = none → (∀ a o, a ≠ l → H' a = some o → H8 a = some o) → H8 l = some (.lst (((ts.map V.ref).set a x).set b y)) → Dq H8 x r1 → Dq H8 y r2 → Ok65 15400 2 r1 → Ok65 15400 2 r2 → ∀ {σ : L2.St} {D : Ends}, σ[6]? = some (some (.ref l)) → D.rt = Q → tRet (tVar 6) D σ H8 := fun {l H' H8 x y r1 r2} e nl ex hl dx dy o1 o2 {σ D} h6 hD => by
      have eH : Ex H' H8 := fun a o h => ex a o (fun z => by rw [z, nl] at h; cases h) h
      refine s_ret (v := .ref l) (ev_var h6) fun H9 e9 => ?_
      rw [hD]
      refine q _ (.list (((rows.map dNL).set a r1).set b r2)) H9 (e.trans (eH.trans e9)) (.lst (e9 _ _ hl) ?_) (up (OkA.set o2 (OkA.set o1 B.ok a) b) (by decide) (by decide))
      exact DqAll.set (dy.mono e9) (DqAll.set (dx.mono e9) (g.mono (e.trans (eH.trans e9))))
    refine q_when (b := decide (y = 9)) (by one_place) (fun hb H7 e7 => ?_) (fun _ H7 e7 => ?_)
    · have e07 := e06.trans e7
      refine q_asgL (xs := ts.map V.ref) (el_list (ev_var rfl) (SqL.of (e07 _ _ hp))) fun l H8 nl e8 hl => ?_
      have ix : ∀ {σ : L2.St} {i c : Nat} {x : V}, σ[6]? = some (some (.ref l)) → σ[i]? = some (some (.int (c : Nat))) → (ts.map V.ref)[c]? = some x → Ev (tOp (rIxL K) (tVar 6) (tVar i)) σ H8 x := fun {σ i c x} h6 hi hx => ev_op (ev_var h6) (ev_var hi) (rv_ixL (v := x) (i := (c : Int)) (SqL.of hl) (atI_nat hx))
      refine q_set2P (A := fun x _ => x = .ref tb) (B := fun x _ => x = .ref ta) (j := a) (j2 := b) (fun _ _ _ _ h => h) (fun _ _ _ _ h => h) hl (fun _ _ => ev_var rfl) (fun _ _ => ev_var rfl) (by omega) (fun _ _ _ => ev_var rfl) (fun _ => ev_var rfl) (by omega) (evP_val (ix rfl rfl hxb)) (evP_val (ix rfl rfl hxa)) fun x y H9 e9 hx hy H10 hl10 ex => ?_
      subst hx
      subst hy
      have e78 : ∀ c o, c ≠ l → H7 c = some o → H10 c = some o := fun c o n h => ex c o n ((e8.trans e9) _ _ h)
      have eH : Ex H7 H10 := fun c o h => e78 c o (fun z => by rw [z, nl] at h; cases h) h
      exact two e07 nl e78 hl10 (dqb.mono (e07.trans eH)) (dqa.mono (e07.trans eH)) okb oka rfl rfl
    have e07 := e06.trans e7
    refine q_when (b := decide (y = 10)) (by one_place) (fun hb H8 e8 => ?_) (fun _ H8 e8 => ?_)
    · have e08 := e07.trans e8
      have hp8 := e08 _ _ hp
      have g8 := g.mono e08
      have okl : Ok65 62003 3 (.list (rows.map dNL)) := B.ok.list
      refine s_retQ (Pd := Ok65 158000 20) (eq_pick (n := 12) (i := m % 12) (eqs_cons (eq_tupOf (ev_var rfl) hp8 g8 (B.ok.tuple.up (by decide) (by decide)))
        (eqs_cons (eq_val ev_c (fun _ _ => .non) ⟨rfl, sz_non.mono (by decide) (by decide)⟩)
        (eqs_cons (eq_ints (ns := []) (el_lst (vs := []) ea_nil (by decide)) ((OkA.nil 0).list.up (by decide) (by decide)))
        (eqs_cons (eq_val ev_c (fun _ _ => .str _) (ok_strE.up (by decide) (by decide)))
        (eqs_cons (eq_val ev_c (fun _ _ => .int _) ((ok_int (by decide +kernel)).up (by decide) (by decide)))
        (eqs_cons (eq_lst (Pe := Ok65 3 1) (n := 1) (eqs_cons (eq_ints (ns := []) (el_lst (vs := []) ea_nil (by decide)) (OkA.nil 0).list) eqs_nil) (by decide) fun ds hl hd => (okA_len hd).list.up (by rw [hl]; decide) (by decide))
        (eqs_cons (eq_lst (Pe := Ok65 3 1) (n := 1) (eqs_cons (eq_tup (Pe := Ok65 0 0) (n := 0) eqs_nil (by decide) fun ds hl hd => (okA_len hd).tuple.up (by rw [hl]; decide) (by decide)) eqs_nil) (by decide) fun ds hl hd => (okA_len hd).list.up (by rw [hl]; decide) (by decide))
        (eqs_cons (eq_val ev_c (fun _ _ => .bl true) ⟨rfl, (sz_bl true).mono (by decide) (by decide)⟩)
        (eqs_cons (eq_tup (Pe := Ok65 0 0) (n := 0) eqs_nil (by decide) fun ds hl hd => (okA_len hd).tuple.up (by rw [hl]; decide) (by decide))
        (eqs_cons (eq_lst (Pe := Ok65 62003 3) (n := 1) (eqs_cons (eq_val (ev_var rfl) (fun _ e => .lst (e _ _ hp8) (g8.mono e)) okl) eqs_nil) (by decide) fun ds hl hd => (okA_len hd).list.up (by rw [hl]; decide) (by decide))
        (eqs_cons (eq_new (xs := (ts.map V.ref).reverse) (ds := (rows.map dNL).reverse) (el_is (el_slS (xs := ts.map V.ref) (k := -1) (ev_var rfl) (ev_neg ev_c) (SqL.of hp8) (by decide)) (by rw [pick_rev63])) (DqAll.rev63 g8) (up B.ok.rev (by decide) (by decide)))
        (eqs_cons (eq_lst (Pe := Ok65 4 0) (n := 1) (eqs_cons (eq_val ev_c (fun _ _ => .non) ⟨rfl, sz_non⟩) eqs_nil) (by decide) fun ds hl hd => (okA_len hd).list.up (by rw [hl]; decide) (by decide)) eqs_nil)))))))))))) (by decide) (by one_place) (by omega) (by omega)) (fin e08)
    have e08 := e07.trans e8
    refine q_asgL (xs := ts.map V.ref) (el_list (ev_var rfl) (SqL.of (e08 _ _ hp))) fun l H9 nl e9 hl => ?_
    have e09 := e08.trans e9
    have ix : ∀ {σ : L2.St} {H' : Hp} {i c : Nat} {x : V}, Ex H9 H' → σ[6]? = some (some (.ref l)) → σ[i]? = some (some (.int (c : Nat))) → (ts.map V.ref)[c]? = some x → Ev (tOp (rIxL K) (tVar 6) (tVar i)) σ H' x := fun {σ H' i c x} e h6 hi hx => ev_op (ev_var h6) (ev_var hi) (rv_ixL (v := x) (i := (c : Int)) (SqL.of (e _ _ hl)) (atI_nat hx))
    have pt : ∀ {σ : L2.St} {H' : Hp} {i c j : Nat} {t : Addr} {v : V} {vs : List V}, Ex H9 H' → σ[6]? = some (some (.ref l)) → σ[i]? = some (some (.int (c : Nat))) → (ts.map V.ref)[c]? = some (.ref t) → H t = some (.tup vs) → vs[j]? = some v → Ev (tOp (rIxT K) (tOp (rIxL K) (tVar 6) (tVar i)) (tC (.int (j : Int)))) σ H' v := fun {σ H' i c j t v vs} e h6 hi hx ht hv => ev_ixT (j := j) (SqT.of ((e09.trans e) _ _ ht)) (ix e h6 hi hx) ev_c hv
    refine q_set2P (A := fun x H1 => ∃ t, x = .ref t ∧ t ≠ l ∧ H1 t = some (.tup [.int ra.1, .ref qb])) (B := fun x H1 => ∃ t, x = .ref t ∧ t ≠ l ∧ H1 t = some (.tup [.int rb.1, .ref qa])) (j := a) (j2 := b) (fun _ _ _ e ⟨t, h1, h2, h3⟩ => ⟨t, h1, h2, e _ _ h3⟩) (fun _ _ _ e ⟨t, h1, h2, h3⟩ => ⟨t, h1, h2, e _ _ h3⟩) hl (fun _ _ => ev_var rfl) (fun _ _ => ev_var rfl) (by omega) (fun _ _ _ => ev_var rfl) (fun _ => ev_var rfl) (by omega) (evP_tup hl (pt (j := 0) (Ex.refl _) rfl rfl hxa hta rfl) (pt (j := 1) (Ex.refl _) rfl rfl hxb htb rfl)) (evP_tup hl (pt (j := 0) (Ex.refl _) rfl rfl hxb htb rfl) (pt (j := 1) (Ex.refl _) rfl rfl hxa hta rfl)) fun x y H10 e10 hx hy H11 hl11 ex => ?_
    obtain ⟨t1, rfl, n1, h1⟩ := hx
    obtain ⟨t2, rfl, n2, h2⟩ := hy
    have e811 : ∀ c o, c ≠ l → H8 c = some o → H11 c = some o := fun c o n h => ex c o n ((e9.trans e10) _ _ h)
    have eH : Ex H8 H11 := fun c o h => e811 c o (fun z => by rw [z, nl] at h; cases h) h
    have hqa11 := (e08.trans eH) _ _ hqa
    have hqb11 := (e08.trans eH) _ _ hqb
    obtain ⟨da, rda, da60, nea, la, ba⟩ := fa
    obtain ⟨db, rdb, db60, neb, lb, bb⟩ := fb
    exact two e08 nl e811 hl11 (dq_NL_of (r := (ra.1, rb.2)) (ex _ _ n1 h1) hqb11) (dq_NL_of (r := (rb.1, ra.2)) (ex _ _ n2 h2) hqa11) (ok_row63 ⟨da, rda, da60, neb, lb, bb⟩) (ok_row63 ⟨db, rdb, db60, nea, la, ba⟩) rfl rfl
end

/-! ### the law of k63 -/
section
variable {K : PySem.W.Frag} {σ : L2.St} {H : Hp} {te ta tb : TE} {tr : TA} {D : Ends} {tu tz : TS} {E : XK} {z : V} {Pd : PyData → Prop}
theorem ev_strD63 {x : V} {d : PyData} (h : Ev te σ H x) (g : Dq H x d) (s : Sz 16000000 50 d) : Ev (tCB rStrD (tCons te tNil)) σ H (.str (strD d)) := fun H1 e Q q =>
  h H1 e _ fun H2 e2 => ⟨x, d, rfl, g.mono (e.trans e2), s.ok, s.len, Nat.le_trans s.dep (by decide), q H2 e2⟩
theorem q_asgD63 {i : Nat} (h : EvQd Pd te σ H) (k : ∀ x d H1, Ex H H1 → Dq H1 x d → Pd d → tz D (σ.set i (some x)) H1) : tSeq (tAsg te (gName i)) tz D σ H := h H (Ex.refl H) _ k
theorem s_asgD63 {i : Nat} (h : EvQd Pd te σ H) (k : ∀ x d H1, Ex H H1 → Dq H1 x d → Pd d → D.nx (σ.set i (some x)) H1) : tAsg te (gName i) D σ H := h H (Ex.refl H) _ k
theorem eq_rows63 {rows : List (Int × List Int)} (h : EvR te σ H rows) (p : Pd (dRw rows)) : EvQd Pd te σ H := fun H1 e Q q =>
  h H1 e _ fun l ts H2 nl e2 hl R => q (.ref l) _ H2 e2 (.lst hl (dq_rows R)) p
theorem eq_callR63 {sp : Sp} {rows : List (Int × List Int)} {vs : List V} (h : EvR te σ H rows) (h2 : EvA tr σ H vs) (hs : ∀ p (ts : List Addr) H1, Ex H H1 → H1 p = some (.lst (ts.map V.ref)) → DqAll H1 (ts.map V.ref) (rows.map dNL) → ∀ Q : VK, (∀ x d H2, Ex H1 H2 → Dq H2 x d → Pd d → Q x H2) → ∀ E : XK, sp (.ref p :: vs) H1 Q E) : EvQd Pd (tCall sp [] E (tCons te tr)) σ H := fun H1 e Q q =>
  h H1 e _ fun l ts H2 nl e2 hl R => h2 H2 (e.trans e2) _ fun H3 e3 => by
    show sp (.ref l :: (vs ++ [])) H3 Q E
    rw [List.append_nil]
    exact hs l ts H3 ((e.trans e2).trans e3) (e3 _ _ hl) ((dq_rows R).mono e3) Q (fun x d H4 e4 g p => q x d H4 ((e2.trans e3).trans e4) g p) E
theorem ev_calVQ63 {sp : Sp} {v : V} (h0 : Ev ta σ H v) (h : EvQd Pd te σ H) (hs : ∀ x d H1, Ex H H1 → Dq H1 x d → Pd d → ∀ Q : VK, RetV z H1 Q → ∀ E : XK, sp [v, x] H1 Q E) : Ev (tCall sp [] E (tCons ta (tCons te tNil))) σ H z := fun H1 e Q q =>
  h0 H1 e _ fun H2 e2 => h H2 (e.trans e2) _ fun x d H3 e3 g p => by
    show sp ([v, x] ++ []) H3 Q E
    rw [List.append_nil]
    exact hs x d H3 ((e.trans e2).trans e3) g p Q (fun H4 e4 => q H4 ((e2.trans e3).trans e4)) E
/-- [(i, [numbers])] -/
theorem eq_one63 {i : Int} {ns : List Int} (h1 : Ev ta σ H (.int i)) (h2 : EvL tb σ H (ns.map V.int)) : EvQd (fun d => d = dRw [(i, ns)]) (tLst (tCons (tTup (tCons ta (tCons tb tNil))) tNil)) σ H := fun H1 e Q q =>
  h1 H1 e _ fun H2 e2 => h2 H2 (e.trans e2) _ fun u H3 nu e3 hu => ⟨sz_of (show 2 ≤ 100000 by decide), fun t nt => by
    have e4 : Ex H3 (upd H3 t (.tup [.int i, .ref u])) := Ex.new nt
    refine ⟨sz_of (show 1 ≤ 100000 by decide), fun p np => ?_⟩
    have e5 : Ex (upd H3 t (.tup [.int i, .ref u])) (upd (upd H3 t (.tup [.int i, .ref u])) p (.lst [.ref t])) := Ex.new np
    exact q (.ref p) _ _ (e2.trans (e3.trans (e4.trans e5))) (.lst upd_same (.cons (dq_NL_of (r := (i, ns)) (e5 _ _ upd_same) (e5 _ _ (e4 _ _ hu))) .nil)) rfl⟩
end
def chk63 (n : Nat) : Bool := decide ((dvL n).length ≤ 12) && (decide (((cosRows n).map fun r => 1933 + 1923 * r.2.length).sum ≤ 62000) && ((cosRows n).all fun r => decide (r.2 ≠ []) && (decide (r.2.length ≤ 7) && r.2.all fun x => decide (x.natAbs < 2 ^ 64))))
theorem chk63_all : ((List.range 31).all fun n => !(decide (1 ≤ n ∧ n ≤ 16) || decide ((n : Int) ∈ ([18, 20, 24, 30] : List Int))) || chk63 n) = true := by decide +kernel
theorem chk63_at {n : Nat} (h1 : 1 ≤ n) (h : n ≤ 16 ∨ ((n : Int)) ∈ ([18, 20, 24, 30] : List Int)) (h2 : n ≤ 30) : chk63 n = true := by
  have t := List.all_eq_true.mp chk63_all n (List.mem_range.mpr (by omega))
  rw [Bool.or_eq_true, Bool.not_eq_true', Bool.or_eq_false_iff, decide_eq_false_iff_not, decide_eq_false_iff_not] at t
  rcases t with t | t
  · rcases h with h | h
    · exact absurd ⟨h1, h⟩ t.1
    · exact absurd h t.2
  · exact t
theorem okA_rows63 : ∀ {rows : List (Int × List Int)}, (∀ r ∈ rows, ∃ d : Nat, r.1 = (d : Int) ∧ d ≤ 60 ∧ r.2 ≠ [] ∧ r.2.length ≤ 7 ∧ Bd 100 r.2) → OkA ((rows.map fun r => 1933 + 1923 * r.2.length).sum) 2 (rows.map dNL)
  | [], _ => OkA.nil 2
  | r :: rows, h => by
    obtain ⟨d, rd, d60, _, l, b⟩ := h r List.mem_cons_self
    have sd : r.1.natAbs < 2 ^ 1900 := by
      rw [rd]
      exact Nat.lt_of_lt_of_le (show ((d : Int)).natAbs < 2 ^ 6 by omega) (Nat.pow_le_pow_right (by decide) (by decide))
    have o : Ok65 (1931 + 1923 * r.2.length) 2 (dNL r) := (OkA.cons ((ok_int sd).up (Nat.le_refl _) (show 0 ≤ 1 by decide)) (OkA.cons (ok_dI63 (b.mono (by decide))) (OkA.nil 1))).tuple.up (by omega) (by decide)
    rw [List.map_cons, List.map_cons, List.sum_cons]
    exact (OkA.cons o (okA_rows63 fun x hx => h x (List.mem_cons_of_mem _ hx))).up (by omega) (Nat.le_refl _)
theorem rwB63 {n : Nat} (h1 : 1 ≤ n) (h2 : n ≤ 30) (c : chk63 n = true) : RwB63 (cosRows n) ∧ (dvL n).length ≤ 12 := by
  unfold chk63 at c
  rw [Bool.and_eq_true, Bool.and_eq_true, decide_eq_true_iff, decide_eq_true_iff] at c
  have row : ∀ r ∈ cosRows n, ∃ d : Nat, r.1 = (d : Int) ∧ d ≤ 60 ∧ r.2 ≠ [] ∧ r.2.length ≤ 7 ∧ Bd 100 r.2 := fun r hr => by
    have t := List.all_eq_true.mp c.2.2 r hr
    rw [Bool.and_eq_true, Bool.and_eq_true, decide_eq_true_iff, decide_eq_true_iff] at t
    obtain ⟨i, hi⟩ := List.mem_iff_getElem?.mp hr
    obtain ⟨d, _, rfl, _, _, d60⟩ := cosRows_get h1 (by omega) hi
    exact ⟨d, rfl, d60, t.1, t.2.1, (Bd.of (b := 64) fun x hx => of_decide_eq_true (List.all_eq_true.mp t.2.2 x hx)).mono (by decide)⟩
  refine ⟨⟨fun e => ?_, by rw [cosRows_len]; exact c.1, row, (okA_rows63 row).up c.2.1 (Nat.le_refl _)⟩, c.1⟩
  have := cosRows_len n
  rw [e] at this
  have pos : 0 < (dvL n).length := List.length_pos_of_mem ((dvL_mem h1).mpr (Nat.one_dvd n))
  rw [← this] at pos
  exact absurd pos (by decide)
theorem one63 : cosRows 1 = [(1, [-2, 1])] := by decide +kernel
theorem two63 : cosRows 2 ≠ [(1, [-2, 1])] := by decide +kernel
/- law: slots 0 _law_script, 1 _law_cell, 2 _law_n_here, 3 _law_thing, 4 _law_way, 5 _law_kept, 6 _law_got; calls _law_n, _law_mix, cosine_polys, are_cosines, _law_are, _law_bent -/
abbrev s_law : Stmt := topS 41
theorem sc_law : FnScope ["_law_script", "_law_cell", "_law_n_here", "_law_thing", "_law_way", "_law_kept", "_law_got"] ["_law_script"] (defScope s_law) := ⟨rfl, rfl, rfl, by decide +kernel, rfl, by decide +kernel, by decide +kernel⟩

def spLaw (K : PySem.W.Frag) : Sp := fun vs H Q _ => ∃ (a : Addr) (ns : List Int), vs = [.ref a] ∧ SqL K H a (ns.map V.int) ∧ ns.length ≤ 63 ∧ ∀ H', Q (.bl true) H'
section
variable {P : Program} {w : World} {K : PySem.W.Frag} {mg : Str → Option Value} {base : Heap} {C C2 : Addr}
theorem law_ok {f : Addr} {fd : FuncData} (F : Fun K "law" "law" s_law f fd) (nb : Nb mg) (nb_isqrt : mg "isqrt" = some (.builtin "math.isqrt")) (z_ValueError : mg "ValueError" = none) (hv : PySem.W.kitOne K (.ref C) (.type "ValueError") = some true) (x_NoPart : OwnX K mg "NoPart" C) {Wc : Addr} (x_WheelError : GlX mg "WheelError" Wc) (hex : PySem.W.exmOne K (.ref C) (.ref Wc) = some true) (x_NoFold : OwnX K mg "NoFold" C2)
    (d_is_whole : Dfn K mg "is_whole" ["thing"] s_is_whole) (d_alike : Dfn K mg "alike" ["thing", "told"] s_alike) (d_parts_alike : Dfn K mg "parts_alike" ["thing", "told"] s_parts_alike) (d_divisors : Dfn K mg "divisors" ["n"] s_divisors) (d_parted : Dfn K mg "parted" ["n"] s_parted) (d_trimmed : Dfn K mg "trimmed" ["numbers"] s_trimmed) (d_plus : Dfn K mg "plus" ["f", "g"] s_plus) (d_minus : Dfn K mg "minus" ["f", "g"] s_minus) (d_over : Dfn K mg "over" ["f", "g"] s_over) (d_at_power : Dfn K mg "at_power" ["f", "k"] s_at_power) (d_root_poly : Dfn K mg "root_poly" ["n"] s_root_poly) (d_next_doubled : Dfn K mg "next_doubled" ["here", "last"] s_next_doubled) (d_folded : Dfn K mg "folded" ["f"] s_folded) (d_cosine_polys : Dfn K mg "cosine_polys" ["n"] s_cosine_polys) (d_cosine_poly : Dfn K mg "cosine_poly" ["n"] s_cosine_poly) (d_are_cosines : Dfn K mg "are_cosines" ["n", "thing"] s_are_cosines) (d__law_mix : Dfn K mg "_law_mix" ["_law_cell", "_law_k"] s__law_mix) (d__law_trim : Dfn K mg "_law_trim" ["_law_row"] s__law_trim) (d__law_sum_of : Dfn K mg "_law_sum_of" ["_law_one", "_law_other"] s__law_sum_of) (d__law_product : Dfn K mg "_law_product" ["_law_one", "_law_other"] s__law_product) (d__law_whole : Dfn K mg "_law_whole" ["_law_thing"] s__law_whole) (d__law_is_poly : Dfn K mg "_law_is_poly" ["_law_thing"] s__law_is_poly) (d__law_doubled_row : Dfn K mg "_law_doubled_row" ["_law_k"] s__law_doubled_row) (d__law_divisors : Dfn K mg "_law_divisors" ["_law_n_here"] s__law_divisors) (d__law_are : Dfn K mg "_law_are" ["_law_n_here", "_law_thing"] s__law_are) (d__law_n : Dfn K mg "_law_n" ["_law_number", "_law_most", "_law_some"] s__law_n) (d__law_number_bent : Dfn K mg "_law_number_bent" ["_law_f", "_law_number"] s__law_number_bent) (d__law_row_bent : Dfn K mg "_law_row_bent" ["_law_row", "_law_number"] s__law_row_bent) (d__law_bent : Dfn K mg "_law_bent" ["_law_thing", "_law_number", "_law_more"] s__law_bent) :
    FnG P w K mg base 11 f fd ["_law_script"] (spLaw K) := by
  have c_trimmed : Cal P w K mg base CX0 "trimmed" 1 ["numbers"] (spTrim K) := cal_trimmed nb d_trimmed
  have c_over : Cal P w K mg base CX0 "over" 2 ["f", "g"] (spOverX K) := (cal_over nb x_NoPart c_trimmed d_over).calm.imp fun vs H Q E h => overX_of h
  have c_root_poly : Cal P w K mg base CX0 "root_poly" 3 ["n"] spRoot := cal_root nb (cal_parted nb d_parted) c_over (cal_atP nb d_at_power) d_root_poly
  have c_plus : Cal P w K mg base CX0 "plus" 2 ["f", "g"] (spPlus K) := cal_plus nb c_trimmed d_plus
  have c_nx : Cal P w K mg base CX0 "next_doubled" 4 ["here", "last"] spNx := cal_nx62 nb (cal_minus nb c_plus d_minus) d_next_doubled
  have c_folded : Cal P w K mg base CX0 "folded" 5 ["f"] (fun vs H Q _ => spFd C2 vs H Q (fun _ _ _ => False)) := (cal_fd62 nb x_NoFold c_plus c_nx d_folded).calm
  have c_cosine_poly : Cal P w K mg base CX0 "cosine_poly" 6 ["n"] spCp := cal_cp62 nb c_folded c_root_poly d_cosine_poly
  have c_cosine_polys : Cal P w K mg base CX0 "cosine_polys" 7 ["n"] spCps := cal_cps62 nb (cal_divisors nb nb_isqrt d_divisors) c_cosine_poly d_cosine_polys
  have c_are_cosines : Cal P w K mg base CX0 "are_cosines" 9 ["n", "thing"] spAreC := cal_arec nb (cal_alk3 nb d_is_whole d_alike d_parts_alike) c_cosine_polys d_are_cosines
  have c__law_mix : Cal P w K mg base CX0 "_law_mix" 1 ["_law_cell", "_law_k"] spMix := cal_mix nb d__law_mix
  have c__law_trim : Cal P w K mg base CX0 "_law_trim" 1 ["_law_row"] (spTrim K) := cal_lt62 nb d__law_trim
  have c__law_sum_of : Cal P w K mg base CX0 "_law_sum_of" 2 ["_law_one", "_law_other"] (spSo62 K) := cal_so62 nb c__law_trim d__law_sum_of
  have c__law_product : Cal P w K mg base CX0 "_law_product" 2 ["_law_one", "_law_other"] (spPd62 K) := cal_pd62 nb c__law_trim d__law_product
  have c__law_doubled_row : Cal P w K mg base CX0 "_law_doubled_row" 3 ["_law_k"] spDr62 := cal_dr62 nb c__law_sum_of d__law_doubled_row
  have c__law_divisors : Cal P w K mg base CX0 "_law_divisors" 1 ["_law_n_here"] spDv62 := cal_dv62 nb d__law_divisors
  have c__law_are : Cal P w K mg base CX0 "_law_are" 4 ["_law_n_here", "_law_thing"] spAre63 := cal_ar63 nb (cal_wh63 nb d__law_whole) (cal_ip63 nb d__law_is_poly) c__law_divisors c__law_product c__law_sum_of c__law_doubled_row d__law_are
  have c__law_n : Cal P w K mg base CX0 "_law_n" 1 ["_law_number", "_law_most", "_law_some"] (spNn K 16 [18, 20, 24, 30]) := cal_nn 16 [18, 20, 24, 30] (by decide) (fun z => nomatch z) (by decide) nb d__law_n
  have c__law_bent : Cal P w K mg base CX0 "_law_bent" 4 ["_law_thing", "_law_number", "_law_more"] spBt63 := cal_bt63 nb (cal_rb63 nb (cal_nb63 nb d__law_number_bent) c__law_product d__law_row_bent) d__law_bent
  refine Fun.okG F sc_law (fun vs H Q E h => ?_) (fun cdv A outer s H vs Q E hr hg h => ?_)
  · obtain ⟨a, ns, rfl, _⟩ := h
    rfl
  · obtain ⟨a, ns, rfl, hS, hlen, q⟩ := h
    refine ⟨_, (pss_cons (ps_for PassesOwn.never rfl (pi_list (pe_op op_cat (pe_lst (pa_cons pe_int (pa_cons pe_int pa_nil))) (pe_slice sl_list (pv 0) po_none (po_some pe_int)))) (pg_name (i := 1) sc_law.nd rfl (.inl rfl)) (pss_cons (ps_set (i := 2) sc_law.nd rfl (.inl rfl) (pe_cal c__law_n (hr.mono (by first | decide | omega)) (by rfl) pass0 (pa_cons (pe_cal c__law_mix (hr.mono (by first | decide | omega)) (by rfl) pass0 (pa_cons (pv 1) (pa_cons pe_int pa_nil))) (pa_cons pe_int (pa_cons (pe_lst (pa_cons pe_int (pa_cons pe_int (pa_cons pe_int (pa_cons pe_int pa_nil))))) pa_nil)))))
      (pss_cons (ps_set (i := 3) sc_law.nd rfl (.inl rfl) (pe_cal c_cosine_polys (hr.mono (by first | decide | omega)) (by rfl) pass0 (pa_cons (pv 2) pa_nil)))
      (pss_one (ps_for PassesOwn.never rfl (pi_range1 (by rfl) nb.range (pa_cons pe_int pa_nil)) (pg_name (i := 4) sc_law.nd rfl (.inl rfl)) (pss_cons (ps_set (i := 5) sc_law.nd rfl (.inl rfl) (pe_callTy (cr_strD hg (room110 hr)) (by rfl) nb.str (by decide +kernel) (pa_cons (pv 3) pa_nil)))
      (pss_cons (ps_set (i := 6) sc_law.nd rfl (.inl rfl) (pe_cal c_are_cosines (hr.mono (by first | decide | omega)) (by rfl) pass0 (pa_cons (pv 2) (pa_cons (pv 3) pa_nil))))
      (pss_cons (ps_if (PW.pt (pw_or (pt_not (pt_val (pe_callB call_isi (by rfl) nb.isinstance (by decide +kernel) (pa_cons (pv 6) (pa_cons (pe_bltn (v := .ty "bool") (by rfl) nb.bool (by decide +kernel) rfl) pa_nil))))) (pw_or (pt_cmpR op_ne (pv 6) (pe_cal c__law_are (hr.mono (by first | decide | omega)) (by rfl) pass0 (pa_cons (pv 2) (pa_cons (pv 3) pa_nil))) (nomark _)) (pw_or1 (pt_cmpR op_ne (pe_callTy (cr_strD hg (room110 hr)) (by rfl) nb.str (by decide +kernel) (pa_cons (pv 3) pa_nil)) (pv 5) (nomark _)))))) (pss_one (ps_ret pe_bl)) pss_nil)
      (pss_one (ps_set (i := 3) sc_law.nd rfl (.inl rfl) (pe_cal c__law_bent (hr.mono (by first | decide | omega)) (by rfl) pass0 (pa_cons (pe_cal c_cosine_polys (hr.mono (by first | decide | omega)) (by rfl) pass0 (pa_cons (pv 2) pa_nil)) (pa_cons (pe_cal c__law_mix (hr.mono (by first | decide | omega)) (by rfl) pass0 (pa_cons (pv 1) (pa_cons (pe_op op_add pe_int (pe_op op_mulW pe_int (pv 4))) pa_nil))) (pa_cons (pe_cal c__law_mix (hr.mono (by first | decide | omega)) (by rfl) pass0 (pa_cons (pv 1) (pa_cons (pe_op op_add pe_int (pe_op op_mulW pe_int (pv 4))) pa_nil))) pa_nil))))))))))))))
      (pss_one (ps_ret (pe_and (pe_cal c_are_cosines (hr.mono (by first | decide | omega)) (by rfl) pass0 (pa_cons pe_int (pa_cons (pe_lst (pa_cons (pe_tup (pa_cons pe_int (pa_cons (pe_lst (pa_cons (pe_un un_neg pe_int) (pa_cons pe_int pa_nil))) pa_nil))) pa_nil)) pa_nil))) (pe_one (pe_not (pe_cal c_are_cosines (hr.mono (by first | decide | omega)) (by rfl) pass0 (pa_cons pe_int (pa_cons (pe_lst (pa_cons (pe_tup (pa_cons pe_int (pa_cons (pe_lst (pa_cons (pe_un un_neg pe_int) (pa_cons pe_int pa_nil))) pa_nil))) pa_nil)) pa_nil))))))))), ?_⟩
    refine q_forNLn (xs := (([0, 9] : List Int) ++ ns.take 14).map V.int) (el_is (el_cat (xs := ([0, 9] : List Int).map V.int) (ys := (ns.take 14).map V.int) (el_lst (vs := [.int 0, .int 9]) (by one_place) (by decide)) (el_is (el_sl (hi := some ((14 : Nat) : Int)) (ev_var rfl) eo_none (eo_some ev_c) hS) (by rw [cut_take, List.map_take])) (by rw [List.length_map, List.length_map, List.length_take]; show 2 + _ ≤ _; omega)) (by rw [List.map_append]))
      (fun p i σ' H' => H' p = some (.lst ((([0, 9] : List Int) ++ ns.take 14).map V.int)) ∧ ∃ (x1 x2 x3 x4 x5 x6 : Option V), σ' = [some (.ref a), x1, x2, x3, x4, x5, x6] ∧ Ex H H')
      (fun p H2 np e2 hp => ⟨hp, none, none, none, none, none, none, rfl, e2⟩) (fun p i σ' H' _ hq => SqL.of hq.1) (fun p i x σ' H2 hx hq => ?_) (fun p σ' H2 hq => ?_)
    · obtain ⟨hp, x1, x2, x3, x4, x5, x6, rfl, e2⟩ := hq
      obtain ⟨c, hc, rfl⟩ := map_get hx
      refine q_asgNn (most := 16) (L := [18, 20, 24, 30]) (c := mix c 0) (ev_cal (vs := [.int c, .int 0]) (by one_place) fun H3 e3 Q k E => ⟨c, 0, rfl, by decide, by decide, k⟩) (el_lst (by one_place) (by show 4 ≤ 100000; decide)) fun n n1 nL H3 e3 => ?_
      have n2 : n ≤ 30 := by
        rcases nL with h | h
        · omega
        · simp only [List.mem_cons, List.not_mem_nil, or_false] at h
          omega
      obtain ⟨B, dl⟩ := rwB63 n1 n2 (chk63_at n1 nL n2)
      have okR : Ok65 158000 20 (dRw (cosRows n)) := B.ok.list.up (by decide) (by decide)
      refine q_asgD63 (Pd := Ok65 158000 20) (eq_rows63 (rows := cosRows n) (evR_cal (vs := [.int (n : Nat)]) (by one_place) fun H4 e4 Q k E => ⟨n, rfl, n1, by omega, k⟩) okR) fun x d H4 e4 gd okd => ?_
      have e34 := e3.trans e4
      refine s_forR1 (n := 3) (by one_place) (by decide) (fun i σ' H' => ∃ (x : V) (d : PyData) (y4 y5 y6 : Option V), σ' = [some (.ref a), some (.int c), some (.int (n : Nat)), some x, y4, y5, y6] ∧ Ex H4 H' ∧ Dq H' x d ∧ Ok65 158000 20 d) (fun H5 e5 => ⟨x, d, _, _, _, rfl, e5, gd.mono e5, okd⟩) (fun i σ' H5 hi hq => ?_) (fun σ' H5 hq => ?_)
      · obtain ⟨x, d, y4, y5, y6, rfl, e5, gd, okd⟩ := hq
        have sz : Sz 16000000 50 d := okd.2.mono (by decide) (by decide)
        refine q_asg (v := .str (strD d)) (ev_strD63 (ev_var rfl) gd sz) fun H6 e6 => ?_
        refine q_asg (v := .bl (alkF d (dRw (cosRows n)))) (ev_cal (vs := [.int (n : Nat), x]) (by one_place) fun H7 e7 Q k E => ⟨x, d, n, rfl, gd.mono (e6.trans e7), n1, by omega, k⟩) fun H7 e7 => ?_
        have e67 := e6.trans e7
        refine q_when (b := false) (et_is (et_or (et_not (et_B (ev_isi (b := true) (ev_var rfl) (fun _ _ => .base (.bl _)) (by decide +kernel)))) fun _ => et_or (et_test (ev_op (x := .bl (alkF d (dRw (cosRows n)))) (y := .bl (alkF d (dRw (cosRows n)))) (ev_var rfl) (ev_cal (vs := [.int (n : Nat), x]) (by one_place) fun H8 e8 Q k E => ⟨n, x, d, rfl, n1, by omega, dl, gd.mono (e67.trans e8), okd.up (Nat.le_refl _) (by decide), k⟩) (rv_ne rfl))) fun _ => et_test (ev_op (ev_strD63 (d := d) (ev_var rfl) (gd.mono e67) sz) (ev_var rfl) (rv_ne rfl))) (by rw [decide_eq_true rfl, decide_eq_true rfl]; rfl)) (fun hb => nomatch hb) (fun _ H8 e8 => ?_)
        refine s_asgD63 (Pd := Ok65 158000 20) (eq_callR63 (rows := cosRows n) (vs := [.int (mix c (1 + 2 * (i : Int))), .int (mix c (2 + 2 * (i : Int)))]) (evR_cal (vs := [.int (n : Nat)]) (by one_place) fun H9 e9 Q k E => ⟨n, rfl, n1, by omega, k⟩) (ea_cons (ev_cal (vs := [.int c, .int (1 + 2 * (i : Int))]) (by one_place) fun H9 e9 Q k E => ⟨c, _, rfl, by omega, by omega, k⟩) (ea_cons (ev_cal (vs := [.int c, .int (2 + 2 * (i : Int))]) (by one_place) fun H9 e9 Q k E => ⟨c, _, rfl, by omega, by omega, k⟩) ea_nil)) fun l ts H9 e9 hl g Q k E => ⟨l, ts, cosRows n, _, _, rfl, hl, g, B, mix_nn _ _, mix_nn _ _, k⟩) fun x2 d2 H9 e9 gd2 okd2 => ⟨x2, d2, _, _, _, rfl, (e5.trans e67).trans (e8.trans e9), gd2, okd2⟩
      · obtain ⟨x, d, y4, y5, y6, rfl, e5, gd, okd⟩ := hq
        exact ⟨(e34.trans e5) _ _ hp, _, _, _, _, _, _, rfl, (e2.trans e34).trans e5⟩
    · obtain ⟨hp, x1, x2, x3, x4, x5, x6, rfl, e2⟩ := hq
      have t1 : alkF (dRw [(1, [-2, 1])]) (dRw (cosRows 1)) = true := by
        rw [one63]
        exact alk_rw_self _
      have t2 : alkF (dRw [(1, [-2, 1])]) (dRw (cosRows 2)) = false := Bool.eq_false_iff.mpr fun e => two63 (map_inj dNL_inj _ _ (PyData.list.inj (alk_rows63 e))).symm
      refine s_ret (v := .bl true) (ev_is (ev_andV (a := true) (b := true) (ev_calVQ63 (v := .int ((1 : Nat) : Int)) (Pd := fun d => d = dRw [(1, [-2, 1])]) ev_c (eq_one63 (i := 1) (ns := [-2, 1]) ev_c (el_lst (vs := [.int (-2), .int 1]) (ea_cons (ev_neg ev_c) (ea_cons ev_c ea_nil)) (by show 2 ≤ 100000; decide))) fun x d H3 e3 g p Q k E => ⟨x, d, 1, rfl, g, by decide, by decide, by rw [p, t1]; exact k⟩) fun _ => ev_notV (a := false) (ev_calVQ63 (v := .int ((2 : Nat) : Int)) (Pd := fun d => d = dRw [(1, [-2, 1])]) ev_c (eq_one63 (i := 1) (ns := [-2, 1]) ev_c (el_lst (vs := [.int (-2), .int 1]) (ea_cons (ev_neg ev_c) (ea_cons ev_c ea_nil)) (by show 2 ≤ 100000; decide))) fun x d H3 e3 g p Q k E => ⟨x, d, 2, rfl, g, by decide, by decide, by rw [p, t2]; exact k⟩)) rfl) fun H4 e4 => q H4
end
theorem all_mk {l : PySem.W.OpenLaw} {w : World} {K : PySem.W.Frag} {h : Heap} {mg : Str → Option Value} {fa : Addr} (X : K.In h) (G : h.Ns mainGlobals mg) (hfa : mg "law" = some (.ref fa))
    {C_NoPart C_WheelError C_NoFold : Addr}
    {f0 f1 f2 f3 f4 f5 f6 f7 f8 f9 f10 f11 f12 f13 f14 f15 f16 f17 f18 f19 f20 f21 f22 f23 f24 f25 f26 f27 f28 f29 : Addr} {od0 an0 od1 an1 od2 an2 od3 an3 od4 an4 od5 an5 od6 an6 od7 an7 od8 an8 od9 an9 od10 an10 od11 an11 od12 an12 od13 an13 od14 an14 od15 an15 od16 an16 od17 an17 od18 an18 od19 an19 od20 an20 od21 an21 od22 an22 od23 an23 od24 an24 od25 an25 od26 an26 od27 an27 od28 an28 od29 an29 : Option Addr} {sl0 sl1 sl2 sl3 sl4 sl5 sl6 sl7 sl8 sl9 sl10 sl11 sl12 sl13 sl14 sl15 sl16 sl17 sl18 sl19 sl20 sl21 sl22 sl23 sl24 sl25 sl26 sl27 sl28 sl29 : Array (Option Value)} {oc0 kV0 dc0 pm0 cd0 ct0 oc1 kV1 dc1 pm1 cd1 ct1 oc2 kV2 dc2 pm2 cd2 ct2 oc3 kV3 dc3 pm3 cd3 ct3 oc4 kV4 dc4 pm4 cd4 ct4 oc5 kV5 dc5 pm5 cd5 ct5 oc6 kV6 dc6 pm6 cd6 ct6 oc7 kV7 dc7 pm7 cd7 ct7 oc8 kV8 dc8 pm8 cd8 ct8 oc9 kV9 dc9 pm9 cd9 ct9 oc10 kV10 dc10 pm10 cd10 ct10 oc11 kV11 dc11 pm11 cd11 ct11 oc12 kV12 dc12 pm12 cd12 ct12 oc13 kV13 dc13 pm13 cd13 ct13 oc14 kV14 dc14 pm14 cd14 ct14 oc15 kV15 dc15 pm15 cd15 ct15 oc16 kV16 dc16 pm16 cd16 ct16 oc17 kV17 dc17 pm17 cd17 ct17 oc18 kV18 dc18 pm18 cd18 ct18 oc19 kV19 dc19 pm19 cd19 ct19 oc20 kV20 dc20 pm20 cd20 ct20 oc21 kV21 dc21 pm21 cd21 ct21 oc22 kV22 dc22 pm22 cd22 ct22 oc23 kV23 dc23 pm23 cd23 ct23 oc24 kV24 dc24 pm24 cd24 ct24 oc25 kV25 dc25 pm25 cd25 ct25 oc26 kV26 dc26 pm26 cd26 ct26 oc27 kV27 dc27 pm27 cd27 ct27 oc28 kV28 dc28 pm28 cd28 ct28 oc29 kV29 dc29 pm29 cd29 ct29 : Value}
    (a0 : PySem.W.nsIn K mainGlobals "is_whole" = some (some (.ref f0))) (l0 : K.lookup f0 = some ⟨oc0, od0, .func (PySem.W.fnOf "is_whole" "is_whole" (defArgs s_is_whole) (defBody s_is_whole) (defScope s_is_whole) .none kV0 dc0 pm0 an0 cd0 ct0), sl0⟩) (c0 : PySem.W.codeIn K cd0 "is_whole" = true) (k0 : PySem.W.keepIn K (.ref f0) = true)
    (a1 : PySem.W.nsIn K mainGlobals "alike" = some (some (.ref f1))) (l1 : K.lookup f1 = some ⟨oc1, od1, .func (PySem.W.fnOf "alike" "alike" (defArgs s_alike) (defBody s_alike) (defScope s_alike) .none kV1 dc1 pm1 an1 cd1 ct1), sl1⟩) (c1 : PySem.W.codeIn K cd1 "alike" = true) (k1 : PySem.W.keepIn K (.ref f1) = true)
    (a2 : PySem.W.nsIn K mainGlobals "parts_alike" = some (some (.ref f2))) (l2 : K.lookup f2 = some ⟨oc2, od2, .func (PySem.W.fnOf "parts_alike" "parts_alike" (defArgs s_parts_alike) (defBody s_parts_alike) (defScope s_parts_alike) .none kV2 dc2 pm2 an2 cd2 ct2), sl2⟩) (c2 : PySem.W.codeIn K cd2 "parts_alike" = true) (k2 : PySem.W.keepIn K (.ref f2) = true)
    (a3 : PySem.W.nsIn K mainGlobals "divisors" = some (some (.ref f3))) (l3 : K.lookup f3 = some ⟨oc3, od3, .func (PySem.W.fnOf "divisors" "divisors" (defArgs s_divisors) (defBody s_divisors) (defScope s_divisors) .none kV3 dc3 pm3 an3 cd3 ct3), sl3⟩) (c3 : PySem.W.codeIn K cd3 "divisors" = true) (k3 : PySem.W.keepIn K (.ref f3) = true)
    (a4 : PySem.W.nsIn K mainGlobals "parted" = some (some (.ref f4))) (l4 : K.lookup f4 = some ⟨oc4, od4, .func (PySem.W.fnOf "parted" "parted" (defArgs s_parted) (defBody s_parted) (defScope s_parted) .none kV4 dc4 pm4 an4 cd4 ct4), sl4⟩) (c4 : PySem.W.codeIn K cd4 "parted" = true) (k4 : PySem.W.keepIn K (.ref f4) = true)
    (a5 : PySem.W.nsIn K mainGlobals "trimmed" = some (some (.ref f5))) (l5 : K.lookup f5 = some ⟨oc5, od5, .func (PySem.W.fnOf "trimmed" "trimmed" (defArgs s_trimmed) (defBody s_trimmed) (defScope s_trimmed) .none kV5 dc5 pm5 an5 cd5 ct5), sl5⟩) (c5 : PySem.W.codeIn K cd5 "trimmed" = true) (k5 : PySem.W.keepIn K (.ref f5) = true)
    (a6 : PySem.W.nsIn K mainGlobals "plus" = some (some (.ref f6))) (l6 : K.lookup f6 = some ⟨oc6, od6, .func (PySem.W.fnOf "plus" "plus" (defArgs s_plus) (defBody s_plus) (defScope s_plus) .none kV6 dc6 pm6 an6 cd6 ct6), sl6⟩) (c6 : PySem.W.codeIn K cd6 "plus" = true) (k6 : PySem.W.keepIn K (.ref f6) = true)
    (a7 : PySem.W.nsIn K mainGlobals "minus" = some (some (.ref f7))) (l7 : K.lookup f7 = some ⟨oc7, od7, .func (PySem.W.fnOf "minus" "minus" (defArgs s_minus) (defBody s_minus) (defScope s_minus) .none kV7 dc7 pm7 an7 cd7 ct7), sl7⟩) (c7 : PySem.W.codeIn K cd7 "minus" = true) (k7 : PySem.W.keepIn K (.ref f7) = true)
    (a8 : PySem.W.nsIn K mainGlobals "over" = some (some (.ref f8))) (l8 : K.lookup f8 = some ⟨oc8, od8, .func (PySem.W.fnOf "over" "over" (defArgs s_over) (defBody s_over) (defScope s_over) .none kV8 dc8 pm8 an8 cd8 ct8), sl8⟩) (c8 : PySem.W.codeIn K cd8 "over" = true) (k8 : PySem.W.keepIn K (.ref f8) = true)
    (a9 : PySem.W.nsIn K mainGlobals "at_power" = some (some (.ref f9))) (l9 : K.lookup f9 = some ⟨oc9, od9, .func (PySem.W.fnOf "at_power" "at_power" (defArgs s_at_power) (defBody s_at_power) (defScope s_at_power) .none kV9 dc9 pm9 an9 cd9 ct9), sl9⟩) (c9 : PySem.W.codeIn K cd9 "at_power" = true) (k9 : PySem.W.keepIn K (.ref f9) = true)
    (a10 : PySem.W.nsIn K mainGlobals "root_poly" = some (some (.ref f10))) (l10 : K.lookup f10 = some ⟨oc10, od10, .func (PySem.W.fnOf "root_poly" "root_poly" (defArgs s_root_poly) (defBody s_root_poly) (defScope s_root_poly) .none kV10 dc10 pm10 an10 cd10 ct10), sl10⟩) (c10 : PySem.W.codeIn K cd10 "root_poly" = true) (k10 : PySem.W.keepIn K (.ref f10) = true)
    (a11 : PySem.W.nsIn K mainGlobals "next_doubled" = some (some (.ref f11))) (l11 : K.lookup f11 = some ⟨oc11, od11, .func (PySem.W.fnOf "next_doubled" "next_doubled" (defArgs s_next_doubled) (defBody s_next_doubled) (defScope s_next_doubled) .none kV11 dc11 pm11 an11 cd11 ct11), sl11⟩) (c11 : PySem.W.codeIn K cd11 "next_doubled" = true) (k11 : PySem.W.keepIn K (.ref f11) = true)
    (a12 : PySem.W.nsIn K mainGlobals "folded" = some (some (.ref f12))) (l12 : K.lookup f12 = some ⟨oc12, od12, .func (PySem.W.fnOf "folded" "folded" (defArgs s_folded) (defBody s_folded) (defScope s_folded) .none kV12 dc12 pm12 an12 cd12 ct12), sl12⟩) (c12 : PySem.W.codeIn K cd12 "folded" = true) (k12 : PySem.W.keepIn K (.ref f12) = true)
    (a13 : PySem.W.nsIn K mainGlobals "cosine_polys" = some (some (.ref f13))) (l13 : K.lookup f13 = some ⟨oc13, od13, .func (PySem.W.fnOf "cosine_polys" "cosine_polys" (defArgs s_cosine_polys) (defBody s_cosine_polys) (defScope s_cosine_polys) .none kV13 dc13 pm13 an13 cd13 ct13), sl13⟩) (c13 : PySem.W.codeIn K cd13 "cosine_polys" = true) (k13 : PySem.W.keepIn K (.ref f13) = true)
    (a14 : PySem.W.nsIn K mainGlobals "cosine_poly" = some (some (.ref f14))) (l14 : K.lookup f14 = some ⟨oc14, od14, .func (PySem.W.fnOf "cosine_poly" "cosine_poly" (defArgs s_cosine_poly) (defBody s_cosine_poly) (defScope s_cosine_poly) .none kV14 dc14 pm14 an14 cd14 ct14), sl14⟩) (c14 : PySem.W.codeIn K cd14 "cosine_poly" = true) (k14 : PySem.W.keepIn K (.ref f14) = true)
    (a15 : PySem.W.nsIn K mainGlobals "are_cosines" = some (some (.ref f15))) (l15 : K.lookup f15 = some ⟨oc15, od15, .func (PySem.W.fnOf "are_cosines" "are_cosines" (defArgs s_are_cosines) (defBody s_are_cosines) (defScope s_are_cosines) .none kV15 dc15 pm15 an15 cd15 ct15), sl15⟩) (c15 : PySem.W.codeIn K cd15 "are_cosines" = true) (k15 : PySem.W.keepIn K (.ref f15) = true)
    (a16 : PySem.W.nsIn K mainGlobals "_law_mix" = some (some (.ref f16))) (l16 : K.lookup f16 = some ⟨oc16, od16, .func (PySem.W.fnOf "_law_mix" "_law_mix" (defArgs s__law_mix) (defBody s__law_mix) (defScope s__law_mix) .none kV16 dc16 pm16 an16 cd16 ct16), sl16⟩) (c16 : PySem.W.codeIn K cd16 "_law_mix" = true) (k16 : PySem.W.keepIn K (.ref f16) = true)
    (a17 : PySem.W.nsIn K mainGlobals "_law_trim" = some (some (.ref f17))) (l17 : K.lookup f17 = some ⟨oc17, od17, .func (PySem.W.fnOf "_law_trim" "_law_trim" (defArgs s__law_trim) (defBody s__law_trim) (defScope s__law_trim) .none kV17 dc17 pm17 an17 cd17 ct17), sl17⟩) (c17 : PySem.W.codeIn K cd17 "_law_trim" = true) (k17 : PySem.W.keepIn K (.ref f17) = true)
    (a18 : PySem.W.nsIn K mainGlobals "_law_sum_of" = some (some (.ref f18))) (l18 : K.lookup f18 = some ⟨oc18, od18, .func (PySem.W.fnOf "_law_sum_of" "_law_sum_of" (defArgs s__law_sum_of) (defBody s__law_sum_of) (defScope s__law_sum_of) .none kV18 dc18 pm18 an18 cd18 ct18), sl18⟩) (c18 : PySem.W.codeIn K cd18 "_law_sum_of" = true) (k18 : PySem.W.keepIn K (.ref f18) = true)
    (a19 : PySem.W.nsIn K mainGlobals "_law_product" = some (some (.ref f19))) (l19 : K.lookup f19 = some ⟨oc19, od19, .func (PySem.W.fnOf "_law_product" "_law_product" (defArgs s__law_product) (defBody s__law_product) (defScope s__law_product) .none kV19 dc19 pm19 an19 cd19 ct19), sl19⟩) (c19 : PySem.W.codeIn K cd19 "_law_product" = true) (k19 : PySem.W.keepIn K (.ref f19) = true)
    (a20 : PySem.W.nsIn K mainGlobals "_law_whole" = some (some (.ref f20))) (l20 : K.lookup f20 = some ⟨oc20, od20, .func (PySem.W.fnOf "_law_whole" "_law_whole" (defArgs s__law_whole) (defBody s__law_whole) (defScope s__law_whole) .none kV20 dc20 pm20 an20 cd20 ct20), sl20⟩) (c20 : PySem.W.codeIn K cd20 "_law_whole" = true) (k20 : PySem.W.keepIn K (.ref f20) = true)
    (a21 : PySem.W.nsIn K mainGlobals "_law_is_poly" = some (some (.ref f21))) (l21 : K.lookup f21 = some ⟨oc21, od21, .func (PySem.W.fnOf "_law_is_poly" "_law_is_poly" (defArgs s__law_is_poly) (defBody s__law_is_poly) (defScope s__law_is_poly) .none kV21 dc21 pm21 an21 cd21 ct21), sl21⟩) (c21 : PySem.W.codeIn K cd21 "_law_is_poly" = true) (k21 : PySem.W.keepIn K (.ref f21) = true)
    (a22 : PySem.W.nsIn K mainGlobals "_law_doubled_row" = some (some (.ref f22))) (l22 : K.lookup f22 = some ⟨oc22, od22, .func (PySem.W.fnOf "_law_doubled_row" "_law_doubled_row" (defArgs s__law_doubled_row) (defBody s__law_doubled_row) (defScope s__law_doubled_row) .none kV22 dc22 pm22 an22 cd22 ct22), sl22⟩) (c22 : PySem.W.codeIn K cd22 "_law_doubled_row" = true) (k22 : PySem.W.keepIn K (.ref f22) = true)
    (a23 : PySem.W.nsIn K mainGlobals "_law_divisors" = some (some (.ref f23))) (l23 : K.lookup f23 = some ⟨oc23, od23, .func (PySem.W.fnOf "_law_divisors" "_law_divisors" (defArgs s__law_divisors) (defBody s__law_divisors) (defScope s__law_divisors) .none kV23 dc23 pm23 an23 cd23 ct23), sl23⟩) (c23 : PySem.W.codeIn K cd23 "_law_divisors" = true) (k23 : PySem.W.keepIn K (.ref f23) = true)
    (a24 : PySem.W.nsIn K mainGlobals "_law_are" = some (some (.ref f24))) (l24 : K.lookup f24 = some ⟨oc24, od24, .func (PySem.W.fnOf "_law_are" "_law_are" (defArgs s__law_are) (defBody s__law_are) (defScope s__law_are) .none kV24 dc24 pm24 an24 cd24 ct24), sl24⟩) (c24 : PySem.W.codeIn K cd24 "_law_are" = true) (k24 : PySem.W.keepIn K (.ref f24) = true)
    (a25 : PySem.W.nsIn K mainGlobals "_law_n" = some (some (.ref f25))) (l25 : K.lookup f25 = some ⟨oc25, od25, .func (PySem.W.fnOf "_law_n" "_law_n" (defArgs s__law_n) (defBody s__law_n) (defScope s__law_n) .none kV25 dc25 pm25 an25 cd25 ct25), sl25⟩) (c25 : PySem.W.codeIn K cd25 "_law_n" = true) (k25 : PySem.W.keepIn K (.ref f25) = true)
    (a26 : PySem.W.nsIn K mainGlobals "_law_number_bent" = some (some (.ref f26))) (l26 : K.lookup f26 = some ⟨oc26, od26, .func (PySem.W.fnOf "_law_number_bent" "_law_number_bent" (defArgs s__law_number_bent) (defBody s__law_number_bent) (defScope s__law_number_bent) .none kV26 dc26 pm26 an26 cd26 ct26), sl26⟩) (c26 : PySem.W.codeIn K cd26 "_law_number_bent" = true) (k26 : PySem.W.keepIn K (.ref f26) = true)
    (a27 : PySem.W.nsIn K mainGlobals "_law_row_bent" = some (some (.ref f27))) (l27 : K.lookup f27 = some ⟨oc27, od27, .func (PySem.W.fnOf "_law_row_bent" "_law_row_bent" (defArgs s__law_row_bent) (defBody s__law_row_bent) (defScope s__law_row_bent) .none kV27 dc27 pm27 an27 cd27 ct27), sl27⟩) (c27 : PySem.W.codeIn K cd27 "_law_row_bent" = true) (k27 : PySem.W.keepIn K (.ref f27) = true)
    (a28 : PySem.W.nsIn K mainGlobals "_law_bent" = some (some (.ref f28))) (l28 : K.lookup f28 = some ⟨oc28, od28, .func (PySem.W.fnOf "_law_bent" "_law_bent" (defArgs s__law_bent) (defBody s__law_bent) (defScope s__law_bent) .none kV28 dc28 pm28 an28 cd28 ct28), sl28⟩) (c28 : PySem.W.codeIn K cd28 "_law_bent" = true) (k28 : PySem.W.keepIn K (.ref f28) = true)
    (a29 : PySem.W.nsIn K mainGlobals "law" = some (some (.ref f29))) (l29 : K.lookup f29 = some ⟨oc29, od29, .func (PySem.W.fnOf "law" "law" (defArgs s_law) (defBody s_law) (defScope s_law) .none kV29 dc29 pm29 an29 cd29 ct29), sl29⟩) (c29 : PySem.W.codeIn K cd29 "law" = true) (k29 : PySem.W.keepIn K (.ref f29) = true)
    (z_len : PySem.W.nsIn K mainGlobals "len" = some none)    (z_range : PySem.W.nsIn K mainGlobals "range" = some none)    (z_max : PySem.W.nsIn K mainGlobals "max" = some none)    (z_list : PySem.W.nsIn K mainGlobals "list" = some none)    (z_int : PySem.W.nsIn K mainGlobals "int" = some none)    (z_bool : PySem.W.nsIn K mainGlobals "bool" = some none)    (z_tuple : PySem.W.nsIn K mainGlobals "tuple" = some none)    (z_isinstance : PySem.W.nsIn K mainGlobals "isinstance" = some none)    (z_enumerate : PySem.W.nsIn K mainGlobals "enumerate" = some none)    (z_reversed : PySem.W.nsIn K mainGlobals "reversed" = some none)    (z_sorted : PySem.W.nsIn K mainGlobals "sorted" = some none)    (z_zip : PySem.W.nsIn K mainGlobals "zip" = some none)    (z_all : PySem.W.nsIn K mainGlobals "all" = some none)    (z_str : PySem.W.nsIn K mainGlobals "str" = some none)    (z_min : PySem.W.nsIn K mainGlobals "min" = some none)    (z_sum : PySem.W.nsIn K mainGlobals "sum" = some none)    (z_any : PySem.W.nsIn K mainGlobals "any" = some none)    (z_set : PySem.W.nsIn K mainGlobals "set" = some none)    (z_abs : PySem.W.nsIn K mainGlobals "abs" = some none)    (z_dict : PySem.W.nsIn K mainGlobals "dict" = some none)
    (i_isqrt : PySem.W.nsIn K mainGlobals "isqrt" = some (some (.builtin "math.isqrt")))
    (q1_NoPart : PySem.W.nsIn K mainGlobals "NoPart" = some (some (.ref C_NoPart)))
    (q2_NoPart : PySem.W.keepIn K (.ref C_NoPart) = true)
    (q3_NoPart : PySem.W.excIn K C_NoPart [.type "ValueError", .type "Exception", .type "BaseException", .type "object"] "ValueError.__new__" = true)
    (q4_NoPart : PySem.W.typeIn K (.ref C_NoPart) = some (.type "type"))
    (q5_NoPart : PySem.W.findIn K (.ref C_NoPart) "__getattribute__" = some (some (.builtin "BaseException.__getattribute__")))
    (q6_NoPart : PySem.W.findIn K (.ref C_NoPart) "__getattr__" = some none)
    (q7_NoPart : PySem.W.subIn K (.ref C_NoPart) (.type "BaseException") = some true)
    (q8_NoPart : PySem.W.hasDictIn K C_NoPart = true)
    (q9_NoPart : PySem.W.findIn K (.ref C_NoPart) "__class__" = some (some (.builtin "object.__class__")))
    (qa_NoPart : PySem.W.specialIn K (.builtin "object.__class__") "__get__" = some (some (.builtin "getset_descriptor.__get__")))
    (qb_NoPart : PySem.W.takesIn K (.builtin "object.__class__") = some true)
    (qc_NoPart : PySem.W.mroIn K C_NoPart (.type "object") = some true)
    (qd_NoPart : PySem.W.subIn K (.ref C_NoPart) (.ref C_NoPart) = some true)
    (qe_NoPart : PySem.W.subIn K (.ref C_NoPart) (.type "ValueError") = some true)
    (z_ValueError : PySem.W.nsIn K mainGlobals "ValueError" = some none)
    (q1_WheelError : PySem.W.nsIn K mainGlobals "WheelError" = some (some (.ref C_WheelError)))
    (q4_WheelError : PySem.W.typeIn K (.ref C_WheelError) = some (.type "type"))
    (q7_WheelError : PySem.W.subIn K (.ref C_WheelError) (.type "BaseException") = some true)
    (q8_WheelError : PySem.W.hasDictIn K C_WheelError = true)
    (qs_WheelError : PySem.W.subIn K (.ref C_NoPart) (.ref C_WheelError) = some true)
    (q1_NoFold : PySem.W.nsIn K mainGlobals "NoFold" = some (some (.ref C_NoFold)))
    (q2_NoFold : PySem.W.keepIn K (.ref C_NoFold) = true)
    (q3_NoFold : PySem.W.excIn K C_NoFold [.type "ValueError", .type "Exception", .type "BaseException", .type "object"] "ValueError.__new__" = true)
    (q4_NoFold : PySem.W.typeIn K (.ref C_NoFold) = some (.type "type"))
    (q5_NoFold : PySem.W.findIn K (.ref C_NoFold) "__getattribute__" = some (some (.builtin "BaseException.__getattribute__")))
    (q6_NoFold : PySem.W.findIn K (.ref C_NoFold) "__getattr__" = some none)
    (q7_NoFold : PySem.W.subIn K (.ref C_NoFold) (.type "BaseException") = some true)
    (q8_NoFold : PySem.W.hasDictIn K C_NoFold = true)
    (q9_NoFold : PySem.W.findIn K (.ref C_NoFold) "__class__" = some (some (.builtin "object.__class__")))
    (qc_NoFold : PySem.W.mroIn K C_NoFold (.type "object") = some true) :
    ∃ fd : FuncData, (∀ (s : Shared) (v : Value), BindsTo s fd ⟨[v], []⟩ [("_law_script", v)]) ∧ ∀ base : Heap, K.In base → base.Ns mainGlobals mg → FnG l.prog w K mg base 11 fa fd ["_law_script"] (spLaw K) := by
  have e := hfa.symm.trans (PySem.W.mg_of X G a29)
  cases e
  have nb : Nb mg := ⟨PySem.W.mg_none_of X G z_len, PySem.W.mg_none_of X G z_range, PySem.W.mg_none_of X G z_max, PySem.W.mg_none_of X G z_list, PySem.W.mg_none_of X G z_int, PySem.W.mg_none_of X G z_bool, PySem.W.mg_none_of X G z_tuple, PySem.W.mg_none_of X G z_isinstance, PySem.W.mg_none_of X G z_enumerate, PySem.W.mg_none_of X G z_reversed, PySem.W.mg_none_of X G z_sorted, PySem.W.mg_none_of X G z_zip, PySem.W.mg_none_of X G z_all, PySem.W.mg_none_of X G z_str, PySem.W.mg_none_of X G z_min, PySem.W.mg_none_of X G z_sum, PySem.W.mg_none_of X G z_any, PySem.W.mg_none_of X G z_set, PySem.W.mg_none_of X G z_abs, PySem.W.mg_none_of X G z_dict⟩
  have nb_isqrt := PySem.W.mg_of X G i_isqrt
  have x_NoPart : OwnX K mg "NoPart" C_NoPart := ⟨PySem.W.mg_of X G q1_NoPart, q2_NoPart, q3_NoPart, q4_NoPart, ⟨q5_NoPart, q6_NoPart, q7_NoPart, q8_NoPart, q9_NoPart, qa_NoPart, qb_NoPart, qc_NoPart⟩⟩
  have x_WheelError : GlX mg "WheelError" C_WheelError := ⟨PySem.W.mg_of X G q1_WheelError⟩
  have hex := PySem.W.exm_ref q7_WheelError q8_WheelError q4_WheelError qs_WheelError
  have x_NoFold : OwnX K mg "NoFold" C_NoFold := ⟨PySem.W.mg_of X G q1_NoFold, q2_NoFold, q3_NoFold, q4_NoFold, ⟨q5_NoFold, q6_NoFold, q7_NoFold, q8_NoFold, q9_NoFold, qa_NoPart, qb_NoPart, qc_NoFold⟩⟩
  have d_is_whole : Dfn K mg "is_whole" ["thing"] s_is_whole := by
    have F := fun_mk (st := s_is_whole) l0 c0 k0
    exact ⟨_, _, F, PySem.W.mg_of X G a0, F.binds (ps := ["thing"]) fun _ _ _ _ _ _ us hl => match us, hl with | [_], _ => rfl⟩
  have d_alike : Dfn K mg "alike" ["thing", "told"] s_alike := by
    have F := fun_mk (st := s_alike) l1 c1 k1
    exact ⟨_, _, F, PySem.W.mg_of X G a1, F.binds (ps := ["thing", "told"]) fun _ _ _ _ _ _ us hl => match us, hl with | [_, _], _ => rfl⟩
  have d_parts_alike : Dfn K mg "parts_alike" ["thing", "told"] s_parts_alike := by
    have F := fun_mk (st := s_parts_alike) l2 c2 k2
    exact ⟨_, _, F, PySem.W.mg_of X G a2, F.binds (ps := ["thing", "told"]) fun _ _ _ _ _ _ us hl => match us, hl with | [_, _], _ => rfl⟩
  have d_divisors : Dfn K mg "divisors" ["n"] s_divisors := by
    have F := fun_mk (st := s_divisors) l3 c3 k3
    exact ⟨_, _, F, PySem.W.mg_of X G a3, F.binds (ps := ["n"]) fun _ _ _ _ _ _ us hl => match us, hl with | [_], _ => rfl⟩
  have d_parted : Dfn K mg "parted" ["n"] s_parted := by
    have F := fun_mk (st := s_parted) l4 c4 k4
    exact ⟨_, _, F, PySem.W.mg_of X G a4, F.binds (ps := ["n"]) fun _ _ _ _ _ _ us hl => match us, hl with | [_], _ => rfl⟩
  have d_trimmed : Dfn K mg "trimmed" ["numbers"] s_trimmed := by
    have F := fun_mk (st := s_trimmed) l5 c5 k5
    exact ⟨_, _, F, PySem.W.mg_of X G a5, F.binds (ps := ["numbers"]) fun _ _ _ _ _ _ us hl => match us, hl with | [_], _ => rfl⟩
  have d_plus : Dfn K mg "plus" ["f", "g"] s_plus := by
    have F := fun_mk (st := s_plus) l6 c6 k6
    exact ⟨_, _, F, PySem.W.mg_of X G a6, F.binds (ps := ["f", "g"]) fun _ _ _ _ _ _ us hl => match us, hl with | [_, _], _ => rfl⟩
  have d_minus : Dfn K mg "minus" ["f", "g"] s_minus := by
    have F := fun_mk (st := s_minus) l7 c7 k7
    exact ⟨_, _, F, PySem.W.mg_of X G a7, F.binds (ps := ["f", "g"]) fun _ _ _ _ _ _ us hl => match us, hl with | [_, _], _ => rfl⟩
  have d_over : Dfn K mg "over" ["f", "g"] s_over := by
    have F := fun_mk (st := s_over) l8 c8 k8
    exact ⟨_, _, F, PySem.W.mg_of X G a8, F.binds (ps := ["f", "g"]) fun _ _ _ _ _ _ us hl => match us, hl with | [_, _], _ => rfl⟩
  have d_at_power : Dfn K mg "at_power" ["f", "k"] s_at_power := by
    have F := fun_mk (st := s_at_power) l9 c9 k9
    exact ⟨_, _, F, PySem.W.mg_of X G a9, F.binds (ps := ["f", "k"]) fun _ _ _ _ _ _ us hl => match us, hl with | [_, _], _ => rfl⟩
  have d_root_poly : Dfn K mg "root_poly" ["n"] s_root_poly := by
    have F := fun_mk (st := s_root_poly) l10 c10 k10
    exact ⟨_, _, F, PySem.W.mg_of X G a10, F.binds (ps := ["n"]) fun _ _ _ _ _ _ us hl => match us, hl with | [_], _ => rfl⟩
  have d_next_doubled : Dfn K mg "next_doubled" ["here", "last"] s_next_doubled := by
    have F := fun_mk (st := s_next_doubled) l11 c11 k11
    exact ⟨_, _, F, PySem.W.mg_of X G a11, F.binds (ps := ["here", "last"]) fun _ _ _ _ _ _ us hl => match us, hl with | [_, _], _ => rfl⟩
  have d_folded : Dfn K mg "folded" ["f"] s_folded := by
    have F := fun_mk (st := s_folded) l12 c12 k12
    exact ⟨_, _, F, PySem.W.mg_of X G a12, F.binds (ps := ["f"]) fun _ _ _ _ _ _ us hl => match us, hl with | [_], _ => rfl⟩
  have d_cosine_polys : Dfn K mg "cosine_polys" ["n"] s_cosine_polys := by
    have F := fun_mk (st := s_cosine_polys) l13 c13 k13
    exact ⟨_, _, F, PySem.W.mg_of X G a13, F.binds (ps := ["n"]) fun _ _ _ _ _ _ us hl => match us, hl with | [_], _ => rfl⟩
  have d_cosine_poly : Dfn K mg "cosine_poly" ["n"] s_cosine_poly := by
    have F := fun_mk (st := s_cosine_poly) l14 c14 k14
    exact ⟨_, _, F, PySem.W.mg_of X G a14, F.binds (ps := ["n"]) fun _ _ _ _ _ _ us hl => match us, hl with | [_], _ => rfl⟩
  have d_are_cosines : Dfn K mg "are_cosines" ["n", "thing"] s_are_cosines := by
    have F := fun_mk (st := s_are_cosines) l15 c15 k15
    exact ⟨_, _, F, PySem.W.mg_of X G a15, F.binds (ps := ["n", "thing"]) fun _ _ _ _ _ _ us hl => match us, hl with | [_, _], _ => rfl⟩
  have d__law_mix : Dfn K mg "_law_mix" ["_law_cell", "_law_k"] s__law_mix := by
    have F := fun_mk (st := s__law_mix) l16 c16 k16
    exact ⟨_, _, F, PySem.W.mg_of X G a16, F.binds (ps := ["_law_cell", "_law_k"]) fun _ _ _ _ _ _ us hl => match us, hl with | [_, _], _ => rfl⟩
  have d__law_trim : Dfn K mg "_law_trim" ["_law_row"] s__law_trim := by
    have F := fun_mk (st := s__law_trim) l17 c17 k17
    exact ⟨_, _, F, PySem.W.mg_of X G a17, F.binds (ps := ["_law_row"]) fun _ _ _ _ _ _ us hl => match us, hl with | [_], _ => rfl⟩
  have d__law_sum_of : Dfn K mg "_law_sum_of" ["_law_one", "_law_other"] s__law_sum_of := by
    have F := fun_mk (st := s__law_sum_of) l18 c18 k18
    exact ⟨_, _, F, PySem.W.mg_of X G a18, F.binds (ps := ["_law_one", "_law_other"]) fun _ _ _ _ _ _ us hl => match us, hl with | [_, _], _ => rfl⟩
  have d__law_product : Dfn K mg "_law_product" ["_law_one", "_law_other"] s__law_product := by
    have F := fun_mk (st := s__law_product) l19 c19 k19
    exact ⟨_, _, F, PySem.W.mg_of X G a19, F.binds (ps := ["_law_one", "_law_other"]) fun _ _ _ _ _ _ us hl => match us, hl with | [_, _], _ => rfl⟩
  have d__law_whole : Dfn K mg "_law_whole" ["_law_thing"] s__law_whole := by
    have F := fun_mk (st := s__law_whole) l20 c20 k20
    exact ⟨_, _, F, PySem.W.mg_of X G a20, F.binds (ps := ["_law_thing"]) fun _ _ _ _ _ _ us hl => match us, hl with | [_], _ => rfl⟩
  have d__law_is_poly : Dfn K mg "_law_is_poly" ["_law_thing"] s__law_is_poly := by
    have F := fun_mk (st := s__law_is_poly) l21 c21 k21
    exact ⟨_, _, F, PySem.W.mg_of X G a21, F.binds (ps := ["_law_thing"]) fun _ _ _ _ _ _ us hl => match us, hl with | [_], _ => rfl⟩
  have d__law_doubled_row : Dfn K mg "_law_doubled_row" ["_law_k"] s__law_doubled_row := by
    have F := fun_mk (st := s__law_doubled_row) l22 c22 k22
    exact ⟨_, _, F, PySem.W.mg_of X G a22, F.binds (ps := ["_law_k"]) fun _ _ _ _ _ _ us hl => match us, hl with | [_], _ => rfl⟩
  have d__law_divisors : Dfn K mg "_law_divisors" ["_law_n_here"] s__law_divisors := by
    have F := fun_mk (st := s__law_divisors) l23 c23 k23
    exact ⟨_, _, F, PySem.W.mg_of X G a23, F.binds (ps := ["_law_n_here"]) fun _ _ _ _ _ _ us hl => match us, hl with | [_], _ => rfl⟩
  have d__law_are : Dfn K mg "_law_are" ["_law_n_here", "_law_thing"] s__law_are := by
    have F := fun_mk (st := s__law_are) l24 c24 k24
    exact ⟨_, _, F, PySem.W.mg_of X G a24, F.binds (ps := ["_law_n_here", "_law_thing"]) fun _ _ _ _ _ _ us hl => match us, hl with | [_, _], _ => rfl⟩
  have d__law_n : Dfn K mg "_law_n" ["_law_number", "_law_most", "_law_some"] s__law_n := by
    have F := fun_mk (st := s__law_n) l25 c25 k25
    exact ⟨_, _, F, PySem.W.mg_of X G a25, F.binds (ps := ["_law_number", "_law_most", "_law_some"]) fun _ _ _ _ _ _ us hl => match us, hl with | [_, _, _], _ => rfl⟩
  have d__law_number_bent : Dfn K mg "_law_number_bent" ["_law_f", "_law_number"] s__law_number_bent := by
    have F := fun_mk (st := s__law_number_bent) l26 c26 k26
    exact ⟨_, _, F, PySem.W.mg_of X G a26, F.binds (ps := ["_law_f", "_law_number"]) fun _ _ _ _ _ _ us hl => match us, hl with | [_, _], _ => rfl⟩
  have d__law_row_bent : Dfn K mg "_law_row_bent" ["_law_row", "_law_number"] s__law_row_bent := by
    have F := fun_mk (st := s__law_row_bent) l27 c27 k27
    exact ⟨_, _, F, PySem.W.mg_of X G a27, F.binds (ps := ["_law_row", "_law_number"]) fun _ _ _ _ _ _ us hl => match us, hl with | [_, _], _ => rfl⟩
  have d__law_bent : Dfn K mg "_law_bent" ["_law_thing", "_law_number", "_law_more"] s__law_bent := by
    have F := fun_mk (st := s__law_bent) l28 c28 k28
    exact ⟨_, _, F, PySem.W.mg_of X G a28, F.binds (ps := ["_law_thing", "_law_number", "_law_more"]) fun _ _ _ _ _ _ us hl => match us, hl with | [_, _, _], _ => rfl⟩
  have F := fun_mk (st := s_law) l29 c29 k29
  exact ⟨PySem.W.fnOf "law" "law" (defArgs s_law) (defBody s_law) (defScope s_law) .none kV29 dc29 pm29 an29 cd29 ct29, fun s v => .of_eq rfl, fun base _ _ => law_ok F nb nb_isqrt (PySem.W.mg_none_of X G z_ValueError) (kit_VE qe_NoPart) x_NoPart x_WheelError hex x_NoFold d_is_whole d_alike d_parts_alike d_divisors d_parted d_trimmed d_plus d_minus d_over d_at_power d_root_poly d_next_doubled d_folded d_cosine_polys d_cosine_poly d_are_cosines d__law_mix d__law_trim d__law_sum_of d__law_product d__law_whole d__law_is_poly d__law_doubled_row d__law_divisors d__law_are d__law_n d__law_number_bent d__law_row_bent d__law_bent⟩
end Own
open PySem PySem.W PyProof.Rows
set_option maxHeartbeats 0 in
theorem PySem.Challenge.cw_rootwheel_k63_cosine_polynomials_looked_holds : PySem.Challenge.rw_rootwheel_k63_cosine_polynomials_looked.Holds := by
  w_on; o_law; k_head; (case hw => w_witness2)
  k_fill
  refine Kp.walk_ofG (l := PySem.Challenge.rw_rootwheel_k63_cosine_polynomials_looked) (n := 63) (k := 11) (x := "_law_script") (spw := fun w => Own.spLaw _) rfl (by decide) rfl ⟨rfl, by decide, by decide⟩ (fun w h Y => PySem.W.kIn_of Y) ?F (fun _ _ a ns hl hS => ⟨a, ns, rfl, hS, hl, fun _ => rfl⟩)
  case F =>
    intro w mg fa h KX G hmg
    refine' Own.all_mk KX G hmg ?a0 ?l0 ?c0 ?k0 ?a1 ?l1 ?c1 ?k1 ?a2 ?l2 ?c2 ?k2 ?a3 ?l3 ?c3 ?k3 ?a4 ?l4 ?c4 ?k4 ?a5 ?l5 ?c5 ?k5 ?a6 ?l6 ?c6 ?k6 ?a7 ?l7 ?c7 ?k7 ?a8 ?l8 ?c8 ?k8 ?a9 ?l9 ?c9 ?k9 ?a10 ?l10 ?c10 ?k10 ?a11 ?l11 ?c11 ?k11 ?a12 ?l12 ?c12 ?k12 ?a13 ?l13 ?c13 ?k13 ?a14 ?l14 ?c14 ?k14 ?a15 ?l15 ?c15 ?k15 ?a16 ?l16 ?c16 ?k16 ?a17 ?l17 ?c17 ?k17 ?a18 ?l18 ?c18 ?k18 ?a19 ?l19 ?c19 ?k19 ?a20 ?l20 ?c20 ?k20 ?a21 ?l21 ?c21 ?k21 ?a22 ?l22 ?c22 ?k22 ?a23 ?l23 ?c23 ?k23 ?a24 ?l24 ?c24 ?k24 ?a25 ?l25 ?c25 ?k25 ?a26 ?l26 ?c26 ?k26 ?a27 ?l27 ?c27 ?k27 ?a28 ?l28 ?c28 ?k28 ?a29 ?l29 ?c29 ?k29 ?z_len ?z_range ?z_max ?z_list ?z_int ?z_bool ?z_tuple ?z_isinstance ?z_enumerate ?z_reversed ?z_sorted ?z_zip ?z_all ?z_str ?z_min ?z_sum ?z_any ?z_set ?z_abs ?z_dict ?i_isqrt ?q1_NoPart ?q2_NoPart ?q3_NoPart ?q4_NoPart ?q5_NoPart ?q6_NoPart ?q7_NoPart ?q8_NoPart ?q9_NoPart ?qa_NoPart ?qb_NoPart ?qc_NoPart ?qd_NoPart ?qe_NoPart ?z_ValueError ?q1_WheelError ?q4_WheelError ?q7_WheelError ?q8_WheelError ?qs_WheelError ?q1_NoFold ?q2_NoFold ?q3_NoFold ?q4_NoFold ?q5_NoFold ?q6_NoFold ?q7_NoFold ?q8_NoFold ?q9_NoFold ?qc_NoFold
    (case a0 => k_is)
    (case l0 => k_is)
    (case c0 => k_is)
    (case k0 => k_is)
    (case a1 => k_is)
    (case l1 => k_is)
    (case c1 => k_is)
    (case k1 => k_is)
    (case a2 => k_is)
    (case l2 => k_is)
    (case c2 => k_is)
    (case k2 => k_is)
    (case a3 => k_is)
    (case l3 => k_is)
    (case c3 => k_is)
    (case k3 => k_is)
    (case a4 => k_is)
    (case l4 => k_is)
    (case c4 => k_is)
    (case k4 => k_is)
    (case a5 => k_is)
    (case l5 => k_is)
    (case c5 => k_is)
    (case k5 => k_is)
    (case a6 => k_is)
    (case l6 => k_is)
    (case c6 => k_is)
    (case k6 => k_is)
    (case a7 => k_is)
    (case l7 => k_is)
    (case c7 => k_is)
    (case k7 => k_is)
    (case a8 => k_is)
    (case l8 => k_is)
    (case c8 => k_is)
    (case k8 => k_is)
    (case a9 => k_is)
    (case l9 => k_is)
    (case c9 => k_is)
    (case k9 => k_is)
    (case a10 => k_is)
    (case l10 => k_is)
    (case c10 => k_is)
    (case k10 => k_is)
    (case a11 => k_is)
    (case l11 => k_is)
    (case c11 => k_is)
    (case k11 => k_is)
    (case a12 => k_is)
    (case l12 => k_is)
    (case c12 => k_is)
    (case k12 => k_is)
    (case a13 => k_is)
    (case l13 => k_is)
    (case c13 => k_is)
    (case k13 => k_is)
    (case a14 => k_is)
    (case l14 => k_is)
    (case c14 => k_is)
    (case k14 => k_is)
    (case a15 => k_is)
    (case l15 => k_is)
    (case c15 => k_is)
    (case k15 => k_is)
    (case a16 => k_is)
    (case l16 => k_is)
    (case c16 => k_is)
    (case k16 => k_is)
    (case a17 => k_is)
    (case l17 => k_is)
    (case c17 => k_is)
    (case k17 => k_is)
    (case a18 => k_is)
    (case l18 => k_is)
    (case c18 => k_is)
    (case k18 => k_is)
    (case a19 => k_is)
    (case l19 => k_is)
    (case c19 => k_is)
    (case k19 => k_is)
    (case a20 => k_is)
    (case l20 => k_is)
    (case c20 => k_is)
    (case k20 => k_is)
    (case a21 => k_is)
    (case l21 => k_is)
    (case c21 => k_is)
    (case k21 => k_is)
    (case a22 => k_is)
    (case l22 => k_is)
    (case c22 => k_is)
    (case k22 => k_is)
    (case a23 => k_is)
    (case l23 => k_is)
    (case c23 => k_is)
    (case k23 => k_is)
    (case a24 => k_is)
    (case l24 => k_is)
    (case c24 => k_is)
    (case k24 => k_is)
    (case a25 => k_is)
    (case l25 => k_is)
    (case c25 => k_is)
    (case k25 => k_is)
    (case a26 => k_is)
    (case l26 => k_is)
    (case c26 => k_is)
    (case k26 => k_is)
    (case a27 => k_is)
    (case l27 => k_is)
    (case c27 => k_is)
    (case k27 => k_is)
    (case a28 => k_is)
    (case l28 => k_is)
    (case c28 => k_is)
    (case k28 => k_is)
    (case a29 => k_is)
    (case l29 => k_is)
    (case c29 => k_is)
    (case k29 => k_is)
    (case z_len => k_is)
    (case z_range => k_is)
    (case z_max => k_is)
    (case z_list => k_is)
    (case z_int => k_is)
    (case z_bool => k_is)
    (case z_tuple => k_is)
    (case z_isinstance => k_is)
    (case z_enumerate => k_is)
    (case z_reversed => k_is)
    (case z_sorted => k_is)
    (case z_zip => k_is)
    (case z_all => k_is)
    (case z_str => k_is)
    (case z_min => k_is)
    (case z_sum => k_is)
    (case z_any => k_is)
    (case z_set => k_is)
    (case z_abs => k_is)
    (case z_dict => k_is)
    (case i_isqrt => k_is)
    (case q1_NoPart => k_is)
    (case q2_NoPart => k_is)
    (case q3_NoPart => k_exc)
    (case q4_NoPart => k_is)
    (case q5_NoPart => k_is)
    (case q6_NoPart => k_is)
    (case q7_NoPart => k_is)
    (case q8_NoPart => k_is)
    (case q9_NoPart => k_is)
    (case qa_NoPart => k_is)
    (case qb_NoPart => k_is)
    (case qc_NoPart => k_is)
    (case qd_NoPart => k_is)
    (case qe_NoPart => k_is)
    (case z_ValueError => k_is)
    (case q1_WheelError => k_is)
    (case q4_WheelError => k_is)
    (case q7_WheelError => k_is)
    (case q8_WheelError => k_is)
    (case qs_WheelError => k_is)
    (case q1_NoFold => k_is)
    (case q2_NoFold => k_is)
    (case q3_NoFold => k_exc)
    (case q4_NoFold => k_is)
    (case q5_NoFold => k_is)
    (case q6_NoFold => k_is)
    (case q7_NoFold => k_is)
    (case q8_NoFold => k_is)
    (case q9_NoFold => k_is)
    (case qc_NoFold => k_is)


