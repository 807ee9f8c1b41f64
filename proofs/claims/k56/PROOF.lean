import PyProof.Rows.All
import Wide.All
import OpenK.AllK
import Wide.FinOn
import HandS.ForMost
import HandS.Evl
import HandS.Wide
import HandS.WideMore
import HandS.Gcd
import HandS.IsInst
import HandS.SortInts
import HandS.Rev
import HandS.ForExc
import HandS.ExcIs
import HandS.ExcValue
import HandS.Walk
import PySem.Challenge.RW_rootwheel_k56_signs_by_primes
set_option Elab.async false
set_option linter.all false
set_option maxRecDepth 100000
set_option maxHeartbeats 4000000
/-! What every proof of ours leans on: calls by a promise that stands for a name, rules of ours, words for the readings. -/
namespace Kp
open PySem PySem.Spec PyProof.Rows L2 Evl

/-! ### the names of Python that a text leaves as they are -/
structure Nb (mg : Str → Option Value) : Prop where
  len : mg "len" = none
  range : mg "range" = none
  max : mg "max" = none
  list : mg "list" = none
  int : mg "int" = none
  bool : mg "bool" = none
  tuple : mg "tuple" = none
  isinstance : mg "isinstance" = none
  enumerate : mg "enumerate" = none
  reversed : mg "reversed" = none
  sorted : mg "sorted" = none
  zip : mg "zip" = none
  all : mg "all" = none
  str : mg "str" = none

/-! ### a def by its name -/
/-- by the name x the module holds a def that keeps the promise sp, at the level k -/
def Cal (P : Program) (w : World) (K : PySem.W.Frag) (mg : Str → Option Value) (base : Heap) (CX : CXT) (x : Str) (k : Nat) (ps : List Str) (sp : Sp) : Prop :=
  ∃ (f : Addr) (fd : FuncData), FnOk P w K mg base CX k f fd ps sp ∧ mg x = some (.ref f) ∧ PySem.W.keepIn K (.ref f) = true ∧ Binds K fd ps []
/-- by the name x the module holds the def that st writes -/
def Dfn (K : PySem.W.Frag) (mg : Str → Option Value) (x : Str) (ps : List Str) (st : Stmt) : Prop :=
  ∃ (f : Addr) (fd : FuncData), Fun K x x st f fd ∧ mg x = some (.ref f) ∧ Binds K fd ps []
section
variable {P : Program} {w : World} {K : PySem.W.Frag} {mg : Str → Option Value} {base : Heap} {CX : CXT} {x : Str} {k : Nat} {ps N : List Str} {sp : Sp} {st : Stmt}
theorem Dfn.cal (d : Dfn K mg x ps st) (S : FnScope N ps (defScope st)) (len : ∀ vs H Q E, sp vs H Q E → vs.length = ps.length)
    (hbody : ∀ (f : Addr) (cdv : Value) (A : Around) (outer : List Env) (s : Shared) (H : Hp) (vs : List V) (Q : VK) (E : XK), Room k (A.deeper (envOfC x (defScope st) s.heap.objs.size f cdv)) → sp vs H Q E →
      ∃ t, PSs (cxOf CX0 P w K mg base N x (defScope st) f cdv A outer s H E).nox (defBody st) t ∧ t { nx := fun _ H' => Q .non H', rt := Q } (start N vs) H) : Cal P w K mg base CX0 x (k + 1) ps sp := by
  obtain ⟨f, fd, F, g, b⟩ := d
  exact ⟨f, fd, F.ok S len (hbody f), g, F.kp, b⟩
end
section
variable {X : Cx} {CX : CXT} {k : Nat} {ps : List Str} {sp : Sp} {E : XK} {x : Str} {p pos : Pos} {e : Expr} {es : List Expr} {t : TA}
theorem pe_cal (c : Cal X.prog X.w X.K X.mg X.base CX x k ps sp) (hr : Room k X.A) (hg : Gl X x) (hx : Passes CX X E)
    (ha : PA X (e :: es) t) (hdb : (x == ("__debug__" : Str)) = false := by decide) (he : starEach (e :: es) X.env = (false, eval e X.env) :: starEach es X.env := by rfl) (hpl : (backTo pos (starEach es X.env)).any (·.1) = false := by rfl) :
    PE X (.Call (.Name x p) (e :: es) [] pos) (tCall sp [] E t) := by
  obtain ⟨f, fd, F, g, kp, b⟩ := c
  exact pe_call F hr hg g kp b .nil hx ha hdb he hpl
end

/-! ### rules of ours -/
def CPowW (i j : Int) : Prop := 0 ≤ j ∧ (Builtin.Int.intBits i : Int) * j ≤ 2 ^ 27
section
variable {X : Cx}
theorem op_powW : OpR X (binaryOp .Pow) (rI CPowW fun i j => .int (i ^ j.toNat)) := opI fun _ _ _ _ _ _ _ hc q => pow_int hc.1 hc.2 q
/-- what stands at a place of a list, for o[i] op= e -/
def rGetL (K : PySem.W.Frag) : V → V → Hp → VK → Prop := fun o i H Q => ∃ p xs j v, o = .ref p ∧ i = .int ((j : Nat) : Int) ∧ SqL K H p xs ∧ xs[j]? = some v ∧ Q v H
theorem get_list : PGet X (rGetL X.K) := by
  intro pins s σ H o i ov iv Q I ro ri h
  obtain ⟨p, xs, j, z, rfl, rfl, hq, he, q⟩ := h
  cases ro
  obtain ⟨t, rfl⟩ := ri
  obtain ⟨its, r, pl, hz⟩ := I.list hq
  obtain ⟨w, ew, rw'⟩ := r.get he
  have hj : j < xs.length := (List.getElem?_eq_some_iff.mp he).1
  have hn := line63
  have hl := r.length
  exact wpAny_getItem_list pl.isList (by omega) (by omega) (by simpa using ew) ⟨z, H, I, rw', q⟩
theorem pip_of {op : Operator} {r : R2} (ho : OpR X (inplaceOp op) r) : PIp X op r := fun pins s σ H x y v u Q I rx ry h => ho pins s σ H x y v u Q I rx ry h
/-- math.isqrt -/
def rIsqrt : List V → Hp → VK → Prop := fun vs H Q => ∃ a : Int, vs = [.int a] ∧ 0 ≤ a ∧ a < 2 ^ 64 ∧ Q (.int ((Float64.isqrt a.toNat : Nat) : Int)) H
theorem cr_isqrt : CallR X (.builtin "math.isqrt") rIsqrt := by
  intro pins s σ H vs us Q I r h
  obtain ⟨a, rfl, h0, h1, q⟩ := h
  obtain ⟨u, rfl, t, rfl⟩ := vals1 r
  exact PySem.W.mg_isqrt h0 h1 ⟨.int _, H, I.tok _, ⟨_, rfl⟩, q⟩
end

/-! ### what evaluates to what, by operators -/
section
variable {K : PySem.W.Frag} {σ : L2.St} {H : Hp} {ta tb te : TE} {i j : Int}
theorem ev_add (ha : Ev ta σ H (.int i)) (hb : Ev tb σ H (.int j)) : Ev (tOp (rI0 fun i j => .int (i + j)) ta tb) σ H (.int (i + j)) := ev_op ha hb rv_I0
theorem ev_sub (ha : Ev ta σ H (.int i)) (hb : Ev tb σ H (.int j)) : Ev (tOp (rI0 fun i j => .int (i - j)) ta tb) σ H (.int (i - j)) := ev_op ha hb rv_I0
theorem ev_mul (ha : Ev ta σ H (.int i)) (hb : Ev tb σ H (.int j)) (h : CMulW i j) : Ev (tOp (rI CMulW fun i j => .int (i * j)) ta tb) σ H (.int (i * j)) := ev_op ha hb (rv_I h)
theorem ev_div (ha : Ev ta σ H (.int i)) (hb : Ev tb σ H (.int j)) (h : CDivW i j) : Ev (tOp (rI CDivW fun i j => .int (i / j)) ta tb) σ H (.int (i / j)) := ev_op ha hb (rv_I h)
theorem ev_mod (ha : Ev ta σ H (.int i)) (hb : Ev tb σ H (.int j)) (h : 0 < j) : Ev (tOp (rI (fun _ j => 0 < j) fun i j => .int (i % j)) ta tb) σ H (.int (i % j)) := ev_op ha hb (rv_I (C := fun _ j => 0 < j) h)
theorem ev_pow {c : Int} (ha : Ev ta σ H (.int i)) (hb : Ev tb σ H (.int j)) (h : CPowW i j) (hc : i ^ j.toNat = c) : Ev (tOp (rI CPowW fun i j => .int (i ^ j.toNat)) ta tb) σ H (.int c) := by
  rw [← hc]
  exact ev_op ha hb (rv_I h)
theorem ev_neg (ha : Ev ta σ H (.int i)) : Ev (tUn (rU fun i => .int (-i)) ta) σ H (.int (-i)) := ev_un ha ru_neg
theorem ev_lt (ha : Ev ta σ H (.int i)) (hb : Ev tb σ H (.int j)) : Ev (tOp (rI0 fun i j => .bl (decide (i < j))) ta tb) σ H (.bl (decide (i < j))) := ev_op ha hb rv_I0
theorem ev_le (ha : Ev ta σ H (.int i)) (hb : Ev tb σ H (.int j)) : Ev (tOp (rI0 fun i j => .bl (decide (i ≤ j))) ta tb) σ H (.bl (decide (i ≤ j))) := ev_op ha hb rv_I0
theorem ev_gt (ha : Ev ta σ H (.int i)) (hb : Ev tb σ H (.int j)) : Ev (tOp (rI0 fun i j => .bl (decide (j < i))) ta tb) σ H (.bl (decide (j < i))) := ev_op ha hb rv_I0
theorem ev_ge (ha : Ev ta σ H (.int i)) (hb : Ev tb σ H (.int j)) : Ev (tOp (rI0 fun i j => .bl (decide (j ≤ i))) ta tb) σ H (.bl (decide (j ≤ i))) := ev_op ha hb rv_I0
theorem dec_int (i j : Int) : decide (V.int i = V.int j) = decide (i = j) := decide_eq_decide.mpr ⟨V.int.inj, fun e => by rw [e]⟩
theorem ev_eqI (ha : Ev ta σ H (.int i)) (hb : Ev tb σ H (.int j)) : Ev (tOp rEq ta tb) σ H (.bl (decide (i = j))) := by
  rw [← dec_int]
  exact ev_op ha hb (rv_eq rfl)
theorem ev_neI (ha : Ev ta σ H (.int i)) (hb : Ev tb σ H (.int j)) : Ev (tOp rNe ta tb) σ H (.bl (!decide (i = j))) := by
  rw [← dec_int]
  exact ev_op ha hb (rv_ne rfl)
theorem ev_isN {v : V} (ha : Ev ta σ H v) : Ev (tOp (fun x y H Q => y = .non ∧ Q (.bl (decide (x = .non))) H) ta (tC .non)) σ H (.bl (decide (v = .non))) := ev_op ha ev_c fun H1 _ _ q => ⟨rfl, q H1 (Ex.refl H1)⟩
theorem ev_notN {v : V} (ha : Ev ta σ H v) : Ev (tOp (fun x y H Q => y = .non ∧ Q (.bl (!decide (x = .non))) H) ta (tC .non)) σ H (.bl (!decide (v = .non))) := ev_op ha ev_c fun H1 _ _ q => ⟨rfl, q H1 (Ex.refl H1)⟩
/-- numbers of some hundred bits -/
theorem mulW {i j : Int} (hi : i.natAbs < 2 ^ 300) (hj : j.natAbs < 2 ^ 300) : CMulW i j := wide_mul hi hj (by decide) (by decide) (by decide)
theorem divW {i j : Int} (h : 0 < j) (hj : j < 2 ^ 300) : CDivW i j := wide_div (b := 300) h (by omega) (by decide) (by decide)
/-- no reading is this: a goal that takes it has not been told yet which reading it speaks of -/
def tProbe : TE := fun _ _ _ => False
def tProbeT : TT := fun _ _ _ => False
def tProbeA : TA := fun _ _ _ => False
theorem probe {v : V} (h : False) : Ev tProbe σ H v := h.elim
theorem probeT {b : Bool} (h : False) : EvT tProbeT σ H b := h.elim
theorem probeA {vs : List V} (h : False) : EvA tProbeA σ H vs := h.elim
/-- a call's promise: one value -/
theorem ev_cal {sp : Sp} {vs : List V} {E : XK} {ta : TA} {z : V} (h : EvA ta σ H vs) (hs : ∀ H1, Ex H H1 → ∀ Q : VK, RetV z H1 Q → ∀ E : XK, sp vs H1 Q E) : Ev (tCall sp [] E ta) σ H z := fun H1 e Q q =>
  h H1 e _ fun H2 e2 => by
    show sp (vs ++ []) H2 Q E
    rw [List.append_nil]
    exact hs H2 (e.trans e2) Q (fun H3 e3 => q H3 (e2.trans e3)) E
/-- one new list -/
theorem el_cal {sp : Sp} {vs xs : List V} {E : XK} {ta : TA} (h : EvA ta σ H vs) (hs : ∀ H1, Ex H H1 → ∀ Q : VK, RetL xs H1 Q → ∀ E : XK, sp vs H1 Q E) : EvL (tCall sp [] E ta) σ H xs := fun H1 e Q q =>
  h H1 e _ fun H2 e2 => by
    show sp (vs ++ []) H2 Q E
    rw [List.append_nil]
    exact hs H2 (e.trans e2) Q (fun p H3 hp e3 h3 => q p H3 (fresh_back e2 hp) (e2.trans e3) h3) E
end
end Kp

/-! Data as a whole; lists of pairs; comprehensions; new lists. -/
namespace Kp
open PySem PySem.Spec PyProof.Rows L2 Evl

/-! ### == of data without truths, texts and dicts -/
mutual
def okD : PyData → Bool
  | .none => true
  | .int _ => true
  | .list xs => okA xs
  | .tuple xs => okA xs
  | .bool _ => false
  | .str _ => false
  | .dict _ => false
def okA : List PyData → Bool
  | [] => true
  | x :: xs => okD x && okA xs
end
mutual
theorem eqv_ok : ∀ d e : PyData, okD d = true → okD e = true → (PyData.eqv d e = true ↔ d = e)
  | .none, e, _, h => by cases e <;> simp_all [okD, PyData.eqv]
  | .int i, e, _, h => by cases e <;> simp_all [okD, PyData.eqv]
  | .list xs, e, h1, h => by
    cases e with
    | list ys =>
      unfold okD at h1 h
      unfold PyData.eqv
      rw [eqvA_ok xs ys h1 h]
      exact ⟨fun e => by rw [e], PyData.list.inj⟩
    | _ => simp_all [okD, PyData.eqv]
  | .tuple xs, e, h1, h => by
    cases e with
    | tuple ys =>
      unfold okD at h1 h
      unfold PyData.eqv
      rw [eqvA_ok xs ys h1 h]
      exact ⟨fun e => by rw [e], PyData.tuple.inj⟩
    | _ => simp_all [okD, PyData.eqv]
  | .bool _, _, h, _ => by simp [okD] at h
  | .str _, _, h, _ => by simp [okD] at h
  | .dict _, _, h, _ => by simp [okD] at h
theorem eqvA_ok : ∀ ds es : List PyData, okA ds = true → okA es = true → (PyData.eqvAll ds es = true ↔ ds = es)
  | [], [], _, _ => by simp [PyData.eqvAll]
  | [], _ :: _, _, _ => by simp [PyData.eqvAll]
  | _ :: _, [], _, _ => by simp [PyData.eqvAll]
  | d :: ds, e :: es, h1, h2 => by
    unfold okA at h1 h2
    rw [Bool.and_eq_true] at h1 h2
    unfold PyData.eqvAll
    rw [Bool.and_eq_true, eqv_ok d e h1.1 h2.1, eqvA_ok ds es h1.2 h2.2]
    simp
end
theorem eqv_dec {α : Type} [DecidableEq α] (enc : α → PyData) (ok : ∀ a, okD (enc a) = true) (inj : ∀ a b, enc a = enc b → a = b) (a b : α) : PyData.eqv (enc a) (enc b) = decide (a = b) := by
  have h := eqv_ok (enc a) (enc b) (ok a) (ok b)
  by_cases e : a = b
  · subst e
    rw [decide_eq_true rfl]
    exact h.mpr rfl
  · rw [decide_eq_false e]
    cases q : PyData.eqv (enc a) (enc b) with
    | false => rfl
    | true => exact absurd (inj _ _ (h.mp q)) e
theorem okA_map {α : Type} (f : α → PyData) (h : ∀ a, okD (f a) = true) : ∀ l : List α, okA (l.map f) = true
  | [] => rfl
  | a :: l => by
    rw [List.map_cons]
    unfold okA
    rw [h a, okA_map f h l]
    rfl
theorem lay_map {α : Type} (f : α → PyData) (h : ∀ a, PyData.canLay0 (f a) = true) : ∀ l : List α, PyData.canLayAll0 (l.map f) = true
  | [] => rfl
  | a :: l => by
    rw [List.map_cons]
    unfold PyData.canLayAll0
    rw [h a, lay_map f h l]
    rfl
theorem dep_map {α : Type} (f : α → PyData) (k : Nat) (h : ∀ a, PyData.depth (f a) ≤ k) : ∀ l : List α, PyData.depthAll (l.map f) ≤ k
  | [] => Nat.zero_le _
  | a :: l => by
    rw [List.map_cons]
    unfold PyData.depthAll
    exact Nat.max_le.mpr ⟨h a, dep_map f k h l⟩
theorem shaped_of {d : PyData} (h : PyData.canLay0 d = true) (k : PyData.depth d ≤ 64) : SeqAt.shaped d = true := by
  unfold SeqAt.shaped
  rw [h, decide_eq_true k]
  rfl
/-- a list of ints, a pair of ints, a list of such -/
def dI (ns : List Int) : PyData := .list (ns.map .int)
def dP (r : Int × Int) : PyData := .tuple [.int r.1, .int r.2]
def dR (rows : List (Int × Int)) : PyData := .list (rows.map dP)
theorem map_inj {α β : Type} {f : α → β} (h : ∀ a b, f a = f b → a = b) : ∀ l m : List α, l.map f = m.map f → l = m
  | [], [], _ => rfl
  | [], _ :: _, e => by simp at e
  | _ :: _, [], e => by simp at e
  | a :: l, b :: m, e => by
    rw [List.map_cons, List.map_cons] at e
    injection e with e1 e2
    rw [h _ _ e1, map_inj h l m e2]
theorem dI_sh (ns : List Int) : SeqAt.shaped (dI ns) = true := shaped_of (lay_map _ (fun _ => rfl) ns) (Nat.le_trans (Nat.succ_le_succ (dep_map PyData.int 0 (fun _ => Nat.le_refl 0) ns)) (by decide))
theorem dR_sh (rows : List (Int × Int)) : SeqAt.shaped (dR rows) = true := shaped_of (lay_map _ (fun _ => rfl) rows) (Nat.le_trans (Nat.succ_le_succ (dep_map dP 1 (fun _ => Nat.le_refl 1) rows)) (by decide))
theorem dI_eqv (ns ms : List Int) : PyData.eqv (dI ns) (dI ms) = decide (ns = ms) := eqv_dec dI (fun l => by unfold dI okD; exact okA_map _ (fun _ => rfl) l) (fun a b e => map_inj (fun _ _ q => PyData.int.inj q) a b (PyData.list.inj e)) ns ms
theorem dP_inj (a b : Int × Int) (e : dP a = dP b) : a = b := by
  obtain ⟨a1, a2⟩ := a
  obtain ⟨b1, b2⟩ := b
  simp [dP] at e
  rw [e.1, e.2]
theorem dR_eqv (rs qs : List (Int × Int)) : PyData.eqv (dR rs) (dR qs) = decide (rs = qs) := eqv_dec dR (fun l => by unfold dR okD; exact okA_map _ (fun _ => rfl) l) (fun a b e => map_inj dP_inj a b (PyData.list.inj e)) rs qs

section
variable {K : PySem.W.Frag} {σ : L2.St} {H H' : Hp} {ta tb te tl : TE} {t : TT} {x y z v : V} {D : Ends} {tz : TS} {vs : List Nat}
theorem dpa_ints (K : PySem.W.Frag) (H : Hp) : ∀ ns : List Int, DpAll K H (ns.map V.int) (ns.map PyData.int)
  | [] => .nil
  | n :: ns => .cons (.int n) (dpa_ints K H ns)
theorem dp_ints {a : Addr} {ns : List Int} (h : SqL K H a (ns.map V.int)) : Dp K H (.ref a) (dI ns) := .lst h (dpa_ints K H ns)

/-! ### lists of pairs -/
/-- each item a tuple of the pair's two ints -/
def Prs (K : PySem.W.Frag) (H : Hp) : List V → List (Int × Int) → Prop := Paired fun v r => ∃ t, v = .ref t ∧ SqT K H t [.int r.1, .int r.2]
theorem Prs.mono {xs : List V} {rows : List (Int × Int)} (e : Ex H H') (h : Prs K H xs rows) : Prs K H' xs rows := Paired.mapP h fun v r ⟨t, q, s⟩ => ⟨t, q, ex_t e s⟩
theorem sqt_upd {l t : Addr} {xs ys ts : List V} (hl : H l = some (.lst xs)) (h : SqT K H t ts) : SqT K (upd H l (.lst ys)) t ts := by
  rcases h with h | h
  · refine .inl ?_
    rcases h with h | ⟨o, h⟩
    · refine .inl ?_
      rw [upd_ne (ne_of h hl (by intro z; cases z))]
      exact h
    · refine .inr ⟨o, ?_⟩
      rw [upd_ne (ne_of h hl (by intro z; cases z))]
      exact h
  · exact .inr h
theorem Prs.upd {l : Addr} {us ys xs : List V} {rows : List (Int × Int)} (hl : H l = some (.lst us)) (h : Prs K H xs rows) : Prs K (upd H l (.lst ys)) xs rows := Paired.mapP h fun v r ⟨t, q, s⟩ => ⟨t, q, sqt_upd hl s⟩
theorem Prs.snoc {xs : List V} {rows : List (Int × Int)} {t : Addr} {a b : Int} (h : Prs K H xs rows) (ht : SqT K H t [.int a, .int b]) : Prs K H (xs ++ [.ref t]) (rows ++ [(a, b)]) := Paired.snoc h ⟨t, rfl, ht⟩
theorem prs_get : ∀ {xs : List V} {rows : List (Int × Int)} {i : Nat} {x : V}, Prs K H xs rows → xs[i]? = some x → ∃ r t, rows[i]? = some r ∧ x = .ref t ∧ SqT K H t [.int r.1, .int r.2]
  | _, _, _, _, .nil, h => by simp at h
  | _, _, 0, _, .cons (b := r) q _, h => by
    obtain ⟨t, q1, q2⟩ := q
    have e := Option.some.inj h
    exact ⟨r, t, rfl, e ▸ q1, q2⟩
  | _, _, i + 1, _, .cons _ q, h => prs_get (i := i) q h
theorem dpa_prs : ∀ {xs : List V} {rows : List (Int × Int)}, Prs K H xs rows → DpAll K H xs (rows.map dP)
  | _, _, .nil => .nil
  | _, _, .cons q r => by
    obtain ⟨t, rfl, q2⟩ := q
    exact .cons (.tup q2 (.cons (.int _) (.cons (.int _) .nil))) (dpa_prs r)
theorem dp_prs {a : Addr} {xs : List V} {rows : List (Int × Int)} (h : SqL K H a xs) (p : Prs K H xs rows) : Dp K H (.ref a) (dR rows) := .lst h (dpa_prs p)

/-! ### == and != -/
theorem rv_eqD {d e : PyData} {b : Bool} (h1 : Dp K H x d) (h2 : Dp K H y e) (m1 : ∀ H1, Ex H H1 → Dp K H1 x d) (m2 : ∀ H1, Ex H H1 → Dp K H1 y e) (s1 : SeqAt.shaped d = true) (s2 : SeqAt.shaped e = true) (hb : PyData.eqv d e = b) : RV (rEqD K) x y H (.bl b) := by
  subst hb
  exact fun H1 e1 Q q => ⟨d, e, m1 H1 e1, m2 H1 e1, s1, s2, q H1 (Ex.refl H1)⟩
theorem rv_neD {d e : PyData} {b : Bool} (m1 : ∀ H1, Ex H H1 → Dp K H1 x d) (m2 : ∀ H1, Ex H H1 → Dp K H1 y e) (s1 : SeqAt.shaped d = true) (s2 : SeqAt.shaped e = true) (hb : (!PyData.eqv d e) = b) : RV (rNeD K) x y H (.bl b) := by
  subst hb
  exact fun H1 e1 Q q => ⟨d, e, m1 H1 e1, m2 H1 e1, s1, s2, q H1 (Ex.refl H1)⟩
theorem rv_eqI {p q : Addr} {ns ms : List Int} (h1 : SqL K H p (ns.map V.int)) (h2 : SqL K H q (ms.map V.int)) : RV (rEqD K) (.ref p) (.ref q) H (.bl (decide (ns = ms))) :=
  rv_eqD (dp_ints h1) (dp_ints h2) (fun _ e => dp_ints (ex_l e h1)) (fun _ e => dp_ints (ex_l e h2)) (dI_sh _) (dI_sh _) (dI_eqv _ _)
theorem rv_neI {p q : Addr} {ns ms : List Int} (h1 : SqL K H p (ns.map V.int)) (h2 : SqL K H q (ms.map V.int)) : RV (rNeD K) (.ref p) (.ref q) H (.bl (!decide (ns = ms))) :=
  rv_neD (fun _ e => dp_ints (ex_l e h1)) (fun _ e => dp_ints (ex_l e h2)) (dI_sh _) (dI_sh _) (by rw [dI_eqv])
theorem rv_neR {p q : Addr} {xs ys : List V} {rs qs : List (Int × Int)} (h1 : SqL K H p xs) (p1 : Prs K H xs rs) (h2 : SqL K H q ys) (p2 : Prs K H ys qs) : RV (rNeD K) (.ref p) (.ref q) H (.bl (!decide (rs = qs))) :=
  rv_neD (fun _ e => dp_prs (ex_l e h1) (p1.mono e)) (fun _ e => dp_prs (ex_l e h2) (p2.mono e)) (dR_sh _) (dR_sh _) (by rw [dR_eqv])

/-! ### new lists -/
theorem el_is {xs ys : List V} (h : EvL te σ H xs) (e : xs = ys) : EvL te σ H ys := by
  rw [← e]
  exact h
theorem el_cat {xs ys : List V} (ha : EvL ta σ H xs) (hb : EvL tb σ H ys) (hz : xs.length + ys.length ≤ 100000) : EvL (tOp rCat ta tb) σ H (xs ++ ys) := fun H1 e Q q =>
  ha H1 e _ fun p H2 np e2 hp => hb H2 (e.trans e2) _ fun r H3 nr e3 hr => ⟨p, r, xs, ys, rfl, rfl, e3 p _ hp, hr, sz_of hz, fun l hl => q l _ (fresh_back (e2.trans e3) hl) ((e2.trans e3).trans (Ex.new hl)) upd_same⟩
theorem el_rep {k : Int} (ha : EvL ta σ H [x]) (hb : Ev tb σ H (.int k)) (h0 : 0 ≤ k) (hz : k ≤ 100000) : EvL (tOp rRep ta tb) σ H (List.replicate k.toNat x) := fun H1 e Q q =>
  ha H1 e _ fun p H2 np e2 hp => hb H2 (e.trans e2) _ fun H3 e3 => ⟨p, k, [x], rfl, rfl, e3 p _ hp, by omega, by omega, sz_of (by rw [List.length_singleton]; omega), fun l hl => q l _ (fresh_back (e2.trans e3) hl) ((e2.trans e3).trans (Ex.new hl)) (by
    rw [upd_same]
    congr 2
    generalize k.toNat = n
    induction n with
    | zero => rfl
    | succ n ih => rw [List.replicate_succ, List.flatten_cons, ih, List.replicate_succ]; rfl)⟩
/-- an item of a new list of ints -/
theorem ev_ixN {ns : List Int} {i : Int} (ha : EvL ta σ H (ns.map V.int)) (hb : ∀ H1, Ex H H1 → Ev tb σ H1 (.int i)) (h0 : 0 ≤ i) (h1 : i < (ns.length : Int)) : Ev (tOp (rIxL K) ta tb) σ H (.int (ns.getD i.toNat 0)) :=
  ev_opL1 ha hb fun p H1 hp _ => rv_ixL (sq_of hp) (by
    obtain ⟨j, rfl⟩ := Int.eq_ofNat_of_zero_le h0
    refine atI_nat ?_
    have hj : j < ns.length := by omega
    rw [List.getElem?_map, List.getElem?_eq_getElem hj, Int.toNat_natCast, List.getD_eq_getElem?_getD, List.getElem?_eq_getElem hj]
    rfl)
/-- an append to a new list that is thrown away -/
theorem s_appN {xs : List V} (h : EvL ta σ H xs) (hv : ∀ H1, Ex H H1 → Ev te σ H1 v) (hz : xs.length < 100000) (k : ∀ H1, Ex H H1 → D.nx σ H1) : tDrop (tBM K "list" rAppend ta (tCons te tNil)) D σ H := h H (Ex.refl H) _ fun p H1 np e1 hp =>
  ⟨Or.inl ⟨rfl, xs, sq_of hp⟩, hv H1 e1 H1 (Ex.refl _) _ fun H2 e2 => ⟨p, xs, v, rfl, rfl, e2 p _ hp, sz_lt hz, k _ (Ex.mut (e1.trans e2) np)⟩⟩
theorem q_appN {xs : List V} (h : EvL ta σ H xs) (hv : ∀ H1, Ex H H1 → Ev te σ H1 v) (hz : xs.length < 100000) (k : ∀ H1, Ex H H1 → tz D σ H1) : tSeq (tDrop (tBM K "list" rAppend ta (tCons te tNil))) tz D σ H := s_appN (D := { D with nx := tz D }) h hv hz k
theorem cut_mem {xs : List V} {lo hi : Option Int} {x : V} (h : x ∈ cutV xs lo hi) : x ∈ xs := List.mem_of_mem_drop (List.mem_of_mem_take h)
theorem int_of_mem {ns : List Int} {x : V} (h : x ∈ ns.map V.int) : ∃ i, x = .int i := by
  obtain ⟨i, _, rfl⟩ := List.mem_map.mp h
  exact ⟨i, rfl⟩

/-! ### a new list of pairs -/
def RetP (K : PySem.W.Frag) (rows : List (Int × Int)) (H : Hp) (Q : VK) : Prop := ∀ p xs H2, H p = none → Ex H H2 → H2 p = some (.lst xs) → Prs K H2 xs rows → Q (.ref p) H2
def EvP (K : PySem.W.Frag) (te : TE) (σ : L2.St) (H : Hp) (rows : List (Int × Int)) : Prop := ∀ H1, Ex H H1 → ∀ Q : VK, (∀ p xs H2, H1 p = none → Ex H1 H2 → H2 p = some (.lst xs) → Prs K H2 xs rows → Q (.ref p) H2) → te σ H1 Q
theorem ep_cal {sp : Sp} {vs : List V} {E : XK} {ta : TA} {rows : List (Int × Int)} (h : EvA ta σ H vs) (hs : ∀ H1, Ex H H1 → ∀ Q : VK, RetP K rows H1 Q → ∀ E : XK, sp vs H1 Q E) : EvP K (tCall sp [] E ta) σ H rows := fun H1 e Q q =>
  h H1 e _ fun H2 e2 => by
    show sp (vs ++ []) H2 Q E
    rw [List.append_nil]
    exact hs H2 (e.trans e2) Q (fun p xs H3 hp e3 h3 p3 => q p xs H3 (fresh_back e2 hp) (e2.trans e3) h3 p3) E
theorem q_asgP {i : Nat} {rows : List (Int × Int)} (h : EvP K te σ H rows) (k : ∀ p xs H1, H p = none → Ex H H1 → H1 p = some (.lst xs) → Prs K H1 xs rows → tz D (σ.set i (some (.ref p))) H1) : tSeq (tAsg te (gName i)) tz D σ H :=
  h H (Ex.refl H) _ fun p xs H1 hp e h1 p1 => k p xs H1 hp e h1 p1
theorem s_appNP {rows : List (Int × Int)} (h : EvP K ta σ H rows) (hv : ∀ H1, Ex H H1 → Ev te σ H1 v) (hz : rows.length < 100000) (k : ∀ H1, Ex H H1 → D.nx σ H1) : tDrop (tBM K "list" rAppend ta (tCons te tNil)) D σ H := h H (Ex.refl H) _ fun p xs H1 np e1 hp pp =>
  ⟨Or.inl ⟨rfl, xs, sq_of hp⟩, hv H1 e1 H1 (Ex.refl _) _ fun H2 e2 => ⟨p, xs, v, rfl, rfl, e2 p _ hp, sz_lt (by rw [Paired.length pp]; exact hz), k _ (Ex.mut (e1.trans e2) np)⟩⟩
theorem q_appNP {rows : List (Int × Int)} (h : EvP K ta σ H rows) (hv : ∀ H1, Ex H H1 → Ev te σ H1 v) (hz : rows.length < 100000) (k : ∀ H1, Ex H H1 → tz D σ H1) : tSeq (tDrop (tBM K "list" rAppend ta (tCons te tNil))) tz D σ H := s_appNP (D := { D with nx := tz D }) h hv hz k

/-! ### isinstance -/
theorem ev_isi {n s : String} {b : Bool} (ha : Ev ta σ H x) (ty : ∀ H1, Ex H H1 → TyX K H1 x (.type s)) (hk : kitB s n = some b) : Ev (tCB (rIsi K) (tCons ta (tCons (tC (.ty n)) tNil))) σ H (.bl b) := fun H1 e Q q =>
  ha H1 e _ fun H2 e2 => ⟨x, .ty n, .type s, .type n, b, rfl, .ty n, ty H2 (e.trans e2), kit_ty hk, q H2 e2⟩
theorem tx_int {i : Int} : ∀ H1, Ex H H1 → TyX K H1 (.int i) (.type "int") := fun _ _ => .base (.int i)
theorem tx_lst {p : Addr} {xs : List V} (h : H p = some (.lst xs)) : ∀ H1, Ex H H1 → TyX K H1 (.ref p) (.type "list") := fun _ e => .base (.lst (e p _ h))
theorem tx_tup {p : Addr} {xs : List V} (h : H p = some (.tup xs)) : ∀ H1, Ex H H1 → TyX K H1 (.ref p) (.type "tuple") := fun _ e => .base (.tup (e p _ h))

/-! ### comprehensions -/
/-- over a list of pairs, its target a pair of names -/
theorem el_lcP {a : Addr} {xs : List V} {rows : List (Int × Int)} {i j : Nat} (f : Int × Int → Bool) (w : Int × Int → V) (h : Ev tl σ H (.ref a)) (hx : SqL K H a xs) (hp : Prs K H xs rows) (hz : rows.length ≤ 40000)
    (hw : ∀ x y, wipe (((wipe σ vs).set i (some x)).set j (some y)) vs = wipe σ vs)
    (ht : ∀ r H1, Ex H H1 → r ∈ rows → EvT t (((wipe σ vs).set i (some (.int r.1))).set j (some (.int r.2))) H1 (f r)) (he : ∀ r H1, Ex H H1 → r ∈ rows → f r = true → Ev te (((wipe σ vs).set i (some (.int r.1))).set j (some (.int r.2))) H1 (w r)) :
    EvL (tLc (iList K tl) (gTup K 2 (gCons (gName i) (gCons (gName j) gNil))) t te vs) σ H ((rows.filter f).map w) := fun H0 e Q q => h H0 e _ fun H1 e1 => ⟨a, rfl, ⟨xs, ex_l (e.trans e1) hx⟩, fun Dl hD =>
  lc_list (xs := xs) (fun n H' => H1 Dl = none ∧ Ex H1 H' ∧ H' Dl = some (.lst (((rows.take n).filter f).map w))) ⟨hD, Ex.new hD, upd_same⟩ (fun n H' _ p => ex_l ((e.trans e1).trans p.2.1) hx) (fun n x H' hn p => by
    obtain ⟨p1, p2, p3⟩ := p
    obtain ⟨r, u, hr, rfl, hu⟩ := prs_get (hp.mono ((e.trans e1).trans p2)) hn
    have hm : r ∈ rows := List.mem_of_getElem? hr
    have hlen : (((rows.take n).filter f).map w).length < 100000 := by
      rw [List.length_map]
      have h1 := List.length_filter_le f (rows.take n)
      rw [List.length_take] at h1
      omega
    refine ⟨u, _, rfl, hu, rfl, .int r.1, [.int r.2], rfl, .int r.2, [], rfl, rfl, hw _ _, ?_⟩
    refine ht r H1 (e.trans e1) hm H' p2 _ fun H3 e3 => ?_
    have et : rows.take (n + 1) = rows.take n ++ [r] := by rw [List.take_add_one, hr]; rfl
    cases hf : f r with
    | true =>
      show te _ H3 _
      refine he r H1 (e.trans e1) hm hf H3 (p2.trans e3) _ fun H4 e4 => ⟨_, e4 Dl _ (e3 Dl _ p3), sz_lt hlen, p1, Ex.mut ((p2.trans e3).trans e4) p1, ?_⟩
      rw [upd_same, et, List.filter_append, List.map_append, List.filter_cons, if_pos hf]
      rfl
    | false =>
      refine ⟨p1, p2.trans e3, ?_⟩
      rw [et, List.filter_append, List.map_append, List.filter_cons, if_neg (by rw [hf]; decide)]
      show _ = some (HO.lst (_ ++ []))
      rw [List.append_nil]
      exact e3 Dl _ p3) (fun H' p => by
    have q1 := p.2.2
    rw [Paired.length hp, List.take_length] at q1
    exact q Dl H' (fresh_back e1 p.1) (e1.trans p.2.1) q1)⟩
/-- over a list of ints -/
theorem el_lcI {a : Addr} {ns : List Int} {j : Nat} (f : Int → Bool) (w : Int → V) (h : Ev tl σ H (.ref a)) (hx : SqL K H a (ns.map V.int)) (hz : ns.length ≤ 40000)
    (hw : ∀ x, wipe ((wipe σ vs).set j (some x)) vs = wipe σ vs)
    (ht : ∀ r H1, Ex H H1 → r ∈ ns → EvT t ((wipe σ vs).set j (some (.int r))) H1 (f r)) (he : ∀ r H1, Ex H H1 → r ∈ ns → f r = true → Ev te ((wipe σ vs).set j (some (.int r))) H1 (w r)) :
    EvL (tLc (iList K tl) (gName j) t te vs) σ H ((ns.filter f).map w) := fun H0 e Q q => h H0 e _ fun H1 e1 => ⟨a, rfl, ⟨_, ex_l (e.trans e1) hx⟩, fun Dl hD =>
  lc_list (xs := ns.map V.int) (fun n H' => H1 Dl = none ∧ Ex H1 H' ∧ H' Dl = some (.lst (((ns.take n).filter f).map w))) ⟨hD, Ex.new hD, upd_same⟩ (fun n H' _ p => ex_l ((e.trans e1).trans p.2.1) hx) (fun n x H' hn p => by
    obtain ⟨p1, p2, p3⟩ := p
    rw [List.getElem?_map] at hn
    obtain ⟨r, hr, rfl⟩ := Option.map_eq_some_iff.mp hn
    have hm : r ∈ ns := List.mem_of_getElem? hr
    have hlen : (((ns.take n).filter f).map w).length < 100000 := by
      rw [List.length_map]
      have h1 := List.length_filter_le f (ns.take n)
      rw [List.length_take] at h1
      omega
    refine ⟨hw _, ?_⟩
    refine ht r H1 (e.trans e1) hm H' p2 _ fun H3 e3 => ?_
    have et : ns.take (n + 1) = ns.take n ++ [r] := by rw [List.take_add_one, hr]; rfl
    cases hf : f r with
    | true =>
      show te _ H3 _
      refine he r H1 (e.trans e1) hm hf H3 (p2.trans e3) _ fun H4 e4 => ⟨_, e4 Dl _ (e3 Dl _ p3), sz_lt hlen, p1, Ex.mut ((p2.trans e3).trans e4) p1, ?_⟩
      rw [upd_same, et, List.filter_append, List.map_append, List.filter_cons, if_pos hf]
      rfl
    | false =>
      refine ⟨p1, p2.trans e3, ?_⟩
      rw [et, List.filter_append, List.map_append, List.filter_cons, if_neg (by rw [hf]; decide)]
      show _ = some (HO.lst (_ ++ []))
      rw [List.append_nil]
      exact e3 Dl _ p3) (fun H' p => by
    have q1 := p.2.2
    rw [List.length_map, List.take_length] at q1
    exact q Dl H' (fresh_back e1 p.1) (e1.trans p.2.1) q1)⟩
theorem et_yes : EvT tYes σ H true := fun H1 _ _ q => q H1 (Ex.refl H1)
theorem ev_gcd {a b : Int} (ha : Ev ta σ H (.int a)) (hb : Ev tb σ H (.int b)) : Ev (tCB rGcd (tCons ta (tCons tb tNil))) σ H (.int ((Nat.gcd a.natAbs b.natAbs : Nat) : Int)) :=
  ev_cb (ea_cons ha (ea_cons hb ea_nil)) fun H1 _ _ q => ⟨a, b, rfl, q H1 (Ex.refl H1)⟩
end
end Kp

/-! Loops over enumerate and reversed; what stands at a place of a list, changed; many new lists at once. -/
namespace Kp
open PySem PySem.Spec PyProof.Rows L2 Evl
section
variable {K : PySem.W.Frag} {σ : L2.St} {H H' : Hp} {ta tb te tl to ti : TE} {t : TT} {x y z v : V} {D : Ends} {tu tz : TS} {vs : List Nat}
/-- for i, x in enumerate(xs) -/
theorem s_forE {a : Addr} {xs : List V} {tl : TA} {j1 j2 : Nat} (h : EvA tl σ H [.ref a]) (hx : SqL K H a xs) (Pv : Nat → L2.St → Hp → Prop) (h0 : ∀ H1, Ex H H1 → Pv 0 σ H1) (hl : ∀ i σ' H', i ≤ xs.length → Pv i σ' H' → SqL K H' a xs)
    (hs : ∀ i x σ' H', xs[i]? = some x → Pv i σ' H' → ∀ H2, Ex H' H2 → tu { D with nx := Pv (i + 1), ct := Pv (i + 1), bk := D.nx } ((σ'.set j1 (some (.int (i : Nat)))).set j2 (some x)) H2) (hd : ∀ σ' H', Pv xs.length σ' H' → D.nx σ' H') :
    tFor (iEnum K tl) (gTup K 2 (gCons (gName j1) (gCons (gName j2) gNil))) tu D σ H :=
  h H (Ex.refl H) _ fun H1 e => ⟨a, xs, rfl, ex_l e hx, fun i m σ' H' => m = xs.length - i ∧ i ≤ xs.length ∧ Pv i σ' H', ⟨xs.length, rfl, Nat.zero_le _, h0 H1 e⟩, fun i m σ' H' hW => by
    obtain ⟨rfl, hi, p⟩ := hW
    have q := hl i σ' H' hi p
    by_cases hlt : i < xs.length
    · refine .inr ⟨⟨xs, xs[i], q, List.getElem?_eq_getElem hlt⟩, Pv (i + 1), fun σ2 H2 p' => ⟨xs.length - (i + 1), by omega, rfl, hlt, p'⟩, fun w H2 hy => ?_⟩
      obtain ⟨T, x, rfl, hT, rfl, fx⟩ := hy
      exact ⟨T, _, rfl, .inl (.inl upd_same), rfl, .int (i : Nat), [x], rfl, x, [], rfl, rfl, hs i x σ' H' (fx xs q) p _ (Ex.new hT)⟩
    · have e : i = xs.length := by omega
      subst e
      exact .inl ⟨⟨xs, q, Nat.le_refl _⟩, hd σ' H' p⟩⟩
theorem q_forE {a : Addr} {xs : List V} {tl : TA} {j1 j2 : Nat} (h : EvA tl σ H [.ref a]) (hx : SqL K H a xs) (Pv : Nat → L2.St → Hp → Prop) (h0 : ∀ H1, Ex H H1 → Pv 0 σ H1) (hl : ∀ i σ' H', i ≤ xs.length → Pv i σ' H' → SqL K H' a xs)
    (hs : ∀ i x σ' H', xs[i]? = some x → Pv i σ' H' → ∀ H2, Ex H' H2 → tu { D with nx := Pv (i + 1), ct := Pv (i + 1), bk := tz D } ((σ'.set j1 (some (.int (i : Nat)))).set j2 (some x)) H2) (hd : ∀ σ' H', Pv xs.length σ' H' → tz D σ' H') :
    tSeq (tFor (iEnum K tl) (gTup K 2 (gCons (gName j1) (gCons (gName j2) gNil))) tu) tz D σ H := s_forE (D := { D with nx := tz D }) h hx Pv h0 hl hs hd
/-- for x in reversed(xs) -/
theorem s_forV {a : Addr} {xs : List V} {tl : TA} {j : Nat} (h : EvA tl σ H [.ref a]) (hx : SqL K H a xs) (Pv : Nat → L2.St → Hp → Prop) (h0 : ∀ H1, Ex H H1 → Pv 0 σ H1) (hl : ∀ i σ' H', i ≤ xs.length → Pv i σ' H' → SqL K H' a xs)
    (hs : ∀ i x σ' H', i < xs.length → xs[xs.length - 1 - i]? = some x → Pv i σ' H' → tu { D with nx := Pv (i + 1), ct := Pv (i + 1), bk := D.nx } (σ'.set j (some x)) H') (hd : ∀ σ' H', Pv xs.length σ' H' → D.nx σ' H') :
    tFor (iRev K tl) (gName j) tu D σ H :=
  h H (Ex.refl H) _ fun H1 e => ⟨a, xs, rfl, ex_l e hx, fun i m σ' H' => m = xs.length - i ∧ i ≤ xs.length ∧ Pv i σ' H', ⟨xs.length, rfl, Nat.zero_le _, h0 H1 e⟩, fun i m σ' H' hW => by
    obtain ⟨rfl, hi, p⟩ := hW
    have q := hl i σ' H' hi p
    by_cases hlt : i < xs.length
    · have hlt2 : xs.length - 1 - i < xs.length := by omega
      refine .inr ⟨⟨hlt, xs, xs[xs.length - 1 - i], q, List.getElem?_eq_getElem hlt2⟩, Pv (i + 1), fun σ2 H2 p' => ⟨xs.length - (i + 1), by omega, rfl, hlt, p'⟩, fun w H2 hy => ?_⟩
      obtain ⟨rfl, fx⟩ := hy
      exact hs i w σ' H2 hlt (fx xs q) p
    · have e : i = xs.length := by omega
      subst e
      exact .inl ⟨Nat.le_refl _, hd σ' H' p⟩⟩
theorem q_forV {a : Addr} {xs : List V} {tl : TA} {j : Nat} (h : EvA tl σ H [.ref a]) (hx : SqL K H a xs) (Pv : Nat → L2.St → Hp → Prop) (h0 : ∀ H1, Ex H H1 → Pv 0 σ H1) (hl : ∀ i σ' H', i ≤ xs.length → Pv i σ' H' → SqL K H' a xs)
    (hs : ∀ i x σ' H', i < xs.length → xs[xs.length - 1 - i]? = some x → Pv i σ' H' → tu { D with nx := Pv (i + 1), ct := Pv (i + 1), bk := tz D } (σ'.set j (some x)) H') (hd : ∀ σ' H', Pv xs.length σ' H' → tz D σ' H') :
    tSeq (tFor (iRev K tl) (gName j) tu) tz D σ H := s_forV (D := { D with nx := tz D }) h hx Pv h0 hl hs hd
/-- o[i] += e, of a list of ints -/
theorem s_augL {l : Addr} {ns : List Int} {j : Nat} {f : Int → Int → Int} {a b : Int} (hl : H l = some (.lst (ns.map V.int))) (ho : Ev to σ H (.ref l)) (hi : Ev ti σ H (.int (j : Nat))) (hj : ns[j]? = some a) (he : Ev te σ H (.int b))
    (k : ∀ H1, Ex H H1 → D.nx σ (upd H1 l (.lst ((ns.set j (f a b)).map V.int)))) : tAugS to ti te (rGetL K) (ipI f) rSetL D σ H := ho H (Ex.refl H) _ fun H1 e1 => hi H1 e1 _ fun H2 e2 =>
  ⟨l, ns.map V.int, j, .int a, rfl, rfl, sq_of ((e1.trans e2) l _ hl), by rw [List.getElem?_map, hj]; rfl, he H2 (e1.trans e2) _ fun H3 e3 => ⟨a, b, rfl, rfl, l, ns.map V.int, (j : Nat), j, rfl, rfl, ((e1.trans e2).trans e3) l _ hl,
    ixN_nat (by rw [List.length_map]; exact (List.getElem?_eq_some_iff.mp hj).1), by
      have q := k H3 ((e1.trans e2).trans e3)
      rw [List.map_set] at q
      exact q⟩⟩
/-- the same with an operator that asks something of its two ints -/
theorem s_augLC {l : Addr} {ns : List Int} {j : Nat} {C : Int → Int → Prop} {f : Int → Int → Int} {a b : Int} (hl : H l = some (.lst (ns.map V.int))) (ho : Ev to σ H (.ref l)) (hi : Ev ti σ H (.int (j : Nat))) (hj : ns[j]? = some a) (he : Ev te σ H (.int b))
    (k : ∀ H1, Ex H H1 → D.nx σ (upd H1 l (.lst ((ns.set j (f a b)).map V.int)))) : tAugS to ti te (rGetL K) (rI0 fun i j => .int (f i j)) rSetL D σ H := s_augL hl ho hi hj he k
/-- o[i] = e, of a list of ints -/
theorem s_setI {l : Addr} {ns : List Int} {j : Nat} {b : Int} (hl : H l = some (.lst (ns.map V.int))) (ho : Ev to σ H (.ref l)) (hi : Ev ti σ H (.int (j : Nat))) (hj : j < ns.length) (he : Ev te σ H (.int b))
    (k : ∀ H1, Ex H H1 → D.nx σ (upd H1 l (.lst ((ns.set j b).map V.int)))) : tAsg te (gSub to ti rSetL) D σ H :=
  s_setL hl he ho hi (by rw [List.length_map]; exact hj) fun H1 e1 => by
    have q := k H1 e1
    rw [List.map_set] at q
    exact q
/-- xs[i], of a list of ints -/
theorem ev_ixI {a : Addr} {ns : List Int} {j : Nat} {b : Int} (hl : SqL K H a (ns.map V.int)) (ho : Ev ta σ H (.ref a)) (hi : Ev tb σ H (.int (j : Nat))) (hj : ns[j]? = some b) : Ev (tOp (rIxL K) ta tb) σ H (.int b) :=
  ev_op ho hi (rv_ixL hl (atI_nat (by rw [List.getElem?_map, hj]; rfl)))
/-- t[i], of a tuple -/
theorem ev_ixT {a : Addr} {xs : List V} {j : Nat} (hl : SqT K H a xs) (ho : Ev ta σ H (.ref a)) (hi : Ev tb σ H (.int (j : Nat))) (hj : xs[j]? = some v) : Ev (tOp (rIxT K) ta tb) σ H v :=
  ev_op ho hi (rv_ixT hl (atI_nat hj))
/-- xs.pop() as a statement -/
theorem s_pop {l : Addr} {xs : List V} {y : V} (hl : H l = some (.lst (xs ++ [y]))) (ha : Ev ta σ H (.ref l)) (k : ∀ H1, Ex H H1 → D.nx σ (upd H1 l (.lst xs))) : tDrop (tBM0 K "list" rPop ta) D σ H := ha H (Ex.refl H) _ fun H1 e1 =>
  ⟨Or.inl ⟨rfl, _, sq_of (e1 l _ hl)⟩, l, xs ++ [y], y, rfl, rfl, e1 l _ hl, by simp, by
    rw [List.dropLast_concat]
    exact k H1 e1⟩

/-! ### many new lists -/
def EvNs (n : Nat) (ta : TA) (σ : L2.St) (H : Hp) : Prop := ∀ H1, Ex H H1 → ∀ Q : List V → Hp → Prop, (∀ (ps : List Addr) H2, ps.length = n → Ex H1 H2 → (∀ p ∈ ps, H1 p = none ∧ ∃ xs, H2 p = some (.lst xs) ∧ xs.length < 50000) → Q (ps.map V.ref) H2) → ta σ H1 Q
theorem en_nil : EvNs 0 tNil σ H := fun H1 _ Q q => q [] H1 rfl (Ex.refl H1) fun _ h => nomatch h
theorem en_cons {tr : TA} {xs : List V} {n : Nat} (h : EvL te σ H xs) (hz : xs.length < 50000) (hr : EvNs n tr σ H) : EvNs (n + 1) (tCons te tr) σ H := fun H1 e Q q =>
  h H1 e _ fun p H2 np e2 hp => hr H2 (e.trans e2) _ fun ps H3 hl e3 hps => q (p :: ps) H3 (by rw [List.length_cons, hl]) (e2.trans e3) fun r hr' => by
    rcases List.mem_cons.mp hr' with rfl | hm
    · exact ⟨np, xs, e3 _ _ hp, hz⟩
    · obtain ⟨n1, n2⟩ := hps r hm
      exact ⟨fresh_back e2 n1, n2⟩
/-- for x in [new, new, ..]: x.append(e) -/
theorem s_forNs {tr : TA} {n j : Nat} {u : V} (h : EvNs n tr σ H) (hn : n ≤ 1000) (hj : j < σ.length) (k : ∀ σ' H1, (∃ x, σ' = σ.set j x) → Ex H H1 → D.nx σ' H1) :
    tFor (iList K (tLst tr)) (gName j) (tDrop (tBM K "list" rAppend (tVar j) (tCons (tC u) tNil))) D σ H :=
  h H (Ex.refl H) _ fun ps H2 hl e2 hps => ⟨sz_of (by rw [List.length_map]; omega), fun L nL => ⟨L, rfl, ⟨_, SqL.of upd_same⟩, for_list (xs := ps.map V.ref)
    (fun i σ' H' => (∃ x, σ' = σ.set j x) ∧ Ex H H' ∧ H' L = some (.lst (ps.map V.ref)) ∧ ∀ p ∈ ps, ∃ xs, H' p = some (.lst xs) ∧ xs.length < 50000 + i)
    ⟨⟨σ[j], (List.set_getElem_self hj).symm⟩, e2.trans (Ex.new nL), upd_same, fun p hp => by
      obtain ⟨xs, q1, q2⟩ := (hps p hp).2
      exact ⟨xs, by rw [upd_ne (ne_of_none q1 nL)]; exact q1, by omega⟩⟩
    (fun i σ' H' _ p => SqL.of p.2.2.1) (fun i x σ' H' hx p => by
      obtain ⟨⟨y, rfl⟩, p2, p3, p4⟩ := p
      rw [List.getElem?_map] at hx
      obtain ⟨r, hr, rfl⟩ := Option.map_eq_some_iff.mp hx
      have hm := List.mem_of_getElem? hr
      have hi : i < ps.length := (List.getElem?_eq_some_iff.mp hr).1
      obtain ⟨xs, q1, q2⟩ := p4 r hm
      have nLr : L ≠ r := fun e => by
        obtain ⟨zs, z1, _⟩ := (hps r hm).2
        rw [← e, nL] at z1
        cases z1
      refine s_app q1 (ev_var (by rw [List.getElem?_set_self (by rw [List.length_set]; exact hj)])) ev_c (by omega) fun H3 e3 => ⟨⟨_, List.set_set ..⟩, Ex.mut (p2.trans e3) (hps r hm).1, ?_, fun p hp => ?_⟩
      · rw [upd_ne nLr]
        exact e3 _ _ p3
      · by_cases e : p = r
        · subst e
          exact ⟨_, upd_same, by rw [List.length_append, List.length_singleton]; omega⟩
        · obtain ⟨ys, z1, z2⟩ := p4 p hp
          exact ⟨ys, by rw [upd_ne e]; exact e3 _ _ z1, by omega⟩) (fun σ' H' p => k σ' H' p.1 p.2.1)⟩⟩
theorem q_forNs {tr : TA} {n j : Nat} {u : V} (h : EvNs n tr σ H) (hn : n ≤ 1000) (hj : j < σ.length) (k : ∀ σ' H1, (∃ x, σ' = σ.set j x) → Ex H H1 → tz D σ' H1) :
    tSeq (tFor (iList K (tLst tr)) (gName j) (tDrop (tBM K "list" rAppend (tVar j) (tCons (tC u) tNil)))) tz D σ H := s_forNs (D := { D with nx := tz D }) h hn hj k
end
end Kp
namespace Kp
open PySem PySem.Spec PyProof.Rows L2 Evl
section
variable {K : PySem.W.Frag} {σ : L2.St} {H H' : Hp} {ta tb te tl to ti : TE} {t : TT} {x y z v : V} {D : Ends} {tu tz : TS} {vs : List Nat}
/-- (a new list, a new list) -/
theorem q_asgT2 {i : Nat} {xs ys : List V} (h1 : EvL ta σ H xs) (h2 : EvL tb σ H ys) (k : ∀ t p q H1, Ex H H1 → H1 t = some (.tup [.ref p, .ref q]) → H1 p = some (.lst xs) → H1 q = some (.lst ys) → tz D (σ.set i (some (.ref t))) H1) :
    tSeq (tAsg (tTup (tCons ta (tCons tb tNil))) (gName i)) tz D σ H :=
  h1 H (Ex.refl H) _ fun p H1 np e1 hp => h2 H1 e1 _ fun q H2 nq e2 hq => ⟨sz_of (show 2 ≤ 100000 by decide), fun t nt =>
    k t p q _ ((e1.trans e2).trans (Ex.new nt)) upd_same (by rw [upd_ne (ne_of_none (e2 _ _ hp) nt)]; exact e2 _ _ hp) (by rw [upd_ne (ne_of_none hq nt)]; exact hq)⟩
/-- a call upon one new list, one value back -/
theorem ev_calL1 {sp : Sp} {xs : List V} {E : XK} (h : EvL ta σ H xs) (hs : ∀ p H1, Ex H H1 → H1 p = some (.lst xs) → ∀ Q : VK, RetV z H1 Q → ∀ E : XK, sp [.ref p] H1 Q E) : Ev (tCall sp [] E (tCons ta tNil)) σ H z := fun H1 e Q q =>
  h H1 e _ fun p H2 np e2 hp => hs p H2 (e.trans e2) hp Q (fun H3 e3 => q H3 (e2.trans e3)) E
/-- a list by its name and a new one, glued -/
theorem el_cat1 {l : Addr} {xs ys : List V} (ha : Ev ta σ H (.ref l)) (hl : H l = some (.lst xs)) (hb : EvL tb σ H ys) (hz : xs.length + ys.length ≤ 100000) : EvL (tOp rCat ta tb) σ H (xs ++ ys) := fun H1 e Q q =>
  ha H1 e _ fun H2 e2 => hb H2 (e.trans e2) _ fun r H3 nr e3 hr => ⟨l, r, xs, ys, rfl, rfl, (e.trans (e2.trans e3)) _ _ hl, hr, sz_of hz, fun l hl => q l _ (fresh_back (e2.trans e3) hl) ((e2.trans e3).trans (Ex.new hl)) upd_same⟩
theorem cut_take (xs : List V) (m : Nat) : cutV xs none (some (m : Int)) = xs.take m := by
  unfold cutV
  rw [HT.sIx_none, HT.sIx_nat, Nat.sub_zero, List.drop_zero]
  by_cases h : m ≤ xs.length
  · rw [Nat.min_eq_left h]
  · rw [Nat.min_eq_right (by omega), List.take_of_length_le (Nat.le_refl _), List.take_of_length_le (by omega)]
theorem map_get {ns : List Int} {i : Nat} {x : V} (h : (ns.map V.int)[i]? = some x) : ∃ a, ns[i]? = some a ∧ x = .int a := by
  rw [List.getElem?_map] at h
  obtain ⟨a, h1, h2⟩ := Option.map_eq_some_iff.mp h
  exact ⟨a, h1, h2.symm⟩
end
end Kp

/-! More of loops, comprehensions and lists. -/
namespace Kp
open PySem PySem.Spec PyProof.Rows L2 Evl
theorem filter_yes {α : Type} (l : List α) : l.filter (fun _ => true) = l := List.filter_eq_self.mpr fun _ _ => rfl
section
variable {K : PySem.W.Frag} {σ : L2.St} {H H' : Hp} {ta tb te tl to ti : TE} {t : TT} {x y z v : V} {D : Ends} {tu tz : TS} {vs : List Nat}
/-- [e for x in range(a, b) if t] -/
theorem el_lcR2 {tg : TA} {j : Nat} {lo hi : Int} (f : Nat → Bool) (w : Nat → V) (h : EvA tg σ H [.int lo, .int hi]) (hb : 0 ≤ lo ∧ lo ≤ 40000 ∧ -40000 ≤ hi ∧ hi ≤ 40000) (hw : ∀ x, wipe ((wipe σ vs).set j (some x)) vs = wipe σ vs)
    (ht : ∀ (i : Nat) H1, Ex H H1 → lo + (i : Int) < hi → EvT t ((wipe σ vs).set j (some (.int (lo + (i : Int))))) H1 (f i)) (he : ∀ (i : Nat) H1, Ex H H1 → lo + (i : Int) < hi → f i = true → Ev te ((wipe σ vs).set j (some (.int (lo + (i : Int))))) H1 (w i)) :
    EvL (tLc (iRng2 tg) (gName j) t te vs) σ H (((List.range (hi - lo).toNat).filter f).map w) := fun H0 e Q q => h H0 e _ fun H1 e1 => ⟨lo, hi, rfl, ⟨by omega, by omega, by omega, by omega⟩, fun Dl hD =>
  lc_range (lo := lo) (n := (hi - lo).toNat) (Cw H1 f w Dl) ⟨hD, Ex.new hD, upd_same⟩ (fun i H' hi p => ⟨hw _, cw_turn p (by omega) (ht i H1 (e.trans e1) (by omega)) (fun hf => he i H1 (e.trans e1) (by omega) hf)⟩) (fun H' p => q Dl H' (fresh_back e1 p.1) (e1.trans p.2.1) p.2.2)⟩
/-- [e for x in reversed(xs) if t], xs ints -/
theorem el_lcV {tg : TA} {a : Addr} {ns : List Int} {j : Nat} (f : Int → Bool) (w : Int → V) (h : EvA tg σ H [.ref a]) (hx : SqL K H a (ns.map V.int)) (hz : ns.length ≤ 40000)
    (hw : ∀ x, wipe ((wipe σ vs).set j (some x)) vs = wipe σ vs)
    (ht : ∀ r H1, Ex H H1 → r ∈ ns → EvT t ((wipe σ vs).set j (some (.int r))) H1 (f r)) (he : ∀ r H1, Ex H H1 → r ∈ ns → f r = true → Ev te ((wipe σ vs).set j (some (.int r))) H1 (w r)) :
    EvL (tLc (iRev K tg) (gName j) t te vs) σ H ((ns.reverse.filter f).map w) := fun H0 e Q q => h H0 e _ fun H1 e1 => ⟨a, _, rfl, ex_l (e.trans e1) hx, fun Dl hD =>
  ⟨fun n m H' => m = ns.length - n ∧ n ≤ ns.length ∧ H1 Dl = none ∧ Ex H1 H' ∧ H' Dl = some (.lst (((ns.reverse.take n).filter f).map w)), ⟨ns.length, rfl, Nat.zero_le _, hD, Ex.new hD, upd_same⟩, fun n m H' hW => by
    obtain ⟨rfl, hn, p1, p2, p3⟩ := hW
    by_cases hlt : n < ns.length
    · have hlt2 : ns.length - 1 - n < ns.length := by omega
      have hlm : (ns.map V.int).length = ns.length := List.length_map _
      refine .inr ⟨⟨by rw [hlm]; exact hlt, ns.map V.int, _, ex_l ((e.trans e1).trans p2) hx, List.getElem?_eq_getElem (by rw [hlm]; omega)⟩, fun H2 => n + 1 ≤ ns.length ∧ H1 Dl = none ∧ Ex H1 H2 ∧ H2 Dl = some (.lst (((ns.reverse.take (n + 1)).filter f).map w)), fun H2 ⟨q1, q2, q3, q4⟩ => ⟨ns.length - (n + 1), by omega, rfl, q1, q2, q3, q4⟩, fun x H2 hy => ?_⟩
      obtain ⟨rfl, fx⟩ := hy
      have gx := fx _ (ex_l ((e.trans e1).trans p2) hx)
      rw [hlm] at gx
      rw [List.getElem?_map] at gx
      obtain ⟨r, hr, rfl⟩ := Option.map_eq_some_iff.mp gx
      have hm : r ∈ ns := List.mem_of_getElem? hr
      have hlen : (((ns.reverse.take n).filter f).map w).length < 100000 := by
        rw [List.length_map]
        have h1 := List.length_filter_le f (ns.reverse.take n)
        rw [List.length_take, List.length_reverse] at h1
        omega
      have et : ns.reverse.take (n + 1) = ns.reverse.take n ++ [r] := by
        rw [List.take_add_one, List.getElem?_reverse hlt, hr]
        rfl
      refine ⟨hw _, ?_⟩
      refine ht r H1 (e.trans e1) hm H2 p2 _ fun H3 e3 => ?_
      cases hf : f r with
      | true =>
        show te _ H3 _
        refine he r H1 (e.trans e1) hm hf H3 (p2.trans e3) _ fun H4 e4 => ⟨_, e4 Dl _ (e3 Dl _ p3), sz_lt hlen, hlt, p1, Ex.mut ((p2.trans e3).trans e4) p1, ?_⟩
        rw [upd_same, et, List.filter_append, List.map_append, List.filter_cons, if_pos hf]
        rfl
      | false =>
        refine ⟨hlt, p1, p2.trans e3, ?_⟩
        rw [et, List.filter_append, List.map_append, List.filter_cons, if_neg (by rw [hf]; decide)]
        show _ = some (HO.lst (_ ++ []))
        rw [List.append_nil]
        exact e3 Dl _ p3
    · have en : n = ns.length := by omega
      subst en
      rw [List.take_of_length_le (by rw [List.length_reverse]; exact Nat.le_refl _)] at p3
      exact .inl ⟨by show (ns.map V.int).length ≤ _; rw [List.length_map]; exact Nat.le_refl _, q Dl H' (fresh_back e1 p1) (e1.trans p2) p3⟩⟩⟩
/-- two lists by their names, glued -/
theorem el_cat2 {l b : Addr} {xs ys : List V} (ha : Ev ta σ H (.ref l)) (hl : H l = some (.lst xs)) (hb : Ev tb σ H (.ref b)) (hlb : H b = some (.lst ys)) (hz : xs.length + ys.length ≤ 100000) : EvL (tOp rCat ta tb) σ H (xs ++ ys) := fun H1 e Q q =>
  ha H1 e _ fun H2 e2 => hb H2 (e.trans e2) _ fun H3 e3 => ⟨l, b, xs, ys, rfl, rfl, (e.trans (e2.trans e3)) _ _ hl, (e.trans (e2.trans e3)) _ _ hlb, sz_of hz, fun l hl => q l _ (fresh_back (e2.trans e3) hl) ((e2.trans e3).trans (Ex.new hl)) upd_same⟩
/-- for i, x in enumerate(a new list) -/
theorem s_forEN {xs : List V} {j1 j2 : Nat} (h : EvL te σ H xs) (Pv : Addr → Nat → L2.St → Hp → Prop) (h0 : ∀ a H1, H a = none → Ex H H1 → H1 a = some (.lst xs) → Pv a 0 σ H1) (hl : ∀ a i σ' H', i ≤ xs.length → Pv a i σ' H' → SqL K H' a xs)
    (hs : ∀ a i x σ' H', xs[i]? = some x → Pv a i σ' H' → ∀ H2, Ex H' H2 → tu { D with nx := Pv a (i + 1), ct := Pv a (i + 1), bk := D.nx } ((σ'.set j1 (some (.int (i : Nat)))).set j2 (some x)) H2) (hd : ∀ a σ' H', Pv a xs.length σ' H' → D.nx σ' H') :
    tFor (iEnum K (tCons te tNil)) (gTup K 2 (gCons (gName j1) (gCons (gName j2) gNil))) tu D σ H :=
  h H (Ex.refl H) _ fun a H1 na e ha => ⟨a, xs, rfl, sq_of ha, fun i m σ' H' => m = xs.length - i ∧ i ≤ xs.length ∧ Pv a i σ' H', ⟨xs.length, rfl, Nat.zero_le _, h0 a H1 na e ha⟩, fun i m σ' H' hW => by
    obtain ⟨rfl, hi, p⟩ := hW
    have q := hl a i σ' H' hi p
    by_cases hlt : i < xs.length
    · refine .inr ⟨⟨xs, xs[i], q, List.getElem?_eq_getElem hlt⟩, Pv a (i + 1), fun σ2 H2 p' => ⟨xs.length - (i + 1), by omega, rfl, hlt, p'⟩, fun w H2 hy => ?_⟩
      obtain ⟨T, x, rfl, hT, rfl, fx⟩ := hy
      exact ⟨T, _, rfl, .inl (.inl upd_same), rfl, .int (i : Nat), [x], rfl, x, [], rfl, rfl, hs a i x σ' H' (fx xs q) p _ (Ex.new hT)⟩
    · have e : i = xs.length := by omega
      subst e
      exact .inl ⟨⟨xs, q, Nat.le_refl _⟩, hd a σ' H' p⟩⟩
theorem q_forEN {xs : List V} {j1 j2 : Nat} (h : EvL te σ H xs) (Pv : Addr → Nat → L2.St → Hp → Prop) (h0 : ∀ a H1, H a = none → Ex H H1 → H1 a = some (.lst xs) → Pv a 0 σ H1) (hl : ∀ a i σ' H', i ≤ xs.length → Pv a i σ' H' → SqL K H' a xs)
    (hs : ∀ a i x σ' H', xs[i]? = some x → Pv a i σ' H' → ∀ H2, Ex H' H2 → tu { D with nx := Pv a (i + 1), ct := Pv a (i + 1), bk := tz D } ((σ'.set j1 (some (.int (i : Nat)))).set j2 (some x)) H2) (hd : ∀ a σ' H', Pv a xs.length σ' H' → tz D σ' H') :
    tSeq (tFor (iEnum K (tCons te tNil)) (gTup K 2 (gCons (gName j1) (gCons (gName j2) gNil))) tu) tz D σ H := s_forEN (D := { D with nx := tz D }) h Pv h0 hl hs hd
/-- for a, b in a new list of pairs -/
theorem q_forP {rows : List (Int × Int)} {j1 j2 : Nat} (h : EvP K te σ H rows) (Pv : Hp → Nat → L2.St → Hp → Prop) (h0 : ∀ H1, Ex H H1 → Pv H1 0 σ H1) (hl : ∀ H1 i σ' H', Pv H1 i σ' H' → Ex H1 H')
    (hs : ∀ H1 i r σ' H', Ex H H1 → rows[i]? = some r → Pv H1 i σ' H' → tu { D with nx := Pv H1 (i + 1), ct := Pv H1 (i + 1), bk := tz D } ((σ'.set j1 (some (.int r.1))).set j2 (some (.int r.2))) H') (hd : ∀ H1 σ' H', Ex H H1 → Pv H1 rows.length σ' H' → tz D σ' H') :
    tSeq (tFor (iList K te) (gTup K 2 (gCons (gName j1) (gCons (gName j2) gNil))) tu) tz D σ H :=
  h H (Ex.refl H) _ fun p xs H1 np e hp pr => ⟨p, rfl, ⟨xs, sq_of hp⟩, for_list (xs := xs) (Pv H1) (h0 H1 e) (fun i σ' H' _ q => sq_of (hl _ _ _ _ q _ _ hp)) (fun i x σ' H' hx q => by
    obtain ⟨r, t, hr, rfl, ht⟩ := prs_get (pr.mono (hl _ _ _ _ q)) hx
    exact ⟨t, _, rfl, ht, rfl, .int r.1, [.int r.2], rfl, .int r.2, [], rfl, rfl, hs H1 i r σ' H' e hr q⟩) (fun σ' H' q => by
    rw [Paired.length pr] at q
    exact hd H1 σ' H' e q)⟩
/-- a list by its name, beside a new list of pairs -/
theorem ev_opLP {r : R2} {rows : List (Int × Int)} (ha : Ev ta σ H x) (hb : EvP K tb σ H rows) (hr : ∀ p xs H1, H1 p = some (.lst xs) → Prs K H1 xs rows → Ex H H1 → RV r x (.ref p) H1 z) : Ev (tOp r ta tb) σ H z := fun H1 e Q q =>
  ha H1 e _ fun H2 e2 => hb H2 (e.trans e2) _ fun p xs H3 np e3 hp pr => hr p xs H3 hp pr ((e.trans e2).trans e3) H3 (Ex.refl H3) Q fun H4 e4 => q H4 ((e2.trans e3).trans e4)
theorem inV_int (x : Int) : ∀ ns : List Int, inV (.int x) (ns.map V.int) = decide (x ∈ ns)
  | [] => rfl
  | n :: ns => by
    have ih := inV_int x ns
    show ((n == x) || inV (.int x) (ns.map V.int)) = _
    rw [ih, Bool.eq_iff_iff, Bool.or_eq_true, beq_iff_eq, decide_eq_true_iff, decide_eq_true_iff, List.mem_cons]
    constructor
    · rintro (h | h)
      · exact .inl h.symm
      · exact .inr h
    · rintro (h | h)
      · exact .inl h.symm
      · exact .inr h
theorem flat_ints : ∀ ns : List Int, (ns.map V.int).all flatV = true
  | [] => rfl
  | n :: ns => by
    rw [List.map_cons, List.all_cons, flat_ints ns]
    rfl
theorem ev_notIn {a : Addr} {x : Int} {ns : List Int} (ha : Ev ta σ H (.int x)) (hb : Ev tb σ H (.ref a)) (hl : SqL K H a (ns.map V.int)) : Ev (tOp (rIn K true) ta tb) σ H (.bl (!decide (x ∈ ns))) := by
  have := rv_niL (K := K) (x := .int x) hl rfl (flat_ints ns)
  rw [inV_int] at this
  exact ev_op ha hb this
/-- sorted(xs), ints -/
theorem el_sorted {a : Addr} {ns ms : List Int} (ha : Ev ta σ H (.ref a)) (hl : SqL K H a (ns.map V.int)) (hu : ∀ ns' : List Int, ns'.Perm ns → ns'.Pairwise (· ≤ ·) → ns' = ms) : EvL (tCB (rSortedI K) (tCons ta tNil)) σ H (ms.map V.int) := fun H1 e Q q =>
  ha H1 e _ fun H2 e2 => ⟨a, ns, rfl, ex_l (e.trans e2) hl, fun ns' p hp hs np => by
    rw [hu ns' hp hs]
    exact q p _ (fresh_back e2 np) (e2.trans (Ex.new np)) upd_same⟩
/-- list(t), t a tuple -/
theorem el_listT {p : Addr} {xs : List V} (ha : Ev ta σ H (.ref p)) (h : SqT K H p xs) : EvL (tCB (rListS K) (tCons ta tNil)) σ H xs := fun H1 e Q q =>
  ha H1 e _ fun H2 e2 => ⟨p, xs, rfl, Or.inr (ex_t (e.trans e2) h), fun l hl => q l _ (fresh_back e2 hl) (e2.trans (Ex.new hl)) upd_same⟩
theorem ev_int1b {b : Bool} (ha : Ev ta σ H (.bl b)) : Ev (tCB (fun xs H Q => (∃ i, xs = [.int i] ∧ Q (.int i) H) ∨ ∃ k, xs = [.bl k] ∧ Q (.int (if k then 1 else 0)) H) (tCons ta tNil)) σ H (.int (if b then 1 else 0)) := fun H1 e Q q =>
  ha H1 e _ fun H2 e2 => .inr ⟨b, rfl, q H2 e2⟩
theorem ev_isqrt {n : Nat} (ha : Ev ta σ H (.int (n : Nat))) (hn : n < 2 ^ 64) : Ev (tCB rIsqrt (tCons ta tNil)) σ H (.int ((Float64.isqrt n : Nat) : Int)) := fun H1 e Q q =>
  ha H1 e _ fun H2 e2 => ⟨(n : Nat), rfl, by omega, by omega, by rw [Int.toNat_natCast]; exact q H2 e2⟩
theorem tx_sqt {p : Addr} {xs : List V} (h : SqT K H p xs) : ∀ H1, Ex H H1 → TyX K H1 (.ref p) (.type "tuple") := fun H1 e => by
  rcases ex_t e h with (h | ⟨o, h⟩) | h
  · exact .base (.tup h)
  · exact .fTuple h
  · obtain ⟨o, its, n, h1, h2, _⟩ := h
    exact .kTuple h1 h2
end
end Kp

/-! Polynomials as lists: the number of each power, noughts cut off at the end, products, other powers of x, values. -/
namespace Kp
/-- the number of the m-th power -/
def coef (l : List Int) (m : Nat) : Int := l.getD m 0
theorem coef_lt {l : List Int} {m : Nat} (h : m < l.length) : coef l m = l[m] := by
  unfold coef
  rw [List.getD_eq_getElem?_getD, List.getElem?_eq_getElem h]
  rfl
theorem coef_ge {l : List Int} {m : Nat} (h : l.length ≤ m) : coef l m = 0 := by
  unfold coef
  rw [List.getD_eq_getElem?_getD, List.getElem?_eq_none h]
  rfl
theorem coef_get {l : List Int} {m : Nat} (h : m < l.length) : l[m]? = some (coef l m) := by
  rw [coef_lt h, List.getElem?_eq_getElem h]
theorem coef_of {l : List Int} {m : Nat} {x : Int} (h : l[m]? = some x) : coef l m = x := by
  unfold coef
  rw [List.getD_eq_getElem?_getD, h]
  rfl
theorem coef_nil (m : Nat) : coef [] m = 0 := coef_ge (Nat.zero_le _)
theorem ext_of {a b : List Int} (hl : a.length = b.length) (h : ∀ m, m < a.length → coef a m = coef b m) : a = b := by
  refine List.ext_getElem hl fun i h1 h2 => ?_
  have := h i h1
  rwa [coef_lt h1, coef_lt h2] at this
theorem coef_set {l : List Int} {j m : Nat} {x : Int} (hj : j < l.length) : coef (l.set j x) m = if m = j then x else coef l m := by
  unfold coef
  rw [List.getD_eq_getElem?_getD, List.getD_eq_getElem?_getD, List.getElem?_set]
  by_cases e : j = m
  · subst e
    rw [if_pos rfl, if_pos hj, if_pos rfl]
    rfl
  · rw [if_neg e, if_neg (fun q => e q.symm)]
theorem coef_app {a b : List Int} {m : Nat} : coef (a ++ b) m = if m < a.length then coef a m else coef b (m - a.length) := by
  unfold coef
  rw [List.getD_eq_getElem?_getD, List.getElem?_append]
  split <;> rw [List.getD_eq_getElem?_getD]
theorem coef_rep {n m : Nat} : coef (List.replicate n 0) m = 0 := by
  by_cases h : m < n
  · rw [coef_lt (by rw [List.length_replicate]; exact h), List.getElem_replicate]
  · exact coef_ge (by rw [List.length_replicate]; omega)
theorem coef_take {l : List Int} {n m : Nat} : coef (l.take n) m = if m < n then coef l m else 0 := by
  unfold coef
  rw [List.getD_eq_getElem?_getD, List.getElem?_take]
  split
  · rw [List.getD_eq_getElem?_getD]
  · rfl
def mkL (n : Nat) (h : Nat → Int) : List Int := (List.range n).map h
theorem mkL_len (n : Nat) (h : Nat → Int) : (mkL n h).length = n := by
  unfold mkL
  rw [List.length_map, List.length_range]
theorem coef_mkL {n m : Nat} {h : Nat → Int} : coef (mkL n h) m = if m < n then h m else 0 := by
  split
  · rename_i q
    rw [coef_lt (by rw [mkL_len]; exact q)]
    unfold mkL
    rw [List.getElem_map, List.getElem_range]
  · rename_i q
    exact coef_ge (by rw [mkL_len]; omega)
theorem mkL_of {l : List Int} {n : Nat} {h : Nat → Int} (hl : l.length = n) (e : ∀ m, m < n → coef l m = h m) : l = mkL n h := by
  refine ext_of (by rw [mkL_len, hl]) fun m hm => ?_
  rw [hl] at hm
  rw [e m hm, coef_mkL, if_pos hm]

/-! ### without a nought at the end -/
def Tr (l : List Int) : Prop := l ≠ [] → coef l (l.length - 1) ≠ 0
theorem Tr.nil : Tr [] := fun h => absurd rfl h
theorem tr_uniq {a b : List Int} (ha : Tr a) (hb : Tr b) (h : ∀ m, coef a m = coef b m) : a = b := by
  have key : ∀ {a b : List Int}, Tr b → (∀ m, coef a m = coef b m) → ¬ a.length < b.length := fun {a b} hb h q => by
    refine hb (fun e => by rw [e] at q; exact absurd q (Nat.not_lt_zero _)) ?_
    rw [← h]
    exact coef_ge (by omega)
  have h1 := key hb h
  have h2 := key ha (fun m => (h m).symm)
  exact ext_of (by omega) fun m _ => h m
/-- how many of the first n numbers stay -/
def tlen (l : List Int) : Nat → Nat
  | 0 => 0
  | n + 1 => if coef l n = 0 then tlen l n else n + 1
def trim (l : List Int) : List Int := l.take (tlen l l.length)
theorem tlen_le (l : List Int) : ∀ n, tlen l n ≤ n
  | 0 => Nat.le_refl _
  | n + 1 => by
    unfold tlen
    have := tlen_le l n
    split <;> omega
theorem tlen_zero (l : List Int) : ∀ n m, tlen l n ≤ m → m < n → coef l m = 0
  | 0, m, _, h => absurd h (Nat.not_lt_zero _)
  | n + 1, m, h1, h2 => by
    unfold tlen at h1
    split at h1
    · rename_i q
      by_cases e : m = n
      · rw [e]; exact q
      · exact tlen_zero l n m h1 (by omega)
    · omega
theorem tlen_last (l : List Int) : ∀ n, tlen l n ≠ 0 → coef l (tlen l n - 1) ≠ 0
  | 0, h => absurd rfl h
  | n + 1, h => by
    unfold tlen at h ⊢
    split
    · rename_i q
      rw [if_pos q] at h
      exact tlen_last l n h
    · rename_i q
      rw [Nat.add_sub_cancel]
      exact q
theorem trim_len (l : List Int) : (trim l).length = tlen l l.length := by
  unfold trim
  rw [List.length_take]
  have := tlen_le l l.length
  omega
theorem coef_trim (l : List Int) (m : Nat) : coef (trim l) m = coef l m := by
  unfold trim
  rw [coef_take]
  split
  · rfl
  · rename_i h
    by_cases q : m < l.length
    · exact (tlen_zero l _ m (by omega) q).symm
    · exact (coef_ge (by omega)).symm
theorem tr_trim (l : List Int) : Tr (trim l) := fun h => by
  have e := trim_len l
  have n0 : tlen l l.length ≠ 0 := fun q => h (List.eq_nil_of_length_eq_zero (by omega))
  rw [coef_trim, e]
  exact tlen_last l _ n0
theorem trim_of_tr {l : List Int} (h : Tr l) : trim l = l := tr_uniq (tr_trim l) h (coef_trim l)
theorem trim_ext {a b : List Int} (h : ∀ m, coef a m = coef b m) : trim a = trim b := tr_uniq (tr_trim a) (tr_trim b) fun m => by rw [coef_trim, coef_trim, h]
theorem trim_eq {a b : List Int} (hb : Tr b) (h : ∀ m, coef a m = coef b m) : trim a = b := tr_uniq (tr_trim a) hb fun m => by rw [coef_trim, h]

/-! ### sums -/
def addL (c : Int) (f g : List Int) : List Int := mkL (max f.length g.length) fun m => coef f m + c * coef g m
theorem coef_addL (c : Int) (f g : List Int) (m : Nat) : coef (addL c f g) m = coef f m + c * coef g m := by
  unfold addL
  rw [coef_mkL]
  split
  · rfl
  · rename_i h
    rw [coef_ge (show f.length ≤ m by omega), coef_ge (show g.length ≤ m by omega)]
    simp
def addP (c : Int) (f g : List Int) : List Int := trim (addL c f g)
theorem coef_addP (c : Int) (f g : List Int) (m : Nat) : coef (addP c f g) m = coef f m + c * coef g m := by
  unfold addP
  rw [coef_trim, coef_addL]
theorem coef_neg (g : List Int) (m : Nat) : coef (g.map fun x => -x) m = -coef g m := by
  by_cases h : m < g.length
  · rw [coef_lt (by rw [List.length_map]; exact h), coef_lt h, List.getElem_map]
  · rw [coef_ge (by rw [List.length_map]; omega), coef_ge (by omega)]
    rfl
theorem addP_neg (f g : List Int) : addP 1 f (g.map fun x => -x) = addP (0 - 1) f g := trim_ext fun m => by
  rw [coef_addL, coef_addL, coef_neg]
  omega

/-! ### products -/
/-- the number of the m-th power in the product of the first i numbers of f, and g -/
def cv (f g : List Int) : Nat → Nat → Int
  | 0, _ => 0
  | i + 1, m => cv f g i m + if i ≤ m then coef f i * coef g (m - i) else 0
theorem cv_far (f g : List Int) (m : Nat) : ∀ i, i + g.length ≤ m + 1 → cv f g i m = 0
  | 0, _ => rfl
  | i + 1, h => by
    unfold cv
    rw [cv_far f g m i (by omega), if_pos (by omega), coef_ge (show g.length ≤ m - i by omega)]
    simp
theorem cv_last {f g : List Int} (hf : f ≠ []) (hg : g ≠ []) : cv f g f.length (f.length + g.length - 2) = coef f (f.length - 1) * coef g (g.length - 1) := by
  have l1 := List.length_pos_iff.mpr hf
  have l2 := List.length_pos_iff.mpr hg
  obtain ⟨n, e⟩ : ∃ n, f.length = n + 1 := ⟨f.length - 1, by omega⟩
  rw [e]
  unfold cv
  rw [cv_far f g _ n (by omega), if_pos (by omega), Nat.add_sub_cancel, show n + 1 + g.length - 2 - n = g.length - 1 by omega]
  simp
/-- as the program multiplies, as the law does -/
def mulP (f g : List Int) : List Int := if f = [] ∨ g = [] then [] else mkL (f.length + g.length - 1) (cv f g f.length)
def mulL (f g : List Int) : List Int := trim (mkL (f.length + g.length) (cv f g f.length))
theorem coef_mulP (f g : List Int) (m : Nat) : coef (mulP f g) m = cv f g f.length m := by
  unfold mulP
  split
  · rename_i h
    rw [coef_nil]
    rcases h with h | h
    · rw [h]
      rfl
    · subst h
      symm
      have : ∀ i, cv f [] i m = 0 := fun i => by
        induction i with
        | zero => rfl
        | succ i ih =>
          unfold cv
          rw [ih, coef_nil]
          simp
      exact this _
  · rename_i h
    rw [coef_mkL]
    split
    · rfl
    · rename_i q
      exact (cv_far f g m _ (by omega)).symm
theorem coef_mulL (f g : List Int) (m : Nat) : coef (mulL f g) m = cv f g f.length m := by
  unfold mulL
  rw [coef_trim, coef_mkL]
  split
  · rfl
  · rename_i q
    exact (cv_far f g m _ (by omega)).symm
theorem tr_mulP {f g : List Int} (hf : Tr f) (hg : Tr g) : Tr (mulP f g) := by
  intro h
  unfold mulP at h ⊢
  split
  · rename_i q
    rw [if_pos q] at h
    exact absurd rfl h
  · rename_i q
    have q1 : f ≠ [] := fun e => q (.inl e)
    have q2 : g ≠ [] := fun e => q (.inr e)
    have l1 := List.length_pos_iff.mpr q1
    have l2 := List.length_pos_iff.mpr q2
    rw [mkL_len, coef_mkL, if_pos (by omega), show f.length + g.length - 1 - 1 = f.length + g.length - 2 by omega, cv_last q1 q2]
    exact Int.mul_ne_zero (hf q1) (hg q2)
theorem mul_eq {f g : List Int} (hf : Tr f) (hg : Tr g) : mulL f g = mulP f g := by
  unfold mulL
  refine trim_eq (tr_mulP hf hg) fun m => ?_
  rw [coef_mulP, ← coef_mulL]
  unfold mulL
  rw [coef_trim]

/-! ### at a power -/
def pw (f : List Int) (k m : Nat) : Int := if m % k = 0 then coef f (m / k) else 0
def atP (f : List Int) (k : Nat) : List Int := if f = [] then [] else mkL ((f.length - 1) * k + 1) (pw f k)
def wideL (k : Nat) : List Int → List Int
  | [] => []
  | x :: f => x :: List.replicate (k - 1) 0 ++ wideL k f
theorem pw_far {f : List Int} {k m : Nat} (hk : 1 ≤ k) (h : (f.length - 1) * k < m) : pw f k m = 0 := by
  unfold pw
  split
  · rename_i q
    refine coef_ge (Nat.le_of_not_lt fun r => ?_)
    have e := Nat.div_add_mod m k
    rw [q, Nat.add_zero] at e
    have : k * (m / k) ≤ k * (f.length - 1) := Nat.mul_le_mul_left k (by omega)
    rw [e, Nat.mul_comm] at this
    omega
  · rfl
theorem coef_atP {f : List Int} {k : Nat} (hk : 1 ≤ k) (m : Nat) : coef (atP f k) m = pw f k m := by
  unfold atP
  split
  · rename_i h
    subst h
    rw [coef_nil]
    unfold pw
    rw [coef_nil]
    split <;> rfl
  · rw [coef_mkL]
    split
    · rfl
    · exact (pw_far hk (by omega)).symm
theorem tr_atP {f : List Int} {k : Nat} (hk : 1 ≤ k) (hf : Tr f) : Tr (atP f k) := by
  intro h
  unfold atP at h ⊢
  split
  · rename_i q
    rw [if_pos q] at h
    exact absurd rfl h
  · rename_i q
    rw [mkL_len, Nat.add_sub_cancel, coef_mkL, if_pos (by omega)]
    unfold pw
    rw [Nat.mul_mod_left, if_pos rfl, Nat.mul_div_cancel _ (by omega)]
    exact hf q
theorem coef_wide {k : Nat} (hk : 1 ≤ k) : ∀ (f : List Int) (m : Nat), coef (wideL k f) m = pw f k m
  | [], m => by
    unfold pw
    rw [coef_nil]
    show coef [] m = _
    rw [coef_nil]
    split <;> rfl
  | x :: f, m => by
    have hl : (x :: List.replicate (k - 1) (0 : Int)).length = k := by
      rw [List.length_cons, List.length_replicate]
      omega
    show coef ((x :: List.replicate (k - 1) 0) ++ wideL k f) m = _
    rw [coef_app, hl]
    split
    · rename_i h
      unfold pw
      cases m with
      | zero =>
        rw [Nat.zero_mod, if_pos rfl, Nat.zero_div]
        rfl
      | succ m =>
        rw [Nat.mod_eq_of_lt h, if_neg (by omega)]
        show coef (List.replicate (k - 1) 0) m = 0
        exact coef_rep
    · rename_i h
      rw [coef_wide hk f (m - k)]
      unfold pw
      obtain ⟨d, rfl⟩ : ∃ d, m = k + d := ⟨m - k, by omega⟩
      rw [Nat.add_sub_cancel_left, Nat.add_mod_left, Nat.add_div_left _ (by omega)]
      rfl
theorem wide_eq {f : List Int} {k : Nat} (hk : 1 ≤ k) (hf : Tr f) : trim (wideL k f) = atP f k := trim_eq (tr_atP hk hf) fun m => by rw [coef_wide hk, coef_atP hk]
theorem wide_snoc (k : Nat) : ∀ (f : List Int) (x : Int), wideL k (f ++ [x]) = wideL k f ++ (x :: List.replicate (k - 1) 0)
  | [], x => by
    show x :: List.replicate (k - 1) 0 ++ [] = [] ++ _
    rw [List.append_nil, List.nil_append]
  | y :: f, x => by
    show y :: List.replicate (k - 1) 0 ++ wideL k (f ++ [x]) = (y :: List.replicate (k - 1) 0 ++ wideL k f) ++ _
    rw [wide_snoc k f x, List.append_assoc]
theorem wide_len {k : Nat} (hk : 1 ≤ k) : ∀ f : List Int, (wideL k f).length = f.length * k
  | [] => by
    show 0 = 0 * k
    omega
  | x :: f => by
    show (x :: List.replicate (k - 1) 0 ++ wideL k f).length = (f.length + 1) * k
    rw [List.length_append, List.length_cons, List.length_replicate, wide_len hk f, Nat.add_mul]
    omega

/-! ### values -/
def valP (x : Int) : List Int → Int
  | [] => 0
  | a :: f => a + x * valP x f
theorem val_drop {x : Int} {f : List Int} {i : Nat} {a : Int} (h : f[i]? = some a) : valP x (f.drop i) = a + x * valP x (f.drop (i + 1)) := by
  have hi := (List.getElem?_eq_some_iff.mp h).1
  rw [List.drop_eq_getElem_cons hi]
  have e : f[i] = a := (List.getElem?_eq_some_iff.mp h).2
  rw [e]
  rfl
end Kp

/-! Whole numbers: the whole root, primes, how a number is parted, its divisors. -/
namespace Kp
theorem sq_nn (a : Int) : 0 ≤ a * a := by
  rcases Int.le_total 0 a with h | h
  · exact Int.mul_nonneg h h
  · have := Int.mul_nonneg (show 0 ≤ -a by omega) (show 0 ≤ -a by omega)
    rwa [Int.neg_mul_neg] at this
theorem sq_sub (a b : Int) : (a - b) * (a - b) = a * a - 2 * (a * b) + b * b := by
  rw [Int.sub_mul, Int.mul_sub, Int.mul_sub, Int.mul_comm b a]
  omega
theorem sq_add (a b : Int) : (a + b) * (a + b) = a * a + 2 * (a * b) + b * b := by
  rw [Int.add_mul, Int.mul_add, Int.mul_add, Int.mul_comm b a]
  omega
theorem sq_lt {a b : Int} (ha : 0 ≤ a) (hb : 0 ≤ b) (h : a * a < b * b) : a < b := by
  refine Int.lt_of_not_ge fun q => ?_
  have := Int.mul_le_mul q q hb ha
  omega
/-- the whole root by one step from a whole root of a part -/
theorem newton {n x e : Int} (hx : 0 < x) (he : 1 ≤ e) (h1 : n < x * x) (h2 : (x - e) * (x - e) ≤ n) (h0 : e ≤ x) (h3 : (e * e) * (e * e) ≤ 2 * n) (hn : 0 < n) :
    n < ((x + n / x) / 2 + 1) * ((x + n / x) / 2 + 1) ∧ 0 < (x + n / x) / 2 ∧ ((x + n / x) / 2 - 1) * ((x + n / x) / 2 - 1) ≤ n := by
  have d1 := Int.mul_ediv_add_emod n x
  have d2 := Int.emod_nonneg n (show x ≠ 0 by omega)
  have d3 := Int.emod_lt_of_pos n hx
  have dq : 0 ≤ n / x := Int.ediv_nonneg (by omega) (by omega)
  generalize hq : n / x = q at *
  generalize hy : (x + q) / 2 = y at *
  have y1 : 2 * y ≤ x + q := by omega
  have y2 : x + q ≤ 2 * y + 1 := by omega
  have y0 : 0 ≤ y := by omega
  -- 2 y x <= x x + n and 2 (y + 1) x >= x x + n + 1
  have a1 : 2 * (y * x) ≤ x * x + x * q := by
    have := Int.mul_le_mul_of_nonneg_right y1 (show 0 ≤ x by omega)
    rw [Int.add_mul, Int.mul_assoc, Int.mul_comm q x] at this
    exact this
  have a2 : x * x + x * q + x ≤ 2 * ((y + 1) * x) := by
    have := Int.mul_le_mul_of_nonneg_right (show x + q + 1 ≤ 2 * (y + 1) by omega) (show 0 ≤ x by omega)
    rw [Int.add_mul, Int.add_mul, Int.mul_assoc, Int.mul_comm q x, Int.one_mul] at this
    exact this
  have up : n < (y + 1) * (y + 1) := by
    have s := sq_nn (y + 1 - x)
    rw [sq_sub] at s
    omega
  have qx : q < x := by
    refine Int.lt_of_not_ge fun r => ?_
    have := Int.mul_le_mul_of_nonneg_left r (show 0 ≤ x by omega)
    omega
  have yx : y < x := by omega
  refine ⟨up, ?_, ?_⟩
  · refine Int.lt_of_not_ge fun r => ?_
    have : y = 0 := by omega
    subst this
    rw [Int.zero_add, Int.one_mul] at up
    omega
  · refine Int.le_of_not_gt fun r => ?_
    -- z = y - 1 > root: x - z < e, its square beyond 2 x, so 2 x < e e, but e e e e <= 2 n < 4 x x
    have z0 : 0 ≤ y - 1 := by
      refine Int.le_of_not_gt fun r2 => ?_
      have : y = 0 := by omega
      subst this
      rw [Int.zero_add, Int.one_mul] at up
      omega
    have b1 : x - e < y - 1 := sq_lt (by omega) z0 (by omega)
    have b2 : x * x - 2 * (x * (y - 1)) + (y - 1) * (y - 1) > 2 * x := by
      have : x * (y - 1) = y * x - x := by rw [Int.mul_sub, Int.mul_one, Int.mul_comm]
      omega
    rw [← sq_sub] at b2
    have b3 : (x - (y - 1)) * (x - (y - 1)) ≤ e * e := Int.mul_le_mul (by omega) (by omega) (by omega) (by omega)
    have b4 : 2 * x < e * e := by omega
    have b5 : (2 * x) * (2 * x) < (e * e) * (e * e) := Int.mul_lt_mul b4 (Int.le_of_lt b4) (by omega) (by omega)
    have b6 : (2 * x) * (2 * x) = 4 * (x * x) := by
      rw [Int.mul_assoc, Int.mul_left_comm x 2 x]
      omega
    omega
open PySem.Float64 in
theorem root_ok : ∀ (L n : Nat), n.log2 ≤ L → rootByHalves L n * rootByHalves L n ≤ n ∧ n < (rootByHalves L n + 1) * (rootByHalves L n + 1) := by
  have small : ∀ n, n < 8 → rootBelow8 n * rootBelow8 n ≤ n ∧ n < (rootBelow8 n + 1) * (rootBelow8 n + 1) := by decide
  intro L
  induction L with
  | zero =>
    intro n h
    have : n < 2 := by
      by_cases h0 : n = 0
      · omega
      · exact (Nat.log2_lt h0).mp (by omega : n.log2 < 1)
    exact small n (by omega)
  | succ L ih =>
    intro n h
    unfold rootByHalves
    by_cases h8 : n < 8
    · rw [if_pos h8]
      exact small n h8
    · rw [if_neg h8]
      have l3 : 3 ≤ n.log2 := (Nat.le_log2 (by omega)).mpr (by omega)
      simp only
      generalize hk : (n.log2 + 1) / 4 = k
      have k1 : 1 ≤ k := by omega
      have p4 : 0 < 4 ^ k := Nat.pow_pos (by decide)
      have e4 : (4 : Nat) ^ k = 2 ^ k * 2 ^ k := by
        rw [← Nat.mul_pow]
      have hlog : (n / 4 ^ k).log2 ≤ L := by
        by_cases h0 : n / 4 ^ k = 0
        · rw [h0]
          exact Nat.zero_le _
        · have : (n / 4 ^ k).log2 < L + 1 := (Nat.log2_lt h0).mpr (by
            have h1 : n < 2 ^ (L + 2) := (Nat.log2_lt (by omega)).mp (by omega)
            refine Nat.div_lt_of_lt_mul ?_
            have h2 : (4 : Nat) ^ 1 ≤ 4 ^ k := Nat.pow_le_pow_right (by decide) k1
            have h3 : 2 * 2 ^ (L + 1) ≤ 4 ^ k * 2 ^ (L + 1) := Nat.mul_le_mul_right _ (by omega)
            rw [show L + 2 = (L + 1) + 1 from rfl, Nat.pow_succ] at h1
            omega)
          omega
      obtain ⟨s1, s2⟩ := ih (n / 4 ^ k) hlog
      generalize rootByHalves L (n / 4 ^ k) = s at *
      have two : 0 < 2 ^ k := Nat.pow_pos (by decide)
      -- e ^ 4 <= 2 n
      have hee : (2 ^ k * 2 ^ k) * (2 ^ k * 2 ^ k) ≤ 2 * n := by
        rw [← Nat.pow_add, ← Nat.pow_add]
        have h1 : 2 ^ n.log2 ≤ n := Nat.log2_self_le (by omega)
        have h2 : 2 ^ (k + k + (k + k)) ≤ 2 ^ (n.log2 + 1) := Nat.pow_le_pow_right (by decide) (by omega)
        rw [Nat.pow_succ] at h2
        omega
      have d1 := Nat.div_add_mod n (4 ^ k)
      have d2 := Nat.mod_lt n p4
      have hs1 : (s * 2 ^ k) * (s * 2 ^ k) ≤ n := by
        have : s * 2 ^ k * (s * 2 ^ k) = (s * s) * 4 ^ k := by
          rw [e4, Nat.mul_mul_mul_comm]
        rw [this]
        have h1 := Nat.mul_le_mul_right (4 ^ k) s1
        rw [Nat.mul_comm (n / 4 ^ k)] at h1
        omega
      have hs2 : n < ((s + 1) * 2 ^ k) * ((s + 1) * 2 ^ k) := by
        have : (s + 1) * 2 ^ k * ((s + 1) * 2 ^ k) = ((s + 1) * (s + 1)) * 4 ^ k := by
          rw [e4, Nat.mul_mul_mul_comm]
        rw [this]
        have h1 := Nat.mul_le_mul_right (4 ^ k) (show n / 4 ^ k + 1 ≤ (s + 1) * (s + 1) by omega)
        rw [Nat.add_mul, Nat.one_mul, Nat.mul_comm (n / 4 ^ k)] at h1
        omega
      generalize hx : (s + 1) * 2 ^ k = x at *
      generalize hE : 2 ^ k = e at *
      have hxe : x = s * e + e := by rw [← hx, Nat.add_mul, Nat.one_mul]
      have N := newton (n := (n : Int)) (x := (x : Int)) (e := (e : Int)) (by omega) (by omega) (by exact_mod_cast hs2) (by
        have : (x : Int) - (e : Int) = ((s * e : Nat) : Int) := by omega
        rw [this]
        exact_mod_cast hs1) (by omega) (by exact_mod_cast hee) (by omega)
      have ec : (((x + n / x) / 2 : Nat) : Int) = ((x : Int) + (n : Int) / (x : Int)) / 2 := by
        rw [Int.natCast_ediv, Int.natCast_add, Int.natCast_ediv]
        rfl
      rw [← ec] at N
      generalize (x + n / x) / 2 = y at *
      obtain ⟨N1, N2, N3⟩ := N
      have N1' : n < (y + 1) * (y + 1) := by exact_mod_cast N1
      have y1 : 1 ≤ y := by omega
      have N3' : (y - 1) * (y - 1) ≤ n := by
        have : ((y - 1 : Nat) : Int) = (y : Int) - 1 := by omega
        rw [← this] at N3
        exact_mod_cast N3
      split
      · rename_i hy
        refine ⟨N3', ?_⟩
        rw [Nat.sub_add_cancel y1]
        exact hy
      · rename_i hy
        exact ⟨Nat.le_of_not_gt hy, N1'⟩
theorem isqrt_ok (n : Nat) : PySem.Float64.isqrt n * PySem.Float64.isqrt n ≤ n ∧ n < (PySem.Float64.isqrt n + 1) * (PySem.Float64.isqrt n + 1) := root_ok n.log2 n (Nat.le_refl _)
end Kp

/-! An error of the text's own that an except suite keeps by a name, to be asked of behind the try. -/
namespace Kp
open PySem PySem.Spec PyProof.Rows L2 Evl

/-- at a stands an error of the class cls that has no dict of its own -/
def ExV (cls : Value) (a : Addr) : HO := .ext fun h => ∃ (o : Obj) (fs : Array Value), h.get? a = some o ∧ o.cls = cls ∧ o.dict = none ∧ o.data = .fields fs
section
variable {X : Cx} {pins : List (Addr × Obj)} {σ : L2.St} {H : Hp} {s : Shared}
/-- an object of ours that was pinned and not tracked is tracked from here on -/
theorem track {a : Addr} {o : Obj} {fs : Array Value} {cls : Value} (I : Inv X ((a, o) :: pins) σ H s) (n0 : X.s_0.heap.get? a = none) (nP : ∀ p ∈ X.pn ++ pins, p.1 ≠ a) (h1 : o.cls = cls) (h2 : o.dict = none) (h3 : o.data = .fields fs) :
    Inv X pins σ (upd H a (ExV cls a)) s := by
  obtain ⟨pa, pn, pl, pf, pc⟩ := I.pin (a, o) (List.mem_append_right _ (List.mem_cons_self ..))
  have old : ∀ {b : Addr} {u : Obj}, X.s_0.heap.get? b = some u → b ≠ a := fun {b u} e z => by
    subst z
    rw [n0] at e
    cases e
  have tr : ∀ {b : Addr} {u : HO}, H b = some u → b ≠ a := fun {b u} e => ne_of_none e pn
  exact {
    ok := I.ok
    os := I.os
    bare := I.bare
    base := {
      keep := I.base.keep
      slot := I.base.slot
      free := fun b u e n x => (upd_ne (old e)).trans (I.base.free b u e n x)
      there := I.base.there
      tups := fun b xs e => (upd_ne (tr (I.base.tups b xs e))).trans (I.base.tups b xs e)
      frzs := fun b u xs e => (upd_ne (tr (I.base.frzs b u xs e))).trans (I.base.frzs b u xs e)
      tbls := fun b ps e => by
        obtain ⟨m, q⟩ := I.base.tbls b ps e
        exact ⟨m, (upd_ne (tr q)).trans q⟩ }
    loc := I.loc
    cell := I.cell
    free := (upd_ne (Ne.symm pl)).trans I.free
    freeC := fun y c e => by
      have nc : c ≠ a := fun z => by
        obtain ⟨v, ⟨u, hu, du⟩⟩ := I.cell y c e
        rw [z] at hu
        have q : some u = some o := hu.symm.trans pa
        cases q
        exact pc _ du
      exact (upd_ne nc).trans (I.freeC y c e)
    pin := fun p hp => by
      have q := I.pin p (by
        rcases List.mem_append.mp hp with z | z
        · exact List.mem_append_left _ z
        · exact List.mem_append_right _ (List.mem_cons_of_mem _ z))
      exact ⟨q.1, (upd_ne (nP p hp)).trans q.2.1, q.2.2⟩
    hok := I.hok.laidN (fun _ _ e => e) pn ⟨⟨o, fs, pa, h1, h2, h3⟩, ⟨o, pa⟩, fun g g' ⟨u, us, q, r⟩ k => ⟨u, us, k u q, r⟩⟩
    len := I.len }
end

/-- what is wished of an error of the body where the suite is «y = n»: slot i is n's, slot j is y's; the clause always meets -/
def wKeep (K : PySem.W.Frag) (c : Value) (i j : Nat) (D : Ends) : WX := fun cls d σ H => PySem.W.exmOne K cls c = some true ∧ d = none ∧
  ∀ a, H a = none → D.nx (((σ.set i (some (.ref a))).set j (some (.ref a))).set i none) (upd H a (ExV cls a))
section
variable {X : Cx} {x n : Str} {c : Value} {i j : Nat} {body : List Stmt} {st : Stmt} {np pos pos' : Pos} {tb : WX → TS}
theorem keep_caught {pins : List (Addr × Obj)} {D : Ends} {u : Value} {s' : Shared} {xe : Value → Shared → Prop} (ok : X.Ok) (hs : X.stack = X.env :: X.outer) (hf : X.env.frame = some X.env.locals) (hex : X.ex = []) (hN : X.N.Nodup) (hi : X.N[i]? = some n) (hln : X.env.kindOf n = some .local) (hc : Names X x c)
    (hsu : ∀ (a : Addr) (o : Obj) (pn : List (Addr × Obj)), PSs (X.suite a ((a, o) :: pn)) [st] (tAsg (tVar i) (gName j))) (hij : i < X.N.length)
    (xx : XE (X.tr (X.pn ++ pins) xe) (wKeep X.K c i j D) u s') :
    wpAny (model X.prog X.w) X.A (noteFrame u X.env) (fun _ s₂ => wpAny (model X.prog X.w) X.A (setFlight u none) (fun _ s₃ => wpAny (model X.prog X.w) X.A (handleBy u X.env [.ExceptHandler (some (.Name x np)) (some n) [st] pos']) (SP X pins D) X.xe s₃) X.xe s₂) X.xe s' := by
  obtain ⟨a, B, sI, pins', σ', H', cls, d, rfl, JJ, nb, up, sky, na, os, ag, meets, rfl, wish⟩ := xx
  have J : Inv X pins σ' H' sI := Inv.ofTry JJ ok
  have frames : X.A.frames = some (X.env :: X.outer) := ok.frames.trans (congrArg some hs)
  have ground : B.get? a = none := by
    rcases sky with q | q | q
    · exact q.2.1
    · exact q.2.1
    · exact q.2.1
  have sky2 : Sky B (X.env :: X.outer) a (Zc cls none) X.env.locals s'.heap := hs ▸ sky
  refine Sky.land Zc.steady frames hf sky2 fun g fl upg => ?_
  -- the error is no frame's object
  obtain ⟨o, fs, ho, hz, hd⟩ := fl.there
  have noFrame : a ∉ frs (X.env :: X.outer) := fun m => by
    obtain ⟨_, o2, e2, no⟩ := fl.2.2.1.mem m
    have q := Option.some.inj (e2.symm.trans ho)
    exact no fs (q ▸ hd)
  have nL : a ≠ X.env.locals := fun z => noFrame (List.mem_filterMap.mpr ⟨X.env, List.mem_cons_self .., by rw [hf, z]⟩)
  have nF : a ∉ X.fs := fun m => by
    obtain ⟨e, he, q⟩ := List.mem_filterMap.mp m
    exact noFrame (List.mem_filterMap.mpr ⟨e, List.mem_cons_of_mem _ he, q⟩)
  have newI : sI.heap.get? a = none := by
    cases q : sI.heap.get? a with
    | none => rfl
    | some w =>
      have z := nb a w q (by
        show a ∉ frs X.stack
        rw [hs]
        exact noFrame)
      rw [ground] at z
      cases z
  have new0 : X.s_0.heap.get? a = none := by
    cases q : X.s_0.heap.get? a with
    | none => rfl
    | some w =>
      obtain ⟨w2, q2⟩ := J.base.there a w q (by
        rw [hex]
        exact fun z => nomatch z)
      rw [newI] at q2
      cases q2
  have newP : ∀ p ∈ X.pn ++ pins, p.1 ≠ a := fun p hp z => by
    have q := (J.pin p hp).1
    rw [z, newI] at q
    cases q
  have JG : Inv X pins σ' H' { s' with heap := g } := J.landed nb fl.1 (up.trans upg) os ag
  have SG := JG.suite ho hd na nL nF
  -- the clause's class is asked
  refine wpAny_handleBy_cons (codeAny_handlers_test ?_) (fun z => nomatch z)
  have kind : PySem.W.Looks (model X.prog X.w) g (typeOf (.ref a)) cls := fun A Q E t k q => wpAny_typeOf_ref (k _ _ ho) (by
    rw [hz.1]
    exact q)
  have ask := PySem.W.exm_one (M := model X.prog X.w) JG.kIn kind meets
  have named : ∀ {Q E : Value → Shared → Prop}, Q c { s' with heap := g } → wpAny (model X.prog X.w) (X.A.mark (some (.ref a))) (eval (.Name x np) X.env) Q E { s' with heap := g } := fun {Q E} q => by
    obtain ⟨g1, g2, g3⟩ := hc
    rcases g3 with m | ⟨m1, m2, m3⟩
    · exact ld_glob (X := X.suite a ((a, o) :: (X.pn ++ pins))) SG g1 m q g2
    · exact ld_blt (X := X.suite a ((a, o) :: (X.pn ++ pins))) SG g1 m1 m2 q m3 g2
  refine named (ask.here ?_)
  -- the suite
  refine codeAny_handlers_suite_as (HandSPX.lands_againZ fl fun g2 fl2 up2 => ?_)
  have J2 : Inv X pins σ' H' { s' with heap := g2 } := J.landed nb fl2.1 ((up.trans upg).trans up2) os ag
  obtain ⟨o2, fs2, ho2, hz2, hd2⟩ := fl2.there
  have S2 := J2.suite ho2 hd2 na nL nF
  refine store_ok (X := X.suite a ((a, o2) :: (X.pn ++ pins))) (v := .ref a) S2 hN hi (.inl hln) rfl (fun s5 S5 => ?_) (.inr hln)
  have len : i < σ'.length := by
    rw [J.len]
    exact hij
  have reads : tAsg (tVar i) (gName j) { nx := fun σ2 H2 => σ2 = (σ'.set i (some (.ref a))).set j (some (.ref a)) ∧ H2 = H', rt := fun _ _ => False } (σ'.set i (some (.ref a))) H' :=
    ⟨.ref a, List.getElem?_set_self len, rfl, rfl⟩
  refine wpAny_mono ((hsu a o2 (X.pn ++ pins)).run [] s5 _ H' _ S5 reads) (fun f s6 q => ?_) (fun _ _ z => z.elim)
  cases f with
  | next =>
    obtain ⟨σ6, H6, S6, rfl, rfl⟩ := q
    obtain ⟨t1, t2, t3, t4, t5⟩ := S6.pin (a, o2) (List.mem_append_left _ (List.mem_cons_self ..))
    have U6 : Inv X pins _ _ s6 := S6.unsuite ok
    have P6 : Inv X ((a, o2) :: pins) _ _ s6 := U6.pins_of fun p hp => by
      rcases List.mem_cons.mp hp with rfl | m
      · exact ⟨t1, t2, t3, t4, t5⟩
      · exact U6.pin p (List.mem_append_right _ m)
    exact gone_ok P6 hN hi hln fun s7 J7 => ⟨_, _, track J7 new0 newP hz2.1 hz2.2 hd2, wish a na⟩
  | brk =>
    obtain ⟨_, _, _, z⟩ := q
    exact z.elim
  | cont =>
    obtain ⟨_, _, _, z⟩ := q
    exact z.elim
  | ret v =>
    obtain ⟨_, _, _, _, _, z⟩ := q
    exact z.elim
theorem ps_try_keep (hs : X.stack = X.env :: X.outer) (hf : X.env.frame = some X.env.locals) (hex : X.ex = []) (hN : X.N.Nodup) (hi : X.N[i]? = some n) (hln : X.env.kindOf n = some .local) (hc : Names X x c) (hij : i < X.N.length)
    (hb : ∀ (W : WX) (pn : List (Addr × Obj)) (xe : Value → Shared → Prop), Takes (X.tr pn xe) W → PassesOwn (model X.prog X.w) X.A X.env xe → PSs (X.tr pn xe) body (tb W))
    (hsu : ∀ (a : Addr) (o : Obj) (pn : List (Addr × Obj)), PSs (X.suite a ((a, o) :: pn)) [st] (tAsg (tVar i) (gName j))) :
    PS X (.Try body [.ExceptHandler (some (.Name x np)) (some n) [st] pos'] [] [] pos) (fun D σ H => tb (wKeep X.K c i j D) D σ H) := by
  refine ⟨fun pins s σ H D I h => wpAny_Try_except ?_⟩
  have ok := I.ok
  have run := (hb (wKeep X.K c i j D) (X.pn ++ pins) _ (fun u s' xx => keep_caught (np := np) (pos' := pos') ok hs hf hex hN hi hln hc hsu hij xx) PassesOwn.looking).run [] s σ H D (I.toTry _) h
  refine wpAny_mono run (fun f s1 q => ?_) (fun _ _ z => z)
  cases f with
  | next =>
    obtain ⟨σ1, H1, J, z⟩ := q
    exact wpAny_execs_nil ⟨σ1, H1, J.ofTry ok, z⟩
  | brk =>
    obtain ⟨σ1, H1, J, z⟩ := q
    exact ⟨σ1, H1, J.ofTry ok, z⟩
  | cont =>
    obtain ⟨σ1, H1, J, z⟩ := q
    exact ⟨σ1, H1, J.ofTry ok, z⟩
  | ret v =>
    obtain ⟨v1, σ1, H1, J, r, z⟩ := q
    exact ⟨v1, σ1, H1, J.ofTry ok, r, z⟩
end

/-! ### isinstance of such an error -/
section
variable {X : Cx}
/-- isinstance(e, c); isinstance(e, (c1, c2, ..)) -/
def rIsX (K : PySem.W.Frag) (C : Addr) : List V → Hp → VK → Prop := fun xs H Q => ∃ (a : Addr) (c : V) (u : Value) (b : Bool), xs = [.ref a, c] ∧ H a = some (ExV (.ref C) a) ∧ ClsV c u ∧ PySem.W.kitOne K (.ref C) u = some b ∧ Q (.bl b) H
def rIsXT (K : PySem.W.Frag) (C : Addr) : List V → Hp → VK → Prop := fun xs H Q => ∃ (a tp : Addr) (cs : List V) (us : List Value) (b : Bool), xs = [.ref a, .ref tp] ∧ H a = some (ExV (.ref C) a) ∧ H tp = some (.tup cs) ∧ Paired ClsV cs us ∧ PySem.W.kitAny K (.ref C) us = some b ∧ Q (.bl b) H
theorem inst_of {pins : List (Addr × Obj)} {σ : L2.St} {H : Hp} {s : Shared} {a C : Addr} (I : Inv X pins σ H s) (h : H a = some (ExV (.ref C) a)) : ∃ o, PySem.W.InstAt s.heap a o C none := by
  obtain ⟨⟨o, fs, h1, h2, h3, h4⟩, _⟩ := I.hok a _ h
  obtain ⟨oc, od, dt, sl⟩ := o
  dsimp only at h2 h3 h4
  subst h2 h3 h4
  exact ⟨_, h1, rfl, rfl, trivial⟩
theorem call_isX {C : Addr} (T : ExcC X.K C) : CallR X (.builtin "isinstance") (rIsX X.K C) := by
  intro pins s σ H xs us Q I r h
  obtain ⟨a, c, u, b, rfl, ha, k, e, q⟩ := h
  obtain ⟨u1, u2, rfl, r1, r2⟩ := vals2 r
  obtain rfl := k.eq r2
  cases (show u1 = Value.ref a from r1)
  obtain ⟨o, J⟩ := inst_of I ha
  exact PySem.W.kia_one (PySem.W.handS_kitx_exc T.hg T.hk T.hs T.hd T.ha T.hn T.ht T.hm) I.kIn J e (fun z => nomatch z) fun tk => ⟨.bl b, H, I.tok tk, rfl, q⟩
theorem call_isXT {C : Addr} (T : ExcC X.K C) : CallR X (.builtin "isinstance") (rIsXT X.K C) := by
  intro pins s σ H xs us Q I r h
  obtain ⟨a, tp, cs, ws, b, rfl, ha, hT, k, e, q⟩ := h
  obtain ⟨u1, u2, rfl, r1, r2⟩ := vals2 r
  cases (show u1 = Value.ref a from r1)
  cases (show u2 = Value.ref tp from r2)
  obtain ⟨o, J⟩ := inst_of I ha
  obtain ⟨_, its, rv, ot, h1, h2, n, h3⟩ := I.hok tp _ hT
  obtain rfl := ClsV.all k rv
  obtain ⟨oc, od, dt, sl⟩ := ot
  dsimp only at h2 h3
  subst h2 h3
  exact PySem.W.kia_tup (PySem.W.handS_kitx_exc T.hg T.hk T.hs T.hd T.ha T.hn T.ht T.hm) I.kIn J h1 e (fun z => nomatch z) fun tk => ⟨.bl b, H, I.tok tk, rfl, q⟩
variable {K : PySem.W.Frag} {σ : L2.St} {H : Hp} {ta tb : TE} {C a : Addr}
theorem ev_isX {c : V} {u : Value} {b : Bool} (ha : Ev ta σ H (.ref a)) (hb : Ev tb σ H c) (h : H a = some (ExV (.ref C) a)) (k : ClsV c u) (e : PySem.W.kitOne K (.ref C) u = some b) : Ev (tCB (rIsX K C) (tCons ta (tCons tb tNil))) σ H (.bl b) := fun H1 e1 Q q =>
  ha H1 e1 _ fun H2 e2 => hb H2 (e1.trans e2) _ fun H3 e3 => ⟨a, c, u, b, rfl, (e1.trans (e2.trans e3)) _ _ h, k, e, q H3 (e2.trans e3)⟩
theorem ev_isXT {cs : List V} {us : List Value} {b : Bool} (ha : Ev ta σ H (.ref a)) (hb : EvU tb σ H cs) (h : H a = some (ExV (.ref C) a)) (k : Paired ClsV cs us) (e : PySem.W.kitAny K (.ref C) us = some b) : Ev (tCB (rIsXT K C) (tCons ta (tCons tb tNil))) σ H (.bl b) := fun H1 e1 Q q =>
  ha H1 e1 _ fun H2 e2 => hb H2 (e1.trans e2) _ fun p H3 np e3 hp => ⟨a, p, cs, us, b, rfl, (e1.trans (e2.trans e3)) _ _ h, hp, k, e, q H3 (e2.trans e3)⟩
end
end Kp

/-! Defs that raise; calls to them in a try; more of lists; one polynomial parted by another. -/
namespace Kp
open PySem PySem.Spec PyProof.Rows L2 Evl
/-- the class C, by the name x, straight under WheelError -/
structure OwnX (K : PySem.W.Frag) (mg : Str → Option Value) (x : Str) (C : Addr) : Prop where
  g : mg x = some (.ref C)
  kp : PySem.W.keepIn K (.ref C) = true
  xi : PySem.W.excIn K C [.type "ValueError", .type "Exception", .type "BaseException", .type "object"] "ValueError.__new__" = true
  ty : PySem.W.typeIn K (.ref C) = some (.type "type")
  e : ExcC K C
section
variable {P : Program} {w : World} {K : PySem.W.Frag} {mg : Str → Option Value} {base : Heap} {x : Str} {k : Nat} {ps N : List Str} {sp : Sp} {st : Stmt}
theorem Dfn.calX (d : Dfn K mg x ps st) (S : FnScope N ps (defScope st)) (len : ∀ vs H Q E, sp vs H Q E → vs.length = ps.length)
    (hbody : ∀ (f : Addr) (cdv : Value) (A : Around) (outer : List Env) (s : Shared) (H : Hp) (vs : List V) (Q : VK) (E : XK), Room k (A.deeper (envOfC x (defScope st) s.heap.objs.size f cdv)) → sp vs H Q E →
      ∃ t, PSs (cxOf (L2.CX P w) P w K mg base N x (defScope st) f cdv A outer s H E) (defBody st) t ∧ t { nx := fun _ H' => Q .non H', rt := Q } (start N vs) H) : Cal P w K mg base (L2.CX P w) x (k + 1) ps sp := by
  obtain ⟨f, fd, F, g, b⟩ := d
  exact ⟨f, fd, F.okX S len (hbody f), g, F.kp, b⟩
end
section
variable {X : Cx} {k : Nat} {ps : List Str} {sp : Sp} {W : WX} {x : Str} {p pos : Pos} {e : Expr} {es : List Expr} {t : TA}
theorem pe_calS (c : Cal X.prog X.w X.K X.mg X.base (L2.CX X.prog X.w) x k ps sp) (hr : Room k X.A) (hg : Gl X x) (tk : Takes X W)
    (ha : PA X (e :: es) t) (hdb : (x == ("__debug__" : Str)) = false := by decide) (he : starEach (e :: es) X.env = (false, eval e X.env) :: starEach es X.env := by rfl) (hpl : (backTo pos (starEach es X.env)).any (·.1) = false := by rfl) :
    PE X (.Call (.Name x p) (e :: es) [] pos) (tCallS sp (WE W) t) := by
  obtain ⟨f, fd, F, g, kp, b⟩ := c
  exact pe_callS F hr hg g kp b (fun σ => passAt tk σ) ha hdb he hpl
theorem pe_cls {C : Addr} (hg : Gl X x) (hm : X.mg x = some (.ref C)) (hd : (x == ("__debug__" : Str)) = false := by decide) : PE X (.Name x pos) (tC (.ref C)) := pe_glob hg hm rfl hd
theorem pmk_of {C : Addr} {m : Str} {j : Nat} {p2 : Pos} (T : OwnX X.K X.mg x C) (hg : Gl X x) (hdb : (x == ("__debug__" : Str)) = false := by decide) : PMk X (.Call (.Name x p) [.Constant (.str m) j p2] [] pos) (fun _ H Q => Q (.ref C) none H) :=
  pmk_own PySem.F.excBase_ValueError T.xi T.g T.kp (raises_own T.e.hs T.ty) hg hdb
end

/-! ### the class is asked -/
theorem exm_own {K : PySem.W.Frag} {mg : Str → Option Value} {x : Str} {B C : Addr} {b : Bool} (T : OwnX K mg x B) (h : PySem.W.subIn K (.ref C) (.ref B) = some b) : PySem.W.exmOne K (.ref C) (.ref B) = some b := PySem.W.exm_ref T.e.hs T.e.hd T.ty h

/-- by the name x the class D -/
structure GlX (mg : Str → Option Value) (x : Str) (D : Addr) : Prop where
  g : mg x = some (.ref D)
theorem kit_ref {K : PySem.W.Frag} {C D : Addr} {b : Bool} (hd : PySem.W.hasDictIn K D = true) (ht : PySem.W.typeIn K (.ref D) = some (.type "type")) (ne : C ≠ D) (h : PySem.W.subIn K (.ref C) (.ref D) = some b) : PySem.W.kitOne K (.ref C) (.ref D) = some b := by
  obtain ⟨cd, hc, _⟩ := PySem.W.any_some hd
  have e2 : ((PySem.W.clsIn K D).isSome && PySem.W.typeIn K (.ref D) == some (.type "type")) = true := by rw [hc, ht] <;> rfl
  unfold PySem.W.kitOne
  rw [if_neg (by simpa using ne)]
  show (if ((PySem.W.clsIn K D).isSome && PySem.W.typeIn K (.ref D) == some (.type "type")) = true then PySem.W.subIn K (.ref C) (.ref D) else none) = some b
  rw [if_pos e2]
  exact h
theorem kit_VE {K : PySem.W.Frag} {C : Addr} {b : Bool} (h : PySem.W.subIn K (.ref C) (.type "ValueError") = some b) : PySem.W.kitOne K (.ref C) (.type "ValueError") = some b := by
  unfold PySem.W.kitOne
  rw [if_neg (by simp)]
  show (if PySem.W.kitMeta "ValueError" = true then PySem.W.subIn K (.ref C) (.type "ValueError") else none) = some b
  rw [if_pos (by decide +kernel)]
  exact h
theorem cls_ne {K : PySem.W.Frag} {C D : Addr} (h1 : PySem.W.subIn K (.ref C) (.ref C) = some true) (h2 : PySem.W.subIn K (.ref C) (.ref D) = some false) : C ≠ D := fun e => by
  subst e
  rw [h1] at h2
  exact nomatch h2

/-! ### lists once more -/
section
variable {K : PySem.W.Frag} {D : Ends} {σ : L2.St} {H : Hp} {ta : TA} {tz : TS} {i : Nat}
theorem q_asgPop {te : TE} {l : Addr} {xs : List V} {y : V} (hl : H l = some (.lst (xs ++ [y]))) (ha : Ev te σ H (.ref l)) (k : ∀ H1, Ex H H1 → tz D (σ.set i (some y)) (upd H1 l (.lst xs))) :
    tSeq (tAsg (tBM0 K "list" rPop te) (gName i)) tz D σ H := ha H (Ex.refl H) _ fun H1 e1 =>
  ⟨Or.inl ⟨rfl, _, sq_of (e1 l _ hl)⟩, l, xs ++ [y], y, rfl, rfl, e1 l _ hl, by simp, by
    rw [List.dropLast_concat]
    exact k H1 e1⟩
theorem q_rev {te : TE} {l : Addr} {xs : List V} (hl : H l = some (.lst xs)) (ha : Ev te σ H (.ref l)) (k : ∀ H1, Ex H H1 → tz D σ (upd H1 l (.lst xs.reverse))) :
    tSeq (tDrop (tBM0 K "list" rReverse te)) tz D σ H := ha H (Ex.refl H) _ fun H1 e1 =>
  ⟨Or.inl ⟨rfl, _, sq_of (e1 l _ hl)⟩, l, xs, rfl, rfl, e1 l _ hl, k H1 e1⟩
theorem atI_last {α : Type} {xs : List α} {v : α} (h : xs[xs.length - 1]? = some v) : atI xs (-1) = some v := by
  have hj := (List.getElem?_eq_some_iff.mp h).1
  unfold atI ixN
  rw [if_neg (by omega), if_pos (by omega)]
  show xs[((-1 : Int) + (xs.length : Int)).toNat]? = some v
  rw [show ((-1 : Int) + (xs.length : Int)).toNat = xs.length - 1 by omega]
  exact h
theorem cut_init (xs : List V) : cutV xs none (some (-1)) = xs.take (xs.length - 1) := by
  unfold cutV
  rw [HT.sIx_none]
  show List.take ((if (-1 : Int) < 0 then ((-1 : Int) + (xs.length : Int)).toNat else min (-1 : Int).toNat xs.length) - 0) (xs.drop 0) = _
  rw [if_pos (by decide), Nat.sub_zero, List.drop_zero, show ((-1 : Int) + (xs.length : Int)).toNat = xs.length - 1 by omega]
end


section
variable {K : PySem.W.Frag} {D : Ends} {σ : L2.St} {H : Hp}
theorem ev_lenT {te : TE} {p : Addr} {xs : List V} (ha : Ev te σ H (.ref p)) (h : SqT K H p xs) : Ev (tCB (rLenS K) (tCons te tNil)) σ H (.int (xs.length : Int)) := fun H1 e Q q =>
  ha H1 e _ fun H2 e2 => ⟨p, xs, rfl, Or.inr (ex_t (e.trans e2) h), q H2 e2⟩
/-- a call whose first argument is a new list -/
theorem el_calL {sp : Sp} {t1 : TE} {ta : TA} {xs ys vs : List V} {E : XK} (h : EvL t1 σ H xs) (h2 : EvA ta σ H vs) (hs : ∀ p H1, Ex H H1 → H1 p = some (.lst xs) → ∀ Q : VK, RetL ys H1 Q → ∀ E : XK, sp (.ref p :: vs) H1 Q E) : EvL (tCall sp [] E (tCons t1 ta)) σ H ys := fun H1 e Q q =>
  h H1 e _ fun p H2 np e2 hp => h2 H2 (e.trans e2) _ fun H3 e3 => by
    show sp ((.ref p :: vs) ++ []) H3 Q E
    rw [List.append_nil]
    exact hs p H3 ((e.trans e2).trans e3) (e3 _ _ hp) Q (fun p' H4 hp' e4 h4 => q p' H4 (fresh_back (e2.trans e3) hp') ((e2.trans e3).trans e4) h4) E
theorem s_retVL {ta tb : TE} {v : V} {ys : List V} (h1 : Ev ta σ H v) (h2 : EvL tb σ H ys) (k : ∀ t q H1, H t = none → H q = none → Ex H H1 → H1 t = some (.tup [v, .ref q]) → H1 q = some (.lst ys) → D.rt (.ref t) H1) : tRet (tTup (tCons ta (tCons tb tNil))) D σ H :=
  h1 H (Ex.refl H) _ fun H1 e1 => h2 H1 e1 _ fun q H2 nq e2 hq => ⟨sz_of (show 2 ≤ 100000 by decide), fun t nt =>
    k t q _ (fresh_back (e1.trans e2) nt) (fresh_back e1 nq) ((e1.trans e2).trans (Ex.new nt)) upd_same (by rw [upd_ne (ne_of_none hq nt)]; exact hq)⟩
end

/-! ### parting -/
theorem cv_congr {a b g : List Int} {m : Nat} : ∀ i, (∀ j, j < i → coef a j = coef b j) → cv a g i m = cv b g i m
  | 0, _ => rfl
  | i + 1, h => by
    unfold cv
    rw [cv_congr i fun j hj => h j (by omega), h i (by omega)]
theorem cv_set {a b g : List Int} {m s : Nat} {x : Int} (h0 : coef a s = 0) (hs : coef b s = x) (h : ∀ j, j ≠ s → coef b j = coef a j) : ∀ i, s < i → cv b g i m = cv a g i m + if s ≤ m then x * coef g (m - s) else 0
  | 0, q => absurd q (Nat.not_lt_zero _)
  | i + 1, q => by
    unfold cv
    by_cases e : s = i
    · subst e
      rw [cv_congr s fun j hj => h j (by omega), hs, h0]
      split <;> simp
    · rw [cv_set h0 hs h i (by omega), h i (by omega)]
      omega
theorem cv_none {a g : List Int} {m : Nat} : ∀ i, (∀ j, j < i → coef a j = 0) → cv a g i m = 0
  | 0, _ => rfl
  | i + 1, h => by
    unfold cv
    rw [cv_none i fun j hj => h j (by omega), h i (by omega)]
    split <;> simp
end Kp

/-! Sums round n as lists: products by places, turned, spread. -/
namespace Kp
theorem addmod {i j n : Nat} (hi : i < n) (hj : j < n) : (i + j) % n = if i + j < n then i + j else i + j - n := by
  split
  · rename_i h
    exact Nat.mod_eq_of_lt h
  · rename_i h
    rw [Nat.mod_eq_sub_mod (by omega), Nat.mod_eq_of_lt (by omega)]
theorem submod {m i n : Nat} (hm : m < n) (hi : i < n) : (m + n - i) % n = if i ≤ m then m - i else m + n - i := by
  split
  · rename_i h
    rw [Nat.mod_eq_sub_mod (by omega), show m + n - i - n = m - i by omega, Nat.mod_eq_of_lt (by omega)]
  · rename_i h
    exact Nat.mod_eq_of_lt (by omega)
theorem addmod_eq {i j m n : Nat} (hi : i < n) (hj : j < n) (hm : m < n) : m = (i + j) % n ↔ (m + n - i) % n = j := by
  rw [addmod hi hj, submod hm hi]
  split <;> split <;> omega
/-- the number at the place m of the product of the first i numbers of f, and g -/
def cs (f g : List Int) (n : Nat) : Nat → Nat → Int
  | 0, _ => 0
  | i + 1, m => cs f g n i m + coef f i * coef g ((m + n - i) % n)
def mulS (f g : List Int) : List Int := mkL f.length (cs f g f.length f.length)
def addS (f g : List Int) : List Int := List.zipWith (· + ·) f g
theorem addS_len {f g : List Int} (h : f.length = g.length) : (addS f g).length = f.length := by
  unfold addS
  rw [List.length_zipWith]
  omega
theorem coef_addS {f g : List Int} (h : f.length = g.length) (m : Nat) : coef (addS f g) m = coef f m + coef g m := by
  by_cases q : m < f.length
  · rw [coef_lt (by rw [addS_len h]; exact q), coef_lt q, coef_lt (by omega)]
    unfold addS
    rw [List.getElem_zipWith]
  · rw [coef_ge (by rw [addS_len h]; omega), coef_ge (by omega), coef_ge (by omega)]
    rfl
theorem mulS_len (f g : List Int) : (mulS f g).length = f.length := mkL_len _ _
def turnS (f : List Int) (j : Int) : List Int := mkL f.length fun m => coef f (((m : Int) - j) % (f.length : Int)).toNat
theorem turn_eq {a m n : Nat} {j : Int} (ha : a < n) (hm : m < n) : (m : Int) = ((a : Int) + j) % (n : Int) ↔ (((m : Int) - j) % (n : Int)).toNat = a := by
  have e1 := Int.emod_add_mul_ediv ((a : Int) + j) n
  have e2 := Int.emod_add_mul_ediv ((m : Int) - j) n
  have b2 := Int.emod_nonneg ((m : Int) - j) (show (n : Int) ≠ 0 by omega)
  constructor
  · intro h
    rw [← h] at e1
    have : (m : Int) - j = (a : Int) + (n : Int) * (-(((a : Int) + j) / (n : Int))) := by
      rw [Int.mul_neg]
      omega
    rw [this, Int.add_mul_emod_self_left, Int.emod_eq_of_lt (by omega) (by omega)]
    omega
  · intro h
    have h2 : ((m : Int) - j) % (n : Int) = (a : Int) := by omega
    rw [h2] at e2
    have : (a : Int) + j = (m : Int) + (n : Int) * (-(((m : Int) - j) / (n : Int))) := by
      rw [Int.mul_neg]
      omega
    rw [this, Int.add_mul_emod_self_left, Int.emod_eq_of_lt (by omega) (by omega)]
def spreadS (f : List Int) (k : Nat) : List Int := mkL (k * f.length) (pw f k)
theorem spread_eq {a m k : Nat} (hk : 1 ≤ k) : m = k * a ↔ m % k = 0 ∧ m / k = a := by
  constructor
  · rintro rfl
    exact ⟨Nat.mul_mod_right _ _, Nat.mul_div_cancel_left _ (by omega)⟩
  · rintro ⟨h1, h2⟩
    have := Nat.div_add_mod m k
    rw [h1, h2] at this
    omega
theorem spread_lt {a k n : Nat} (hk : 1 ≤ k) (ha : a < n) : k * a < k * n := (Nat.mul_lt_mul_left (by omega)).mpr ha
theorem pw_lt {f : List Int} {k m : Nat} (hk : 1 ≤ k) : pw f k m = if m % k = 0 ∧ m / k < f.length then coef f (m / k) else 0 := by
  unfold pw
  by_cases h : m % k = 0
  · rw [if_pos h]
    by_cases q : m / k < f.length
    · rw [if_pos ⟨h, q⟩]
    · rw [if_neg (fun z => q z.2), coef_ge (by omega)]
  · rw [if_neg h, if_neg (fun z => h z.1)]
end Kp

/-! Comprehensions over zip; lists of new lists; == of lists of lists. -/
namespace Kp
open PySem PySem.Spec PyProof.Rows L2 Evl
section
variable {K : PySem.W.Frag} {σ : L2.St} {H H' : Hp} {ta tb te tl to ti : TE} {t : TT} {x y z v : V} {D : Ends} {tu tz : TS} {vs : List Nat}
/-- two arguments, lists of ints, either by its name or new -/
def EvAZ (K : PySem.W.Frag) (tg : TA) (σ : L2.St) (H : Hp) (ns ms : List Int) : Prop := ∀ H1, Ex H H1 → ∀ Q : List V → Hp → Prop, (∀ a b H2, Ex H1 H2 → SqL K H2 a (ns.map V.int) → SqL K H2 b (ms.map V.int) → Q [.ref a, .ref b] H2) → tg σ H1 Q
theorem az_vv {a b : Addr} {ns ms : List Int} (ha : Ev ta σ H (.ref a)) (hb : Ev tb σ H (.ref b)) (hx : SqL K H a (ns.map V.int)) (hy : SqL K H b (ms.map V.int)) : EvAZ K (tCons ta (tCons tb tNil)) σ H ns ms := fun H1 e Q q =>
  ha H1 e _ fun H2 e2 => hb H2 (e.trans e2) _ fun H3 e3 => q a b H3 (e2.trans e3) (ex_l ((e.trans e2).trans e3) hx) (ex_l ((e.trans e2).trans e3) hy)
theorem az_vn {a : Addr} {ns ms : List Int} (ha : Ev ta σ H (.ref a)) (hx : SqL K H a (ns.map V.int)) (hb : EvL tb σ H (ms.map V.int)) : EvAZ K (tCons ta (tCons tb tNil)) σ H ns ms := fun H1 e Q q =>
  ha H1 e _ fun H2 e2 => hb H2 (e.trans e2) _ fun b H3 nb e3 h3 => q a b H3 (e2.trans e3) (ex_l ((e.trans e2).trans e3) hx) (sq_of h3)
theorem az_nn {ns ms : List Int} (ha : EvL ta σ H (ns.map V.int)) (hb : EvL tb σ H (ms.map V.int)) : EvAZ K (tCons ta (tCons tb tNil)) σ H ns ms := fun H1 e Q q =>
  ha H1 e _ fun a H2 na e2 h2 => hb H2 (e.trans e2) _ fun b H3 nb e3 h3 => q a b H3 (e2.trans e3) (sq_of (e3 _ _ h2)) (sq_of h3)
/-- [e for x, y in zip(a, b)] -/
theorem el_lcZ {tg : TA} {ns ms : List Int} {i j : Nat} (w : Int → Int → V) (h : EvAZ K tg σ H ns ms) (hl : ns.length = ms.length) (hz : ns.length ≤ 40000) (hw : ∀ x y, wipe (((wipe σ vs).set i (some x)).set j (some y)) vs = wipe σ vs)
    (he : ∀ x y H1, Ex H H1 → x ∈ ns → y ∈ ms → Ev te (((wipe σ vs).set i (some (.int x))).set j (some (.int y))) H1 (w x y)) :
    EvL (tLc (iZip K tg) (gTup K 2 (gCons (gName i) (gCons (gName j) gNil))) tYes te vs) σ H (List.zipWith w ns ms) := fun H0 e Q q => h H0 e _ fun a b H1 e1 ha hb => ⟨a, b, _, _, rfl, ha, hb, fun Dl hD =>
  lc_it (n := ns.length) (walk_zip (by rw [List.length_map, List.length_map]; omega)) (fun n H' => H1 Dl = none ∧ Ex H1 H' ∧ H' Dl = some (.lst ((List.zipWith w ns ms).take n))) ⟨hD, Ex.new hD, upd_same⟩ (fun n H' _ p => ⟨ex_l p.2.1 ha, ex_l p.2.1 hb⟩) (fun n v H' H'' hn p y => by
    obtain ⟨p1, p2, p3⟩ := p
    obtain ⟨T, x, y, rfl, hT, rfl, hx, hy⟩ := y
    obtain ⟨r, hr, rfl⟩ := map_get hx
    obtain ⟨s, hs, rfl⟩ := map_get hy
    have e2 : Ex H' (upd H' T (.tup [V.int r, V.int s])) := Ex.new hT
    refine ⟨T, _, rfl, .inl (.inl upd_same), rfl, .int r, [.int s], rfl, .int s, [], rfl, rfl, hw _ _, ?_⟩
    refine et_yes (H := H') _ e2 _ fun H3 e3 => ?_
    show te _ H3 _
    refine he r s H1 (e.trans e1) (List.mem_of_getElem? hr) (List.mem_of_getElem? hs) H3 (p2.trans (e2.trans e3)) _ fun H4 e4 => ⟨_, e4 Dl _ (e3 Dl _ (e2 Dl _ p3)), ?_, p1, Ex.mut (((p2.trans e2).trans e3).trans e4) p1, ?_⟩
    · refine sz_lt ?_
      rw [List.length_take, List.length_zipWith]
      omega
    · rw [upd_same, List.take_add_one, List.getElem?_zipWith, hr, hs]
      rfl) (fun H' p => by
    have q1 := p.2.2
    rw [List.take_of_length_le (by rw [List.length_zipWith]; omega)] at q1
    exact q Dl H' (fresh_back e1 p.1) (e1.trans p.2.1) q1)⟩

/-! ### many new lists, each known -/
def NewL (H H' : Hp) (ps : List Addr) (xss : List (List V)) : Prop := Paired (fun p xs => H p = none ∧ H' p = some (.lst xs)) ps xss ∧ ps.Nodup
theorem NewL.fresh : ∀ {ps : List Addr} {xss : List (List V)}, Paired (fun p xs => H p = none ∧ H' p = some (.lst xs)) ps xss → ∀ p ∈ ps, H p = none
  | _, _, .nil, p, h => nomatch h
  | _, _, .cons a r, p, h => by
    rcases List.mem_cons.mp h with rfl | h
    · exact a.1
    · exact NewL.fresh r p h
theorem NewL.got : ∀ {ps : List Addr} {xss : List (List V)}, Paired (fun p xs => H p = none ∧ H' p = some (.lst xs)) ps xss → ∀ p ∈ ps, ∃ xs, H' p = some (.lst xs)
  | _, _, .nil, p, h => nomatch h
  | _, _, .cons a r, p, h => by
    rcases List.mem_cons.mp h with rfl | h
    · exact ⟨_, a.2⟩
    · exact NewL.got r p h
theorem NewL.mono {H'' : Hp} {ps : List Addr} {xss : List (List V)} (e : Ex H' H'') (h : NewL H H' ps xss) : NewL H H'' ps xss := ⟨Paired.mapP h.1 fun _ _ ⟨q1, q2⟩ => ⟨q1, e _ _ q2⟩, h.2⟩
theorem NewL.back {H0 : Hp} {ps : List Addr} {xss : List (List V)} (e : Ex H0 H) (h : NewL H H' ps xss) : NewL H0 H' ps xss := ⟨Paired.mapP h.1 fun _ _ ⟨q1, q2⟩ => ⟨fresh_back e q1, q2⟩, h.2⟩
theorem NewL.nil : NewL H H' [] [] := ⟨.nil, List.nodup_nil⟩
theorem paired_app {α β : Type} {F : α → β → Prop} : ∀ {l1 : List α} {m1 : List β} {l2 : List α} {m2 : List β}, Paired F l1 m1 → Paired F l2 m2 → Paired F (l1 ++ l2) (m1 ++ m2)
  | _, _, _, _, .nil, h => h
  | _, _, _, _, .cons a r, h => .cons a (paired_app r h)
theorem NewL.app {H1 H2 : Hp} {ps qs : List Addr} {xss yss : List (List V)} (h1 : NewL H H1 ps xss) (e : Ex H H1) (h2 : NewL H1 H2 qs yss) (e2 : Ex H1 H2) : NewL H H2 (ps ++ qs) (xss ++ yss) := by
  refine ⟨paired_app (h1.mono e2).1 (h2.back e).1, List.nodup_append.mpr ⟨h1.2, h2.2, fun a ha b hb he => ?_⟩⟩
  subst he
  obtain ⟨xs, g⟩ := NewL.got h1.1 a ha
  have := NewL.fresh h2.1 a hb
  rw [g] at this
  cases this
def EvNL (ta : TA) (σ : L2.St) (H : Hp) (xss : List (List V)) : Prop := ∀ H1, Ex H H1 → ∀ Q : List V → Hp → Prop, (∀ (ps : List Addr) H2, Ex H1 H2 → NewL H1 H2 ps xss → Q (ps.map V.ref) H2) → ta σ H1 Q
theorem enl_nil : EvNL tNil σ H [] := fun H1 _ Q q => q [] H1 (Ex.refl H1) NewL.nil
theorem enl_cons {tr : TA} {xs : List V} {xss : List (List V)} (h : EvL te σ H xs) (hr : EvNL tr σ H xss) : EvNL (tCons te tr) σ H (xs :: xss) := fun H1 e Q q =>
  h H1 e _ fun p H2 np e2 hp => hr H2 (e.trans e2) _ fun ps H3 e3 N => q (p :: ps) H3 (e2.trans e3) ⟨.cons ⟨np, e3 _ _ hp⟩ (N.back e2).1, List.nodup_cons.mpr ⟨fun hm => absurd (hp.symm.trans (NewL.fresh N.1 p hm)) (fun z => nomatch z), N.2⟩⟩
theorem NewL.len {ps : List Addr} {xss : List (List V)} (h : NewL H H' ps xss) : ps.length = xss.length := Paired.length h.1
theorem NewL.out {p : Addr} {o : HO} {ps : List Addr} {xss : List (List V)} (h : NewL H H' ps xss) (hp : H' p = none) : NewL H (upd H' p o) ps xss ∧ p ∉ ps := by
  have hn : p ∉ ps := fun hm => by
    obtain ⟨xs, g⟩ := NewL.got h.1 p hm
    rw [hp] at g
    cases g
  exact ⟨h.mono (Ex.new hp), hn⟩
/-- x = [new, new, ..] -/
theorem q_asgNL {tr : TA} {xss : List (List V)} {i : Nat} (h : EvNL tr σ H xss) (hz : xss.length ≤ 100000) (k : ∀ L ps H1, H L = none → Ex H H1 → H1 L = some (.lst (ps.map V.ref)) → NewL H H1 ps xss → L ∉ ps → tz D (σ.set i (some (.ref L))) H1) :
    tSeq (tAsg (tLst tr) (gName i)) tz D σ H := h H (Ex.refl H) _ fun ps H1 e1 N => ⟨sz_of (by rw [List.length_map, N.len]; exact hz), fun L nL => by
  obtain ⟨N2, nm⟩ := N.out (o := .lst (ps.map V.ref)) nL
  exact k L ps _ (fresh_back e1 nL) (e1.trans (Ex.new nL)) upd_same N2 nm⟩
/-- x = x + [new, new, ..], what x held new too -/
theorem q_catNL {H0 : Hp} {tr : TA} {xss yss : List (List V)} {i j : Nat} {l : Addr} {ps : List Addr} (N : NewL H0 H ps xss) (e0 : Ex H0 H) (hv : σ[j]? = some (some (.ref l))) (hl : H l = some (.lst (ps.map V.ref))) (h : EvNL tr σ H yss) (hz : xss.length + yss.length ≤ 100000)
    (k : ∀ L qs H1, H L = none → Ex H H1 → H1 L = some (.lst (qs.map V.ref)) → NewL H0 H1 qs (xss ++ yss) → L ∉ qs → tz D (σ.set i (some (.ref L))) H1) :
    tSeq (tAsg (tOp rCat (tVar j) (tLst tr)) (gName i)) tz D σ H := ⟨_, hv, h H (Ex.refl H) _ fun qs H1 e1 M => ⟨sz_of (by rw [List.length_map, M.len]; omega), fun r nr => by
  obtain ⟨M2, nm⟩ := M.out (o := .lst (qs.map V.ref)) nr
  have e2 : Ex H (upd H1 r (.lst (qs.map V.ref))) := e1.trans (Ex.new nr)
  have hz2 : (ps.map V.ref).length + (qs.map V.ref).length ≤ 100000 := by
    rw [List.length_map, List.length_map, N.len, M.len]
    exact hz
  refine ⟨l, r, _, _, rfl, rfl, e2 _ _ hl, upd_same, sz_of hz2, fun L nL => ?_⟩
  obtain ⟨A, na⟩ := (N.app e0 M2 e2).out (o := .lst (ps.map V.ref ++ qs.map V.ref)) nL
  refine k L (ps ++ qs) _ (fresh_back e2 nL) (e2.trans (Ex.new nL)) (by rw [upd_same, List.map_append]) A na⟩⟩
theorem paired_get {α β : Type} {F : α → β → Prop} : ∀ {l : List α} {m : List β} {i : Nat} {a : α}, Paired F l m → l[i]? = some a → ∃ b, m[i]? = some b ∧ F a b
  | _, _, _, _, .nil, h => by simp at h
  | _, _, 0, _, .cons (b := b) q _, h => ⟨b, rfl, by
    have e := Option.some.inj h
    exact e ▸ q⟩
  | _, _, i + 1, _, .cons _ q, h => paired_get (i := i) q h
/-- for row in xs: .., what stands in xs new and each turn changing its own row alone -/
theorem s_forRows {H0 : Hp} {L : Addr} {ps : List Addr} {xss : List (List V)} {j : Nat} (hv : Ev tl σ H (.ref L)) (hL : H L = some (.lst (ps.map V.ref))) (N : NewL H0 H ps xss) (e0 : Ex H0 H) (nL : L ∉ ps) (hj : j < σ.length)
    (hs : ∀ p xs H' (D' : Ends), xs ∈ xss → H' p = some (.lst xs) → Ex H0 H' → D'.rt = D.rt → (∀ H3 o, Ex H' H3 → D'.nx (σ.set j (some (.ref p))) (upd H3 p o)) → tu D' (σ.set j (some (.ref p))) H')
    (hd : ∀ y H', Ex H0 H' → D.nx (σ.set j y) H') :
    tFor (iList K tl) (gName j) tu D σ H := by
  refine s_forLn (xs := ps.map V.ref) hv (SqL.of hL) (fun i σ' H' => (∃ y, σ' = σ.set j y) ∧ Ex H0 H' ∧ H' L = some (.lst (ps.map V.ref)) ∧ ∀ k p xs, i ≤ k → ps[k]? = some p → xss[k]? = some xs → H' p = some (.lst xs))
    (fun H1 e1 => ⟨⟨σ[j], (List.set_getElem_self hj).symm⟩, e0.trans e1, e1 _ _ hL, fun k p xs _ hp hx => ?_⟩) (fun i σ' H' _ hp => SqL.of hp.2.2.1) (fun i x σ' H' hx hp => ?_) (fun σ' H' hp => ?_)
  · obtain ⟨b, hb, hF⟩ := paired_get N.1 hp
    rw [hx] at hb
    cases hb
    exact e1 _ _ hF.2
  · obtain ⟨⟨y, rfl⟩, p2, p3, p4⟩ := hp
    rw [List.getElem?_map] at hx
    obtain ⟨p, hp, rfl⟩ := Option.map_eq_some_iff.mp hx
    obtain ⟨xs, hxs, hF⟩ := paired_get N.1 hp
    have hLp : L ≠ p := fun e => nL (e ▸ List.mem_of_getElem? hp)
    rw [List.set_set]
    refine hs p xs H' _ (List.mem_of_getElem? hxs) (p4 i p xs (Nat.le_refl i) hp hxs) p2 rfl fun H3 o e3 => ⟨⟨_, rfl⟩, Ex.mut (p2.trans e3) hF.1, ?_, fun k p' xs' hk hp' hx' => ?_⟩
    · rw [upd_ne hLp]
      exact e3 _ _ p3
    · have ne : p' ≠ p := fun e => by
        subst e
        obtain ⟨h1, g1⟩ := List.getElem?_eq_some_iff.mp hp
        obtain ⟨h2, g2⟩ := List.getElem?_eq_some_iff.mp hp'
        exact List.pairwise_iff_getElem.mp N.2 i k h1 h2 (by omega) (g1.trans g2.symm)
      rw [upd_ne ne]
      exact e3 _ _ (p4 k p' xs' (by omega) hp' hx')
  · obtain ⟨⟨y, rfl⟩, p2, _, _⟩ := hp
    exact hd y H' p2

/-! ### == of lists of lists of ints -/
def dLL (nss : List (List Int)) : PyData := .list (nss.map dI)
theorem dI_inj (a b : List Int) (e : dI a = dI b) : a = b := map_inj (fun _ _ q => PyData.int.inj q) a b (PyData.list.inj e)
theorem dI_ok (a : List Int) : okD (dI a) = true := by
  unfold dI okD
  exact okA_map _ (fun _ => rfl) a
theorem dI_dep (a : List Int) : (dI a).depth ≤ 1 := Nat.succ_le_succ (dep_map PyData.int 0 (fun _ => Nat.le_refl 0) a)
theorem dI_lay (a : List Int) : PyData.canLay0 (dI a) = true := lay_map _ (fun _ => rfl) a
theorem dLL_sh (nss : List (List Int)) : SeqAt.shaped (dLL nss) = true := shaped_of (lay_map _ dI_lay nss) (Nat.le_trans (Nat.succ_le_succ (dep_map dI 1 dI_dep nss)) (by decide))
theorem dLL_eqv (nss mss : List (List Int)) : PyData.eqv (dLL nss) (dLL mss) = decide (nss = mss) := eqv_dec dLL (fun l => by unfold dLL okD; exact okA_map _ dI_ok l) (fun a b e => map_inj dI_inj a b (PyData.list.inj e)) nss mss
theorem dpa_lists : ∀ {ps : List Addr} {nss : List (List Int)}, Paired (fun p ns => SqL K H p (ns.map V.int)) ps nss → DpAll K H (ps.map V.ref) (nss.map dI)
  | _, _, .nil => .nil
  | _, _, .cons q r => .cons (dp_ints q) (dpa_lists r)
theorem dp_lists {a : Addr} {ps : List Addr} {nss : List (List Int)} (h : SqL K H a (ps.map V.ref)) (p : Paired (fun p ns => SqL K H p (ns.map V.int)) ps nss) : Dp K H (.ref a) (dLL nss) := .lst h (dpa_lists p)
theorem paired_map {α β γ : Type} {F : α → β → Prop} {f : γ → β} : ∀ {l : List α} {m : List γ}, Paired F l (m.map f) → Paired (fun a c => F a (f c)) l m
  | [], [], .nil => .nil
  | _ :: _, _ :: _, .cons a r => .cons a (paired_map r)
theorem NewL.sq {ps : List Addr} {nss : List (List Int)} (h : NewL H H' ps (nss.map fun ns => ns.map V.int)) : Paired (fun p ns => SqL K H' p (ns.map V.int)) ps nss := Paired.mapP (paired_map h.1) fun _ _ q => sq_of q.2
theorem rv_neLL {p q : Addr} {ps qs : List Addr} {nss mss : List (List Int)} (h1 : SqL K H p (ps.map V.ref)) (p1 : Paired (fun p ns => SqL K H p (ns.map V.int)) ps nss) (h2 : SqL K H q (qs.map V.ref)) (p2 : Paired (fun p ns => SqL K H p (ns.map V.int)) qs mss) : RV (rNeD K) (.ref p) (.ref q) H (.bl (!decide (nss = mss))) :=
  rv_neD (fun _ e => dp_lists (ex_l e h1) (Paired.mapP p1 fun _ _ z => ex_l e z)) (fun _ e => dp_lists (ex_l e h2) (Paired.mapP p2 fun _ _ z => ex_l e z)) (dLL_sh _) (dLL_sh _) (by rw [dLL_eqv])
/-! tuples of lists of ints -/
def dTL (nss : List (List Int)) : PyData := .tuple (nss.map dI)
theorem dTL_sh (nss : List (List Int)) : SeqAt.shaped (dTL nss) = true := shaped_of (lay_map _ dI_lay nss) (Nat.le_trans (Nat.succ_le_succ (dep_map dI 1 dI_dep nss)) (by decide))
theorem dTL_eqv (nss mss : List (List Int)) : PyData.eqv (dTL nss) (dTL mss) = decide (nss = mss) := eqv_dec dTL (fun l => by unfold dTL okD; exact okA_map _ dI_ok l) (fun a b e => map_inj dI_inj a b (PyData.tuple.inj e)) nss mss
theorem dp_tlists {a : Addr} {ps : List Addr} {nss : List (List Int)} (h : SqT K H a (ps.map V.ref)) (p : Paired (fun p ns => SqL K H p (ns.map V.int)) ps nss) : Dp K H (.ref a) (dTL nss) := .tup h (dpa_lists p)
theorem rv_neTL {p q : Addr} {ps qs : List Addr} {nss mss : List (List Int)} (h1 : SqT K H p (ps.map V.ref)) (p1 : Paired (fun p ns => SqL K H p (ns.map V.int)) ps nss) (h2 : SqT K H q (qs.map V.ref)) (p2 : Paired (fun p ns => SqL K H p (ns.map V.int)) qs mss) : RV (rNeD K) (.ref p) (.ref q) H (.bl (!decide (nss = mss))) :=
  rv_neD (fun _ e => dp_tlists (ex_t e h1) (Paired.mapP p1 fun _ _ z => ex_l e z)) (fun _ e => dp_tlists (ex_t e h2) (Paired.mapP p2 fun _ _ z => ex_l e z)) (dTL_sh _) (dTL_sh _) (by rw [dTL_eqv])
end
end Kp
namespace Kp
open PySem PySem.Spec PyProof.Rows L2 Evl
section
variable {K : PySem.W.Frag} {σ : L2.St} {H H' : Hp} {ta tb tc td : TE} {y z : V} {D : Ends} {tz : TS}
/-- x = [new, new, told, told] -/
theorem q_asgL4 {i : Nat} {xs ys : List V} (h1 : EvL ta σ H xs) (h2 : EvL tb σ H ys) (h3 : Ev tc σ H y) (h4 : Ev td σ H z) (k : ∀ L p q H1, Ex H H1 → H L = none → H1 L = some (.lst [.ref p, .ref q, y, z]) → H1 p = some (.lst xs) → H1 q = some (.lst ys) → tz D (σ.set i (some (.ref L))) H1) :
    tSeq (tAsg (tLst (tCons ta (tCons tb (tCons tc (tCons td tNil))))) (gName i)) tz D σ H :=
  h1 H (Ex.refl H) _ fun p H1 np e1 hp => h2 H1 e1 _ fun q H2 nq e2 hq => h3 H2 (e1.trans e2) _ fun H3 e3 => h4 H3 ((e1.trans e2).trans e3) _ fun H4 e4 => ⟨sz_of (show 4 ≤ 100000 by decide), fun L nL => by
    have e34 := e3.trans e4
    have e04 := (e1.trans e2).trans e34
    have eN : Ex H4 (upd H4 L (.lst [.ref p, .ref q, y, z])) := Ex.new nL
    exact k L p q _ (e04.trans eN) (fresh_back e04 nL) upd_same (eN _ _ (e34 _ _ (e2 _ _ hp))) (eN _ _ (e34 _ _ hq))⟩
/-- o[i] = e, of a list of ints, and on -/
theorem q_setI {te to ti : TE} {l : Addr} {ns : List Int} {j : Nat} {b : Int} (hl : H l = some (.lst (ns.map V.int))) (ho : Ev to σ H (.ref l)) (hi : Ev ti σ H (.int (j : Nat))) (hj : j < ns.length) (he : Ev te σ H (.int b))
    (k : ∀ H1, Ex H H1 → tz D σ (upd H1 l (.lst ((ns.set j b).map V.int)))) : tSeq (tAsg te (gSub to ti rSetL)) tz D σ H := s_setI (D := { D with nx := tz D }) hl ho hi hj he k
end
end Kp

/-! Products of polynomials told by their value at one great number. -/
namespace Kp
def addK : List Int → List Int → List Int
  | [], g => g
  | a :: f, [] => a :: f
  | a :: f, b :: g => (a + b) :: addK f g
def mulK : List Int → List Int → List Int
  | [], _ => []
  | a :: f, g => addK (g.map fun x => a * x) (0 :: mulK f g)
def l1 : List Int → Nat
  | [] => 0
  | a :: f => a.natAbs + l1 f
theorem coef_cons (a : Int) (f : List Int) (m : Nat) : coef (a :: f) (m + 1) = coef f m := rfl
theorem coef_cons0 (a : Int) (f : List Int) : coef (a :: f) 0 = a := rfl
theorem coef_addK : ∀ (f g : List Int) (m : Nat), coef (addK f g) m = coef f m + coef g m
  | [], g, m => by
    show coef g m = _
    rw [coef_nil, Int.zero_add]
  | a :: f, [], m => by
    show coef (a :: f) m = _
    rw [coef_nil, Int.add_zero]
  | a :: f, b :: g, 0 => rfl
  | a :: f, b :: g, m + 1 => coef_addK f g m
theorem coef_scale (a : Int) (g : List Int) (m : Nat) : coef (g.map fun x => a * x) m = a * coef g m := by
  by_cases h : m < g.length
  · rw [coef_lt (by rw [List.length_map]; exact h), coef_lt h, List.getElem_map]
  · rw [coef_ge (by rw [List.length_map]; omega), coef_ge (by omega), Int.mul_zero]
theorem cv_cons (a : Int) (f g : List Int) : ∀ (i m : Nat), cv (a :: f) g (i + 1) m = a * coef g m + if 1 ≤ m then cv f g i (m - 1) else 0
  | 0, m => by
    show 0 + (if 0 ≤ m then a * coef g (m - 0) else 0) = a * coef g m + if 1 ≤ m then 0 else 0
    rw [if_pos (Nat.zero_le m), Nat.sub_zero]
    split <;> omega
  | i + 1, m => by
    rw [cv, cv_cons a f g i m, cv]
    by_cases h1 : 1 ≤ m
    · rw [if_pos h1, if_pos h1, coef_cons]
      by_cases h2 : i + 1 ≤ m
      · rw [if_pos h2, if_pos (show i ≤ m - 1 by omega), show m - 1 - i = m - (i + 1) by omega]
        omega
      · rw [if_neg h2, if_neg (show ¬ i ≤ m - 1 by omega)]
        omega
    · rw [if_neg h1, if_neg h1, if_neg (by omega)]
      omega
theorem cv_nil (g : List Int) (m : Nat) : cv [] g 0 m = 0 := rfl
theorem coef_mulK : ∀ (f g : List Int) (m : Nat), coef (mulK f g) m = cv f g f.length m
  | [], g, m => coef_nil m
  | a :: f, g, m => by
    show coef (addK (g.map fun x => a * x) (0 :: mulK f g)) m = cv (a :: f) g (f.length + 1) m
    rw [coef_addK, coef_scale, cv_cons]
    cases m with
    | zero => rfl
    | succ m =>
      rw [coef_cons, coef_mulK f g m, if_pos (by omega)]
      rfl
theorem val_addK (x : Int) : ∀ f g : List Int, valP x (addK f g) = valP x f + valP x g
  | [], g => by
    show valP x g = 0 + _
    omega
  | a :: f, [] => by
    show valP x (a :: f) = _ + 0
    omega
  | a :: f, b :: g => by
    show (a + b) + x * valP x (addK f g) = (a + x * valP x f) + (b + x * valP x g)
    rw [val_addK x f g, Int.mul_add]
    omega
theorem val_scale (x a : Int) : ∀ g : List Int, valP x (g.map fun y => a * y) = a * valP x g
  | [] => by
    show 0 = a * 0
    omega
  | b :: g => by
    show a * b + x * valP x (g.map fun y => a * y) = a * (b + x * valP x g)
    rw [val_scale x a g, Int.mul_add, Int.mul_left_comm]
theorem val_mulK (x : Int) : ∀ f g : List Int, valP x (mulK f g) = valP x f * valP x g
  | [], g => by
    show 0 = 0 * _
    omega
  | a :: f, g => by
    show valP x (addK (g.map fun y => a * y) (0 :: mulK f g)) = (a + x * valP x f) * valP x g
    rw [val_addK, val_scale]
    show a * valP x g + (0 + x * valP x (mulK f g)) = _
    rw [val_mulK x f g, Int.add_mul, Int.zero_add, Int.mul_assoc]
theorem l1_addK : ∀ f g : List Int, l1 (addK f g) ≤ l1 f + l1 g
  | [], g => by
    show l1 g ≤ 0 + l1 g
    omega
  | a :: f, [] => by
    show l1 (a :: f) ≤ _
    omega
  | a :: f, b :: g => by
    show (a + b).natAbs + l1 (addK f g) ≤ (a.natAbs + l1 f) + (b.natAbs + l1 g)
    have := l1_addK f g
    have := Int.natAbs_add_le a b
    omega
theorem l1_scale (a : Int) : ∀ g : List Int, l1 (g.map fun y => a * y) = a.natAbs * l1 g
  | [] => rfl
  | b :: g => by
    show (a * b).natAbs + l1 (g.map fun y => a * y) = a.natAbs * (b.natAbs + l1 g)
    rw [l1_scale a g, Int.natAbs_mul, Nat.mul_add]
theorem l1_mulK : ∀ f g : List Int, l1 (mulK f g) ≤ l1 f * l1 g
  | [], g => by
    show 0 ≤ 0 * _
    omega
  | a :: f, g => by
    show l1 (addK (g.map fun y => a * y) (0 :: mulK f g)) ≤ (a.natAbs + l1 f) * l1 g
    have h1 := l1_addK (g.map fun y => a * y) (0 :: mulK f g)
    have h2 : l1 (0 :: mulK f g) = l1 (mulK f g) := by
      show (0 : Int).natAbs + _ = _
      rw [Int.natAbs_zero, Nat.zero_add]
    have h3 := l1_mulK f g
    rw [l1_scale, h2] at h1
    rw [Nat.add_mul]
    omega
theorem coef_l1 : ∀ (f : List Int) (m : Nat), (coef f m).natAbs ≤ l1 f
  | [], m => by
    rw [coef_nil]
    exact Nat.le_refl 0
  | a :: f, 0 => by
    rw [coef_cons0]
    exact Nat.le_add_right _ _
  | a :: f, m + 1 => by
    rw [coef_cons]
    exact Nat.le_trans (coef_l1 f m) (Nat.le_add_left _ _)
theorem len_addK : ∀ f g : List Int, (addK f g).length = max f.length g.length
  | [], g => by
    show g.length = max 0 g.length
    omega
  | a :: f, [] => by
    show (a :: f).length = max (f.length + 1) 0
    rw [List.length_cons]
    omega
  | a :: f, b :: g => by
    show (addK f g).length + 1 = max (f.length + 1) (g.length + 1)
    rw [len_addK f g]
    omega
theorem len_mulK : ∀ f g : List Int, f ≠ [] → g ≠ [] → (mulK f g).length = f.length + g.length - 1
  | [], g, h, _ => absurd rfl h
  | [a], g, _, hg => by
    show (addK (g.map fun x => a * x) [0]).length = 1 + g.length - 1
    have := List.length_pos_iff.mpr hg
    rw [len_addK, List.length_map, List.length_singleton]
    omega
  | a :: b :: f, g, _, hg => by
    show (addK (g.map fun x => a * x) (0 :: mulK (b :: f) g)).length = (f.length + 1 + 1) + g.length - 1
    rw [len_addK, List.length_map, List.length_cons, len_mulK (b :: f) g (fun h => nomatch h) hg, List.length_cons]
    omega
/-- who agrees at a great number agrees -/
theorem lift {B : Nat} : ∀ P Q : List Int, l1 P + l1 Q < B → valP (B : Int) P = valP (B : Int) Q → ∀ m, coef P m = coef Q m := by
  intro P
  induction P with
  | nil =>
    intro Q
    induction Q with
    | nil => exact fun _ _ _ => rfl
    | cons b Q ih =>
      intro h e m
      have h2 : l1 [] + l1 (b :: Q) = b.natAbs + l1 Q := by
        show 0 + (b.natAbs + l1 Q) = _
        omega
      have e2 : (0 : Int) = b + (B : Int) * valP (B : Int) Q := e
      have hb : b = 0 := by
        refine Int.natAbs_eq_zero.mp (Nat.eq_zero_of_dvd_of_lt ?_ (show b.natAbs < B by omega))
        have : b = (B : Int) * (-valP (B : Int) Q) := by
          rw [Int.mul_neg]
          omega
        rw [this, Int.natAbs_mul]
        exact Nat.dvd_mul_right _ _
      subst hb
      have B0 : (B : Int) ≠ 0 := by omega
      have e3 : valP (B : Int) [] = valP (B : Int) Q := by
        show 0 = _
        have : (B : Int) * valP (B : Int) Q = 0 := by omega
        rcases Int.mul_eq_zero.mp this with h | h
        · exact absurd h B0
        · exact h.symm
      cases m with
      | zero => rfl
      | succ m =>
        rw [coef_cons, coef_nil, ← ih (by show 0 + l1 Q < B; omega) e3 m, coef_nil]
  | cons a P ih =>
    intro Q h e m
    cases Q with
    | nil =>
      have h2 : l1 (a :: P) + l1 [] = a.natAbs + l1 P := rfl
      have e2 : a + (B : Int) * valP (B : Int) P = 0 := e
      have ha : a = 0 := by
        refine Int.natAbs_eq_zero.mp (Nat.eq_zero_of_dvd_of_lt ?_ (show a.natAbs < B by omega))
        have : a = (B : Int) * (-valP (B : Int) P) := by
          rw [Int.mul_neg]
          omega
        rw [this, Int.natAbs_mul]
        exact Nat.dvd_mul_right _ _
      subst ha
      have B0 : (B : Int) ≠ 0 := by omega
      have e3 : valP (B : Int) P = valP (B : Int) [] := by
        show _ = 0
        have : (B : Int) * valP (B : Int) P = 0 := by omega
        rcases Int.mul_eq_zero.mp this with h | h
        · exact absurd h B0
        · exact h
      cases m with
      | zero => rfl
      | succ m =>
        rw [coef_cons, coef_nil, ih [] (by show l1 P + 0 < B; omega) e3 m, coef_nil]
    | cons b Q =>
      have h2 : l1 (a :: P) + l1 (b :: Q) = a.natAbs + l1 P + (b.natAbs + l1 Q) := rfl
      have e2 : a + (B : Int) * valP (B : Int) P = b + (B : Int) * valP (B : Int) Q := e
      have hab : a - b = 0 := by
        refine Int.natAbs_eq_zero.mp (Nat.eq_zero_of_dvd_of_lt ?_ (show (a - b).natAbs < B by omega))
        have : a - b = (B : Int) * (valP (B : Int) Q - valP (B : Int) P) := by
          rw [Int.mul_sub]
          omega
        rw [this, Int.natAbs_mul]
        exact Nat.dvd_mul_right _ _
      have B0 : (B : Int) ≠ 0 := by omega
      have e3 : valP (B : Int) P = valP (B : Int) Q := by
        have : (B : Int) * (valP (B : Int) P - valP (B : Int) Q) = 0 := by
          rw [Int.mul_sub]
          omega
        rcases Int.mul_eq_zero.mp this with h | h
        · exact absurd h B0
        · omega
      cases m with
      | zero =>
        rw [coef_cons0, coef_cons0]
        omega
      | succ m =>
        rw [coef_cons, coef_cons]
        exact ih Q (by omega) e3 m
theorem val_wide (x : Int) {k : Nat} (hk : 1 ≤ k) : ∀ f : List Int, valP x (wideL k f) = valP (x ^ k) f := by
  have rep : ∀ (n : Nat) (g : List Int), valP x (List.replicate n 0 ++ g) = x ^ n * valP x g := by
    intro n g
    induction n with
    | zero => rw [Int.pow_zero, Int.one_mul]; rfl
    | succ n ih =>
      show 0 + x * valP x (List.replicate n 0 ++ g) = _
      rw [ih, Int.pow_succ, Int.zero_add, ← Int.mul_assoc, Int.mul_comm x]
  intro f
  induction f with
  | nil => rfl
  | cons a f ih =>
    show a + x * valP x (List.replicate (k - 1) 0 ++ wideL k f) = a + x ^ k * valP (x ^ k) f
    rw [rep, ih, ← Int.mul_assoc, show x * x ^ (k - 1) = x ^ k by rw [Int.mul_comm, ← Int.pow_succ, Nat.succ_eq_add_one, Nat.sub_add_cancel hk]]
theorem l1_wide (k : Nat) : ∀ f : List Int, l1 (wideL k f) = l1 f := by
  have rep : ∀ (n : Nat) (g : List Int), l1 (List.replicate n 0 ++ g) = l1 g := by
    intro n g
    induction n with
    | zero => rfl
    | succ n ih =>
      show (0 : Int).natAbs + l1 (List.replicate n 0 ++ g) = _
      rw [ih, Int.natAbs_zero, Nat.zero_add]
  intro f
  induction f with
  | nil => rfl
  | cons a f ih =>
    show a.natAbs + l1 (List.replicate (k - 1) 0 ++ wideL k f) = a.natAbs + l1 f
    rw [rep, ih]
/-- f times g is h at k, all told by values -/
theorem times_at {B : Nat} {f g h : List Int} {k : Nat} (hk : 1 ≤ k) (hf : f ≠ []) (hg : g ≠ []) (hh : h ≠ []) (hl : f.length + g.length = (h.length - 1) * k + 2) (hb : l1 f * l1 g + l1 h < B) (e : valP (B : Int) f * valP (B : Int) g = valP ((B : Int) ^ k) h) : mulK f g = atP h k := by
  have key := lift (B := B) (mulK f g) (wideL k h) (by have := l1_mulK f g; rw [l1_wide]; omega) (by rw [val_mulK, val_wide _ hk, e])
  refine ext_of ?_ fun m _ => ?_
  · rw [len_mulK f g hf hg]
    unfold atP
    rw [if_neg hh, mkL_len]
    omega
  · rw [key, coef_wide hk, coef_atP hk]

/-! ### many factors -/
def prodR : List (List Int) → List Int
  | [] => [1]
  | g :: r => mulK (prodR r) g
def valR (x : Int) : List (List Int) → Int
  | [] => 1
  | g :: r => valR x r * valP x g
def l1R : List (List Int) → Nat
  | [] => 1
  | g :: r => l1R r * l1 g
def lenR : List (List Int) → Nat
  | [] => 0
  | g :: r => lenR r + (g.length - 1)
theorem prodR_val (x : Int) : ∀ l, valP x (prodR l) = valR x l
  | [] => by
    show 1 + x * 0 = 1
    omega
  | g :: r => by
    show valP x (mulK (prodR r) g) = valR x r * valP x g
    rw [val_mulK, prodR_val x r]
theorem prodR_l1 : ∀ l, l1 (prodR l) ≤ l1R l
  | [] => Nat.le_refl 1
  | g :: r => by
    show l1 (mulK (prodR r) g) ≤ l1R r * l1 g
    exact Nat.le_trans (l1_mulK _ _) (Nat.mul_le_mul_right _ (prodR_l1 r))
theorem prodR_len : ∀ l : List (List Int), (∀ g ∈ l, g ≠ []) → prodR l ≠ [] ∧ (prodR l).length = lenR l + 1
  | [], _ => ⟨(fun h => nomatch h), rfl⟩
  | g :: r, h => by
    obtain ⟨i1, i2⟩ := prodR_len r fun z hz => h z (List.mem_cons_of_mem _ hz)
    have hg := h g (List.mem_cons_self ..)
    have e : (prodR (g :: r)).length = lenR (g :: r) + 1 := by
      show (mulK (prodR r) g).length = lenR r + (g.length - 1) + 1
      have := List.length_pos_iff.mpr hg
      rw [len_mulK _ _ i1 hg, i2]
      omega
    exact ⟨fun z => absurd (z ▸ e : ([] : List Int).length = lenR (g :: r) + 1) (by simp), e⟩
theorem prodR_one {g : List Int} (h : g ≠ []) : prodR [g] = g := by
  show addK (g.map fun x => 1 * x) [0] = g
  refine ext_of ?_ fun m _ => ?_
  · have := List.length_pos_iff.mpr h
    rw [len_addK, List.length_map, List.length_singleton]
    omega
  · rw [coef_addK, coef_scale]
    cases m with
    | zero =>
      rw [coef_cons0]
      omega
    | succ m =>
      rw [coef_cons, coef_nil]
      omega
/-- x to the d, less 1 -/
def xd1 (d : Nat) : List Int := [-1] ++ List.replicate (d - 1) 0 ++ [1]
theorem xd1_len {d : Nat} (h : 1 ≤ d) : (xd1 d).length = d + 1 := by
  unfold xd1
  rw [List.length_append, List.length_append, List.length_replicate, List.length_singleton, List.length_singleton]
  omega
theorem xd1_wide {d : Nat} (h : 1 ≤ d) (m : Nat) : coef (xd1 d) m = coef (wideL d [-1, 1]) m := by
  have e : wideL d [-1, 1] = xd1 d ++ List.replicate (d - 1) 0 := by
    show -1 :: List.replicate (d - 1) 0 ++ (1 :: List.replicate (d - 1) 0 ++ []) = _
    unfold xd1
    simp
  rw [e, coef_app]
  split
  · rfl
  · rename_i q
    rw [coef_rep, coef_ge (by omega)]
theorem prod_xd1 {B d : Nat} {l : List (List Int)} (hd : 1 ≤ d) (hl : ∀ g ∈ l, g ≠ []) (hn : lenR l = d) (hb : l1R l + 2 < B) (e : valR (B : Int) l = (B : Int) ^ d - 1) : prodR l = xd1 d := by
  have key := lift (B := B) (prodR l) (wideL d [-1, 1]) (by
    have := prodR_l1 l
    rw [l1_wide]
    show l1 (prodR l) + 2 < B
    omega) (by
    rw [prodR_val, val_wide _ hd, e]
    show _ = -1 + (B : Int) ^ d * (1 + (B : Int) ^ d * 0)
    rw [Int.mul_zero, Int.add_zero, Int.mul_one]
    omega)
  refine ext_of ?_ fun m _ => ?_
  · rw [(prodR_len l hl).2, xd1_len hd, hn]
  · rw [key, xd1_wide hd]
/-- the numbers of a great one, by 2 to the 32, the least first -/
def dec : Nat → Int → List Int
  | 0, _ => []
  | k + 1, N => ((N + 2147483648) % 4294967296 - 2147483648) :: dec k ((N - ((N + 2147483648) % 4294967296 - 2147483648)) / 4294967296)
theorem dec_len : ∀ (k : Nat) (N : Int), (dec k N).length = k
  | 0, _ => rfl
  | k + 1, N => by
    show (dec k _).length + 1 = k + 1
    rw [dec_len k]
/-- f at p, through f -/
def stepF (f : List Int) (p : Nat) : List Int := dec ((f.length - 1) * (p - 1) + 1) (valP ((4294967296 : Int) ^ p) f / valP 4294967296 f)
end Kp

/-! How a number is parted, as the program does; the root polynomials up to 420, told by their values at one great number. -/
namespace Kp
/-! ### how often p divides, and what is left -/
def strip (p : Int) : Nat → Int → Int → Int × Int
  | 0, l, t => (l, t)
  | m + 1, l, t => if l % p = 0 then strip p m (l / p) (t + 1) else (l, t)
theorem strip_stop {p l t : Int} {m : Nat} (h : ¬ l % p = 0) : strip p m l t = (l, t) := by
  cases m with
  | zero => rfl
  | succ m =>
    unfold strip
    rw [if_neg h]
theorem strip_go {p l t : Int} {m : Nat} (h : l % p = 0) : strip p (m + 1) l t = strip p m (l / p) (t + 1) := by
  rw [strip, if_pos h]
theorem half_lt {p l : Int} {m : Nat} (hp : 2 ≤ p) (h0 : 0 < l) (h : l < 2 ^ (m + 1)) (hd : l % p = 0) : 0 < l / p ∧ l / p < 2 ^ m ∧ l / p ≤ l := by
  have e : p * (l / p) + l % p = l := Int.mul_ediv_add_emod l p
  have e2 : p * (l / p) = l := by omega
  have p0 : 0 < l / p := by
    refine Int.lt_of_not_ge fun q => ?_
    have := Int.mul_nonneg (show 0 ≤ p by omega) (show 0 ≤ -(l / p) by omega)
    rw [Int.mul_neg] at this
    omega
  have e3 : 2 * (l / p) ≤ p * (l / p) := Int.mul_le_mul_of_nonneg_right hp (Int.le_of_lt p0)
  rw [Int.pow_succ] at h
  generalize (2 : Int) ^ m = M at *
  omega
def pLoop : Nat → Int → Int → List (Int × Int) → Int × List (Int × Int)
  | 0, _, l, rows => (l, rows)
  | m + 1, p, l, rows => if p * p ≤ l then pLoop m (p + 1) (strip p 64 l 0).1 (if 0 < (strip p 64 l 0).2 then rows ++ [(p, (strip p 64 l 0).2)] else rows) else (l, rows)
/-- the rows of n's primes, as the program makes them -/
def partedF (n : Int) : List (Int × Int) := if 1 < (pLoop n.toNat 2 n []).1 then (pLoop n.toNat 2 n []).2 ++ [((pLoop n.toNat 2 n []).1, 1)] else (pLoop n.toNat 2 n []).2
theorem pLoop_stop {p l : Int} {rows : List (Int × Int)} {m : Nat} (h : ¬ p * p ≤ l) : pLoop m p l rows = (l, rows) := by
  cases m with
  | zero => rfl
  | succ m =>
    unfold pLoop
    rw [if_neg h]
theorem pLoop_go {p l : Int} {rows : List (Int × Int)} {m : Nat} (h : p * p ≤ l) : pLoop (m + 1) p l rows = pLoop m (p + 1) (strip p 64 l 0).1 (if 0 < (strip p 64 l 0).2 then rows ++ [(p, (strip p 64 l 0).2)] else rows) := by
  rw [pLoop, if_pos h]
theorem sq_le {p l : Int} (h : p * p ≤ l) (hl : l ≤ 1000000000) : p ≤ 31622 := by
  refine Int.le_of_not_gt fun q => ?_
  have := Int.mul_le_mul (show 31623 ≤ p by omega) (show 31623 ≤ p by omega) (by decide) (by omega)
  omega

def GF (n : Nat) : List Int := (partedF n).foldl (fun f r => stepF f r.1.toNat) [-1, 1]
def LF (n : Nat) : Nat := (partedF n).foldl (fun l r => l / r.1.toNat) n
def BB : Nat := 2 ^ 256
def chkA : List (Int × Int) → List Int → Bool
  | [], _ => true
  | r :: ps, f => decide (1 ≤ r.1) && (decide ((f.length - 1) * r.1.toNat ≤ 420) && (decide (valP BB (stepF f r.1.toNat) * valP BB f = valP ((BB : Int) ^ r.1.toNat) f) && (decide (l1 (stepF f r.1.toNat) * l1 f + l1 f < BB) && chkA ps (stepF f r.1.toNat))))
def eval1 (n : Nat) : Int × Nat × Nat := (valP ((BB : Int) ^ LF n) (GF n), l1 (GF n), ((GF n).length - 1) * LF n)
def eT : List (Int × Nat × Nat) := (List.range 420).map fun i => eval1 (i + 1)
def dvs (d : Nat) : List Nat := (List.range d).filter fun i => decide (d % (i + 1) = 0)
def vR3 : List (Int × Nat × Nat) → Int × Nat × Nat
  | [] => (1, 1, 0)
  | t :: r => ((vR3 r).1 * t.1, (vR3 r).2.1 * t.2.1, (vR3 r).2.2 + t.2.2)
def chkD (d : Nat) : Bool := decide ((vR3 ((dvs d).map fun i => eT.getD i (0, 0, 0))).1 = (BB : Int) ^ d - 1) && (decide ((vR3 ((dvs d).map fun i => eT.getD i (0, 0, 0))).2.1 + 2 < BB) && (decide ((vR3 ((dvs d).map fun i => eT.getD i (0, 0, 0))).2.2 = d) && decide (1 ≤ LF d)))
end Kp

/-! Calls that are known not to raise; lists of new pairs of a number and a new list; loops over zip. -/
namespace Kp
open PySem PySem.Spec PyProof.Rows L2 Evl
section
variable {P : Program} {w : World} {K : PySem.W.Frag} {mg : Str → Option Value} {base : Heap} {x : Str} {k : Nat} {ps : List Str} {sp : Sp}
/-- a def that may raise, where nothing is wanted of what it raises -/
theorem Cal.calm (c : Cal P w K mg base (L2.CX P w) x k ps sp) : Cal P w K mg base CX0 x k ps (fun vs H Q _ => sp vs H Q (fun _ _ _ => False)) := by
  obtain ⟨f, fd, F, g, kp, b⟩ := c
  refine ⟨f, fd, ⟨fun vs H Q E h => F.len vs H Q _ h, fun A outer s H args us vs Q E hr e hb hv hs => ?_⟩, g, kp, b⟩
  refine codeAny_mono (F.run A outer s H args us vs Q (fun _ _ _ => False) hr e hb hv hs) fun r s' hq => ?_
  cases r with
  | error e =>
    obtain ⟨_, _, _, _, _, _, _, _, _, _, _, _, z⟩ := hq
    exact z.elim
  | ok fl =>
    cases fl with
    | ret u => exact hq
    | next => exact hq
    | brk => exact hq
    | cont => exact hq
theorem Cal.imp {CX : CXT} {sp' : Sp} (c : Cal P w K mg base CX x k ps sp) (h : ∀ vs H Q E, sp' vs H Q E → sp vs H Q E) : Cal P w K mg base CX x k ps sp' := by
  obtain ⟨f, fd, F, g, kp, b⟩ := c
  exact ⟨f, fd, F.imp h, g, kp, b⟩
end
section
variable {K : PySem.W.Frag} {σ : L2.St} {H H' : Hp} {ta tb te tl to ti : TE} {t : TT} {x y z v : V} {D : Ends} {tu tz : TS} {vs : List Nat}
/-- tuples of a number and a list, all new, no list the one at p -/
def RwsN (p : Addr) (H0 H : Hp) : List Addr → List (Int × List Int) → Prop := Paired (fun t r => ∃ q, q ≠ p ∧ H0 t = none ∧ H0 q = none ∧ H t = some (.tup [.int r.1, .ref q]) ∧ H q = some (.lst (r.2.map V.int)))
/-- the same, whoever made them -/
def Rws (K : PySem.W.Frag) (H : Hp) : List Addr → List (Int × List Int) → Prop := Paired (fun t r => ∃ q, SqT K H t [.int r.1, .ref q] ∧ SqL K H q (r.2.map V.int))
theorem RwsN.rws {p : Addr} {H0 : Hp} {ts : List Addr} {rows : List (Int × List Int)} (h : RwsN p H0 H ts rows) : Rws K H ts rows := Paired.mapP h fun _ _ ⟨q, _, _, _, h1, h2⟩ => ⟨q, SqT.of h1, SqL.of h2⟩
theorem Rws.mono {ts : List Addr} {rows : List (Int × List Int)} (e : Ex H H') (h : Rws K H ts rows) : Rws K H' ts rows := Paired.mapP h fun _ _ ⟨q, h1, h2⟩ => ⟨q, ex_t e h1, ex_l e h2⟩
theorem RwsN.mono {p : Addr} {H0 : Hp} {ts : List Addr} {rows : List (Int × List Int)} (e : Ex H H') (h : RwsN p H0 H ts rows) : RwsN p H0 H' ts rows := Paired.mapP h fun _ _ ⟨q, a, b, c, h1, h2⟩ => ⟨q, a, b, c, e _ _ h1, e _ _ h2⟩
theorem RwsN.back {p : Addr} {H0 H1 : Hp} {ts : List Addr} {rows : List (Int × List Int)} (e : Ex H0 H1) (h : RwsN p H1 H ts rows) : RwsN p H0 H ts rows := Paired.mapP h fun _ _ ⟨q, a, b, c, h1, h2⟩ => ⟨q, a, fresh_back e b, fresh_back e c, h1, h2⟩
def RetRws (rows : List (Int × List Int)) (H : Hp) (Q : VK) : Prop := ∀ p ts H2, H p = none → Ex H H2 → H2 p = some (.lst (ts.map V.ref)) → RwsN p H H2 ts rows → Q (.ref p) H2
theorem RetRws.go {rows : List (Int × List Int)} {Q : VK} (q : RetRws rows H Q) {H1 : Hp} (e : Ex H H1) {p : Addr} {ts : List Addr} {H2 : Hp} (np : H1 p = none) (e2 : Ex H1 H2) (h : H2 p = some (.lst (ts.map V.ref))) (r : RwsN p H1 H2 ts rows) : Q (.ref p) H2 :=
  q p ts H2 (fresh_back e np) (e.trans e2) h (r.back e)
def EvR (te : TE) (σ : L2.St) (H : Hp) (rows : List (Int × List Int)) : Prop := ∀ H1, Ex H H1 → ∀ Q : VK, RetRws rows H1 Q → te σ H1 Q
theorem evR_cal {sp : Sp} {vs : List V} {E : XK} {ta : TA} {rows : List (Int × List Int)} (h : EvA ta σ H vs) (hs : ∀ H1, Ex H H1 → ∀ Q : VK, RetRws rows H1 Q → ∀ E : XK, sp vs H1 Q E) : EvR (tCall sp [] E ta) σ H rows := fun H1 e Q q =>
  h H1 e _ fun H2 e2 => by
    show sp (vs ++ []) H2 Q E
    rw [List.append_nil]
    exact hs H2 (e.trans e2) Q (fun p ts H3 np e3 h3 r => q p ts H3 (fresh_back e2 np) (e2.trans e3) h3 (r.back e2)) E
theorem q_asgR {i : Nat} {rows : List (Int × List Int)} (h : EvR te σ H rows) (k : ∀ p ts H1, H p = none → Ex H H1 → H1 p = some (.lst (ts.map V.ref)) → RwsN p H H1 ts rows → tz D (σ.set i (some (.ref p))) H1) : tSeq (tAsg te (gName i)) tz D σ H :=
  h H (Ex.refl H) _ fun p ts H1 np e h1 r => k p ts H1 np e h1 r
theorem q_appR {rows : List (Int × List Int)} (h : EvR ta σ H rows) (hv : ∀ H1, Ex H H1 → Ev te σ H1 v) (hz : rows.length < 100000) (k : ∀ H1, Ex H H1 → tz D σ H1) : tSeq (tDrop (tBM K "list" rAppend ta (tCons te tNil))) tz D σ H := h H (Ex.refl H) _ fun p ts H1 np e1 hp r =>
  ⟨Or.inl ⟨rfl, _, sq_of hp⟩, hv H1 e1 H1 (Ex.refl _) _ fun H2 e2 => ⟨p, _, v, rfl, rfl, e2 p _ hp, sz_lt (by rw [List.length_map, Paired.length r]; exact hz), k _ (Ex.mut (e1.trans e2) np)⟩⟩
/-- [(d, a new list) for d in a new list of ints] -/
theorem evR_lc {ns : List Int} {j : Nat} {t1 t2 : TE} (w : Int → List Int) (h : EvL tl σ H (ns.map V.int)) (hz : ns.length ≤ 40000) (hw : ∀ x, wipe ((wipe σ vs).set j (some x)) vs = wipe σ vs)
    (he : ∀ r H1, Ex H H1 → r ∈ ns → Ev t1 ((wipe σ vs).set j (some (.int r))) H1 (.int r) ∧ EvL t2 ((wipe σ vs).set j (some (.int r))) H1 ((w r).map V.int)) :
    EvR (tLc (iList K tl) (gName j) tYes (tTup (tCons t1 (tCons t2 tNil))) vs) σ H (ns.map fun r => (r, w r)) := fun H0 e Q q => h H0 e _ fun a H1 na e1 ha => ⟨a, rfl, ⟨_, sq_of ha⟩, fun Dl hD =>
  lc_list (xs := ns.map V.int) (fun n H' => H1 Dl = none ∧ Ex H1 H' ∧ ∃ ts, H' Dl = some (.lst (ts.map V.ref)) ∧ RwsN Dl H1 H' ts ((ns.take n).map fun r => (r, w r))) ⟨hD, Ex.new hD, [], upd_same, .nil⟩ (fun n H' _ p => sq_of (p.2.1 _ _ ha)) (fun n x H' hn p => by
    obtain ⟨p1, p2, ts, p3, p4⟩ := p
    obtain ⟨r, hr, rfl⟩ := map_get hn
    have hm : r ∈ ns := List.mem_of_getElem? hr
    obtain ⟨g1, g2⟩ := he r H1 (e.trans e1) hm
    refine ⟨hw _, ?_⟩
    refine et_yes (H := H') _ (Ex.refl _) _ fun H3 e3 => ?_
    rw [if_pos rfl]
    refine g1 H3 (p2.trans e3) _ fun H4 e4 => g2 H4 ((p2.trans e3).trans e4) _ fun q H5 nq e5 hq => ⟨sz_of (show 2 ≤ 100000 by decide), fun T nT => ?_⟩
    have e35 : Ex H' H5 := (e3.trans e4).trans e5
    have e36 : Ex H' (upd H5 T (.tup [.int r, .ref q])) := e35.trans (Ex.new nT)
    have hDl := e36 _ _ p3
    have nq1 : H1 q = none := fresh_back ((p2.trans e3).trans e4) nq
    have nT1 : H1 T = none := fresh_back (p2.trans e35) nT
    have qD : q ≠ Dl := fun z => by
      have := (e3.trans e4) _ _ p3
      rw [← z, nq] at this
      cases this
    have TD : T ≠ Dl := fun z => by
      have := e35 _ _ p3
      rw [← z, nT] at this
      cases this
    have qT : q ≠ T := fun z => by
      rw [z, nT] at hq
      cases hq
    refine ⟨_, hDl, ?_, p1, Ex.mut (p2.trans e36) p1, ts ++ [T], by rw [upd_same, List.map_append]; rfl, ?_⟩
    · refine sz_lt ?_
      rw [List.length_map, Paired.length p4, List.length_map, List.length_take]
      omega
    · have et : ns.take (n + 1) = ns.take n ++ [r] := by rw [List.take_add_one, hr]; rfl
      rw [et, List.map_append]
      refine Paired.snoc (Paired.mapP p4 fun t r' ⟨q', z1, z2, z3, z4, z5⟩ => ⟨q', z1, z2, z3, ?_, ?_⟩) ⟨q, qD, nT1, nq1, ?_, ?_⟩
      · rw [upd_ne (ne_of (e36 _ _ z4) hDl (by intro z; cases z))]
        exact e36 _ _ z4
      · rw [upd_ne z1]
        exact e36 _ _ z5
      · rw [upd_ne TD, upd_same]
      · rw [upd_ne qD, upd_ne qT]
        exact hq) (fun H' p => by
    obtain ⟨p1, p2, ts, p3, p4⟩ := p
    rw [List.length_map, List.take_length] at p4
    exact q Dl ts H' (fresh_back e1 p1) (e1.trans p2) p3 (p4.back e1))⟩
/-- for d, f in what is told: f.append(..) -/
theorem q_forRwApp {rows : List (Int × List Int)} {j1 j2 : Nat} {u : V} (h : EvR te σ H rows) (hz : rows.length ≤ 1000) (hl : ∀ r ∈ rows, r.2.length < 50000) (hj : j1 < σ.length) (hj2 : j2 < σ.length) (hne : j1 ≠ j2) (k : ∀ x y H1, Ex H H1 → tz D ((σ.set j1 x).set j2 y) H1) :
    tSeq (tFor (iList K te) (gTup K 2 (gCons (gName j1) (gCons (gName j2) gNil))) (tDrop (tBM K "list" rAppend (tVar j2) (tCons (tC u) tNil)))) tz D σ H :=
  h H (Ex.refl H) _ fun p ts H1 np e1 hp R => ⟨p, rfl, ⟨_, sq_of hp⟩, for_list (xs := ts.map V.ref)
    (fun i σ' H' => (∃ x y, σ' = (σ.set j1 x).set j2 y) ∧ Ex H H' ∧ H' p = some (.lst (ts.map V.ref)) ∧ ∀ t ∈ ts, ∃ d q xs, q ≠ p ∧ H q = none ∧ H' t = some (.tup [.int d, .ref q]) ∧ H' q = some (.lst xs) ∧ xs.length < 50000 + i)
    ⟨⟨σ[j1], σ[j2], by
      rw [List.set_getElem_self hj, List.set_getElem_self hj2]⟩, e1, hp, fun t ht => by
      obtain ⟨n, hn⟩ := List.mem_iff_getElem?.mp ht
      obtain ⟨r, hr, q, z1, z2, z3, z4, z5⟩ := paired_get R hn
      exact ⟨r.1, q, _, z1, z3, z4, z5, by rw [List.length_map]; have := hl r (List.mem_of_getElem? hr); omega⟩⟩
    (fun i σ' H' _ p => sq_of p.2.2.1) (fun i x σ' H' hx hp => by
      obtain ⟨⟨y1, y2, rfl⟩, p2, p3, p4⟩ := hp
      rw [List.getElem?_map] at hx
      obtain ⟨t, ht, rfl⟩ := Option.map_eq_some_iff.mp hx
      have hm := List.mem_of_getElem? ht
      have hi : i < ts.length := (List.getElem?_eq_some_iff.mp ht).1
      have hlen := Paired.length R
      obtain ⟨d, q, xs, qp, nq, h1, h2, h3⟩ := p4 t hm
      refine ⟨t, _, rfl, .inl (.inl h1), rfl, .int d, [.ref q], rfl, .ref q, [], rfl, rfl, ?_⟩
      refine s_app h2 (ev_var ?_) ev_c (by omega) fun H3 e3 => ⟨⟨some (.int d), some (.ref q), ?_⟩, Ex.mut (p2.trans e3) nq, ?_, fun t' ht' => ?_⟩
      · rw [List.getElem?_set_self (by rw [List.length_set, List.length_set, List.length_set]; exact hj2)]
      · rw [List.set_comm _ _ hne.symm, List.set_set, List.set_set]
      · rw [upd_ne qp.symm]
        exact e3 _ _ p3
      · obtain ⟨d', q', ys, z1, z2, z3, z4, z5⟩ := p4 t' ht'
        have nt : t' ≠ q := ne_of z3 h2 (by intro z; cases z)
        by_cases e : q' = q
        · subst e
          rw [h2] at z4
          cases z4
          exact ⟨d', q', _, z1, z2, by rw [upd_ne nt]; exact e3 _ _ z3, upd_same, by rw [List.length_append, List.length_singleton]; omega⟩
        · exact ⟨d', q', ys, z1, z2, by rw [upd_ne nt]; exact e3 _ _ z3, by rw [upd_ne e]; exact e3 _ _ z4, by omega⟩) (fun σ' H' p => by
      obtain ⟨⟨y1, y2, rfl⟩, p2, _⟩ := p
      exact k y1 y2 H' p2)⟩
/-- for x, y in zip(a, b) -/
theorem s_forZ {a b : Addr} {xs ys : List V} {tl : TA} {j1 j2 : Nat} (h : EvA tl σ H [.ref a, .ref b]) (hx : SqL K H a xs) (hy : SqL K H b ys) (hl : xs.length = ys.length) (Pv : Nat → L2.St → Hp → Prop) (h0 : ∀ H1, Ex H H1 → Pv 0 σ H1) (hq : ∀ i σ' H', Pv i σ' H' → SqL K H' a xs ∧ SqL K H' b ys)
    (hs : ∀ i x y σ' H', xs[i]? = some x → ys[i]? = some y → Pv i σ' H' → ∀ H2, Ex H' H2 → tu { D with nx := Pv (i + 1), ct := Pv (i + 1), bk := D.nx } ((σ'.set j1 (some x)).set j2 (some y)) H2) (hd : ∀ σ' H', Pv xs.length σ' H' → D.nx σ' H') :
    tFor (iZip K tl) (gTup K 2 (gCons (gName j1) (gCons (gName j2) gNil))) tu D σ H :=
  h H (Ex.refl H) _ fun H1 e => ⟨a, b, xs, ys, rfl, ex_l e hx, ex_l e hy, for_it (n := xs.length) (walk_zip (by omega)) Pv (h0 H1 e) (fun i σ' H' _ p => hq i σ' H' p) (fun i v σ' H' H'' hi p y => by
    obtain ⟨T, x, y, rfl, hT, rfl, hx, hy⟩ := y
    exact ⟨T, _, rfl, .inl (.inl upd_same), rfl, x, [y], rfl, y, [], rfl, rfl, hs i x y σ' H' hx hy p _ (Ex.new hT)⟩) hd⟩
theorem q_forZ {a b : Addr} {xs ys : List V} {tl : TA} {j1 j2 : Nat} (h : EvA tl σ H [.ref a, .ref b]) (hx : SqL K H a xs) (hy : SqL K H b ys) (hl : xs.length = ys.length) (Pv : Nat → L2.St → Hp → Prop) (h0 : ∀ H1, Ex H H1 → Pv 0 σ H1) (hq : ∀ i σ' H', Pv i σ' H' → SqL K H' a xs ∧ SqL K H' b ys)
    (hs : ∀ i x y σ' H', xs[i]? = some x → ys[i]? = some y → Pv i σ' H' → ∀ H2, Ex H' H2 → tu { D with nx := Pv (i + 1), ct := Pv (i + 1), bk := tz D } ((σ'.set j1 (some x)).set j2 (some y)) H2) (hd : ∀ σ' H', Pv xs.length σ' H' → tz D σ' H') :
    tSeq (tFor (iZip K tl) (gTup K 2 (gCons (gName j1) (gCons (gName j2) gNil))) tu) tz D σ H := s_forZ (D := { D with nx := tz D }) h hx hy hl Pv h0 hq hs hd
/-! == of a pair of a number and a list -/
def dNL (r : Int × List Int) : PyData := .tuple [.int r.1, dI r.2]
theorem dNL_ok (r : Int × List Int) : okD (dNL r) = true := by
  show (true && (okD (dI r.2) && true)) = true
  rw [dI_ok]
  rfl
theorem dNL_lay (r : Int × List Int) : PyData.canLay0 (dNL r) = true := by
  show PyData.canLayAll0 [.int r.1, dI r.2] = true
  unfold PyData.canLayAll0 PyData.canLayAll0 PyData.canLayAll0
  rw [dI_lay]
  rfl
theorem dNL_dep (r : Int × List Int) : (dNL r).depth ≤ 2 := by
  show PyData.depthAll [.int r.1, dI r.2] + 1 ≤ 2
  unfold PyData.depthAll PyData.depthAll PyData.depthAll
  have := dI_dep r.2
  simp only [PyData.depth]
  omega
theorem dNL_sh (r : Int × List Int) : SeqAt.shaped (dNL r) = true := shaped_of (dNL_lay r) (Nat.le_trans (dNL_dep r) (by decide))
theorem dNL_inj (a b : Int × List Int) (e : dNL a = dNL b) : a = b := by
  obtain ⟨a1, a2⟩ := a
  obtain ⟨b1, b2⟩ := b
  simp only [dNL, PyData.tuple.injEq, List.cons.injEq, PyData.int.injEq, and_true] at e
  rw [e.1, dI_inj _ _ e.2]
theorem dNL_eqv (a b : Int × List Int) : PyData.eqv (dNL a) (dNL b) = decide (a = b) := eqv_dec dNL dNL_ok dNL_inj a b
theorem dp_NL {t q : Addr} {r : Int × List Int} (h : SqT K H t [.int r.1, .ref q]) (g : SqL K H q (r.2.map V.int)) : Dp K H (.ref t) (dNL r) := .tup h (.cons (.int _) (.cons (dp_ints g) .nil))
theorem rv_neNL {t u q p : Addr} {r s : Int × List Int} (h1 : SqT K H t [.int r.1, .ref q]) (g1 : SqL K H q (r.2.map V.int)) (h2 : SqT K H u [.int s.1, .ref p]) (g2 : SqL K H p (s.2.map V.int)) : RV (rNeD K) (.ref t) (.ref u) H (.bl (!decide (r = s))) :=
  rv_neD (fun _ e => dp_NL (ex_t e h1) (ex_l e g1)) (fun _ e => dp_NL (ex_t e h2) (ex_l e g2)) (dNL_sh _) (dNL_sh _) (by rw [dNL_eqv])
end
/-- two rising lists of the same numbers -/
theorem rise_uniq : ∀ {a b : List Nat}, a.Pairwise (· < ·) → b.Pairwise (· < ·) → (∀ x, x ∈ a ↔ x ∈ b) → a = b
  | [], [], _, _, _ => rfl
  | [], y :: b, _, _, h => absurd ((h y).mpr (List.mem_cons_self ..)) (by simp)
  | x :: a, [], _, _, h => absurd ((h x).mp (List.mem_cons_self ..)) (by simp)
  | x :: a, y :: b, ha, hb, h => by
    have a1 := List.pairwise_cons.mp ha
    have b1 := List.pairwise_cons.mp hb
    have e : x = y := by
      rcases List.mem_cons.mp ((h x).mp (List.mem_cons_self ..)) with e | e
      · exact e
      · rcases List.mem_cons.mp ((h y).mpr (List.mem_cons_self ..)) with f | f
        · exact f.symm
        · have := a1.1 y f
          have := b1.1 x e
          omega
    subst e
    congr 1
    refine rise_uniq a1.2 b1.2 fun z => ⟨fun hz => ?_, fun hz => ?_⟩
    · rcases List.mem_cons.mp ((h z).mp (List.mem_cons_of_mem _ hz)) with e | e
      · have := a1.1 z hz
        omega
      · exact e
    · rcases List.mem_cons.mp ((h z).mpr (List.mem_cons_of_mem _ hz)) with e | e
      · have := b1.1 z hz
        omega
      · exact e
end Kp

namespace Own
open PySem PySem.Spec PyProof.Rows L2 Evl Kp
def topS (i : Nat) : Stmt := PySem.Challenge.pw_rootwheel_k56_signs_by_primes.main.body.getD i (.Pass ⟨0, 0, 0, 0⟩)
/-! ### words of ours for the walk over readings -/
local macro_rules | `(tactic| one_place) => `(tactic| (fail_if_success (with_reducible first | refine probe ?_ | refine probeT ?_ | refine probeA ?_)); first
  | exact ev_c
  | exact ev_var rfl
  | exact ea_nil
  | (apply ea_cons <;> one_place)
  | (apply et_test; one_place)
  | (apply et_B; one_place)
  | (apply et_not; one_place)
  | (apply ev_add <;> one_place)
  | (apply ev_sub <;> one_place)
  | (apply ev_mul <;> first | one_place | (exact mulW (by omega) (by omega)))
  | (apply ev_div <;> first | one_place | (exact divW (by omega) (by omega)))
  | (apply ev_mod <;> first | one_place | omega)
  | (refine ev_pow (i := 10) (j := 6) (c := 1000000) ?_ ?_ ⟨by decide, by decide +kernel⟩ (by rfl) <;> one_place)
  | (refine ev_pow (i := 10) (j := 9) (c := 1000000000) ?_ ?_ ⟨by decide, by decide +kernel⟩ (by rfl) <;> one_place)
  | (refine ev_pow (i := 10) (j := 12) (c := 1000000000000) ?_ ?_ ⟨by decide, by decide +kernel⟩ (by rfl) <;> one_place)
  | (refine ev_pow (i := 10) (j := 18) (c := 1000000000000000000) ?_ ?_ ⟨by decide, by decide +kernel⟩ (by rfl) <;> one_place)
  | (apply ev_lt <;> one_place)
  | (apply ev_le <;> one_place)
  | (apply ev_gt <;> one_place)
  | (apply ev_ge <;> one_place)
  | (apply ev_eqI <;> one_place)
  | (apply ev_neI <;> one_place)
  | (apply ev_neg; one_place)
  | assumption)
/-! ### numbers of bounded size -/
def Bd (b : Nat) (l : List Int) : Prop := ∀ m, (coef l m).natAbs < 2 ^ b
theorem mulB {i j : Int} {a b : Nat} (hi : i.natAbs < 2 ^ a) (hj : j.natAbs < 2 ^ b) (h : a + b ≤ 900000) : CMulW i j :=
  wide_mul (a := a + 1) (b := b + 1) (Nat.lt_of_lt_of_le hi (Nat.pow_le_pow_right (by decide) (Nat.le_succ a))) (Nat.lt_of_lt_of_le hj (Nat.pow_le_pow_right (by decide) (Nat.le_succ b))) (Nat.succ_pos _) (Nat.succ_pos _) (by omega)
theorem Bd.at {b : Nat} {l : List Int} {i : Nat} {x : Int} (h : Bd b l) (hi : l[i]? = some x) : x.natAbs < 2 ^ b := by
  have := h i
  rwa [coef_of hi] at this
theorem Bd.of {b : Nat} {l : List Int} (h : ∀ x ∈ l, x.natAbs < 2 ^ b) : Bd b l := fun m => by
  by_cases q : m < l.length
  · rw [coef_lt q]
    exact h _ (List.getElem_mem q)
  · rw [coef_ge (by omega)]
    exact Nat.two_pow_pos b

/- parted: slots 0 n, 1 rows, 2 left, 3 p, 4 times; calls  -/
abbrev s_parted : Stmt := topS 4
theorem sc_parted : FnScope ["n", "rows", "left", "p", "times"] ["n"] (defScope s_parted) := ⟨rfl, rfl, rfl, by decide +kernel, rfl, by decide +kernel, by decide +kernel⟩

def spParted (K : PySem.W.Frag) : Sp := fun vs H Q _ => ∃ n : Int, vs = [.int n] ∧ 1 ≤ n ∧ n ≤ 1000000000 ∧ RetP K (partedF n) H Q
section
variable {P : Program} {w : World} {K : PySem.W.Frag} {mg : Str → Option Value} {base : Heap}
theorem cal_parted (nb : Nb mg) (d : Dfn K mg "parted" ["n"] s_parted) : Cal P w K mg base CX0 "parted" 1 ["n"] (spParted K) := by
  refine d.cal sc_parted (fun vs H Q E h => ?_) (fun f cdv A outer s H vs Q E hr h => ?_)
  · obtain ⟨a, rfl, _⟩ := h
    rfl
  · obtain ⟨n, rfl, n1, n2, q⟩ := h
    refine ⟨_, (pss_cons (ps_set (i := 1) sc_parted.nd rfl (.inl rfl) (pe_lst pa_nil))
      (pss_cons (ps_set (i := 2) sc_parted.nd rfl (.inl rfl) (pv 0))
      (pss_cons (ps_set (i := 3) sc_parted.nd rfl (.inl rfl) pe_int)
      (pss_cons (ps_while PassesOwn.never (pt_cmpR op_le (pe_op op_mulW (pv 3) (pv 3)) (pv 2) (nomark _)) (pss_cons (ps_set (i := 4) sc_parted.nd rfl (.inl rfl) pe_int)
      (pss_cons (ps_while PassesOwn.never (pt_cmpR op_eq (pe_op op_mod (pv 2) (pv 3)) pe_int (nomark _)) (pss_cons (ps_aug (i := 2) sc_parted.nd rfl (.inl rfl) (pv 3) (pip_of iop_fdivW))
      (pss_one (ps_aug (i := 4) sc_parted.nd rfl (.inl rfl) pe_int ip_add))))
      (pss_cons (ps_if (pt_cmpR op_gt (pv 4) pe_int (nomark _)) (pss_one (ps_expr (pe_bm PySem.F.plainAttrs_list PySem.F.slot_list_append PySem.F.type_list_append mt_append (pv 1) (pa_cons (pe_tup (pa_cons (pv 3) (pa_cons (pv 4) pa_nil))) pa_nil)))) pss_nil)
      (pss_one (ps_aug (i := 3) sc_parted.nd rfl (.inl rfl) pe_int ip_add))))))
      (pss_cons (ps_if (pt_cmpR op_gt (pv 2) pe_int (nomark _)) (pss_one (ps_expr (pe_bm PySem.F.plainAttrs_list PySem.F.slot_list_append PySem.F.type_list_append mt_append (pv 1) (pa_cons (pe_tup (pa_cons (pv 2) (pa_cons pe_int pa_nil))) pa_nil)))) pss_nil)
      (pss_one (ps_ret (pv 1)))))))), ?_⟩
    refine q_asgL (xs := []) (el_lst ea_nil (by decide)) fun a H1 ha e1 h1 => ?_
    refine q_asg (v := .int n) (by one_place) fun H2 e2 => ?_
    refine q_asg (v := .int 2) (by one_place) fun H3 e3 => ?_
    refine q_while (fun m σ' H' => ∃ (p l : Int) (rows : List (Int × Int)) (xs : List V) (x : Option V), σ' = [some (.int n), some (.ref a), some (.int l), some (.int p), x] ∧ 2 ≤ p ∧ p ≤ 40000 ∧ 0 < l ∧ l ≤ n ∧ l < p + m ∧
      pLoop m p l rows = pLoop n.toNat 2 n [] ∧ Ex H H' ∧ H' a = some (.lst xs) ∧ Prs K H' xs rows ∧ (rows.length : Int) + 2 ≤ p) n.toNat
      ⟨2, n, [], [], none, rfl, by omega, by omega, by omega, by omega, by omega, rfl, (e1.trans e2).trans e3, e3 _ _ (e2 _ _ h1), .nil, by decide⟩ fun m σ' H' hW => ?_
    obtain ⟨p, l, rows, xs, x, rfl, p1, p2, l1, l2, lm, eL, e4, h4, pr, hlen⟩ := hW
    refine ⟨decide (p * p ≤ l), by one_place, fun hb H5 e5 => ?_, fun hb H5 e5 => ?_⟩
    · have hpp := of_decide_eq_true hb
      have hp3 := sq_le hpp (by omega)
      cases m with
      | zero =>
        have : 2 * p ≤ p * p := Int.mul_le_mul_of_nonneg_right p1 (by omega)
        omega
      | succ m =>
        rw [pLoop_go hpp] at eL
        refine ⟨_, fun σ2 H2 hN => ⟨m, Nat.lt_succ_self m, hN⟩, ?_⟩
        refine q_asg (v := .int 0) (by one_place) fun H6 e6 => ?_
        refine q_while (fun k σ' H' => ∃ u t : Int, σ' = [some (.int n), some (.ref a), some (.int u), some (.int p), some (.int t)] ∧ 0 < u ∧ u ≤ l ∧ u < 2 ^ k ∧ strip p k u t = strip p 64 l 0 ∧ Ex H6 H') 64
          ⟨l, 0, rfl, l1, Int.le_refl _, by omega, rfl, Ex.refl _⟩ fun k σ' H' hW => ?_
        obtain ⟨u, t, rfl, u1, u2, uk, eS, e7⟩ := hW
        refine ⟨decide (u % p = 0), by one_place, fun hb H8 e8 => ?_, fun hb H8 e8 => ?_⟩
        · have hd := of_decide_eq_true hb
          cases k with
          | zero =>
            rw [Int.pow_zero] at uk
            omega
          | succ k =>
            obtain ⟨v1, v2, v3⟩ := half_lt p1 u1 uk hd
            rw [strip_go hd] at eS
            refine ⟨_, fun σ2 H2 hN => ⟨k, Nat.lt_succ_self k, hN⟩, ?_⟩
            refine ⟨.int u, rfl, .int p, rfl, u, p, rfl, rfl, divW (by omega) (by omega), ?_⟩
            refine s_aug (a := t) (b := 1) rfl (by one_place) fun H10 e10 => ?_
            exact ⟨u / p, t + 1, rfl, v1, by omega, v2, eS, (e7.trans e8).trans e10⟩
        · have hd := of_decide_eq_false hb
          rw [strip_stop hd] at eS
          rw [← eS] at eL
          have h8 := e8 _ _ (e7 _ _ (e6 _ _ (e5 _ _ h4)))
          have e68 := e6.trans (e7.trans e8)
          have pr8 := pr.mono (e5.trans e68)
          refine q_when (b := decide (0 < t)) (by one_place) (fun hb H9 e9 => ?_) (fun hb H9 e9 => ?_)
          · have ht := of_decide_eq_true hb
            rw [if_pos ht] at eL
            refine s_appU (ys := [.int p, .int t]) (e9 _ _ h8) (by one_place) (eu_tup (by one_place) (by show 2 ≤ 100000; decide)) (by rw [Paired.length pr]; omega) fun tp H10 htp e10 h10 => ?_
            have h10a := e10 _ _ (e9 _ _ h8)
            refine s_aug (a := p) (b := 1) rfl (by one_place) fun H11 e11 => ?_
            refine ⟨p + 1, u, rows ++ [(p, t)], xs ++ [.ref tp], _, rfl, by omega, by omega, u1, by omega, by omega, eL, ?_, e11 _ _ upd_same, ?_, ?_⟩
            · exact (Ex.mut (((e4.trans e5).trans e68).trans (e9.trans e10)) ha).trans e11
            · exact (((pr8.mono (e9.trans e10)).upd h10a).snoc (sqt_upd h10a (SqT.of h10))).mono e11
            · rw [List.length_append, List.length_singleton]
              omega
          · have ht := of_decide_eq_false hb
            rw [if_neg ht] at eL
            refine s_aug (a := p) (b := 1) rfl (by one_place) fun H11 e11 => ?_
            exact ⟨p + 1, u, rows, xs, _, rfl, by omega, by omega, u1, by omega, by omega, eL, ((e4.trans e5).trans e68).trans (e9.trans e11), e11 _ _ (e9 _ _ h8), pr8.mono (e9.trans e11), by omega⟩
    · have hpp := of_decide_eq_false hb
      rw [pLoop_stop hpp] at eL
      refine q_when (b := decide (1 < l)) (by one_place) (fun hb H6 e6 => ?_) (fun hb H6 e6 => ?_)
      · have hl := of_decide_eq_true hb
        refine s_appU (ys := [.int l, .int 1]) (e6 _ _ (e5 _ _ h4)) (by one_place) (eu_tup (by one_place) (by show 2 ≤ 100000; decide)) (by rw [Paired.length pr]; omega) fun tp H10 htp e10 h10 => ?_
        have h10a := e10 _ _ (e6 _ _ (e5 _ _ h4))
        show tRet (tVar 1) _ _ _
        refine s_ret (v := .ref a) (by one_place) fun H11 e11 => ?_
        refine q a (xs ++ [.ref tp]) H11 ha ((Ex.mut (((e4.trans e5).trans e6).trans e10) ha).trans e11) (e11 _ _ upd_same) ?_
        unfold partedF
        rw [← eL, if_pos hl]
        exact (((pr.mono ((e5.trans e6).trans e10)).upd h10a).snoc (sqt_upd h10a (SqT.of h10))).mono e11
      · have hl := of_decide_eq_false hb
        refine s_ret (v := .ref a) (by one_place) fun H11 e11 => ?_
        refine q a xs H11 ha (((e4.trans e5).trans e6).trans e11) (e11 _ _ (e6 _ _ (e5 _ _ h4))) ?_
        unfold partedF
        rw [← eL, if_neg hl]
        exact pr.mono ((e5.trans e6).trans e11)
end

/-! ### odd primes -/
section
variable {K : PySem.W.Frag} {σ : L2.St} {H : Hp} {ta tb : TE} {z : V}
/-- tuples of two numbers, written in a row -/
def EvPA (K : PySem.W.Frag) (tr : TA) (σ : L2.St) (H : Hp) (rows : List (Int × Int)) : Prop := ∀ H1, Ex H H1 → ∀ Q : List V → Hp → Prop, (∀ xs H2, Ex H1 H2 → Prs K H2 xs rows → Q xs H2) → tr σ H1 Q
theorem epa_nil : EvPA K tNil σ H [] := fun H1 _ Q q => q [] H1 (Ex.refl H1) .nil
theorem epa_cons {t1 tr : TA} {a b : Int} {rows : List (Int × Int)} (h : EvA t1 σ H [.int a, .int b]) (hr : EvPA K tr σ H rows) : EvPA K (tCons (tTup t1) tr) σ H ((a, b) :: rows) := fun H1 e Q q => by
  have key := h H1 e (fun vs H2 => vs.length ≤ sizeLine ∧ ∀ t, H2 t = none → tr σ (upd H2 t (.tup vs)) fun ws H3 => Q (.ref t :: ws) H3) fun H2 e2 => ⟨sz_of (show 2 ≤ 100000 by decide), fun t nt =>
    hr _ ((e.trans e2).trans (Ex.new nt)) _ fun xs H3 e3 pr => q (.ref t :: xs) H3 ((e2.trans (Ex.new nt)).trans e3) (.cons ⟨t, rfl, SqT.of (e3 _ _ upd_same)⟩ pr)⟩
  exact key
theorem ep_lst {tr : TA} {rows : List (Int × Int)} (h : EvPA K tr σ H rows) (hz : rows.length ≤ 100000) : EvP K (tLst tr) σ H rows := fun H1 e Q q =>
  h H1 e _ fun xs H2 e2 pr => ⟨sz_of (by rw [Paired.length pr]; exact hz), fun l nl => q l xs _ (fresh_back e2 nl) (e2.trans (Ex.new nl)) upd_same (pr.mono (Ex.new nl))⟩
theorem ev_opPP {r : R2} {rs qs : List (Int × Int)} (ha : EvP K ta σ H rs) (hb : EvP K tb σ H qs) (hr : ∀ p q xs ys H1, H1 p = some (.lst xs) → Prs K H1 xs rs → H1 q = some (.lst ys) → Prs K H1 ys qs → Ex H H1 → RV r (.ref p) (.ref q) H1 z) : Ev (tOp r ta tb) σ H z := fun H1 e Q k =>
  ha H1 e _ fun p xs H2 np e2 hp pr => hb H2 (e.trans e2) _ fun q ys H3 nq e3 hq qr => hr p q xs ys H3 (e3 _ _ hp) (pr.mono e3) hq qr ((e.trans e2).trans e3) H3 (Ex.refl H3) Q fun H4 e4 => k H4 ((e2.trans e3).trans e4)
theorem rv_eqR {p q : Addr} {xs ys : List V} {rs qs : List (Int × Int)} (h1 : SqL K H p xs) (p1 : Prs K H xs rs) (h2 : SqL K H q ys) (p2 : Prs K H ys qs) : RV (rEqD K) (.ref p) (.ref q) H (.bl (decide (rs = qs))) :=
  rv_eqD (dp_prs h1 p1) (dp_prs h2 p2) (fun H1 e => dp_prs (ex_l e h1) (p1.mono e)) (fun H1 e => dp_prs (ex_l e h2) (p2.mono e)) (dR_sh rs) (dR_sh qs) (dR_eqv rs qs)
theorem s_forPz {te0 : TE} {D : Ends} {tu : TS} {rows : List (Int × Int)} {j1 j2 : Nat} (h : EvP K te0 σ H rows) (Pv : Hp → Nat → L2.St → Hp → Prop) (h0 : ∀ H1, Ex H H1 → Pv H1 0 σ H1) (hl : ∀ H1 i σ' H', Pv H1 i σ' H' → Ex H1 H')
    (hs : ∀ H1 i r σ' H', Ex H H1 → rows[i]? = some r → Pv H1 i σ' H' → tu { D with nx := Pv H1 (i + 1), ct := Pv H1 (i + 1), bk := D.nx } ((σ'.set j1 (some (.int r.1))).set j2 (some (.int r.2))) H') (hd : ∀ H1 σ' H', Ex H H1 → Pv H1 rows.length σ' H' → D.nx σ' H') :
    tFor (iList K te0) (gTup K 2 (gCons (gName j1) (gCons (gName j2) gNil))) tu D σ H := q_forP (D := D) (tz := tNext) h Pv h0 hl hs hd
/-- x in a new list of numbers -/
theorem ev_inNew {x : Int} {ns : List Int} (ha : Ev ta σ H (.int x)) (hb : EvL tb σ H (ns.map V.int)) : Ev (tOp (rIn K false) ta tb) σ H (.bl (decide (x ∈ ns))) := by
  have h := ev_opL (r := rIn K false) ha hb fun p H1 h1 _ => rv_isL (K := K) (x := .int x) (SqL.of h1) rfl (flat_ints ns)
  rw [inV_int] at h
  exact h
end
/- is_prime: slots 0 number; calls parted -/
abbrev s_is_prime : Stmt := topS 5
theorem sc_is_prime : FnScope ["number"] ["number"] (defScope s_is_prime) := ⟨rfl, rfl, rfl, by decide +kernel, rfl, by decide +kernel, by decide +kernel⟩

def isPF (n : Int) : Bool := decide (1 < n) && decide (partedF n = [(n, 1)])
def spIsPrime : Sp := fun vs H Q _ => ∃ n : Int, vs = [.int n] ∧ n ≤ 1000000000 ∧ RetV (.bl (isPF n)) H Q
section
variable {P : Program} {w : World} {K : PySem.W.Frag} {mg : Str → Option Value} {base : Heap} {C : Addr}
theorem cal_isprime (nb : Nb mg) (c_parted : Cal P w K mg base CX0 "parted" 1 ["n"] (spParted K)) (d : Dfn K mg "is_prime" ["number"] s_is_prime) : Cal P w K mg base CX0 "is_prime" 2 ["number"] spIsPrime := by
  refine d.cal sc_is_prime (fun vs H Q E h => ?_) (fun f cdv A outer s H vs Q E hr h => ?_)
  · obtain ⟨n, rfl, _⟩ := h
    rfl
  · obtain ⟨n, rfl, n2, q⟩ := h
    refine ⟨_, (pss_one (ps_ret (pe_and (pe_cmpR op_gt (pv 0) pe_int (nomark _)) (pe_one (pe_cmpR (op_eqD hr.units) (pe_cal c_parted (hr.mono (by first | decide | omega)) (by rfl) pass0 (pa_cons (pv 0) pa_nil)) (pe_lst (pa_cons (pe_tup (pa_cons (pv 0) (pa_cons pe_int pa_nil))) pa_nil)) (nomark _)))))), ?_⟩
    refine s_ret (v := .bl (isPF n)) (ev_andV (b := decide (partedF n = [(n, 1)])) (by one_place) fun h1 => ?_) fun H1 e1 => q H1 e1
    have h1 := of_decide_eq_true h1
    exact ev_opPP (rs := partedF n) (qs := [(n, 1)]) (ep_cal (vs := [.int n]) (by one_place) fun H1 e1 Q k E => ⟨n, rfl, by omega, n2, k⟩) (ep_lst (epa_cons (by one_place) epa_nil) (by show 1 ≤ 100000; decide)) fun p q xs ys H1 hp pr hq qr e => rv_eqR (SqL.of hp) pr (SqL.of hq) qr
/- check_odd_prime: slots 0 p; calls is_prime -/
abbrev s_check_odd_prime : Stmt := topS 6
theorem sc_check_odd_prime : FnScope ["p"] ["p"] (defScope s_check_odd_prime) := ⟨rfl, rfl, rfl, by decide +kernel, rfl, by decide +kernel, by decide +kernel⟩

def oddP (p : Int) : Bool := !(decide (p = 2) || !isPF p)
def spCheckX (C : Addr) : Sp := fun vs H Q E => ∃ p : Int, vs = [.int p] ∧ p ≤ 1000000000 ∧ (oddP p = true → RetV .non H Q) ∧ (oddP p = false → ∀ H1, Ex H H1 → E (.ref C) none H1)
theorem cal_checkX (nb : Nb mg) (x_NoPrime : OwnX K mg "NoPrime" C) (c_is_prime : Cal P w K mg base CX0 "is_prime" 2 ["number"] spIsPrime) (d : Dfn K mg "check_odd_prime" ["p"] s_check_odd_prime) : Cal P w K mg base (L2.CX P w) "check_odd_prime" 3 ["p"] (spCheckX C) := by
  refine d.calX sc_check_odd_prime (fun vs H Q E h => ?_) (fun fa cdv A outer s H vs Q E hr h => ?_)
  · obtain ⟨n, rfl, _⟩ := h
    rfl
  · obtain ⟨p, rfl, p2, kG, kB⟩ := h
    refine ⟨_, (pss_one (ps_if (PW.pt (pw_or (pt_cmpR op_eq (pv 0) pe_int (nomark _)) (pw_or1 (pt_not (pt_val (pe_cal c_is_prime (hr.mono (by first | decide | omega)) (by rfl) pass0 (pa_cons (pv 0) pa_nil))))))) (pss_one (ps_raise rfl (takes_of rfl rfl rfl rfl) (pmk_of x_NoPrime rfl))) pss_nil)), ?_⟩
    refine s_when (b := decide (p = 2) || !isPF p) (et_or (by one_place) fun _ => et_not (et_B (ev_cal (vs := [.int p]) (by one_place) fun H1 e1 Q k E => ⟨p, rfl, p2, k⟩))) (fun hb H1 e1 => ?_) (fun hb H1 e1 => ?_)
    · exact kB (by unfold oddP; rw [hb]; rfl) H1 e1
    · exact kG (by unfold oddP; rw [hb]; rfl) H1 e1
def spCheck : Sp := fun vs H Q _ => ∃ p : Int, vs = [.int p] ∧ p ≤ 1000000000 ∧ oddP p = true ∧ RetV .non H Q
theorem cal_check (c : Cal P w K mg base (L2.CX P w) "check_odd_prime" 3 ["p"] (spCheckX C)) : Cal P w K mg base CX0 "check_odd_prime" 3 ["p"] spCheck :=
  c.calm.imp fun vs H Q E h => by
    obtain ⟨p, rfl, p2, o, q⟩ := h
    exact ⟨p, rfl, p2, fun _ => q, fun h => by rw [o] at h; exact nomatch h⟩
end
theorem oddP_pos {p : Int} (h : oddP p = true) : 1 < p := by
  unfold oddP isPF at h
  by_cases c : 1 < p
  · exact c
  · rw [decide_eq_false c] at h
    simp at h

/- sign_by: slots 0 a, 1 p, 2 left, 3 number; calls check_odd_prime -/
abbrev s_sign_by : Stmt := topS 8
theorem sc_sign_by : FnScope ["a", "p", "left", "number"] ["a", "p"] (defScope s_sign_by) := ⟨rfl, rfl, rfl, by decide +kernel, rfl, by decide +kernel, by decide +kernel⟩

def sqs (p : Int) : List Int := (List.range (p - 1).toNat).map fun i : Nat => (1 + (i : Int)) * (1 + (i : Int)) % p
def signBy (a p : Int) : Int := if a % p = 0 then 0 else if a % p ∈ sqs p then 1 else -1
def spSignBy : Sp := fun vs H Q _ => ∃ a p : Int, vs = [.int a, .int p] ∧ p ≤ 1000 ∧ oddP p = true ∧ RetV (.int (signBy a p)) H Q
section
variable {P : Program} {w : World} {K : PySem.W.Frag} {mg : Str → Option Value} {base : Heap}
theorem cal_signby (nb : Nb mg) (c_check_odd_prime : Cal P w K mg base CX0 "check_odd_prime" 3 ["p"] spCheck) (d : Dfn K mg "sign_by" ["a", "p"] s_sign_by) : Cal P w K mg base CX0 "sign_by" 4 ["a", "p"] spSignBy := by
  refine d.cal sc_sign_by (fun vs H Q E h => ?_) (fun f cdv A outer s H vs Q E hr h => ?_)
  · obtain ⟨a, p, rfl, _⟩ := h
    rfl
  · obtain ⟨a, p, rfl, p2, o, q⟩ := h
    have p1 := oddP_pos o
    refine ⟨_, (pss_cons (ps_expr (pe_cal c_check_odd_prime (hr.mono (by first | decide | omega)) (by rfl) pass0 (pa_cons (pv 1) pa_nil)))
      (pss_cons (ps_set (i := 2) sc_sign_by.nd rfl (.inl rfl) (pe_op op_mod (pv 0) (pv 1)))
      (pss_cons (ps_if (pt_cmpR op_eq (pv 2) pe_int (nomark _)) (pss_one (ps_ret pe_int)) pss_nil)
      (pss_cons (ps_if (pt_cmpR op_in_seq (pv 2) (pe_lc (own := [("number", 3)]) (g := gName 3) (tt := tYes) (by rfl) sc_sign_by.nd (pi_range2 (by rfl) nb.range (pa_cons pe_int (pa_cons (pv 1) pa_nil))) (blkOk_by (N := ["a", "p", "left", "number"]) (sc := defScope s_sign_by) (by decide +kernel)) (fun _ _ _ _ _ => (pg_name (i := 3) sc_sign_by.nd rfl (Or.inl rfl))) (fun _ _ _ _ _ => pts_nil) (fun _ _ _ _ _ => (pe_op op_mod (pe_op op_mulW (pv 3) (pv 3)) (pv 1)))) (by rfl)) (pss_one (ps_ret pe_int)) pss_nil)
      (pss_one (ps_ret (pe_un un_neg pe_int))))))), ?_⟩
    refine q_drop (v := .non) (ev_cal (vs := [.int p]) (by one_place) fun H1 e1 Q k E => ⟨p, rfl, by omega, o, k⟩) fun H1 e1 => ?_
    refine q_asg (v := .int (a % p)) (by one_place) fun H2 e2 => ?_
    have m0 : 0 ≤ a % p := Int.emod_nonneg _ (by omega)
    refine q_when (b := decide (a % p = 0)) (by one_place) (fun hb H3 e3 => ?_) (fun hb H3 e3 => ?_)
    · have hb := of_decide_eq_true hb
      refine s_ret (v := .int (signBy a p)) (ev_is ev_c ?_) fun H4 e4 => q H4 ((e1.trans e2).trans (e3.trans e4))
      unfold signBy
      rw [if_pos hb]
    · have hb := of_decide_eq_false hb
      refine q_when (b := decide (a % p ∈ sqs p)) (et_test (ev_inNew (by one_place) (el_is (el_lcR2 (lo := 1) (hi := p) (fun _ => true) (fun i => .int ((1 + (i : Int)) * (1 + (i : Int)) % p)) (by one_place) (by omega) (fun _ => rfl) (fun i H4 e4 hi => et_yes) (fun i H4 e4 hi _ => by one_place)) ?_))) (fun hc H4 e4 => ?_) (fun hc H4 e4 => ?_)
      · rw [filter_yes]
        unfold sqs
        rw [List.map_map]
        rfl
      · refine s_ret (v := .int (signBy a p)) (ev_is ev_c ?_) fun H5 e5 => q H5 (((e1.trans e2).trans (e3.trans e4)).trans e5)
        unfold signBy
        rw [if_neg hb, if_pos (of_decide_eq_true hc)]
      · refine s_ret (v := .int (signBy a p)) (ev_is (ev_neg ev_c) ?_) fun H5 e5 => q H5 (((e1.trans e2).trans (e3.trans e4)).trans e5)
        unfold signBy
        rw [if_neg hb, if_neg (of_decide_eq_false hc)]
/- sign_sum: slots 0 p, 1 place; calls check_odd_prime, sign_by -/
abbrev s_sign_sum : Stmt := topS 9
theorem sc_sign_sum : FnScope ["p", "place"] ["p"] (defScope s_sign_sum) := ⟨rfl, rfl, rfl, by decide +kernel, rfl, by decide +kernel, by decide +kernel⟩

def signs (p : Int) : List Int := (List.range p.toNat).map fun i : Nat => signBy (i : Int) p
def spSignSum : Sp := fun vs H Q _ => ∃ p : Int, vs = [.int p] ∧ p ≤ 1000 ∧ oddP p = true ∧ RetL ((signs p).map V.int) H Q
theorem cal_signsum (nb : Nb mg) (c_check_odd_prime : Cal P w K mg base CX0 "check_odd_prime" 3 ["p"] spCheck) (c_sign_by : Cal P w K mg base CX0 "sign_by" 4 ["a", "p"] spSignBy) (d : Dfn K mg "sign_sum" ["p"] s_sign_sum) : Cal P w K mg base CX0 "sign_sum" 5 ["p"] spSignSum := by
  refine d.cal sc_sign_sum (fun vs H Q E h => ?_) (fun f cdv A outer s H vs Q E hr h => ?_)
  · obtain ⟨p, rfl, _⟩ := h
    rfl
  · obtain ⟨p, rfl, p2, o, q⟩ := h
    have p1 := oddP_pos o
    refine ⟨_, (pss_cons (ps_expr (pe_cal c_check_odd_prime (hr.mono (by first | decide | omega)) (by rfl) pass0 (pa_cons (pv 0) pa_nil)))
      (pss_one (ps_ret (pe_lc (own := [("place", 1)]) (g := gName 1) (tt := tYes) (by rfl) sc_sign_sum.nd (pi_range1 (by rfl) nb.range (pa_cons (pv 0) pa_nil)) (blkOk_by (N := ["p", "place"]) (sc := defScope s_sign_sum) (by decide +kernel)) (fun _ _ _ _ _ => (pg_name (i := 1) sc_sign_sum.nd rfl (Or.inl rfl))) (fun _ _ _ _ _ => pts_nil) (fun _ _ _ _ _ => (pe_cal c_sign_by (hr.mono (by first | decide | omega)) (by rfl) pass0 (pa_cons (pv 1) (pa_cons (pv 0) pa_nil)))))))), ?_⟩
    refine q_drop (v := .non) (ev_cal (vs := [.int p]) (by one_place) fun H1 e1 Q k E => ⟨p, rfl, by omega, o, k⟩) fun H1 e1 => ?_
    refine s_retL (xs := (signs p).map V.int) (el_is (el_lcR1 (n := p) (fun _ => true) (fun i => .int (signBy (i : Int) p)) (by one_place) (by omega) (fun _ => rfl) (fun i H4 e4 hi => et_yes) (fun i H4 e4 hi _ => ev_cal (vs := [.int (i : Int), .int p]) (by one_place) fun H5 e5 Q k E => ⟨_, p, rfl, p2, o, k⟩)) ?_) fun r H2 nr e2 h2 => q r H2 (fresh_back e1 nr) (e1.trans e2) h2
    unfold given
    rw [filter_yes]
    unfold signs
    rw [List.map_map]
    rfl
end
/- _law_odd: slots 0 _law_number_here; calls  -/
abbrev s__law_odd : Stmt := topS 15
theorem sc__law_odd : FnScope ["_law_number_here"] ["_law_number_here"] (defScope s__law_odd) := ⟨rfl, rfl, rfl, by decide +kernel, rfl, by decide +kernel, by decide +kernel⟩

def oddF (n : Int) : Int := ([3, 5, 7, 11, 13, 17, 19, 23, 29, 31] : List Int).getD (n % 10).toNat 0
theorem oddF_mem (n : Int) : oddF n ∈ ([3, 5, 7, 11, 13, 17, 19, 23, 29, 31] : List Int) := by
  have : (n % 10).toNat < 10 := by omega
  unfold oddF
  generalize (n % 10).toNat = k at this
  match k, this with
  | 0, _ | 1, _ | 2, _ | 3, _ | 4, _ | 5, _ | 6, _ | 7, _ | 8, _ | 9, _ => decide
  | k + 10, h => exact absurd h (by omega)
def spOdd : Sp := fun vs H Q _ => ∃ n : Int, vs = [.int n] ∧ RetV (.int (oddF n)) H Q
section
variable {P : Program} {w : World} {K : PySem.W.Frag} {mg : Str → Option Value} {base : Heap}
theorem cal_lodd (nb : Nb mg) (d : Dfn K mg "_law_odd" ["_law_number_here"] s__law_odd) : Cal P w K mg base CX0 "_law_odd" 1 ["_law_number_here"] spOdd := by
  refine d.cal sc__law_odd (fun vs H Q E h => ?_) (fun f cdv A outer s H vs Q E hr h => ?_)
  · obtain ⟨a, rfl, _⟩ := h
    rfl
  · obtain ⟨n, rfl, q⟩ := h
    refine ⟨_, (pss_one (ps_ret (pe_ix ix_list (pe_lst (pa_cons pe_int (pa_cons pe_int (pa_cons pe_int (pa_cons pe_int (pa_cons pe_int (pa_cons pe_int (pa_cons pe_int (pa_cons pe_int (pa_cons pe_int (pa_cons pe_int pa_nil))))))))))) (pe_op op_mod (pv 0) pe_int) (fun _ _ => rfl)))), ?_⟩
    exact s_ret (v := .int (oddF n)) (ev_ixN (ns := [3, 5, 7, 11, 13, 17, 19, 23, 29, 31]) (el_lst (by one_place) (by show 10 ≤ 100000; decide)) (fun _ _ => by one_place) (by omega) (by simp; omega)) fun H1 e1 => q H1 e1
/- _law_sign: slots 0 _law_a, 1 _law_p, 2 _law_k; calls  -/
abbrev s__law_sign : Stmt := topS 16
theorem sc__law_sign : FnScope ["_law_a", "_law_p", "_law_k"] ["_law_a", "_law_p"] (defScope s__law_sign) := ⟨rfl, rfl, rfl, by decide +kernel, rfl, by decide +kernel, by decide +kernel⟩

def spLSign : Sp := fun vs H Q _ => ∃ a p : Int, vs = [.int a, .int p] ∧ p ≤ 1000 ∧ 1 < p ∧ RetV (.int (signBy a p)) H Q
theorem cal_lsign (nb : Nb mg) (d : Dfn K mg "_law_sign" ["_law_a", "_law_p"] s__law_sign) : Cal P w K mg base CX0 "_law_sign" 1 ["_law_a", "_law_p"] spLSign := by
  refine d.cal sc__law_sign (fun vs H Q E h => ?_) (fun f cdv A outer s H vs Q E hr h => ?_)
  · obtain ⟨a, p, rfl, _⟩ := h
    rfl
  · obtain ⟨a, p, rfl, p2, p1, q⟩ := h
    refine ⟨_, (pss_cons (ps_if (pt_cmpR op_eq (pe_op op_mod (pv 0) (pv 1)) pe_int (nomark _)) (pss_one (ps_ret pe_int)) pss_nil)
      (pss_one (ps_ret (pe_ix ix_list (pe_lst (pa_cons (pe_un un_neg pe_int) (pa_cons pe_int pa_nil))) (pe_callTy call_int1 (by rfl) nb.int (by decide +kernel) (pa_cons (pe_cmpR op_in_seq (pe_op op_mod (pv 0) (pv 1)) (pe_lc (own := [("_law_k", 2)]) (g := gName 2) (tt := tYes) (by rfl) sc__law_sign.nd (pi_range2 (by rfl) nb.range (pa_cons pe_int (pa_cons (pv 1) pa_nil))) (blkOk_by (N := ["_law_a", "_law_p", "_law_k"]) (sc := defScope s__law_sign) (by decide +kernel)) (fun _ _ _ _ _ => (pg_name (i := 2) sc__law_sign.nd rfl (Or.inl rfl))) (fun _ _ _ _ _ => pts_nil) (fun _ _ _ _ _ => (pe_op op_mod (pe_op op_mulW (pv 2) (pv 2)) (pv 1)))) (by rfl)) pa_nil)) (fun _ _ => rfl))))), ?_⟩
    refine q_when (b := decide (a % p = 0)) (by one_place) (fun hb H3 e3 => ?_) (fun hb H3 e3 => ?_)
    · have hb := of_decide_eq_true hb
      refine s_ret (v := .int (signBy a p)) (ev_is ev_c ?_) fun H4 e4 => q H4 (e3.trans e4)
      unfold signBy
      rw [if_pos hb]
    · have hb := of_decide_eq_false hb
      have key : ∀ b : Bool, b = decide (a % p ∈ sqs p) → ([-1, 1] : List Int).getD ((if b then 1 else 0 : Int)).toNat 0 = signBy a p := fun b e => by
        unfold signBy
        rw [if_neg hb]
        cases b with
        | true => rw [if_pos (of_decide_eq_true e.symm)]; rfl
        | false => rw [if_neg (of_decide_eq_false e.symm)]; rfl
      refine s_ret (v := .int (signBy a p)) (ev_is (ev_ixN (i := if decide (a % p ∈ sqs p) then 1 else 0) (ns := [-1, 1]) (el_lst (ea_cons (ev_neg ev_c) (by one_place)) (by show 2 ≤ 100000; decide)) (fun H4 e4 => ev_int1b (ev_inNew (by one_place) (el_is (el_lcR2 (lo := 1) (hi := p) (fun _ => true) (fun i => .int ((1 + (i : Int)) * (1 + (i : Int)) % p)) (by one_place) (by omega) (fun _ => rfl) (fun i H4 e4 hi => et_yes) (fun i H4 e4 hi _ => by one_place)) ?_))) (by split <;> decide) (by split <;> decide)) (congrArg V.int (key _ rfl))) fun H5 e5 => q H5 (e3.trans e5)
      rw [filter_yes]
      unfold sqs
      rw [List.map_map]
      rfl
end

/-- the writes of led, the first i -/
def ledK (k n : Nat) (f : List Int) : Nat → List Int
  | 0 => List.replicate n 0
  | i + 1 => (ledK k n f i).set (k * i % n) (coef f i)
theorem ledK_len (k n : Nat) (f : List Int) : ∀ i, (ledK k n f i).length = n
  | 0 => List.length_replicate
  | i + 1 => by
    show ((ledK k n f i).set _ _).length = n
    rw [List.length_set, ledK_len k n f i]
def ledF (f : List Int) (k : Nat) : List Int := ledK k f.length f f.length
theorem ledF_len (f : List Int) (k : Nat) : (ledF f k).length = f.length := ledK_len ..
/- led: slots 0 some, 1 k, 2 n, 3 told, 4 place, 5 number; calls  -/
abbrev s_led : Stmt := topS 11
theorem sc_led : FnScope ["some", "k", "n", "told", "place", "number"] ["some", "k"] (defScope s_led) := ⟨rfl, rfl, rfl, by decide +kernel, rfl, by decide +kernel, by decide +kernel⟩

def spLed (K : PySem.W.Frag) : Sp := fun vs H Q _ => ∃ (a : Addr) (f : List Int) (k : Nat), vs = [.ref a, .int (k : Nat)] ∧ SqL K H a (f.map V.int) ∧ 1 ≤ f.length ∧ f.length ≤ 400 ∧ k ≤ 400 ∧ RetL ((ledF f k).map V.int) H Q
section
variable {P : Program} {w : World} {K : PySem.W.Frag} {mg : Str → Option Value} {base : Heap}
theorem cal_led (nb : Nb mg) (d : Dfn K mg "led" ["some", "k"] s_led) : Cal P w K mg base CX0 "led" 1 ["some", "k"] (spLed K) := by
  refine d.cal sc_led (fun vs H Q E h => ?_) (fun fa cdv A outer s H vs Q E hr h => ?_)
  · obtain ⟨a, f, k, rfl, _⟩ := h
    rfl
  · obtain ⟨a, f, k, rfl, hF, n1, n2, hk, q⟩ := h
    refine ⟨_, (pss_cons (ps_set (i := 2) sc_led.nd rfl (.inl rfl) (pe_callB call_len_seq (by rfl) nb.len PySem.boot_len (pa_cons (pv 0) pa_nil)))
      (pss_cons (ps_set (i := 3) sc_led.nd rfl (.inl rfl) (pe_op op_rep (pe_lst (pa_cons pe_int pa_nil)) (pv 2)))
      (pss_cons (ps_for PassesOwn.never rfl (pi_enum (by rfl) nb.enumerate (pa_cons (pv 0) pa_nil)) (pg_tup (by rfl) (pgs_cons (pg_name (i := 4) sc_led.nd rfl (.inl rfl)) (pgs_cons (pg_name (i := 5) sc_led.nd rfl (.inl rfl)) pgs_nil))) (pss_one (ps_asg (pv 5) (pg_sub (pv 3) (pe_op op_mod (pe_op op_mulW (pv 1) (pv 4)) (pv 2)) set_list))))
      (pss_one (ps_ret (pv 3)))))), ?_⟩
    refine q_asg (v := .int ((f.length : Nat) : Int)) (ev_is (ev_len (ev_var rfl) hF) (by rw [List.length_map])) fun H1 e1 => ?_
    refine q_asgL (xs := (List.replicate f.length (0 : Int)).map V.int) (el_is (el_rep (k := ((f.length : Nat) : Int)) (x := .int 0) (el_lst (by one_place) (by decide)) (ev_var rfl) (by omega) (by omega)) (by rw [List.map_replicate, Int.toNat_natCast])) fun t H2 nt e2 h2 => ?_
    have ntH : H t = none := fresh_back e1 nt
    refine q_forE (xs := f.map V.int) (by one_place) (ex_l (e1.trans e2) hF) (fun i σ' H' => ∃ (x y : Option V), σ' = [some (.ref a), some (.int (k : Nat)), some (.int ((f.length : Nat) : Int)), some (.ref t), x, y] ∧ Ex H H' ∧ H' t = some (.lst ((ledK k f.length f i).map V.int)))
      (fun H3 e3 => ⟨none, none, rfl, (e1.trans e2).trans e3, e3 _ _ h2⟩) (fun i σ' H' _ hp => ?_) (fun i x σ' H' hx hp H3 e3 => ?_) (fun σ' H' hp => ?_)
    · obtain ⟨_, _, _, e3, _⟩ := hp
      exact ex_l e3 hF
    · obtain ⟨x1, x2, rfl, e4, h4⟩ := hp
      obtain ⟨z, hz, rfl⟩ := map_get hx
      have hi := (List.getElem?_eq_some_iff.mp hz).1
      have hzc : coef f i = z := coef_of hz
      have kb : k * i ≤ 400 * 400 := Nat.mul_le_mul hk (by omega)
      have hm := Nat.mod_lt (k * i) (show 0 < f.length by omega)
      have hcast : (((k * i % f.length : Nat)) : Int) = (k : Int) * (i : Int) % (f.length : Int) := by
        rw [Int.natCast_emod, Int.natCast_mul]
      refine s_setI (j := k * i % f.length) (b := z) (e3 _ _ h4) (by one_place) (ev_is (ev_mod (ev_mul (ev_var rfl) (ev_var rfl) (mulW (by omega) (by omega))) (ev_var rfl) (by omega)) (by rw [hcast])) (by rw [ledK_len]; exact hm) (ev_var rfl) fun H5 e5 => ⟨_, _, rfl, Ex.mut ((e4.trans e3).trans e5) ntH, ?_⟩
      rw [upd_same]
      show _ = some (HO.lst (((ledK k f.length f i).set (k * i % f.length) (coef f i)).map V.int))
      rw [hzc]
    · obtain ⟨x1, x2, rfl, e4, h4⟩ := hp
      rw [List.length_map] at h4
      exact s_ret (v := .ref t) (by one_place) fun H5 e5 => q t H5 ntH (e4.trans e5) (e5 _ _ h4)
end

/- _law_mix: slots 0 _law_cell, 1 _law_k, 2 _law_again, 3 _law_number_here; calls  -/
abbrev s__law_mix : Stmt := topS 14
theorem sc__law_mix : FnScope ["_law_cell", "_law_k", "_law_again", "_law_number_here"] ["_law_cell", "_law_k"] (defScope s__law_mix) := ⟨rfl, rfl, rfl, by decide +kernel, rfl, by decide +kernel, by decide +kernel⟩

/-- the law's own mixing of a cell -/
def divs : Nat → Int → Int
  | 0, c => c
  | n + 1, c => divs n c / 1000000
def mix0 (c k : Int) : Int := (c % 1000003 + k * k * 7919 + k) * 48271 % 2147483629
def mix1 (c k : Int) : Int := mix0 c k * mix0 c k % 2147483587
def mix (c k : Int) : Int := if 1000000000000000000 ≤ c then divs k.toNat (c % (1000000000000000000000000000000000000000000000000000000000000 : Int) ^ 20) % 1000000 else mix1 c k * (mix1 c k + 2) % 2147483579 / 7
theorem mix_nn (c k : Int) : 0 ≤ mix c k := by
  unfold mix
  split
  · omega
  · omega
theorem mix_le (c k : Int) : mix c k ≤ 306783369 := by
  unfold mix
  split
  · omega
  · omega
def spMix : Sp := fun vs H Q _ => ∃ c k : Int, vs = [.int c, .int k] ∧ 0 ≤ k ∧ k ≤ 100 ∧ RetV (.int (mix c k)) H Q
section
variable {P : Program} {w : World} {K : PySem.W.Frag} {mg : Str → Option Value} {base : Heap}
theorem cal_mix (nb : Nb mg) (d : Dfn K mg "_law_mix" ["_law_cell", "_law_k"] s__law_mix) : Cal P w K mg base CX0 "_law_mix" 1 ["_law_cell", "_law_k"] spMix := by
  refine d.cal sc__law_mix (fun vs H Q E h => ?_) (fun f cdv A outer s H vs Q E hr h => ?_)
  · obtain ⟨c, k, rfl, _⟩ := h
    rfl
  · obtain ⟨c, k, rfl, h0, h1, q⟩ := h
    refine ⟨_, (pss_cons (ps_if (pt_cmpR op_ge (pv 0) (pe_op op_powW pe_int pe_int) (nomark _)) (pss_cons (ps_set (i := 0) sc__law_mix.nd rfl (.inl rfl) (pe_op op_mod (pv 0) (pe_op op_powW (pe_op op_powW pe_int pe_int) pe_int)))
      (pss_cons (ps_for PassesOwn.never rfl (pi_range1 (by rfl) nb.range (pa_cons (pv 1) pa_nil)) (pg_name (i := 2) sc__law_mix.nd rfl (.inl rfl)) (pss_one (ps_set (i := 0) sc__law_mix.nd rfl (.inl rfl) (pe_op op_fdivW (pv 0) (pe_op op_powW pe_int pe_int)))))
      (pss_one (ps_ret (pe_op op_mod (pv 0) (pe_op op_powW pe_int pe_int)))))) pss_nil)
      (pss_cons (ps_set (i := 3) sc__law_mix.nd rfl (.inl rfl) (pe_op op_mod (pe_op op_mulW (pe_op op_add (pe_op op_add (pe_op op_mod (pv 0) pe_int) (pe_op op_mulW (pe_op op_mulW (pv 1) (pv 1)) pe_int)) (pv 1)) pe_int) pe_int))
      (pss_cons (ps_set (i := 3) sc__law_mix.nd rfl (.inl rfl) (pe_op op_mod (pe_op op_mulW (pv 3) (pv 3)) pe_int))
      (pss_one (ps_ret (pe_op op_fdivW (pe_op op_mod (pe_op op_mulW (pv 3) (pe_op op_add (pv 3) pe_int)) pe_int) pe_int)))))), ?_⟩
    refine q_when (b := decide (1000000000000000000 ≤ c)) (by one_place) (fun hb H1 e1 => ?_) (fun hb H1 e1 => ?_)
    · refine q_asg (v := .int (c % (1000000000000000000000000000000000000000000000000000000000000 : Int) ^ 20)) (ev_mod (by one_place) (ev_pow (i := 1000000000000000000000000000000000000000000000000000000000000) (ev_pow (i := 10) (by one_place) (by one_place) ⟨by decide, by decide +kernel⟩ (by rfl)) (by one_place) ⟨by decide, by decide +kernel⟩ rfl) (Int.pow_pos (by decide))) fun H2 e2 => ?_
      refine q_forR1 (n := k) (by one_place) (by omega) (fun i σ' H' => ∃ x, σ' = [some (.int (divs i (c % (1000000000000000000000000000000000000000000000000000000000000 : Int) ^ 20))), some (.int k), x, none] ∧ Ex H H') (fun H3 e3 => ⟨none, rfl, (e1.trans e2).trans e3⟩) (fun i σ' H' hi hp => ?_) (fun σ' H' hp => ?_)
      · obtain ⟨x, rfl, e4⟩ := hp
        refine s_asg (v := .int (divs (i + 1) (c % (1000000000000000000000000000000000000000000000000000000000000 : Int) ^ 20))) (ev_is (by one_place) rfl) fun H5 e5 => ⟨_, rfl, e4.trans e5⟩
      · obtain ⟨x, rfl, e4⟩ := hp
        refine s_ret (v := .int (mix c k)) (ev_is (by one_place) ?_) fun H5 e5 => q _ (e4.trans e5)
        unfold mix
        rw [if_pos (of_decide_eq_true hb)]
    · have b0 : 0 ≤ mix0 c k := by
        unfold mix0
        omega
      have b1 : mix0 c k < 2147483629 := by
        unfold mix0
        omega
      have b2 : 0 ≤ mix1 c k := by
        unfold mix1
        omega
      have b3 : mix1 c k < 2147483587 := by
        unfold mix1
        omega
      have b4 : 0 ≤ k * k := Int.mul_nonneg h0 h0
      have b5 : k * k ≤ 100 * 100 := Int.mul_le_mul h1 h1 h0 (by decide)
      refine q_asg (v := .int (mix0 c k)) (by one_place) fun H2 e2 => ?_
      refine q_asg (v := .int (mix1 c k)) (by one_place) fun H3 e3 => ?_
      refine s_ret (v := .int (mix c k)) (ev_is (by one_place) ?_) fun H5 e5 => q _ (((e1.trans e2).trans e3).trans e5)
      unfold mix
      rw [if_neg (of_decide_eq_false hb)]
end

/- _law_cell_at: slots 0 _law_script, 1 _law_k; calls  -/
abbrev s__law_cell_at : Stmt := topS 13
theorem sc__law_cell_at : FnScope ["_law_script", "_law_k"] ["_law_script", "_law_k"] (defScope s__law_cell_at) := ⟨rfl, rfl, rfl, by decide +kernel, rfl, by decide +kernel, by decide +kernel⟩

def spCellAt (K : PySem.W.Frag) : Sp := fun vs H Q _ => ∃ (a : Addr) (ns : List Int) (k : Nat), vs = [.ref a, .int (k : Nat)] ∧ SqL K H a (ns.map V.int) ∧ RetV (.int (ns.getD k 0)) H Q
section
variable {P : Program} {w : World} {K : PySem.W.Frag} {mg : Str → Option Value} {base : Heap}
theorem cal_cellat (nb : Nb mg) (d : Dfn K mg "_law_cell_at" ["_law_script", "_law_k"] s__law_cell_at) : Cal P w K mg base CX0 "_law_cell_at" 1 ["_law_script", "_law_k"] (spCellAt K) := by
  refine d.cal sc__law_cell_at (fun vs H Q E h => ?_) (fun f cdv A outer s H vs Q E hr h => ?_)
  · obtain ⟨a, ns, k, rfl, _⟩ := h
    rfl
  · obtain ⟨a, ns, k, rfl, hS, q⟩ := h
    refine ⟨_, (pss_cons (ps_if (pt_cmpR op_lt (pv 1) (pe_callB call_len_seq (by rfl) nb.len PySem.boot_len (pa_cons (pv 0) pa_nil)) (nomark _)) (pss_one (ps_ret (pe_ix ix_list (pv 0) (pv 1) (fun _ _ => rfl)))) pss_nil)
      (pss_one (ps_ret pe_int))), ?_⟩
    refine q_when (b := decide (k < ns.length)) (et_is (et_test (ev_lt (ev_var rfl) (ev_len (ev_var rfl) hS))) (decide_eq_decide.mpr (by rw [List.length_map]; omega))) (fun hb H1 e1 => ?_) (fun hb H1 e1 => ?_)
    · have hb := of_decide_eq_true hb
      refine s_ret (v := .int (ns.getD k 0)) (ev_ixI (j := k) (ex_l e1 hS) (ev_var rfl) (ev_var rfl) ?_) fun H2 e2 => q _ (e1.trans e2)
      rw [List.getD_eq_getElem?_getD, List.getElem?_eq_getElem hb]
      rfl
    · have hb := of_decide_eq_false hb
      refine s_ret (v := .int (ns.getD k 0)) (ev_is ev_c ?_) fun H2 e2 => q _ (e1.trans e2)
      rw [List.getD_eq_getElem?_getD, List.getElem?_eq_none (by omega)]
      rfl
end

/-! ### the mathematics: signs are made of what is left -/
def oddL : List Nat := [3, 5, 7, 11, 13, 17, 19, 23, 29, 31]
def mulChk (p : Nat) : Bool := (List.range p).all fun x => (List.range p).all fun y => decide (signBy ((x : Int) * (y : Int)) p = signBy (x : Int) p * signBy (y : Int) p)
theorem mulChk_all : oddL.all mulChk = true := by decide +kernel
def ledChk (p : Nat) : Bool := (List.range (p - 1)).all fun k => decide (ledF (signs p) (k + 1) = (signs p).map fun m => signBy ((k + 1 : Nat) : Int) p * m)
theorem ledChk_all : oddL.all ledChk = true := by decide +kernel
theorem odd_all : oddL.all (fun p : Nat => oddP (p : Int)) = true := by decide +kernel
theorem signBy_mod (a p : Int) : signBy a p = signBy (a % p) p := by
  unfold signBy
  rw [Int.emod_emod]
theorem signBy_mul {p : Nat} (hp : p ∈ oddL) (p1 : 1 < p) (a b : Int) : signBy (a * b) p = signBy a p * signBy b p := by
  have h := List.all_eq_true.mp mulChk_all p hp
  have a0 := Int.emod_nonneg a (show (p : Int) ≠ 0 by omega)
  have b0 := Int.emod_nonneg b (show (p : Int) ≠ 0 by omega)
  have a1 := Int.emod_lt_of_pos a (show (0 : Int) < (p : Int) by omega)
  have b1 := Int.emod_lt_of_pos b (show (0 : Int) < (p : Int) by omega)
  have h := List.all_eq_true.mp h (a % p).toNat (List.mem_range.mpr (by omega))
  have h := of_decide_eq_true (List.all_eq_true.mp h (b % p).toNat (List.mem_range.mpr (by omega)))
  rw [Int.toNat_of_nonneg a0, Int.toNat_of_nonneg b0] at h
  rw [signBy_mod a, signBy_mod b, ← h]
  unfold signBy
  rw [Int.mul_emod a b]
theorem signBy_bd (a p : Int) : -1 ≤ signBy a p ∧ signBy a p ≤ 1 := by
  unfold signBy
  split
  · decide
  · split <;> decide
theorem signs_len (p : Int) : (signs p).length = p.toNat := by
  unfold signs
  rw [List.length_map, List.length_range]
theorem odd_bd {p : Nat} (hp : p ∈ oddL) : 3 ≤ p ∧ p ≤ 31 := by
  unfold oddL at hp
  simp only [List.mem_cons, List.not_mem_nil, or_false] at hp
  omega
theorem oddF_nat (n : Int) : ∃ p : Nat, oddF n = (p : Int) ∧ p ∈ oddL := by
  have h := oddF_mem n
  refine ⟨(oddF n).toNat, ?_, ?_⟩
  · simp only [List.mem_cons, List.not_mem_nil, or_false] at h
    omega
  · simp only [List.mem_cons, List.not_mem_nil, or_false] at h
    unfold oddL
    simp only [List.mem_cons, List.not_mem_nil, or_false]
    omega
/- _law_number: slots 0 _law_number_here, 1 _law_p, 2 _law_a; calls  -/
abbrev s__law_number : Stmt := topS 17
theorem sc__law_number : FnScope ["_law_number_here", "_law_p", "_law_a"] ["_law_number_here", "_law_p"] (defScope s__law_number) := ⟨rfl, rfl, rfl, by decide +kernel, rfl, by decide +kernel, by decide +kernel⟩

def numF (n p : Int) : Int := if n % 8 = 1 then (n / 8 - 4000) * 1000000000000000000000000000000000000 + n else if n % 8 = 2 then p * (n / 8 - 4000) else n / 8 - 4000
def spNum : Sp := fun vs H Q _ => ∃ (n : Int) (p : Nat), vs = [.int n, .int (p : Nat)] ∧ 0 ≤ n ∧ n ≤ 306783369 ∧ p ≤ 31 ∧ RetV (.int (numF n p)) H Q
theorem numF_bd {n : Int} {p : Nat} (n0 : 0 ≤ n) (n1 : n ≤ 306783369) (hp : p ≤ 31) : (numF n p).natAbs < 2 ^ 200 := by
  unfold numF
  split
  · omega
  · split
    · have h : (p * (n / 8 - 4000)).natAbs ≤ 31 * 400000000 := by
        rw [Int.natAbs_mul]
        exact Nat.mul_le_mul (by omega) (by omega)
      omega
    · omega
section
variable {P : Program} {w : World} {K : PySem.W.Frag} {mg : Str → Option Value} {base : Heap}
theorem cal_lnumber (nb : Nb mg) (d : Dfn K mg "_law_number" ["_law_number_here", "_law_p"] s__law_number) : Cal P w K mg base CX0 "_law_number" 1 ["_law_number_here", "_law_p"] spNum := by
  refine d.cal sc__law_number (fun vs H Q E h => ?_) (fun f cdv A outer s H vs Q E hr h => ?_)
  · obtain ⟨a, p, rfl, _⟩ := h
    rfl
  · obtain ⟨n, p, rfl, n0, n1, hp, q⟩ := h
    refine ⟨_, (pss_cons (ps_set (i := 2) sc__law_number.nd rfl (.inl rfl) (pe_op op_sub (pe_op op_fdivW (pv 0) pe_int) pe_int))
      (pss_cons (ps_if (pt_cmpR op_eq (pe_op op_mod (pv 0) pe_int) pe_int (nomark _)) (pss_one (ps_set (i := 2) sc__law_number.nd rfl (.inl rfl) (pe_op op_add (pe_op op_mulW (pv 2) (pe_op op_powW pe_int pe_int)) (pv 0)))) pss_nil)
      (pss_cons (ps_if (pt_cmpR op_eq (pe_op op_mod (pv 0) pe_int) pe_int (nomark _)) (pss_one (ps_set (i := 2) sc__law_number.nd rfl (.inl rfl) (pe_op op_mulW (pv 1) (pv 2)))) pss_nil)
      (pss_one (ps_ret (pv 2)))))), ?_⟩
    refine q_asg (v := .int (n / 8 - 4000)) (by one_place) fun H1 e1 => ?_
    refine q_ifAsg (i := 2) (v := .int (if n % 8 = 1 then (n / 8 - 4000) * 1000000000000000000000000000000000000 + n else n / 8 - 4000)) (b := decide (n % 8 = 1)) (by one_place) (fun hb => ?_) (fun hb => ?_) fun H2 e2 => ?_
    · rw [if_pos (of_decide_eq_true hb)]
      exact ev_add (ev_mul (ev_var rfl) (ev_pow (i := 10) (j := 36) ev_c ev_c ⟨by decide, by decide +kernel⟩ (by rfl)) (mulW (by omega) (by omega))) (ev_var rfl)
    · rw [if_neg (of_decide_eq_false hb)]
      rfl
    refine q_ifAsg (i := 2) (v := .int (numF n p)) (b := decide (n % 8 = 2)) (by one_place) (fun hb => ?_) (fun hb => ?_) fun H3 e3 => ?_
    · have hb := of_decide_eq_true hb
      have hn : ¬ n % 8 = 1 := by omega
      refine ev_is (ev_mul (ev_var rfl) (ev_var rfl) (mulW (by omega) (by rw [if_neg hn]; omega))) ?_
      unfold numF
      rw [if_neg hn, if_neg hn, if_pos hb]
    · have hb := of_decide_eq_false hb
      unfold numF
      by_cases c : n % 8 = 1
      · rw [if_pos c, if_pos c]
        rfl
      · rw [if_neg c, if_neg c, if_neg hb]
        rfl
    exact s_ret (v := .int (numF n p)) (ev_var rfl) fun H4 e4 => q H4 ((e1.trans e2).trans (e3.trans e4))
end
/- law: slots 0 _law_script, 1 _law_number_here, 2 _law_p, 3 _law_k, 4 _law_a, 5 _law_b, 6 _law_one, 7 _law_due, 8 _law_told, 9 _law_some, 10 _law_place, 11 _law_mark; calls _law_mix, _law_cell_at, _law_odd, _law_number, _law_sign, sign_by, sign_sum, led -/
abbrev s_law : Stmt := topS 18
theorem sc_law : FnScope ["_law_script", "_law_number_here", "_law_p", "_law_k", "_law_a", "_law_b", "_law_one", "_law_due", "_law_told", "_law_some", "_law_place", "_law_mark"] ["_law_script"] (defScope s_law) := ⟨rfl, rfl, rfl, by decide +kernel, rfl, by decide +kernel, by decide +kernel⟩

def spLaw (K : PySem.W.Frag) : Sp := fun vs H Q _ => ∃ (a : Addr) (ns : List Int), vs = [.ref a] ∧ SqL K H a (ns.map V.int) ∧ ns.length ≤ 63 ∧ ∀ H', Q (.bl true) H'
section
variable {P : Program} {w : World} {K : PySem.W.Frag} {mg : Str → Option Value} {base : Heap} {C : Addr}
theorem law_ok {f : Addr} {fd : FuncData} (F : Fun K "law" "law" s_law f fd) (nb : Nb mg) (z_ValueError : mg "ValueError" = none) (hv : PySem.W.kitOne K (.ref C) (.type "ValueError") = some true) (x_NoPrime : OwnX K mg "NoPrime" C) {Wc : Addr} (x_WheelError : GlX mg "WheelError" Wc) (hex : PySem.W.exmOne K (.ref C) (.ref Wc) = some true)
    (d_parted : Dfn K mg "parted" ["n"] s_parted) (d_is_prime : Dfn K mg "is_prime" ["number"] s_is_prime) (d_check_odd_prime : Dfn K mg "check_odd_prime" ["p"] s_check_odd_prime) (d_sign_by : Dfn K mg "sign_by" ["a", "p"] s_sign_by) (d_sign_sum : Dfn K mg "sign_sum" ["p"] s_sign_sum) (d_led : Dfn K mg "led" ["some", "k"] s_led)
    (d__law_cell_at : Dfn K mg "_law_cell_at" ["_law_script", "_law_k"] s__law_cell_at) (d__law_mix : Dfn K mg "_law_mix" ["_law_cell", "_law_k"] s__law_mix) (d__law_odd : Dfn K mg "_law_odd" ["_law_number_here"] s__law_odd) (d__law_sign : Dfn K mg "_law_sign" ["_law_a", "_law_p"] s__law_sign) (d__law_number : Dfn K mg "_law_number" ["_law_number_here", "_law_p"] s__law_number) :
    FnOk P w K mg base CX0 6 f fd ["_law_script"] (spLaw K) := by
  have c_check : Cal P w K mg base CX0 "check_odd_prime" 3 ["p"] spCheck := cal_check (cal_checkX nb x_NoPrime (cal_isprime nb (cal_parted nb d_parted) d_is_prime) d_check_odd_prime)
  have c_sign_by : Cal P w K mg base CX0 "sign_by" 4 ["a", "p"] spSignBy := cal_signby nb c_check d_sign_by
  have c_sign_sum : Cal P w K mg base CX0 "sign_sum" 5 ["p"] spSignSum := cal_signsum nb c_check c_sign_by d_sign_sum
  have c_led : Cal P w K mg base CX0 "led" 1 ["some", "k"] (spLed K) := cal_led nb d_led
  have c__law_mix : Cal P w K mg base CX0 "_law_mix" 1 ["_law_cell", "_law_k"] spMix := cal_mix nb d__law_mix
  have c__law_cell_at : Cal P w K mg base CX0 "_law_cell_at" 1 ["_law_script", "_law_k"] (spCellAt K) := cal_cellat nb d__law_cell_at
  have c__law_odd : Cal P w K mg base CX0 "_law_odd" 1 ["_law_number_here"] spOdd := cal_lodd nb d__law_odd
  have c__law_sign : Cal P w K mg base CX0 "_law_sign" 1 ["_law_a", "_law_p"] spLSign := cal_lsign nb d__law_sign
  have c__law_number : Cal P w K mg base CX0 "_law_number" 1 ["_law_number_here", "_law_p"] spNum := cal_lnumber nb d__law_number
  refine F.ok sc_law (fun vs H Q E h => ?_) (fun cdv A outer s H vs Q E hr h => ?_)
  · obtain ⟨a, ns, rfl, _⟩ := h
    rfl
  · obtain ⟨a, ns, rfl, hS, hlen, q⟩ := h
    refine ⟨_, (pss_cons (ps_set (i := 1) sc_law.nd rfl (.inl rfl) (pe_cal c__law_mix (hr.mono (by first | decide | omega)) (by rfl) pass0 (pa_cons (pe_cal c__law_cell_at (hr.mono (by first | decide | omega)) (by rfl) pass0 (pa_cons (pv 0) (pa_cons pe_int pa_nil))) (pa_cons pe_int pa_nil))))
      (pss_cons (ps_set (i := 2) sc_law.nd rfl (.inr rfl) (pe_cal c__law_odd (hr.mono (by first | decide | omega)) (by rfl) pass0 (pa_cons (pv 1) pa_nil)))
      (pss_cons (ps_for PassesOwn.never rfl (pi_range1 (by rfl) nb.range (pa_cons pe_int pa_nil)) (pg_name (i := 3) sc_law.nd rfl (.inr rfl)) (pss_cons (ps_set (i := 4) sc_law.nd rfl (.inl rfl) (pe_cal c__law_number (hr.mono (by first | decide | omega)) (by rfl) pass0 (pa_cons (pe_cal c__law_mix (hr.mono (by first | decide | omega)) (by rfl) pass0 (pa_cons (pe_cal c__law_cell_at (hr.mono (by first | decide | omega)) (by rfl) pass0 (pa_cons (pv 0) (pa_cons (pe_op op_add pe_int (pv 3)) pa_nil))) (pa_cons pe_int pa_nil))) (pa_cons (pv 2) pa_nil))))
      (pss_cons (ps_set (i := 5) sc_law.nd rfl (.inl rfl) (pe_cal c__law_number (hr.mono (by first | decide | omega)) (by rfl) pass0 (pa_cons (pe_cal c__law_mix (hr.mono (by first | decide | omega)) (by rfl) pass0 (pa_cons (pe_cal c__law_cell_at (hr.mono (by first | decide | omega)) (by rfl) pass0 (pa_cons (pv 0) (pa_cons (pe_op op_add pe_int (pv 3)) pa_nil))) (pa_cons pe_int pa_nil))) (pa_cons (pv 2) pa_nil))))
      (pss_one (ps_for PassesOwn.never rfl (pi_list (pe_lst (pa_cons (pe_tup (pa_cons (pv 4) (pa_cons (pe_cal c__law_sign (hr.mono (by first | decide | omega)) (by rfl) pass0 (pa_cons (pv 4) (pa_cons (pv 2) pa_nil))) pa_nil))) (pa_cons (pe_tup (pa_cons (pv 5) (pa_cons (pe_cal c__law_sign (hr.mono (by first | decide | omega)) (by rfl) pass0 (pa_cons (pv 5) (pa_cons (pv 2) pa_nil))) pa_nil))) (pa_cons (pe_tup (pa_cons (pe_op op_mulW (pv 4) (pv 5)) (pa_cons (pe_op op_mulW (pe_cal c__law_sign (hr.mono (by first | decide | omega)) (by rfl) pass0 (pa_cons (pv 4) (pa_cons (pv 2) pa_nil))) (pe_cal c__law_sign (hr.mono (by first | decide | omega)) (by rfl) pass0 (pa_cons (pv 5) (pa_cons (pv 2) pa_nil)))) pa_nil))) pa_nil))))) (pg_tup (by rfl) (pgs_cons (pg_name (i := 6) sc_law.nd rfl (.inl rfl)) (pgs_cons (pg_name (i := 7) sc_law.nd rfl (.inl rfl)) pgs_nil))) (pss_cons (ps_set (i := 8) sc_law.nd rfl (.inl rfl) (pe_cal c_sign_by (hr.mono (by first | decide | omega)) (by rfl) pass0 (pa_cons (pv 6) (pa_cons (pv 2) pa_nil))))
      (pss_one (ps_if (PW.pt (pw_or (pt_not (pt_val (pe_callB call_isi (by rfl) nb.isinstance (by decide +kernel) (pa_cons (pv 8) (pa_cons (pe_bltn (v := .ty "int") (by rfl) nb.int (by decide +kernel) rfl) pa_nil))))) (pw_or (pt_val (pe_callB call_isi (by rfl) nb.isinstance (by decide +kernel) (pa_cons (pv 8) (pa_cons (pe_bltn (v := .ty "bool") (by rfl) nb.bool (by decide +kernel) rfl) pa_nil)))) (pw_or1 (pt_cmpR op_ne (pv 8) (pv 7) (nomark _)))))) (pss_one (ps_ret pe_bl)) pss_nil))))))))
      (pss_cons (ps_setLc (i := 9) (own := [("_law_place", 10)]) (g := gName 10) (tt := tYes) (by rfl) sc_law.nd rfl rfl (sw_true rfl rfl rfl (by decide +kernel)) (pi_range1 (by rfl) nb.range (pa_cons (pv 2) pa_nil)) (blkOk_by (N := ["_law_script", "_law_number_here", "_law_p", "_law_k", "_law_a", "_law_b", "_law_one", "_law_due", "_law_told", "_law_some", "_law_place", "_law_mark"]) (sc := defScope s_law) (by decide +kernel)) (fun _ _ _ _ _ => (pg_name (i := 10) sc_law.nd rfl (Or.inl rfl))) (fun _ _ _ _ _ => pts_nil) (fun _ _ _ _ _ => (pe_cal c__law_sign (hr.mono (by first | decide | omega)) (by rfl) pass0 (pa_cons (pv 10) (pa_cons (pv 2) pa_nil)))))
      (pss_cons (ps_for PassesOwn.never rfl (pi_range2 (by rfl) nb.range (pa_cons pe_int (pa_cons (pv 2) pa_nil))) (pg_name (i := 3) sc_law.nd rfl (.inr rfl)) (pss_cons (ps_set (i := 8) sc_law.nd rfl (.inl rfl) (pe_cal c_sign_sum (hr.mono (by first | decide | omega)) (by rfl) pass0 (pa_cons (pv 2) pa_nil)))
      (pss_cons (ps_if (PW.pt (pw_or (pt_not (pt_val (pe_callB call_isi (by rfl) nb.isinstance (by decide +kernel) (pa_cons (pv 8) (pa_cons (pe_bltn (v := .ty "list") (by rfl) nb.list (by decide +kernel) rfl) pa_nil))))) (pw_or1 (pt_cmpR (op_neD hr.units) (pv 8) (pv 9) (nomark _))))) (pss_one (ps_ret pe_bl)) pss_nil)
      (pss_cons (ps_if (pt_cmpR (op_neD hr.units) (pe_cal c_led (hr.mono (by first | decide | omega)) (by rfl) pass0 (pa_cons (pv 8) (pa_cons (pv 3) pa_nil))) (pe_lc (own := [("_law_mark", 11)]) (g := gName 11) (tt := tYes) (by rfl) sc_law.nd (pi_list (pv 9)) (blkOk_by (N := ["_law_script", "_law_number_here", "_law_p", "_law_k", "_law_a", "_law_b", "_law_one", "_law_due", "_law_told", "_law_some", "_law_place", "_law_mark"]) (sc := defScope s_law) (by decide +kernel)) (fun _ _ _ _ _ => (pg_name (i := 11) sc_law.nd rfl (Or.inl rfl))) (fun _ _ _ _ _ => pts_nil) (fun _ _ _ _ _ => (pe_op op_mulW (pe_cal c__law_sign (hr.mono (by first | decide | omega)) (by rfl) pass0 (pa_cons (pv 3) (pa_cons (pv 2) pa_nil))) (pv 11)))) (nomark _)) (pss_one (ps_ret pe_bl)) pss_nil)
      (pss_one (ps_expr (pe_bm PySem.F.plainAttrs_list PySem.F.slot_list_append PySem.F.type_list_append mt_append (pv 8) (pa_cons pe_int pa_nil))))))))
      (pss_one (ps_ret pe_bl))))))), ?_⟩
    refine q_asg (v := .int (mix (ns.getD 0 0) 0)) (ev_cal (vs := [.int (ns.getD 0 0), .int 0]) (ea_cons (ev_cal (vs := [.ref a, .int ((0 : Nat) : Int)]) (by one_place) fun H2 e2 Q k E => ⟨a, ns, 0, rfl, ex_l e2 hS, k⟩) (by one_place)) fun H2 e2 Q k E => ⟨_, 0, rfl, by decide, by decide, k⟩) fun H1 e1 => ?_
    refine q_asg (v := .int (oddF (mix (ns.getD 0 0) 0))) (ev_cal (vs := [.int (mix (ns.getD 0 0) 0)]) (by one_place) fun H2 e2 Q k E => ⟨_, rfl, k⟩) fun H2 e2 => ?_
    generalize mix (ns.getD 0 0) 0 = z
    obtain ⟨p, hpz, hp⟩ := oddF_nat z
    rw [hpz]
    clear hpz
    obtain ⟨p3, p31⟩ := odd_bd hp
    have op : oddP (p : Int) = true := List.all_eq_true.mp odd_all p hp
    have e12 := e1.trans e2
    have lsg : ∀ {σ : L2.St} {H : Hp} {E : XK} {i j : Nat} {x : Int}, σ[i]? = some (some (.int x)) → σ[j]? = some (some (.int (p : Nat))) → Ev (tCall spLSign [] E (tCons (tVar i) (tCons (tVar j) tNil))) σ H (.int (signBy x p)) := fun h1 h2 =>
      ev_cal (vs := [.int _, .int (p : Nat)]) (ea_cons (ev_var h1) (ea_cons (ev_var h2) ea_nil)) fun H5 e5 Q k E => ⟨_, (p : Nat), rfl, by omega, by omega, k⟩
    refine q_forR1 (n := 6) (by one_place) (by decide) (fun i σ' H' => ∃ x3 x4 x5 x6 x7 x8, σ' = [some (.ref a), some (.int z), some (.int (p : Nat)), x3, x4, x5, x6, x7, x8, none, none, none] ∧ Ex H2 H')
      (fun H3 e3 => ⟨_, _, _, _, _, _, rfl, e3⟩) (fun i σ' H3 hi hW => ?_) (fun σ' H3 hW => ?_)
    · obtain ⟨x3, x4, x5, x6, x7, x8, rfl, e3⟩ := hW
      have hc : ∀ {σ : L2.St} {H4 : Hp} {E1 E2 E3 : XK} {m : Nat}, m ≤ 5 → σ[0]? = some (some (.ref a)) → σ[2]? = some (some (.int (p : Nat))) → σ[3]? = some (some (.int (i : Int))) → Ex H H4 → Ev (tCall spNum [] E1 (tCons (tCall spMix [] E2 (tCons (tCall (spCellAt K) [] E3 (tCons (tVar 0) (tCons (tOp (rI0 fun i j => .int (i + j)) (tC (.int 1)) (tVar 3)) tNil))) (tCons (tC (.int (m : Nat))) tNil))) (tCons (tVar 2) tNil))) σ H4 (.int (numF (mix (ns.getD (1 + i) 0) m) p)) := fun {σ H4 E1 E2 E3 m} hm h0 h2 h3 e4 =>
        ev_cal (vs := [.int (mix (ns.getD (1 + i) 0) m), .int (p : Nat)]) (ea_cons (ev_cal (vs := [.int (ns.getD (1 + i) 0), .int (m : Nat)]) (ea_cons (ev_cal (vs := [.ref a, .int ((1 + i : Nat) : Int)]) (ea_cons (ev_var h0) (ea_cons (ev_is (ev_add ev_c (ev_var h3)) (by rw [Int.natCast_add]; rfl)) ea_nil)) fun H5 e5 Q k E => ⟨a, ns, 1 + i, rfl, ex_l (e4.trans e5) hS, k⟩) (by one_place)) fun H5 e5 Q k E => ⟨_, (m : Nat), rfl, by omega, by omega, k⟩) (ea_cons (ev_var h2) ea_nil)) fun H5 e5 Q k E => ⟨_, p, rfl, mix_nn _ _, mix_le _ _, p31, k⟩
      refine q_asg (v := .int (numF (mix (ns.getD (1 + i) 0) (0 : Nat)) p)) (hc (m := 0) (by decide) rfl rfl rfl (e12.trans e3)) fun H4 e4 => ?_
      refine q_asg (v := .int (numF (mix (ns.getD (1 + i) 0) (1 : Nat)) p)) (hc (m := 1) (by decide) rfl rfl rfl ((e12.trans e3).trans e4)) fun H5 e5 => ?_
      have ba := numF_bd (n := mix (ns.getD (1 + i) 0) (0 : Nat)) (mix_nn _ _) (mix_le _ _) p31
      have bb := numF_bd (n := mix (ns.getD (1 + i) 0) (1 : Nat)) (mix_nn _ _) (mix_le _ _) p31
      generalize numF (mix (ns.getD (1 + i) 0) (0 : Nat)) p = u at *
      generalize numF (mix (ns.getD (1 + i) 0) (1 : Nat)) p = v at *
      have su := signBy_bd u p
      have sv := signBy_bd v p
      refine s_forPz (rows := [(u, signBy u p), (v, signBy v p), (u * v, signBy u p * signBy v p)]) (ep_lst (epa_cons (ea_cons (ev_var rfl) (ea_cons (lsg rfl rfl) ea_nil)) (epa_cons (ea_cons (ev_var rfl) (ea_cons (lsg rfl rfl) ea_nil)) (epa_cons (ea_cons (ev_mul (ev_var rfl) (ev_var rfl) (mulW (by omega) (by omega))) (ea_cons (ev_mul (lsg rfl rfl) (lsg rfl rfl) (mulW (by omega) (by omega))) ea_nil)) epa_nil))) (by show 3 ≤ 100000; decide))
        (fun H0 j σ' H' => ∃ x6 x7 x8, σ' = [some (.ref a), some (.int z), some (.int (p : Nat)), some (.int (i : Int)), some (.int u), some (.int v), x6, x7, x8, none, none, none] ∧ Ex H5 H0 ∧ Ex H0 H') (fun H6 e6 => ⟨_, _, _, rfl, e6, Ex.refl _⟩) (fun H6 j σ' H' hq => ?_) (fun H6 j r σ' H' e6 hr hq => ?_) (fun H6 σ' H' e6 hq => ?_)
      · obtain ⟨_, _, _, _, _, e⟩ := hq
        exact e
      · obtain ⟨x6, x7, x8, rfl, _, e7⟩ := hq
        have hr2 : r.2 = signBy r.1 p := by
          have hm := List.mem_of_getElem? hr
          simp only [List.mem_cons, List.not_mem_nil, or_false] at hm
          rcases hm with rfl | rfl | rfl
          · rfl
          · rfl
          · exact (signBy_mul hp (by omega) u v).symm
        rw [hr2]
        refine q_asg (v := .int (signBy r.1 p)) (ev_cal (vs := [.int r.1, .int (p : Nat)]) (by one_place) fun H8 e8 Q k E => ⟨_, (p : Nat), rfl, by omega, op, k⟩) fun H8 e8 => ?_
        exact s_when (b := false) (et_is (et_or (et_not (et_B (ev_isi (b := true) (by one_place) tx_int (by decide +kernel)))) fun _ => et_or (et_B (ev_isi (b := false) (by one_place) tx_int (by decide +kernel))) fun _ => et_test (ev_neI (ev_var rfl) (ev_var rfl))) (by rw [decide_eq_true rfl]; rfl)) (fun hb => nomatch hb) (fun _ H9 e9 => ⟨_, _, _, rfl, e6, (e7.trans e8).trans e9⟩)
      · obtain ⟨x6, x7, x8, rfl, _, e7⟩ := hq
        exact ⟨_, _, _, _, _, _, rfl, (((e3.trans e4).trans e5).trans e6).trans e7⟩
    · obtain ⟨x3, x4, x5, x6, x7, x8, rfl, e3⟩ := hW
      refine q_asgL (xs := (signs p).map V.int) (el_is (el_lcR1 (n := (p : Nat)) (fun _ => true) (fun i => .int (signBy (i : Int) p)) (by one_place) (by omega) (fun _ => rfl) (fun i H4 e4 hi => et_yes) (fun i H4 e4 hi _ => lsg rfl rfl)) (by unfold given; rw [filter_yes]; unfold signs; rw [List.map_map]; rfl)) fun so H4 nso e4 h4 => ?_
      have sl : (signs (p : Int)).length = p := by
        rw [signs_len]
        omega
      refine q_forR2 (lo := 1) (n := (p : Nat)) (by one_place) (by omega) (fun i σ' H' => ∃ x3 x8, σ' = [some (.ref a), some (.int z), some (.int (p : Nat)), x3, x4, x5, x6, x7, x8, some (.ref so), none, none] ∧ Ex H4 H')
        (fun H5 e5 => ⟨_, _, rfl, e5⟩) (fun i σ' H5 hi hq => ?_) (fun σ' H5 hq => ?_)
      · obtain ⟨y3, y8, rfl, e5⟩ := hq
        have hk : (1 : Int) + (i : Int) = ((i + 1 : Nat) : Int) := by omega
        rw [hk]
        refine q_asgL (xs := (signs p).map V.int) (el_cal (vs := [.int (p : Nat)]) (by one_place) fun H6 e6 Q k E => ⟨(p : Nat), rfl, by omega, op, k⟩) fun t H6 nt e6 h6 => ?_
        have s6 := (e5.trans e6) _ _ h4
        refine q_when (b := false) (et_is (et_or (et_not (et_B (ev_isi (b := true) (by one_place) (tx_lst h6) (by decide +kernel)))) fun _ => et_test (ev_op (ev_var rfl) (ev_var rfl) (rv_neI (ns := signs p) (ms := signs p) (SqL.of h6) (SqL.of s6)))) (by rw [decide_eq_true rfl]; rfl)) (fun hb => nomatch hb) (fun _ H7 e7 => ?_)
        have hl : ledF (signs p) (i + 1) = (signs p).map fun m => signBy ((i + 1 : Nat) : Int) p * m :=
          of_decide_eq_true (List.all_eq_true.mp (List.all_eq_true.mp ledChk_all p hp) i (List.mem_range.mpr (by omega)))
        have sk := signBy_bd ((i + 1 : Nat) : Int) p
        refine q_when (b := false) (et_is (et_test (ev_opLL (xs := (ledF (signs p) (i + 1)).map V.int) (ys := ((signs p).map fun m => signBy ((i + 1 : Nat) : Int) p * m).map V.int) (el_cal (vs := [.ref t, .int ((i + 1 : Nat) : Int)]) (by one_place) fun H8 e8 Q k E => ⟨t, signs p, i + 1, rfl, SqL.of ((e7.trans e8) _ _ h6), by omega, by omega, by omega, k⟩)
          (el_is (el_lcI (ns := signs p) (fun _ => true) (fun m => .int (signBy ((i + 1 : Nat) : Int) p * m)) (ev_var rfl) (SqL.of (e7 _ _ s6)) (by omega) (fun _ => rfl) (fun r H8 e8 hr => et_yes) (fun r H8 e8 hr _ => ev_mul (lsg rfl rfl) (ev_var rfl) (mulW (by omega) ?_))) (by rw [filter_yes, List.map_map]; rfl)) fun u v H8 hu hv e8 => rv_neI (SqL.of hu) (SqL.of hv))) (by rw [hl, decide_eq_true rfl]; rfl)) (fun hb => nomatch hb) (fun _ H8 e8 => ?_)
        · unfold signs at hr
          obtain ⟨j, _, rfl⟩ := List.mem_map.mp hr
          have := signBy_bd (j : Int) p
          omega
        exact s_app (e8 _ _ (e7 _ _ h6)) (ev_var rfl) ev_c (by rw [List.length_map]; omega) fun H9 e9 => ⟨_, _, rfl, Ex.mut ((((e5.trans e6).trans e7).trans e8).trans e9) (fresh_back e5 nt)⟩
      · obtain ⟨y3, y8, rfl, e5⟩ := hq
        exact s_ret (v := .bl true) ev_c fun H6 e6 => q _
end
theorem all_mk {l : PySem.W.OpenLaw} {w : World} {K : PySem.W.Frag} {h : Heap} {mg : Str → Option Value} {fa : Addr} (X : K.In h) (G : h.Ns mainGlobals mg) (hfa : mg "law" = some (.ref fa))
    {C_NoPrime C_WheelError : Addr}
    {f0 f1 f2 f3 f4 f5 f6 f7 f8 f9 f10 f11 : Addr} {od0 an0 od1 an1 od2 an2 od3 an3 od4 an4 od5 an5 od6 an6 od7 an7 od8 an8 od9 an9 od10 an10 od11 an11 : Option Addr} {sl0 sl1 sl2 sl3 sl4 sl5 sl6 sl7 sl8 sl9 sl10 sl11 : Array (Option Value)} {oc0 kV0 dc0 pm0 cd0 ct0 oc1 kV1 dc1 pm1 cd1 ct1 oc2 kV2 dc2 pm2 cd2 ct2 oc3 kV3 dc3 pm3 cd3 ct3 oc4 kV4 dc4 pm4 cd4 ct4 oc5 kV5 dc5 pm5 cd5 ct5 oc6 kV6 dc6 pm6 cd6 ct6 oc7 kV7 dc7 pm7 cd7 ct7 oc8 kV8 dc8 pm8 cd8 ct8 oc9 kV9 dc9 pm9 cd9 ct9 oc10 kV10 dc10 pm10 cd10 ct10 oc11 kV11 dc11 pm11 cd11 ct11 : Value}
    (a0 : PySem.W.nsIn K mainGlobals "parted" = some (some (.ref f0))) (l0 : K.lookup f0 = some ⟨oc0, od0, .func (PySem.W.fnOf "parted" "parted" (defArgs s_parted) (defBody s_parted) (defScope s_parted) .none kV0 dc0 pm0 an0 cd0 ct0), sl0⟩) (c0 : PySem.W.codeIn K cd0 "parted" = true) (k0 : PySem.W.keepIn K (.ref f0) = true)
    (a1 : PySem.W.nsIn K mainGlobals "is_prime" = some (some (.ref f1))) (l1 : K.lookup f1 = some ⟨oc1, od1, .func (PySem.W.fnOf "is_prime" "is_prime" (defArgs s_is_prime) (defBody s_is_prime) (defScope s_is_prime) .none kV1 dc1 pm1 an1 cd1 ct1), sl1⟩) (c1 : PySem.W.codeIn K cd1 "is_prime" = true) (k1 : PySem.W.keepIn K (.ref f1) = true)
    (a2 : PySem.W.nsIn K mainGlobals "check_odd_prime" = some (some (.ref f2))) (l2 : K.lookup f2 = some ⟨oc2, od2, .func (PySem.W.fnOf "check_odd_prime" "check_odd_prime" (defArgs s_check_odd_prime) (defBody s_check_odd_prime) (defScope s_check_odd_prime) .none kV2 dc2 pm2 an2 cd2 ct2), sl2⟩) (c2 : PySem.W.codeIn K cd2 "check_odd_prime" = true) (k2 : PySem.W.keepIn K (.ref f2) = true)
    (a3 : PySem.W.nsIn K mainGlobals "sign_by" = some (some (.ref f3))) (l3 : K.lookup f3 = some ⟨oc3, od3, .func (PySem.W.fnOf "sign_by" "sign_by" (defArgs s_sign_by) (defBody s_sign_by) (defScope s_sign_by) .none kV3 dc3 pm3 an3 cd3 ct3), sl3⟩) (c3 : PySem.W.codeIn K cd3 "sign_by" = true) (k3 : PySem.W.keepIn K (.ref f3) = true)
    (a4 : PySem.W.nsIn K mainGlobals "sign_sum" = some (some (.ref f4))) (l4 : K.lookup f4 = some ⟨oc4, od4, .func (PySem.W.fnOf "sign_sum" "sign_sum" (defArgs s_sign_sum) (defBody s_sign_sum) (defScope s_sign_sum) .none kV4 dc4 pm4 an4 cd4 ct4), sl4⟩) (c4 : PySem.W.codeIn K cd4 "sign_sum" = true) (k4 : PySem.W.keepIn K (.ref f4) = true)
    (a5 : PySem.W.nsIn K mainGlobals "led" = some (some (.ref f5))) (l5 : K.lookup f5 = some ⟨oc5, od5, .func (PySem.W.fnOf "led" "led" (defArgs s_led) (defBody s_led) (defScope s_led) .none kV5 dc5 pm5 an5 cd5 ct5), sl5⟩) (c5 : PySem.W.codeIn K cd5 "led" = true) (k5 : PySem.W.keepIn K (.ref f5) = true)
    (a6 : PySem.W.nsIn K mainGlobals "_law_cell_at" = some (some (.ref f6))) (l6 : K.lookup f6 = some ⟨oc6, od6, .func (PySem.W.fnOf "_law_cell_at" "_law_cell_at" (defArgs s__law_cell_at) (defBody s__law_cell_at) (defScope s__law_cell_at) .none kV6 dc6 pm6 an6 cd6 ct6), sl6⟩) (c6 : PySem.W.codeIn K cd6 "_law_cell_at" = true) (k6 : PySem.W.keepIn K (.ref f6) = true)
    (a7 : PySem.W.nsIn K mainGlobals "_law_mix" = some (some (.ref f7))) (l7 : K.lookup f7 = some ⟨oc7, od7, .func (PySem.W.fnOf "_law_mix" "_law_mix" (defArgs s__law_mix) (defBody s__law_mix) (defScope s__law_mix) .none kV7 dc7 pm7 an7 cd7 ct7), sl7⟩) (c7 : PySem.W.codeIn K cd7 "_law_mix" = true) (k7 : PySem.W.keepIn K (.ref f7) = true)
    (a8 : PySem.W.nsIn K mainGlobals "_law_odd" = some (some (.ref f8))) (l8 : K.lookup f8 = some ⟨oc8, od8, .func (PySem.W.fnOf "_law_odd" "_law_odd" (defArgs s__law_odd) (defBody s__law_odd) (defScope s__law_odd) .none kV8 dc8 pm8 an8 cd8 ct8), sl8⟩) (c8 : PySem.W.codeIn K cd8 "_law_odd" = true) (k8 : PySem.W.keepIn K (.ref f8) = true)
    (a9 : PySem.W.nsIn K mainGlobals "_law_sign" = some (some (.ref f9))) (l9 : K.lookup f9 = some ⟨oc9, od9, .func (PySem.W.fnOf "_law_sign" "_law_sign" (defArgs s__law_sign) (defBody s__law_sign) (defScope s__law_sign) .none kV9 dc9 pm9 an9 cd9 ct9), sl9⟩) (c9 : PySem.W.codeIn K cd9 "_law_sign" = true) (k9 : PySem.W.keepIn K (.ref f9) = true)
    (a10 : PySem.W.nsIn K mainGlobals "_law_number" = some (some (.ref f10))) (l10 : K.lookup f10 = some ⟨oc10, od10, .func (PySem.W.fnOf "_law_number" "_law_number" (defArgs s__law_number) (defBody s__law_number) (defScope s__law_number) .none kV10 dc10 pm10 an10 cd10 ct10), sl10⟩) (c10 : PySem.W.codeIn K cd10 "_law_number" = true) (k10 : PySem.W.keepIn K (.ref f10) = true)
    (a11 : PySem.W.nsIn K mainGlobals "law" = some (some (.ref f11))) (l11 : K.lookup f11 = some ⟨oc11, od11, .func (PySem.W.fnOf "law" "law" (defArgs s_law) (defBody s_law) (defScope s_law) .none kV11 dc11 pm11 an11 cd11 ct11), sl11⟩) (c11 : PySem.W.codeIn K cd11 "law" = true) (k11 : PySem.W.keepIn K (.ref f11) = true)
    (z_len : PySem.W.nsIn K mainGlobals "len" = some none)    (z_range : PySem.W.nsIn K mainGlobals "range" = some none)    (z_max : PySem.W.nsIn K mainGlobals "max" = some none)    (z_list : PySem.W.nsIn K mainGlobals "list" = some none)    (z_int : PySem.W.nsIn K mainGlobals "int" = some none)    (z_bool : PySem.W.nsIn K mainGlobals "bool" = some none)    (z_tuple : PySem.W.nsIn K mainGlobals "tuple" = some none)    (z_isinstance : PySem.W.nsIn K mainGlobals "isinstance" = some none)    (z_enumerate : PySem.W.nsIn K mainGlobals "enumerate" = some none)    (z_reversed : PySem.W.nsIn K mainGlobals "reversed" = some none)    (z_sorted : PySem.W.nsIn K mainGlobals "sorted" = some none)    (z_zip : PySem.W.nsIn K mainGlobals "zip" = some none)    (z_all : PySem.W.nsIn K mainGlobals "all" = some none)    (z_str : PySem.W.nsIn K mainGlobals "str" = some none)
    (q1_NoPrime : PySem.W.nsIn K mainGlobals "NoPrime" = some (some (.ref C_NoPrime)))
    (q2_NoPrime : PySem.W.keepIn K (.ref C_NoPrime) = true)
    (q3_NoPrime : PySem.W.excIn K C_NoPrime [.type "ValueError", .type "Exception", .type "BaseException", .type "object"] "ValueError.__new__" = true)
    (q4_NoPrime : PySem.W.typeIn K (.ref C_NoPrime) = some (.type "type"))
    (q5_NoPrime : PySem.W.findIn K (.ref C_NoPrime) "__getattribute__" = some (some (.builtin "BaseException.__getattribute__")))
    (q6_NoPrime : PySem.W.findIn K (.ref C_NoPrime) "__getattr__" = some none)
    (q7_NoPrime : PySem.W.subIn K (.ref C_NoPrime) (.type "BaseException") = some true)
    (q8_NoPrime : PySem.W.hasDictIn K C_NoPrime = true)
    (q9_NoPrime : PySem.W.findIn K (.ref C_NoPrime) "__class__" = some (some (.builtin "object.__class__")))
    (qa_NoPrime : PySem.W.specialIn K (.builtin "object.__class__") "__get__" = some (some (.builtin "getset_descriptor.__get__")))
    (qb_NoPrime : PySem.W.takesIn K (.builtin "object.__class__") = some true)
    (qc_NoPrime : PySem.W.mroIn K C_NoPrime (.type "object") = some true)
    (qd_NoPrime : PySem.W.subIn K (.ref C_NoPrime) (.ref C_NoPrime) = some true)
    (qe_NoPrime : PySem.W.subIn K (.ref C_NoPrime) (.type "ValueError") = some true)
    (z_ValueError : PySem.W.nsIn K mainGlobals "ValueError" = some none)
    (q1_WheelError : PySem.W.nsIn K mainGlobals "WheelError" = some (some (.ref C_WheelError)))
    (q4_WheelError : PySem.W.typeIn K (.ref C_WheelError) = some (.type "type"))
    (q7_WheelError : PySem.W.subIn K (.ref C_WheelError) (.type "BaseException") = some true)
    (q8_WheelError : PySem.W.hasDictIn K C_WheelError = true)
    (qs_WheelError : PySem.W.subIn K (.ref C_NoPrime) (.ref C_WheelError) = some true) :
    ∃ fd : FuncData, (∀ (s : Shared) (v : Value), BindsTo s fd ⟨[v], []⟩ [("_law_script", v)]) ∧ ∀ base : Heap, K.In base → base.Ns mainGlobals mg → FnOk l.prog w K mg base CX0 6 fa fd ["_law_script"] (spLaw K) := by
  have e := hfa.symm.trans (PySem.W.mg_of X G a11)
  cases e
  have nb : Nb mg := ⟨PySem.W.mg_none_of X G z_len, PySem.W.mg_none_of X G z_range, PySem.W.mg_none_of X G z_max, PySem.W.mg_none_of X G z_list, PySem.W.mg_none_of X G z_int, PySem.W.mg_none_of X G z_bool, PySem.W.mg_none_of X G z_tuple, PySem.W.mg_none_of X G z_isinstance, PySem.W.mg_none_of X G z_enumerate, PySem.W.mg_none_of X G z_reversed, PySem.W.mg_none_of X G z_sorted, PySem.W.mg_none_of X G z_zip, PySem.W.mg_none_of X G z_all, PySem.W.mg_none_of X G z_str⟩
  have x_NoPrime : OwnX K mg "NoPrime" C_NoPrime := ⟨PySem.W.mg_of X G q1_NoPrime, q2_NoPrime, q3_NoPrime, q4_NoPrime, ⟨q5_NoPrime, q6_NoPrime, q7_NoPrime, q8_NoPrime, q9_NoPrime, qa_NoPrime, qb_NoPrime, qc_NoPrime⟩⟩
  have x_WheelError : GlX mg "WheelError" C_WheelError := ⟨PySem.W.mg_of X G q1_WheelError⟩
  have hex := PySem.W.exm_ref q7_WheelError q8_WheelError q4_WheelError qs_WheelError
  have d_parted : Dfn K mg "parted" ["n"] s_parted := by
    have F := fun_mk (st := s_parted) l0 c0 k0
    exact ⟨_, _, F, PySem.W.mg_of X G a0, F.binds (ps := ["n"]) fun _ _ _ _ _ _ us hl => match us, hl with | [_], _ => rfl⟩
  have d_is_prime : Dfn K mg "is_prime" ["number"] s_is_prime := by
    have F := fun_mk (st := s_is_prime) l1 c1 k1
    exact ⟨_, _, F, PySem.W.mg_of X G a1, F.binds (ps := ["number"]) fun _ _ _ _ _ _ us hl => match us, hl with | [_], _ => rfl⟩
  have d_check_odd_prime : Dfn K mg "check_odd_prime" ["p"] s_check_odd_prime := by
    have F := fun_mk (st := s_check_odd_prime) l2 c2 k2
    exact ⟨_, _, F, PySem.W.mg_of X G a2, F.binds (ps := ["p"]) fun _ _ _ _ _ _ us hl => match us, hl with | [_], _ => rfl⟩
  have d_sign_by : Dfn K mg "sign_by" ["a", "p"] s_sign_by := by
    have F := fun_mk (st := s_sign_by) l3 c3 k3
    exact ⟨_, _, F, PySem.W.mg_of X G a3, F.binds (ps := ["a", "p"]) fun _ _ _ _ _ _ us hl => match us, hl with | [_, _], _ => rfl⟩
  have d_sign_sum : Dfn K mg "sign_sum" ["p"] s_sign_sum := by
    have F := fun_mk (st := s_sign_sum) l4 c4 k4
    exact ⟨_, _, F, PySem.W.mg_of X G a4, F.binds (ps := ["p"]) fun _ _ _ _ _ _ us hl => match us, hl with | [_], _ => rfl⟩
  have d_led : Dfn K mg "led" ["some", "k"] s_led := by
    have F := fun_mk (st := s_led) l5 c5 k5
    exact ⟨_, _, F, PySem.W.mg_of X G a5, F.binds (ps := ["some", "k"]) fun _ _ _ _ _ _ us hl => match us, hl with | [_, _], _ => rfl⟩
  have d__law_cell_at : Dfn K mg "_law_cell_at" ["_law_script", "_law_k"] s__law_cell_at := by
    have F := fun_mk (st := s__law_cell_at) l6 c6 k6
    exact ⟨_, _, F, PySem.W.mg_of X G a6, F.binds (ps := ["_law_script", "_law_k"]) fun _ _ _ _ _ _ us hl => match us, hl with | [_, _], _ => rfl⟩
  have d__law_mix : Dfn K mg "_law_mix" ["_law_cell", "_law_k"] s__law_mix := by
    have F := fun_mk (st := s__law_mix) l7 c7 k7
    exact ⟨_, _, F, PySem.W.mg_of X G a7, F.binds (ps := ["_law_cell", "_law_k"]) fun _ _ _ _ _ _ us hl => match us, hl with | [_, _], _ => rfl⟩
  have d__law_odd : Dfn K mg "_law_odd" ["_law_number_here"] s__law_odd := by
    have F := fun_mk (st := s__law_odd) l8 c8 k8
    exact ⟨_, _, F, PySem.W.mg_of X G a8, F.binds (ps := ["_law_number_here"]) fun _ _ _ _ _ _ us hl => match us, hl with | [_], _ => rfl⟩
  have d__law_sign : Dfn K mg "_law_sign" ["_law_a", "_law_p"] s__law_sign := by
    have F := fun_mk (st := s__law_sign) l9 c9 k9
    exact ⟨_, _, F, PySem.W.mg_of X G a9, F.binds (ps := ["_law_a", "_law_p"]) fun _ _ _ _ _ _ us hl => match us, hl with | [_, _], _ => rfl⟩
  have d__law_number : Dfn K mg "_law_number" ["_law_number_here", "_law_p"] s__law_number := by
    have F := fun_mk (st := s__law_number) l10 c10 k10
    exact ⟨_, _, F, PySem.W.mg_of X G a10, F.binds (ps := ["_law_number_here", "_law_p"]) fun _ _ _ _ _ _ us hl => match us, hl with | [_, _], _ => rfl⟩
  have F := fun_mk (st := s_law) l11 c11 k11
  exact ⟨PySem.W.fnOf "law" "law" (defArgs s_law) (defBody s_law) (defScope s_law) .none kV11 dc11 pm11 an11 cd11 ct11, fun s v => .of_eq rfl, fun base _ _ => law_ok F nb (PySem.W.mg_none_of X G z_ValueError) (kit_VE qe_NoPrime) x_NoPrime x_WheelError hex d_parted d_is_prime d_check_odd_prime d_sign_by d_sign_sum d_led d__law_cell_at d__law_mix d__law_odd d__law_sign d__law_number⟩
end Own
open PySem PySem.W PyProof.Rows
set_option maxHeartbeats 0 in
theorem PySem.Challenge.cw_rootwheel_k56_signs_by_primes_holds : PySem.Challenge.rw_rootwheel_k56_signs_by_primes.Holds := by
  w_on; o_law; k_head; (case hw => w_witness2)
  k_fill
  refine L2.walk_of (l := PySem.Challenge.rw_rootwheel_k56_signs_by_primes) (n := 63) (k := 6) (x := "_law_script") (CX := fun _ => L2.CX0) (sp := fun w => Own.spLaw _) rfl (by decide) rfl ⟨rfl, by decide, by decide⟩ (fun w h Y => PySem.W.kIn_of Y) ?F (fun _ _ a ns hl _ hS => ⟨a, ns, rfl, hS, hl, fun _ => rfl⟩) (fun _ _ _ _ _ h => h)
  case F =>
    intro w mg fa h KX G hmg
    refine' Own.all_mk KX G hmg ?a0 ?l0 ?c0 ?k0 ?a1 ?l1 ?c1 ?k1 ?a2 ?l2 ?c2 ?k2 ?a3 ?l3 ?c3 ?k3 ?a4 ?l4 ?c4 ?k4 ?a5 ?l5 ?c5 ?k5 ?a6 ?l6 ?c6 ?k6 ?a7 ?l7 ?c7 ?k7 ?a8 ?l8 ?c8 ?k8 ?a9 ?l9 ?c9 ?k9 ?a10 ?l10 ?c10 ?k10 ?a11 ?l11 ?c11 ?k11 ?z_len ?z_range ?z_max ?z_list ?z_int ?z_bool ?z_tuple ?z_isinstance ?z_enumerate ?z_reversed ?z_sorted ?z_zip ?z_all ?z_str ?q1_NoPrime ?q2_NoPrime ?q3_NoPrime ?q4_NoPrime ?q5_NoPrime ?q6_NoPrime ?q7_NoPrime ?q8_NoPrime ?q9_NoPrime ?qa_NoPrime ?qb_NoPrime ?qc_NoPrime ?qd_NoPrime ?qe_NoPrime ?z_ValueError ?q1_WheelError ?q4_WheelError ?q7_WheelError ?q8_WheelError ?qs_WheelError
    (case a0 => k_is)
    (case l0 => k_is)
    (case c0 => k_is)
    (case k0 => k_is)
    (case a1 => k_is)
    (case l1 => k_is)
    (case c1 => k_is)
    (case k1 => k_is)
    (case a2 => k_is)
    (case l2 => k_is)
    (case c2 => k_is)
    (case k2 => k_is)
    (case a3 => k_is)
    (case l3 => k_is)
    (case c3 => k_is)
    (case k3 => k_is)
    (case a4 => k_is)
    (case l4 => k_is)
    (case c4 => k_is)
    (case k4 => k_is)
    (case a5 => k_is)
    (case l5 => k_is)
    (case c5 => k_is)
    (case k5 => k_is)
    (case a6 => k_is)
    (case l6 => k_is)
    (case c6 => k_is)
    (case k6 => k_is)
    (case a7 => k_is)
    (case l7 => k_is)
    (case c7 => k_is)
    (case k7 => k_is)
    (case a8 => k_is)
    (case l8 => k_is)
    (case c8 => k_is)
    (case k8 => k_is)
    (case a9 => k_is)
    (case l9 => k_is)
    (case c9 => k_is)
    (case k9 => k_is)
    (case a10 => k_is)
    (case l10 => k_is)
    (case c10 => k_is)
    (case k10 => k_is)
    (case a11 => k_is)
    (case l11 => k_is)
    (case c11 => k_is)
    (case k11 => k_is)
    (case z_len => k_is)
    (case z_range => k_is)
    (case z_max => k_is)
    (case z_list => k_is)
    (case z_int => k_is)
    (case z_bool => k_is)
    (case z_tuple => k_is)
    (case z_isinstance => k_is)
    (case z_enumerate => k_is)
    (case z_reversed => k_is)
    (case z_sorted => k_is)
    (case z_zip => k_is)
    (case z_all => k_is)
    (case z_str => k_is)
    (case q1_NoPrime => k_is)
    (case q2_NoPrime => k_is)
    (case q3_NoPrime => k_exc)
    (case q4_NoPrime => k_is)
    (case q5_NoPrime => k_is)
    (case q6_NoPrime => k_is)
    (case q7_NoPrime => k_is)
    (case q8_NoPrime => k_is)
    (case q9_NoPrime => k_is)
    (case qa_NoPrime => k_is)
    (case qb_NoPrime => k_is)
    (case qc_NoPrime => k_is)
    (case qd_NoPrime => k_is)
    (case qe_NoPrime => k_is)
    (case z_ValueError => k_is)
    (case q1_WheelError => k_is)
    (case q4_WheelError => k_is)
    (case q7_WheelError => k_is)
    (case q8_WheelError => k_is)
    (case qs_WheelError => k_is)


