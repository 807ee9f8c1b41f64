import PyProof.Rows.All
import Wide.All
import OpenK.AllK
import Wide.FinOn
import HandS.ForMost
import HandS.Evl
import HandS.Wide
import HandS.WideMore
import HandS.Gcd
import HandS.IsInst
import HandS.SortInts
import HandS.Rev
import HandS.Walk
import PySem.Challenge.RW_rootwheel_k16_sums
set_option Elab.async false
set_option linter.all false
set_option maxRecDepth 100000
set_option maxHeartbeats 4000000
/-! What every proof of ours leans on: calls by a promise that stands for a name, rules of ours, words for the readings. -/
namespace Kp
open PySem PySem.Spec PyProof.Rows L2 Evl

/-! ### the names of Python that a text leaves as they are -/
structure Nb (mg : Str → Option Value) : Prop where
  len : mg "len" = none
  range : mg "range" = none
  max : mg "max" = none
  list : mg "list" = none
  int : mg "int" = none
  bool : mg "bool" = none
  tuple : mg "tuple" = none
  isinstance : mg "isinstance" = none
  enumerate : mg "enumerate" = none
  reversed : mg "reversed" = none
  sorted : mg "sorted" = none
  zip : mg "zip" = none
  all : mg "all" = none
  str : mg "str" = none

/-! ### a def by its name -/
/-- by the name x the module holds a def that keeps the promise sp, at the level k -/
def Cal (P : Program) (w : World) (K : PySem.W.Frag) (mg : Str → Option Value) (base : Heap) (CX : CXT) (x : Str) (k : Nat) (ps : List Str) (sp : Sp) : Prop :=
  ∃ (f : Addr) (fd : FuncData), FnOk P w K mg base CX k f fd ps sp ∧ mg x = some (.ref f) ∧ PySem.W.keepIn K (.ref f) = true ∧ Binds K fd ps []
/-- by the name x the module holds the def that st writes -/
def Dfn (K : PySem.W.Frag) (mg : Str → Option Value) (x : Str) (ps : List Str) (st : Stmt) : Prop :=
  ∃ (f : Addr) (fd : FuncData), Fun K x x st f fd ∧ mg x = some (.ref f) ∧ Binds K fd ps []
section
variable {P : Program} {w : World} {K : PySem.W.Frag} {mg : Str → Option Value} {base : Heap} {CX : CXT} {x : Str} {k : Nat} {ps N : List Str} {sp : Sp} {st : Stmt}
theorem Dfn.cal (d : Dfn K mg x ps st) (S : FnScope N ps (defScope st)) (len : ∀ vs H Q E, sp vs H Q E → vs.length = ps.length)
    (hbody : ∀ (f : Addr) (cdv : Value) (A : Around) (outer : List Env) (s : Shared) (H : Hp) (vs : List V) (Q : VK) (E : XK), Room k (A.deeper (envOfC x (defScope st) s.heap.objs.size f cdv)) → sp vs H Q E →
      ∃ t, PSs (cxOf CX0 P w K mg base N x (defScope st) f cdv A outer s H E).nox (defBody st) t ∧ t { nx := fun _ H' => Q .non H', rt := Q } (start N vs) H) : Cal P w K mg base CX0 x (k + 1) ps sp := by
  obtain ⟨f, fd, F, g, b⟩ := d
  exact ⟨f, fd, F.ok S len (hbody f), g, F.kp, b⟩
end
section
variable {X : Cx} {CX : CXT} {k : Nat} {ps : List Str} {sp : Sp} {E : XK} {x : Str} {p pos : Pos} {e : Expr} {es : List Expr} {t : TA}
theorem pe_cal (c : Cal X.prog X.w X.K X.mg X.base CX x k ps sp) (hr : Room k X.A) (hg : Gl X x) (hx : Passes CX X E)
    (ha : PA X (e :: es) t) (hdb : (x == ("__debug__" : Str)) = false := by decide) (he : starEach (e :: es) X.env = (false, eval e X.env) :: starEach es X.env := by rfl) (hpl : (backTo pos (starEach es X.env)).any (·.1) = false := by rfl) :
    PE X (.Call (.Name x p) (e :: es) [] pos) (tCall sp [] E t) := by
  obtain ⟨f, fd, F, g, kp, b⟩ := c
  exact pe_call F hr hg g kp b .nil hx ha hdb he hpl
end

/-! ### rules of ours -/
def CPowW (i j : Int) : Prop := 0 ≤ j ∧ (Builtin.Int.intBits i : Int) * j ≤ 2 ^ 27
section
variable {X : Cx}
theorem op_powW : OpR X (binaryOp .Pow) (rI CPowW fun i j => .int (i ^ j.toNat)) := opI fun _ _ _ _ _ _ _ hc q => pow_int hc.1 hc.2 q
/-- what stands at a place of a list, for o[i] op= e -/
def rGetL (K : PySem.W.Frag) : V → V → Hp → VK → Prop := fun o i H Q => ∃ p xs j v, o = .ref p ∧ i = .int ((j : Nat) : Int) ∧ SqL K H p xs ∧ xs[j]? = some v ∧ Q v H
theorem get_list : PGet X (rGetL X.K) := by
  intro pins s σ H o i ov iv Q I ro ri h
  obtain ⟨p, xs, j, z, rfl, rfl, hq, he, q⟩ := h
  cases ro
  obtain ⟨t, rfl⟩ := ri
  obtain ⟨its, r, pl, hz⟩ := I.list hq
  obtain ⟨w, ew, rw'⟩ := r.get he
  have hj : j < xs.length := (List.getElem?_eq_some_iff.mp he).1
  have hn := line63
  have hl := r.length
  exact wpAny_getItem_list pl.isList (by omega) (by omega) (by simpa using ew) ⟨z, H, I, rw', q⟩
theorem pip_of {op : Operator} {r : R2} (ho : OpR X (inplaceOp op) r) : PIp X op r := fun pins s σ H x y v u Q I rx ry h => ho pins s σ H x y v u Q I rx ry h
/-- math.isqrt -/
def rIsqrt : List V → Hp → VK → Prop := fun vs H Q => ∃ a : Int, vs = [.int a] ∧ 0 ≤ a ∧ a < 2 ^ 64 ∧ Q (.int ((Float64.isqrt a.toNat : Nat) : Int)) H
theorem cr_isqrt : CallR X (.builtin "math.isqrt") rIsqrt := by
  intro pins s σ H vs us Q I r h
  obtain ⟨a, rfl, h0, h1, q⟩ := h
  obtain ⟨u, rfl, t, rfl⟩ := vals1 r
  exact PySem.W.mg_isqrt h0 h1 ⟨.int _, H, I.tok _, ⟨_, rfl⟩, q⟩
end

/-! ### what evaluates to what, by operators -/
section
variable {K : PySem.W.Frag} {σ : L2.St} {H : Hp} {ta tb te : TE} {i j : Int}
theorem ev_add (ha : Ev ta σ H (.int i)) (hb : Ev tb σ H (.int j)) : Ev (tOp (rI0 fun i j => .int (i + j)) ta tb) σ H (.int (i + j)) := ev_op ha hb rv_I0
theorem ev_sub (ha : Ev ta σ H (.int i)) (hb : Ev tb σ H (.int j)) : Ev (tOp (rI0 fun i j => .int (i - j)) ta tb) σ H (.int (i - j)) := ev_op ha hb rv_I0
theorem ev_mul (ha : Ev ta σ H (.int i)) (hb : Ev tb σ H (.int j)) (h : CMulW i j) : Ev (tOp (rI CMulW fun i j => .int (i * j)) ta tb) σ H (.int (i * j)) := ev_op ha hb (rv_I h)
theorem ev_div (ha : Ev ta σ H (.int i)) (hb : Ev tb σ H (.int j)) (h : CDivW i j) : Ev (tOp (rI CDivW fun i j => .int (i / j)) ta tb) σ H (.int (i / j)) := ev_op ha hb (rv_I h)
theorem ev_mod (ha : Ev ta σ H (.int i)) (hb : Ev tb σ H (.int j)) (h : 0 < j) : Ev (tOp (rI (fun _ j => 0 < j) fun i j => .int (i % j)) ta tb) σ H (.int (i % j)) := ev_op ha hb (rv_I (C := fun _ j => 0 < j) h)
theorem ev_pow {c : Int} (ha : Ev ta σ H (.int i)) (hb : Ev tb σ H (.int j)) (h : CPowW i j) (hc : i ^ j.toNat = c) : Ev (tOp (rI CPowW fun i j => .int (i ^ j.toNat)) ta tb) σ H (.int c) := by
  rw [← hc]
  exact ev_op ha hb (rv_I h)
theorem ev_neg (ha : Ev ta σ H (.int i)) : Ev (tUn (rU fun i => .int (-i)) ta) σ H (.int (-i)) := ev_un ha ru_neg
theorem ev_lt (ha : Ev ta σ H (.int i)) (hb : Ev tb σ H (.int j)) : Ev (tOp (rI0 fun i j => .bl (decide (i < j))) ta tb) σ H (.bl (decide (i < j))) := ev_op ha hb rv_I0
theorem ev_le (ha : Ev ta σ H (.int i)) (hb : Ev tb σ H (.int j)) : Ev (tOp (rI0 fun i j => .bl (decide (i ≤ j))) ta tb) σ H (.bl (decide (i ≤ j))) := ev_op ha hb rv_I0
theorem ev_gt (ha : Ev ta σ H (.int i)) (hb : Ev tb σ H (.int j)) : Ev (tOp (rI0 fun i j => .bl (decide (j < i))) ta tb) σ H (.bl (decide (j < i))) := ev_op ha hb rv_I0
theorem ev_ge (ha : Ev ta σ H (.int i)) (hb : Ev tb σ H (.int j)) : Ev (tOp (rI0 fun i j => .bl (decide (j ≤ i))) ta tb) σ H (.bl (decide (j ≤ i))) := ev_op ha hb rv_I0
theorem dec_int (i j : Int) : decide (V.int i = V.int j) = decide (i = j) := decide_eq_decide.mpr ⟨V.int.inj, fun e => by rw [e]⟩
theorem ev_eqI (ha : Ev ta σ H (.int i)) (hb : Ev tb σ H (.int j)) : Ev (tOp rEq ta tb) σ H (.bl (decide (i = j))) := by
  rw [← dec_int]
  exact ev_op ha hb (rv_eq rfl)
theorem ev_neI (ha : Ev ta σ H (.int i)) (hb : Ev tb σ H (.int j)) : Ev (tOp rNe ta tb) σ H (.bl (!decide (i = j))) := by
  rw [← dec_int]
  exact ev_op ha hb (rv_ne rfl)
theorem ev_isN {v : V} (ha : Ev ta σ H v) : Ev (tOp (fun x y H Q => y = .non ∧ Q (.bl (decide (x = .non))) H) ta (tC .non)) σ H (.bl (decide (v = .non))) := ev_op ha ev_c fun H1 _ _ q => ⟨rfl, q H1 (Ex.refl H1)⟩
theorem ev_notN {v : V} (ha : Ev ta σ H v) : Ev (tOp (fun x y H Q => y = .non ∧ Q (.bl (!decide (x = .non))) H) ta (tC .non)) σ H (.bl (!decide (v = .non))) := ev_op ha ev_c fun H1 _ _ q => ⟨rfl, q H1 (Ex.refl H1)⟩
/-- numbers of some hundred bits -/
theorem mulW {i j : Int} (hi : i.natAbs < 2 ^ 300) (hj : j.natAbs < 2 ^ 300) : CMulW i j := wide_mul hi hj (by decide) (by decide) (by decide)
theorem divW {i j : Int} (h : 0 < j) (hj : j < 2 ^ 300) : CDivW i j := wide_div (b := 300) h (by omega) (by decide) (by decide)
/-- no reading is this: a goal that takes it has not been told yet which reading it speaks of -/
def tProbe : TE := fun _ _ _ => False
def tProbeT : TT := fun _ _ _ => False
def tProbeA : TA := fun _ _ _ => False
theorem probe {v : V} (h : False) : Ev tProbe σ H v := h.elim
theorem probeT {b : Bool} (h : False) : EvT tProbeT σ H b := h.elim
theorem probeA {vs : List V} (h : False) : EvA tProbeA σ H vs := h.elim
/-- a call's promise: one value -/
theorem ev_cal {sp : Sp} {vs : List V} {E : XK} {ta : TA} {z : V} (h : EvA ta σ H vs) (hs : ∀ H1, Ex H H1 → ∀ Q : VK, RetV z H1 Q → ∀ E : XK, sp vs H1 Q E) : Ev (tCall sp [] E ta) σ H z := fun H1 e Q q =>
  h H1 e _ fun H2 e2 => by
    show sp (vs ++ []) H2 Q E
    rw [List.append_nil]
    exact hs H2 (e.trans e2) Q (fun H3 e3 => q H3 (e2.trans e3)) E
/-- one new list -/
theorem el_cal {sp : Sp} {vs xs : List V} {E : XK} {ta : TA} (h : EvA ta σ H vs) (hs : ∀ H1, Ex H H1 → ∀ Q : VK, RetL xs H1 Q → ∀ E : XK, sp vs H1 Q E) : EvL (tCall sp [] E ta) σ H xs := fun H1 e Q q =>
  h H1 e _ fun H2 e2 => by
    show sp (vs ++ []) H2 Q E
    rw [List.append_nil]
    exact hs H2 (e.trans e2) Q (fun p H3 hp e3 h3 => q p H3 (fresh_back e2 hp) (e2.trans e3) h3) E
end
end Kp

/-! Data as a whole; lists of pairs; comprehensions; new lists. -/
namespace Kp
open PySem PySem.Spec PyProof.Rows L2 Evl

/-! ### == of data without truths, texts and dicts -/
mutual
def okD : PyData → Bool
  | .none => true
  | .int _ => true
  | .list xs => okA xs
  | .tuple xs => okA xs
  | .bool _ => false
  | .str _ => false
  | .dict _ => false
def okA : List PyData → Bool
  | [] => true
  | x :: xs => okD x && okA xs
end
mutual
theorem eqv_ok : ∀ d e : PyData, okD d = true → okD e = true → (PyData.eqv d e = true ↔ d = e)
  | .none, e, _, h => by cases e <;> simp_all [okD, PyData.eqv]
  | .int i, e, _, h => by cases e <;> simp_all [okD, PyData.eqv]
  | .list xs, e, h1, h => by
    cases e with
    | list ys =>
      unfold okD at h1 h
      unfold PyData.eqv
      rw [eqvA_ok xs ys h1 h]
      exact ⟨fun e => by rw [e], PyData.list.inj⟩
    | _ => simp_all [okD, PyData.eqv]
  | .tuple xs, e, h1, h => by
    cases e with
    | tuple ys =>
      unfold okD at h1 h
      unfold PyData.eqv
      rw [eqvA_ok xs ys h1 h]
      exact ⟨fun e => by rw [e], PyData.tuple.inj⟩
    | _ => simp_all [okD, PyData.eqv]
  | .bool _, _, h, _ => by simp [okD] at h
  | .str _, _, h, _ => by simp [okD] at h
  | .dict _, _, h, _ => by simp [okD] at h
theorem eqvA_ok : ∀ ds es : List PyData, okA ds = true → okA es = true → (PyData.eqvAll ds es = true ↔ ds = es)
  | [], [], _, _ => by simp [PyData.eqvAll]
  | [], _ :: _, _, _ => by simp [PyData.eqvAll]
  | _ :: _, [], _, _ => by simp [PyData.eqvAll]
  | d :: ds, e :: es, h1, h2 => by
    unfold okA at h1 h2
    rw [Bool.and_eq_true] at h1 h2
    unfold PyData.eqvAll
    rw [Bool.and_eq_true, eqv_ok d e h1.1 h2.1, eqvA_ok ds es h1.2 h2.2]
    simp
end
theorem eqv_dec {α : Type} [DecidableEq α] (enc : α → PyData) (ok : ∀ a, okD (enc a) = true) (inj : ∀ a b, enc a = enc b → a = b) (a b : α) : PyData.eqv (enc a) (enc b) = decide (a = b) := by
  have h := eqv_ok (enc a) (enc b) (ok a) (ok b)
  by_cases e : a = b
  · subst e
    rw [decide_eq_true rfl]
    exact h.mpr rfl
  · rw [decide_eq_false e]
    cases q : PyData.eqv (enc a) (enc b) with
    | false => rfl
    | true => exact absurd (inj _ _ (h.mp q)) e
theorem okA_map {α : Type} (f : α → PyData) (h : ∀ a, okD (f a) = true) : ∀ l : List α, okA (l.map f) = true
  | [] => rfl
  | a :: l => by
    rw [List.map_cons]
    unfold okA
    rw [h a, okA_map f h l]
    rfl
theorem lay_map {α : Type} (f : α → PyData) (h : ∀ a, PyData.canLay0 (f a) = true) : ∀ l : List α, PyData.canLayAll0 (l.map f) = true
  | [] => rfl
  | a :: l => by
    rw [List.map_cons]
    unfold PyData.canLayAll0
    rw [h a, lay_map f h l]
    rfl
theorem dep_map {α : Type} (f : α → PyData) (k : Nat) (h : ∀ a, PyData.depth (f a) ≤ k) : ∀ l : List α, PyData.depthAll (l.map f) ≤ k
  | [] => Nat.zero_le _
  | a :: l => by
    rw [List.map_cons]
    unfold PyData.depthAll
    exact Nat.max_le.mpr ⟨h a, dep_map f k h l⟩
theorem shaped_of {d : PyData} (h : PyData.canLay0 d = true) (k : PyData.depth d ≤ 64) : SeqAt.shaped d = true := by
  unfold SeqAt.shaped
  rw [h, decide_eq_true k]
  rfl
/-- a list of ints, a pair of ints, a list of such -/
def dI (ns : List Int) : PyData := .list (ns.map .int)
def dP (r : Int × Int) : PyData := .tuple [.int r.1, .int r.2]
def dR (rows : List (Int × Int)) : PyData := .list (rows.map dP)
theorem map_inj {α β : Type} {f : α → β} (h : ∀ a b, f a = f b → a = b) : ∀ l m : List α, l.map f = m.map f → l = m
  | [], [], _ => rfl
  | [], _ :: _, e => by simp at e
  | _ :: _, [], e => by simp at e
  | a :: l, b :: m, e => by
    rw [List.map_cons, List.map_cons] at e
    injection e with e1 e2
    rw [h _ _ e1, map_inj h l m e2]
theorem dI_sh (ns : List Int) : SeqAt.shaped (dI ns) = true := shaped_of (lay_map _ (fun _ => rfl) ns) (Nat.le_trans (Nat.succ_le_succ (dep_map PyData.int 0 (fun _ => Nat.le_refl 0) ns)) (by decide))
theorem dR_sh (rows : List (Int × Int)) : SeqAt.shaped (dR rows) = true := shaped_of (lay_map _ (fun _ => rfl) rows) (Nat.le_trans (Nat.succ_le_succ (dep_map dP 1 (fun _ => Nat.le_refl 1) rows)) (by decide))
theorem dI_eqv (ns ms : List Int) : PyData.eqv (dI ns) (dI ms) = decide (ns = ms) := eqv_dec dI (fun l => by unfold dI okD; exact okA_map _ (fun _ => rfl) l) (fun a b e => map_inj (fun _ _ q => PyData.int.inj q) a b (PyData.list.inj e)) ns ms
theorem dP_inj (a b : Int × Int) (e : dP a = dP b) : a = b := by
  obtain ⟨a1, a2⟩ := a
  obtain ⟨b1, b2⟩ := b
  simp [dP] at e
  rw [e.1, e.2]
theorem dR_eqv (rs qs : List (Int × Int)) : PyData.eqv (dR rs) (dR qs) = decide (rs = qs) := eqv_dec dR (fun l => by unfold dR okD; exact okA_map _ (fun _ => rfl) l) (fun a b e => map_inj dP_inj a b (PyData.list.inj e)) rs qs

section
variable {K : PySem.W.Frag} {σ : L2.St} {H H' : Hp} {ta tb te tl : TE} {t : TT} {x y z v : V} {D : Ends} {tz : TS} {vs : List Nat}
theorem dpa_ints (K : PySem.W.Frag) (H : Hp) : ∀ ns : List Int, DpAll K H (ns.map V.int) (ns.map PyData.int)
  | [] => .nil
  | n :: ns => .cons (.int n) (dpa_ints K H ns)
theorem dp_ints {a : Addr} {ns : List Int} (h : SqL K H a (ns.map V.int)) : Dp K H (.ref a) (dI ns) := .lst h (dpa_ints K H ns)

/-! ### lists of pairs -/
/-- each item a tuple of the pair's two ints -/
def Prs (K : PySem.W.Frag) (H : Hp) : List V → List (Int × Int) → Prop := Paired fun v r => ∃ t, v = .ref t ∧ SqT K H t [.int r.1, .int r.2]
theorem Prs.mono {xs : List V} {rows : List (Int × Int)} (e : Ex H H') (h : Prs K H xs rows) : Prs K H' xs rows := Paired.mapP h fun v r ⟨t, q, s⟩ => ⟨t, q, ex_t e s⟩
theorem sqt_upd {l t : Addr} {xs ys ts : List V} (hl : H l = some (.lst xs)) (h : SqT K H t ts) : SqT K (upd H l (.lst ys)) t ts := by
  rcases h with h | h
  · refine .inl ?_
    rcases h with h | ⟨o, h⟩
    · refine .inl ?_
      rw [upd_ne (ne_of h hl (by intro z; cases z))]
      exact h
    · refine .inr ⟨o, ?_⟩
      rw [upd_ne (ne_of h hl (by intro z; cases z))]
      exact h
  · exact .inr h
theorem Prs.upd {l : Addr} {us ys xs : List V} {rows : List (Int × Int)} (hl : H l = some (.lst us)) (h : Prs K H xs rows) : Prs K (upd H l (.lst ys)) xs rows := Paired.mapP h fun v r ⟨t, q, s⟩ => ⟨t, q, sqt_upd hl s⟩
theorem Prs.snoc {xs : List V} {rows : List (Int × Int)} {t : Addr} {a b : Int} (h : Prs K H xs rows) (ht : SqT K H t [.int a, .int b]) : Prs K H (xs ++ [.ref t]) (rows ++ [(a, b)]) := Paired.snoc h ⟨t, rfl, ht⟩
theorem prs_get : ∀ {xs : List V} {rows : List (Int × Int)} {i : Nat} {x : V}, Prs K H xs rows → xs[i]? = some x → ∃ r t, rows[i]? = some r ∧ x = .ref t ∧ SqT K H t [.int r.1, .int r.2]
  | _, _, _, _, .nil, h => by simp at h
  | _, _, 0, _, .cons (b := r) q _, h => by
    obtain ⟨t, q1, q2⟩ := q
    have e := Option.some.inj h
    exact ⟨r, t, rfl, e ▸ q1, q2⟩
  | _, _, i + 1, _, .cons _ q, h => prs_get (i := i) q h
theorem dpa_prs : ∀ {xs : List V} {rows : List (Int × Int)}, Prs K H xs rows → DpAll K H xs (rows.map dP)
  | _, _, .nil => .nil
  | _, _, .cons q r => by
    obtain ⟨t, rfl, q2⟩ := q
    exact .cons (.tup q2 (.cons (.int _) (.cons (.int _) .nil))) (dpa_prs r)
theorem dp_prs {a : Addr} {xs : List V} {rows : List (Int × Int)} (h : SqL K H a xs) (p : Prs K H xs rows) : Dp K H (.ref a) (dR rows) := .lst h (dpa_prs p)

/-! ### == and != -/
theorem rv_eqD {d e : PyData} {b : Bool} (h1 : Dp K H x d) (h2 : Dp K H y e) (m1 : ∀ H1, Ex H H1 → Dp K H1 x d) (m2 : ∀ H1, Ex H H1 → Dp K H1 y e) (s1 : SeqAt.shaped d = true) (s2 : SeqAt.shaped e = true) (hb : PyData.eqv d e = b) : RV (rEqD K) x y H (.bl b) := by
  subst hb
  exact fun H1 e1 Q q => ⟨d, e, m1 H1 e1, m2 H1 e1, s1, s2, q H1 (Ex.refl H1)⟩
theorem rv_neD {d e : PyData} {b : Bool} (m1 : ∀ H1, Ex H H1 → Dp K H1 x d) (m2 : ∀ H1, Ex H H1 → Dp K H1 y e) (s1 : SeqAt.shaped d = true) (s2 : SeqAt.shaped e = true) (hb : (!PyData.eqv d e) = b) : RV (rNeD K) x y H (.bl b) := by
  subst hb
  exact fun H1 e1 Q q => ⟨d, e, m1 H1 e1, m2 H1 e1, s1, s2, q H1 (Ex.refl H1)⟩
theorem rv_eqI {p q : Addr} {ns ms : List Int} (h1 : SqL K H p (ns.map V.int)) (h2 : SqL K H q (ms.map V.int)) : RV (rEqD K) (.ref p) (.ref q) H (.bl (decide (ns = ms))) :=
  rv_eqD (dp_ints h1) (dp_ints h2) (fun _ e => dp_ints (ex_l e h1)) (fun _ e => dp_ints (ex_l e h2)) (dI_sh _) (dI_sh _) (dI_eqv _ _)
theorem rv_neI {p q : Addr} {ns ms : List Int} (h1 : SqL K H p (ns.map V.int)) (h2 : SqL K H q (ms.map V.int)) : RV (rNeD K) (.ref p) (.ref q) H (.bl (!decide (ns = ms))) :=
  rv_neD (fun _ e => dp_ints (ex_l e h1)) (fun _ e => dp_ints (ex_l e h2)) (dI_sh _) (dI_sh _) (by rw [dI_eqv])
theorem rv_neR {p q : Addr} {xs ys : List V} {rs qs : List (Int × Int)} (h1 : SqL K H p xs) (p1 : Prs K H xs rs) (h2 : SqL K H q ys) (p2 : Prs K H ys qs) : RV (rNeD K) (.ref p) (.ref q) H (.bl (!decide (rs = qs))) :=
  rv_neD (fun _ e => dp_prs (ex_l e h1) (p1.mono e)) (fun _ e => dp_prs (ex_l e h2) (p2.mono e)) (dR_sh _) (dR_sh _) (by rw [dR_eqv])

/-! ### new lists -/
theorem el_is {xs ys : List V} (h : EvL te σ H xs) (e : xs = ys) : EvL te σ H ys := by
  rw [← e]
  exact h
theorem el_cat {xs ys : List V} (ha : EvL ta σ H xs) (hb : EvL tb σ H ys) (hz : xs.length + ys.length ≤ 100000) : EvL (tOp rCat ta tb) σ H (xs ++ ys) := fun H1 e Q q =>
  ha H1 e _ fun p H2 np e2 hp => hb H2 (e.trans e2) _ fun r H3 nr e3 hr => ⟨p, r, xs, ys, rfl, rfl, e3 p _ hp, hr, sz_of hz, fun l hl => q l _ (fresh_back (e2.trans e3) hl) ((e2.trans e3).trans (Ex.new hl)) upd_same⟩
theorem el_rep {k : Int} (ha : EvL ta σ H [x]) (hb : Ev tb σ H (.int k)) (h0 : 0 ≤ k) (hz : k ≤ 100000) : EvL (tOp rRep ta tb) σ H (List.replicate k.toNat x) := fun H1 e Q q =>
  ha H1 e _ fun p H2 np e2 hp => hb H2 (e.trans e2) _ fun H3 e3 => ⟨p, k, [x], rfl, rfl, e3 p _ hp, by omega, by omega, sz_of (by rw [List.length_singleton]; omega), fun l hl => q l _ (fresh_back (e2.trans e3) hl) ((e2.trans e3).trans (Ex.new hl)) (by
    rw [upd_same]
    congr 2
    generalize k.toNat = n
    induction n with
    | zero => rfl
    | succ n ih => rw [List.replicate_succ, List.flatten_cons, ih, List.replicate_succ]; rfl)⟩
/-- an item of a new list of ints -/
theorem ev_ixN {ns : List Int} {i : Int} (ha : EvL ta σ H (ns.map V.int)) (hb : ∀ H1, Ex H H1 → Ev tb σ H1 (.int i)) (h0 : 0 ≤ i) (h1 : i < (ns.length : Int)) : Ev (tOp (rIxL K) ta tb) σ H (.int (ns.getD i.toNat 0)) :=
  ev_opL1 ha hb fun p H1 hp _ => rv_ixL (sq_of hp) (by
    obtain ⟨j, rfl⟩ := Int.eq_ofNat_of_zero_le h0
    refine atI_nat ?_
    have hj : j < ns.length := by omega
    rw [List.getElem?_map, List.getElem?_eq_getElem hj, Int.toNat_natCast, List.getD_eq_getElem?_getD, List.getElem?_eq_getElem hj]
    rfl)
/-- an append to a new list that is thrown away -/
theorem s_appN {xs : List V} (h : EvL ta σ H xs) (hv : ∀ H1, Ex H H1 → Ev te σ H1 v) (hz : xs.length < 100000) (k : ∀ H1, Ex H H1 → D.nx σ H1) : tDrop (tBM K "list" rAppend ta (tCons te tNil)) D σ H := h H (Ex.refl H) _ fun p H1 np e1 hp =>
  ⟨Or.inl ⟨rfl, xs, sq_of hp⟩, hv H1 e1 H1 (Ex.refl _) _ fun H2 e2 => ⟨p, xs, v, rfl, rfl, e2 p _ hp, sz_lt hz, k _ (Ex.mut (e1.trans e2) np)⟩⟩
theorem q_appN {xs : List V} (h : EvL ta σ H xs) (hv : ∀ H1, Ex H H1 → Ev te σ H1 v) (hz : xs.length < 100000) (k : ∀ H1, Ex H H1 → tz D σ H1) : tSeq (tDrop (tBM K "list" rAppend ta (tCons te tNil))) tz D σ H := s_appN (D := { D with nx := tz D }) h hv hz k
theorem cut_mem {xs : List V} {lo hi : Option Int} {x : V} (h : x ∈ cutV xs lo hi) : x ∈ xs := List.mem_of_mem_drop (List.mem_of_mem_take h)
theorem int_of_mem {ns : List Int} {x : V} (h : x ∈ ns.map V.int) : ∃ i, x = .int i := by
  obtain ⟨i, _, rfl⟩ := List.mem_map.mp h
  exact ⟨i, rfl⟩

/-! ### a new list of pairs -/
def RetP (K : PySem.W.Frag) (rows : List (Int × Int)) (H : Hp) (Q : VK) : Prop := ∀ p xs H2, H p = none → Ex H H2 → H2 p = some (.lst xs) → Prs K H2 xs rows → Q (.ref p) H2
def EvP (K : PySem.W.Frag) (te : TE) (σ : L2.St) (H : Hp) (rows : List (Int × Int)) : Prop := ∀ H1, Ex H H1 → ∀ Q : VK, (∀ p xs H2, H1 p = none → Ex H1 H2 → H2 p = some (.lst xs) → Prs K H2 xs rows → Q (.ref p) H2) → te σ H1 Q
theorem ep_cal {sp : Sp} {vs : List V} {E : XK} {ta : TA} {rows : List (Int × Int)} (h : EvA ta σ H vs) (hs : ∀ H1, Ex H H1 → ∀ Q : VK, RetP K rows H1 Q → ∀ E : XK, sp vs H1 Q E) : EvP K (tCall sp [] E ta) σ H rows := fun H1 e Q q =>
  h H1 e _ fun H2 e2 => by
    show sp (vs ++ []) H2 Q E
    rw [List.append_nil]
    exact hs H2 (e.trans e2) Q (fun p xs H3 hp e3 h3 p3 => q p xs H3 (fresh_back e2 hp) (e2.trans e3) h3 p3) E
theorem q_asgP {i : Nat} {rows : List (Int × Int)} (h : EvP K te σ H rows) (k : ∀ p xs H1, H p = none → Ex H H1 → H1 p = some (.lst xs) → Prs K H1 xs rows → tz D (σ.set i (some (.ref p))) H1) : tSeq (tAsg te (gName i)) tz D σ H :=
  h H (Ex.refl H) _ fun p xs H1 hp e h1 p1 => k p xs H1 hp e h1 p1
theorem s_appNP {rows : List (Int × Int)} (h : EvP K ta σ H rows) (hv : ∀ H1, Ex H H1 → Ev te σ H1 v) (hz : rows.length < 100000) (k : ∀ H1, Ex H H1 → D.nx σ H1) : tDrop (tBM K "list" rAppend ta (tCons te tNil)) D σ H := h H (Ex.refl H) _ fun p xs H1 np e1 hp pp =>
  ⟨Or.inl ⟨rfl, xs, sq_of hp⟩, hv H1 e1 H1 (Ex.refl _) _ fun H2 e2 => ⟨p, xs, v, rfl, rfl, e2 p _ hp, sz_lt (by rw [Paired.length pp]; exact hz), k _ (Ex.mut (e1.trans e2) np)⟩⟩
theorem q_appNP {rows : List (Int × Int)} (h : EvP K ta σ H rows) (hv : ∀ H1, Ex H H1 → Ev te σ H1 v) (hz : rows.length < 100000) (k : ∀ H1, Ex H H1 → tz D σ H1) : tSeq (tDrop (tBM K "list" rAppend ta (tCons te tNil))) tz D σ H := s_appNP (D := { D with nx := tz D }) h hv hz k

/-! ### isinstance -/
theorem ev_isi {n s : String} {b : Bool} (ha : Ev ta σ H x) (ty : ∀ H1, Ex H H1 → TyX K H1 x (.type s)) (hk : kitB s n = some b) : Ev (tCB (rIsi K) (tCons ta (tCons (tC (.ty n)) tNil))) σ H (.bl b) := fun H1 e Q q =>
  ha H1 e _ fun H2 e2 => ⟨x, .ty n, .type s, .type n, b, rfl, .ty n, ty H2 (e.trans e2), kit_ty hk, q H2 e2⟩
theorem tx_int {i : Int} : ∀ H1, Ex H H1 → TyX K H1 (.int i) (.type "int") := fun _ _ => .base (.int i)
theorem tx_lst {p : Addr} {xs : List V} (h : H p = some (.lst xs)) : ∀ H1, Ex H H1 → TyX K H1 (.ref p) (.type "list") := fun _ e => .base (.lst (e p _ h))
theorem tx_tup {p : Addr} {xs : List V} (h : H p = some (.tup xs)) : ∀ H1, Ex H H1 → TyX K H1 (.ref p) (.type "tuple") := fun _ e => .base (.tup (e p _ h))

/-! ### comprehensions -/
/-- over a list of pairs, its target a pair of names -/
theorem el_lcP {a : Addr} {xs : List V} {rows : List (Int × Int)} {i j : Nat} (f : Int × Int → Bool) (w : Int × Int → V) (h : Ev tl σ H (.ref a)) (hx : SqL K H a xs) (hp : Prs K H xs rows) (hz : rows.length ≤ 40000)
    (hw : ∀ x y, wipe (((wipe σ vs).set i (some x)).set j (some y)) vs = wipe σ vs)
    (ht : ∀ r H1, Ex H H1 → r ∈ rows → EvT t (((wipe σ vs).set i (some (.int r.1))).set j (some (.int r.2))) H1 (f r)) (he : ∀ r H1, Ex H H1 → r ∈ rows → f r = true → Ev te (((wipe σ vs).set i (some (.int r.1))).set j (some (.int r.2))) H1 (w r)) :
    EvL (tLc (iList K tl) (gTup K 2 (gCons (gName i) (gCons (gName j) gNil))) t te vs) σ H ((rows.filter f).map w) := fun H0 e Q q => h H0 e _ fun H1 e1 => ⟨a, rfl, ⟨xs, ex_l (e.trans e1) hx⟩, fun Dl hD =>
  lc_list (xs := xs) (fun n H' => H1 Dl = none ∧ Ex H1 H' ∧ H' Dl = some (.lst (((rows.take n).filter f).map w))) ⟨hD, Ex.new hD, upd_same⟩ (fun n H' _ p => ex_l ((e.trans e1).trans p.2.1) hx) (fun n x H' hn p => by
    obtain ⟨p1, p2, p3⟩ := p
    obtain ⟨r, u, hr, rfl, hu⟩ := prs_get (hp.mono ((e.trans e1).trans p2)) hn
    have hm : r ∈ rows := List.mem_of_getElem? hr
    have hlen : (((rows.take n).filter f).map w).length < 100000 := by
      rw [List.length_map]
      have h1 := List.length_filter_le f (rows.take n)
      rw [List.length_take] at h1
      omega
    refine ⟨u, _, rfl, hu, rfl, .int r.1, [.int r.2], rfl, .int r.2, [], rfl, rfl, hw _ _, ?_⟩
    refine ht r H1 (e.trans e1) hm H' p2 _ fun H3 e3 => ?_
    have et : rows.take (n + 1) = rows.take n ++ [r] := by rw [List.take_add_one, hr]; rfl
    cases hf : f r with
    | true =>
      show te _ H3 _
      refine he r H1 (e.trans e1) hm hf H3 (p2.trans e3) _ fun H4 e4 => ⟨_, e4 Dl _ (e3 Dl _ p3), sz_lt hlen, p1, Ex.mut ((p2.trans e3).trans e4) p1, ?_⟩
      rw [upd_same, et, List.filter_append, List.map_append, List.filter_cons, if_pos hf]
      rfl
    | false =>
      refine ⟨p1, p2.trans e3, ?_⟩
      rw [et, List.filter_append, List.map_append, List.filter_cons, if_neg (by rw [hf]; decide)]
      show _ = some (HO.lst (_ ++ []))
      rw [List.append_nil]
      exact e3 Dl _ p3) (fun H' p => by
    have q1 := p.2.2
    rw [Paired.length hp, List.take_length] at q1
    exact q Dl H' (fresh_back e1 p.1) (e1.trans p.2.1) q1)⟩
/-- over a list of ints -/
theorem el_lcI {a : Addr} {ns : List Int} {j : Nat} (f : Int → Bool) (w : Int → V) (h : Ev tl σ H (.ref a)) (hx : SqL K H a (ns.map V.int)) (hz : ns.length ≤ 40000)
    (hw : ∀ x, wipe ((wipe σ vs).set j (some x)) vs = wipe σ vs)
    (ht : ∀ r H1, Ex H H1 → r ∈ ns → EvT t ((wipe σ vs).set j (some (.int r))) H1 (f r)) (he : ∀ r H1, Ex H H1 → r ∈ ns → f r = true → Ev te ((wipe σ vs).set j (some (.int r))) H1 (w r)) :
    EvL (tLc (iList K tl) (gName j) t te vs) σ H ((ns.filter f).map w) := fun H0 e Q q => h H0 e _ fun H1 e1 => ⟨a, rfl, ⟨_, ex_l (e.trans e1) hx⟩, fun Dl hD =>
  lc_list (xs := ns.map V.int) (fun n H' => H1 Dl = none ∧ Ex H1 H' ∧ H' Dl = some (.lst (((ns.take n).filter f).map w))) ⟨hD, Ex.new hD, upd_same⟩ (fun n H' _ p => ex_l ((e.trans e1).trans p.2.1) hx) (fun n x H' hn p => by
    obtain ⟨p1, p2, p3⟩ := p
    rw [List.getElem?_map] at hn
    obtain ⟨r, hr, rfl⟩ := Option.map_eq_some_iff.mp hn
    have hm : r ∈ ns := List.mem_of_getElem? hr
    have hlen : (((ns.take n).filter f).map w).length < 100000 := by
      rw [List.length_map]
      have h1 := List.length_filter_le f (ns.take n)
      rw [List.length_take] at h1
      omega
    refine ⟨hw _, ?_⟩
    refine ht r H1 (e.trans e1) hm H' p2 _ fun H3 e3 => ?_
    have et : ns.take (n + 1) = ns.take n ++ [r] := by rw [List.take_add_one, hr]; rfl
    cases hf : f r with
    | true =>
      show te _ H3 _
      refine he r H1 (e.trans e1) hm hf H3 (p2.trans e3) _ fun H4 e4 => ⟨_, e4 Dl _ (e3 Dl _ p3), sz_lt hlen, p1, Ex.mut ((p2.trans e3).trans e4) p1, ?_⟩
      rw [upd_same, et, List.filter_append, List.map_append, List.filter_cons, if_pos hf]
      rfl
    | false =>
      refine ⟨p1, p2.trans e3, ?_⟩
      rw [et, List.filter_append, List.map_append, List.filter_cons, if_neg (by rw [hf]; decide)]
      show _ = some (HO.lst (_ ++ []))
      rw [List.append_nil]
      exact e3 Dl _ p3) (fun H' p => by
    have q1 := p.2.2
    rw [List.length_map, List.take_length] at q1
    exact q Dl H' (fresh_back e1 p.1) (e1.trans p.2.1) q1)⟩
theorem et_yes : EvT tYes σ H true := fun H1 _ _ q => q H1 (Ex.refl H1)
theorem ev_gcd {a b : Int} (ha : Ev ta σ H (.int a)) (hb : Ev tb σ H (.int b)) : Ev (tCB rGcd (tCons ta (tCons tb tNil))) σ H (.int ((Nat.gcd a.natAbs b.natAbs : Nat) : Int)) :=
  ev_cb (ea_cons ha (ea_cons hb ea_nil)) fun H1 _ _ q => ⟨a, b, rfl, q H1 (Ex.refl H1)⟩
end
end Kp

/-! Loops over enumerate and reversed; what stands at a place of a list, changed; many new lists at once. -/
namespace Kp
open PySem PySem.Spec PyProof.Rows L2 Evl
section
variable {K : PySem.W.Frag} {σ : L2.St} {H H' : Hp} {ta tb te tl to ti : TE} {t : TT} {x y z v : V} {D : Ends} {tu tz : TS} {vs : List Nat}
/-- for i, x in enumerate(xs) -/
theorem s_forE {a : Addr} {xs : List V} {tl : TA} {j1 j2 : Nat} (h : EvA tl σ H [.ref a]) (hx : SqL K H a xs) (Pv : Nat → L2.St → Hp → Prop) (h0 : ∀ H1, Ex H H1 → Pv 0 σ H1) (hl : ∀ i σ' H', i ≤ xs.length → Pv i σ' H' → SqL K H' a xs)
    (hs : ∀ i x σ' H', xs[i]? = some x → Pv i σ' H' → ∀ H2, Ex H' H2 → tu { D with nx := Pv (i + 1), ct := Pv (i + 1), bk := D.nx } ((σ'.set j1 (some (.int (i : Nat)))).set j2 (some x)) H2) (hd : ∀ σ' H', Pv xs.length σ' H' → D.nx σ' H') :
    tFor (iEnum K tl) (gTup K 2 (gCons (gName j1) (gCons (gName j2) gNil))) tu D σ H :=
  h H (Ex.refl H) _ fun H1 e => ⟨a, xs, rfl, ex_l e hx, fun i m σ' H' => m = xs.length - i ∧ i ≤ xs.length ∧ Pv i σ' H', ⟨xs.length, rfl, Nat.zero_le _, h0 H1 e⟩, fun i m σ' H' hW => by
    obtain ⟨rfl, hi, p⟩ := hW
    have q := hl i σ' H' hi p
    by_cases hlt : i < xs.length
    · refine .inr ⟨⟨xs, xs[i], q, List.getElem?_eq_getElem hlt⟩, Pv (i + 1), fun σ2 H2 p' => ⟨xs.length - (i + 1), by omega, rfl, hlt, p'⟩, fun w H2 hy => ?_⟩
      obtain ⟨T, x, rfl, hT, rfl, fx⟩ := hy
      exact ⟨T, _, rfl, .inl (.inl upd_same), rfl, .int (i : Nat), [x], rfl, x, [], rfl, rfl, hs i x σ' H' (fx xs q) p _ (Ex.new hT)⟩
    · have e : i = xs.length := by omega
      subst e
      exact .inl ⟨⟨xs, q, Nat.le_refl _⟩, hd σ' H' p⟩⟩
theorem q_forE {a : Addr} {xs : List V} {tl : TA} {j1 j2 : Nat} (h : EvA tl σ H [.ref a]) (hx : SqL K H a xs) (Pv : Nat → L2.St → Hp → Prop) (h0 : ∀ H1, Ex H H1 → Pv 0 σ H1) (hl : ∀ i σ' H', i ≤ xs.length → Pv i σ' H' → SqL K H' a xs)
    (hs : ∀ i x σ' H', xs[i]? = some x → Pv i σ' H' → ∀ H2, Ex H' H2 → tu { D with nx := Pv (i + 1), ct := Pv (i + 1), bk := tz D } ((σ'.set j1 (some (.int (i : Nat)))).set j2 (some x)) H2) (hd : ∀ σ' H', Pv xs.length σ' H' → tz D σ' H') :
    tSeq (tFor (iEnum K tl) (gTup K 2 (gCons (gName j1) (gCons (gName j2) gNil))) tu) tz D σ H := s_forE (D := { D with nx := tz D }) h hx Pv h0 hl hs hd
/-- for x in reversed(xs) -/
theorem s_forV {a : Addr} {xs : List V} {tl : TA} {j : Nat} (h : EvA tl σ H [.ref a]) (hx : SqL K H a xs) (Pv : Nat → L2.St → Hp → Prop) (h0 : ∀ H1, Ex H H1 → Pv 0 σ H1) (hl : ∀ i σ' H', i ≤ xs.length → Pv i σ' H' → SqL K H' a xs)
    (hs : ∀ i x σ' H', i < xs.length → xs[xs.length - 1 - i]? = some x → Pv i σ' H' → tu { D with nx := Pv (i + 1), ct := Pv (i + 1), bk := D.nx } (σ'.set j (some x)) H') (hd : ∀ σ' H', Pv xs.length σ' H' → D.nx σ' H') :
    tFor (iRev K tl) (gName j) tu D σ H :=
  h H (Ex.refl H) _ fun H1 e => ⟨a, xs, rfl, ex_l e hx, fun i m σ' H' => m = xs.length - i ∧ i ≤ xs.length ∧ Pv i σ' H', ⟨xs.length, rfl, Nat.zero_le _, h0 H1 e⟩, fun i m σ' H' hW => by
    obtain ⟨rfl, hi, p⟩ := hW
    have q := hl i σ' H' hi p
    by_cases hlt : i < xs.length
    · have hlt2 : xs.length - 1 - i < xs.length := by omega
      refine .inr ⟨⟨hlt, xs, xs[xs.length - 1 - i], q, List.getElem?_eq_getElem hlt2⟩, Pv (i + 1), fun σ2 H2 p' => ⟨xs.length - (i + 1), by omega, rfl, hlt, p'⟩, fun w H2 hy => ?_⟩
      obtain ⟨rfl, fx⟩ := hy
      exact hs i w σ' H2 hlt (fx xs q) p
    · have e : i = xs.length := by omega
      subst e
      exact .inl ⟨Nat.le_refl _, hd σ' H' p⟩⟩
theorem q_forV {a : Addr} {xs : List V} {tl : TA} {j : Nat} (h : EvA tl σ H [.ref a]) (hx : SqL K H a xs) (Pv : Nat → L2.St → Hp → Prop) (h0 : ∀ H1, Ex H H1 → Pv 0 σ H1) (hl : ∀ i σ' H', i ≤ xs.length → Pv i σ' H' → SqL K H' a xs)
    (hs : ∀ i x σ' H', i < xs.length → xs[xs.length - 1 - i]? = some x → Pv i σ' H' → tu { D with nx := Pv (i + 1), ct := Pv (i + 1), bk := tz D } (σ'.set j (some x)) H') (hd : ∀ σ' H', Pv xs.length σ' H' → tz D σ' H') :
    tSeq (tFor (iRev K tl) (gName j) tu) tz D σ H := s_forV (D := { D with nx := tz D }) h hx Pv h0 hl hs hd
/-- o[i] += e, of a list of ints -/
theorem s_augL {l : Addr} {ns : List Int} {j : Nat} {f : Int → Int → Int} {a b : Int} (hl : H l = some (.lst (ns.map V.int))) (ho : Ev to σ H (.ref l)) (hi : Ev ti σ H (.int (j : Nat))) (hj : ns[j]? = some a) (he : Ev te σ H (.int b))
    (k : ∀ H1, Ex H H1 → D.nx σ (upd H1 l (.lst ((ns.set j (f a b)).map V.int)))) : tAugS to ti te (rGetL K) (ipI f) rSetL D σ H := ho H (Ex.refl H) _ fun H1 e1 => hi H1 e1 _ fun H2 e2 =>
  ⟨l, ns.map V.int, j, .int a, rfl, rfl, sq_of ((e1.trans e2) l _ hl), by rw [List.getElem?_map, hj]; rfl, he H2 (e1.trans e2) _ fun H3 e3 => ⟨a, b, rfl, rfl, l, ns.map V.int, (j : Nat), j, rfl, rfl, ((e1.trans e2).trans e3) l _ hl,
    ixN_nat (by rw [List.length_map]; exact (List.getElem?_eq_some_iff.mp hj).1), by
      have q := k H3 ((e1.trans e2).trans e3)
      rw [List.map_set] at q
      exact q⟩⟩
/-- the same with an operator that asks something of its two ints -/
theorem s_augLC {l : Addr} {ns : List Int} {j : Nat} {C : Int → Int → Prop} {f : Int → Int → Int} {a b : Int} (hl : H l = some (.lst (ns.map V.int))) (ho : Ev to σ H (.ref l)) (hi : Ev ti σ H (.int (j : Nat))) (hj : ns[j]? = some a) (he : Ev te σ H (.int b))
    (k : ∀ H1, Ex H H1 → D.nx σ (upd H1 l (.lst ((ns.set j (f a b)).map V.int)))) : tAugS to ti te (rGetL K) (rI0 fun i j => .int (f i j)) rSetL D σ H := s_augL hl ho hi hj he k
/-- o[i] = e, of a list of ints -/
theorem s_setI {l : Addr} {ns : List Int} {j : Nat} {b : Int} (hl : H l = some (.lst (ns.map V.int))) (ho : Ev to σ H (.ref l)) (hi : Ev ti σ H (.int (j : Nat))) (hj : j < ns.length) (he : Ev te σ H (.int b))
    (k : ∀ H1, Ex H H1 → D.nx σ (upd H1 l (.lst ((ns.set j b).map V.int)))) : tAsg te (gSub to ti rSetL) D σ H :=
  s_setL hl he ho hi (by rw [List.length_map]; exact hj) fun H1 e1 => by
    have q := k H1 e1
    rw [List.map_set] at q
    exact q
/-- xs[i], of a list of ints -/
theorem ev_ixI {a : Addr} {ns : List Int} {j : Nat} {b : Int} (hl : SqL K H a (ns.map V.int)) (ho : Ev ta σ H (.ref a)) (hi : Ev tb σ H (.int (j : Nat))) (hj : ns[j]? = some b) : Ev (tOp (rIxL K) ta tb) σ H (.int b) :=
  ev_op ho hi (rv_ixL hl (atI_nat (by rw [List.getElem?_map, hj]; rfl)))
/-- t[i], of a tuple -/
theorem ev_ixT {a : Addr} {xs : List V} {j : Nat} (hl : SqT K H a xs) (ho : Ev ta σ H (.ref a)) (hi : Ev tb σ H (.int (j : Nat))) (hj : xs[j]? = some v) : Ev (tOp (rIxT K) ta tb) σ H v :=
  ev_op ho hi (rv_ixT hl (atI_nat hj))
/-- xs.pop() as a statement -/
theorem s_pop {l : Addr} {xs : List V} {y : V} (hl : H l = some (.lst (xs ++ [y]))) (ha : Ev ta σ H (.ref l)) (k : ∀ H1, Ex H H1 → D.nx σ (upd H1 l (.lst xs))) : tDrop (tBM0 K "list" rPop ta) D σ H := ha H (Ex.refl H) _ fun H1 e1 =>
  ⟨Or.inl ⟨rfl, _, sq_of (e1 l _ hl)⟩, l, xs ++ [y], y, rfl, rfl, e1 l _ hl, by simp, by
    rw [List.dropLast_concat]
    exact k H1 e1⟩

/-! ### many new lists -/
def EvNs (n : Nat) (ta : TA) (σ : L2.St) (H : Hp) : Prop := ∀ H1, Ex H H1 → ∀ Q : List V → Hp → Prop, (∀ (ps : List Addr) H2, ps.length = n → Ex H1 H2 → (∀ p ∈ ps, H1 p = none ∧ ∃ xs, H2 p = some (.lst xs) ∧ xs.length < 50000) → Q (ps.map V.ref) H2) → ta σ H1 Q
theorem en_nil : EvNs 0 tNil σ H := fun H1 _ Q q => q [] H1 rfl (Ex.refl H1) fun _ h => nomatch h
theorem en_cons {tr : TA} {xs : List V} {n : Nat} (h : EvL te σ H xs) (hz : xs.length < 50000) (hr : EvNs n tr σ H) : EvNs (n + 1) (tCons te tr) σ H := fun H1 e Q q =>
  h H1 e _ fun p H2 np e2 hp => hr H2 (e.trans e2) _ fun ps H3 hl e3 hps => q (p :: ps) H3 (by rw [List.length_cons, hl]) (e2.trans e3) fun r hr' => by
    rcases List.mem_cons.mp hr' with rfl | hm
    · exact ⟨np, xs, e3 _ _ hp, hz⟩
    · obtain ⟨n1, n2⟩ := hps r hm
      exact ⟨fresh_back e2 n1, n2⟩
/-- for x in [new, new, ..]: x.append(e) -/
theorem s_forNs {tr : TA} {n j : Nat} {u : V} (h : EvNs n tr σ H) (hn : n ≤ 1000) (hj : j < σ.length) (k : ∀ σ' H1, (∃ x, σ' = σ.set j x) → Ex H H1 → D.nx σ' H1) :
    tFor (iList K (tLst tr)) (gName j) (tDrop (tBM K "list" rAppend (tVar j) (tCons (tC u) tNil))) D σ H :=
  h H (Ex.refl H) _ fun ps H2 hl e2 hps => ⟨sz_of (by rw [List.length_map]; omega), fun L nL => ⟨L, rfl, ⟨_, SqL.of upd_same⟩, for_list (xs := ps.map V.ref)
    (fun i σ' H' => (∃ x, σ' = σ.set j x) ∧ Ex H H' ∧ H' L = some (.lst (ps.map V.ref)) ∧ ∀ p ∈ ps, ∃ xs, H' p = some (.lst xs) ∧ xs.length < 50000 + i)
    ⟨⟨σ[j], (List.set_getElem_self hj).symm⟩, e2.trans (Ex.new nL), upd_same, fun p hp => by
      obtain ⟨xs, q1, q2⟩ := (hps p hp).2
      exact ⟨xs, by rw [upd_ne (ne_of_none q1 nL)]; exact q1, by omega⟩⟩
    (fun i σ' H' _ p => SqL.of p.2.2.1) (fun i x σ' H' hx p => by
      obtain ⟨⟨y, rfl⟩, p2, p3, p4⟩ := p
      rw [List.getElem?_map] at hx
      obtain ⟨r, hr, rfl⟩ := Option.map_eq_some_iff.mp hx
      have hm := List.mem_of_getElem? hr
      have hi : i < ps.length := (List.getElem?_eq_some_iff.mp hr).1
      obtain ⟨xs, q1, q2⟩ := p4 r hm
      have nLr : L ≠ r := fun e => by
        obtain ⟨zs, z1, _⟩ := (hps r hm).2
        rw [← e, nL] at z1
        cases z1
      refine s_app q1 (ev_var (by rw [List.getElem?_set_self (by rw [List.length_set]; exact hj)])) ev_c (by omega) fun H3 e3 => ⟨⟨_, List.set_set ..⟩, Ex.mut (p2.trans e3) (hps r hm).1, ?_, fun p hp => ?_⟩
      · rw [upd_ne nLr]
        exact e3 _ _ p3
      · by_cases e : p = r
        · subst e
          exact ⟨_, upd_same, by rw [List.length_append, List.length_singleton]; omega⟩
        · obtain ⟨ys, z1, z2⟩ := p4 p hp
          exact ⟨ys, by rw [upd_ne e]; exact e3 _ _ z1, by omega⟩) (fun σ' H' p => k σ' H' p.1 p.2.1)⟩⟩
theorem q_forNs {tr : TA} {n j : Nat} {u : V} (h : EvNs n tr σ H) (hn : n ≤ 1000) (hj : j < σ.length) (k : ∀ σ' H1, (∃ x, σ' = σ.set j x) → Ex H H1 → tz D σ' H1) :
    tSeq (tFor (iList K (tLst tr)) (gName j) (tDrop (tBM K "list" rAppend (tVar j) (tCons (tC u) tNil)))) tz D σ H := s_forNs (D := { D with nx := tz D }) h hn hj k
end
end Kp
namespace Kp
open PySem PySem.Spec PyProof.Rows L2 Evl
section
variable {K : PySem.W.Frag} {σ : L2.St} {H H' : Hp} {ta tb te tl to ti : TE} {t : TT} {x y z v : V} {D : Ends} {tu tz : TS} {vs : List Nat}
/-- (a new list, a new list) -/
theorem q_asgT2 {i : Nat} {xs ys : List V} (h1 : EvL ta σ H xs) (h2 : EvL tb σ H ys) (k : ∀ t p q H1, Ex H H1 → H1 t = some (.tup [.ref p, .ref q]) → H1 p = some (.lst xs) → H1 q = some (.lst ys) → tz D (σ.set i (some (.ref t))) H1) :
    tSeq (tAsg (tTup (tCons ta (tCons tb tNil))) (gName i)) tz D σ H :=
  h1 H (Ex.refl H) _ fun p H1 np e1 hp => h2 H1 e1 _ fun q H2 nq e2 hq => ⟨sz_of (show 2 ≤ 100000 by decide), fun t nt =>
    k t p q _ ((e1.trans e2).trans (Ex.new nt)) upd_same (by rw [upd_ne (ne_of_none (e2 _ _ hp) nt)]; exact e2 _ _ hp) (by rw [upd_ne (ne_of_none hq nt)]; exact hq)⟩
/-- a call upon one new list, one value back -/
theorem ev_calL1 {sp : Sp} {xs : List V} {E : XK} (h : EvL ta σ H xs) (hs : ∀ p H1, Ex H H1 → H1 p = some (.lst xs) → ∀ Q : VK, RetV z H1 Q → ∀ E : XK, sp [.ref p] H1 Q E) : Ev (tCall sp [] E (tCons ta tNil)) σ H z := fun H1 e Q q =>
  h H1 e _ fun p H2 np e2 hp => hs p H2 (e.trans e2) hp Q (fun H3 e3 => q H3 (e2.trans e3)) E
/-- a list by its name and a new one, glued -/
theorem el_cat1 {l : Addr} {xs ys : List V} (ha : Ev ta σ H (.ref l)) (hl : H l = some (.lst xs)) (hb : EvL tb σ H ys) (hz : xs.length + ys.length ≤ 100000) : EvL (tOp rCat ta tb) σ H (xs ++ ys) := fun H1 e Q q =>
  ha H1 e _ fun H2 e2 => hb H2 (e.trans e2) _ fun r H3 nr e3 hr => ⟨l, r, xs, ys, rfl, rfl, (e.trans (e2.trans e3)) _ _ hl, hr, sz_of hz, fun l hl => q l _ (fresh_back (e2.trans e3) hl) ((e2.trans e3).trans (Ex.new hl)) upd_same⟩
theorem cut_take (xs : List V) (m : Nat) : cutV xs none (some (m : Int)) = xs.take m := by
  unfold cutV
  rw [HT.sIx_none, HT.sIx_nat, Nat.sub_zero, List.drop_zero]
  by_cases h : m ≤ xs.length
  · rw [Nat.min_eq_left h]
  · rw [Nat.min_eq_right (by omega), List.take_of_length_le (Nat.le_refl _), List.take_of_length_le (by omega)]
theorem map_get {ns : List Int} {i : Nat} {x : V} (h : (ns.map V.int)[i]? = some x) : ∃ a, ns[i]? = some a ∧ x = .int a := by
  rw [List.getElem?_map] at h
  obtain ⟨a, h1, h2⟩ := Option.map_eq_some_iff.mp h
  exact ⟨a, h1, h2.symm⟩
end
end Kp

/-! More of loops, comprehensions and lists. -/
namespace Kp
open PySem PySem.Spec PyProof.Rows L2 Evl
theorem filter_yes {α : Type} (l : List α) : l.filter (fun _ => true) = l := List.filter_eq_self.mpr fun _ _ => rfl
section
variable {K : PySem.W.Frag} {σ : L2.St} {H H' : Hp} {ta tb te tl to ti : TE} {t : TT} {x y z v : V} {D : Ends} {tu tz : TS} {vs : List Nat}
/-- [e for x in range(a, b) if t] -/
theorem el_lcR2 {tg : TA} {j : Nat} {lo hi : Int} (f : Nat → Bool) (w : Nat → V) (h : EvA tg σ H [.int lo, .int hi]) (hb : 0 ≤ lo ∧ lo ≤ 40000 ∧ -40000 ≤ hi ∧ hi ≤ 40000) (hw : ∀ x, wipe ((wipe σ vs).set j (some x)) vs = wipe σ vs)
    (ht : ∀ (i : Nat) H1, Ex H H1 → lo + (i : Int) < hi → EvT t ((wipe σ vs).set j (some (.int (lo + (i : Int))))) H1 (f i)) (he : ∀ (i : Nat) H1, Ex H H1 → lo + (i : Int) < hi → f i = true → Ev te ((wipe σ vs).set j (some (.int (lo + (i : Int))))) H1 (w i)) :
    EvL (tLc (iRng2 tg) (gName j) t te vs) σ H (((List.range (hi - lo).toNat).filter f).map w) := fun H0 e Q q => h H0 e _ fun H1 e1 => ⟨lo, hi, rfl, ⟨by omega, by omega, by omega, by omega⟩, fun Dl hD =>
  lc_range (lo := lo) (n := (hi - lo).toNat) (Cw H1 f w Dl) ⟨hD, Ex.new hD, upd_same⟩ (fun i H' hi p => ⟨hw _, cw_turn p (by omega) (ht i H1 (e.trans e1) (by omega)) (fun hf => he i H1 (e.trans e1) (by omega) hf)⟩) (fun H' p => q Dl H' (fresh_back e1 p.1) (e1.trans p.2.1) p.2.2)⟩
/-- [e for x in reversed(xs) if t], xs ints -/
theorem el_lcV {tg : TA} {a : Addr} {ns : List Int} {j : Nat} (f : Int → Bool) (w : Int → V) (h : EvA tg σ H [.ref a]) (hx : SqL K H a (ns.map V.int)) (hz : ns.length ≤ 40000)
    (hw : ∀ x, wipe ((wipe σ vs).set j (some x)) vs = wipe σ vs)
    (ht : ∀ r H1, Ex H H1 → r ∈ ns → EvT t ((wipe σ vs).set j (some (.int r))) H1 (f r)) (he : ∀ r H1, Ex H H1 → r ∈ ns → f r = true → Ev te ((wipe σ vs).set j (some (.int r))) H1 (w r)) :
    EvL (tLc (iRev K tg) (gName j) t te vs) σ H ((ns.reverse.filter f).map w) := fun H0 e Q q => h H0 e _ fun H1 e1 => ⟨a, _, rfl, ex_l (e.trans e1) hx, fun Dl hD =>
  ⟨fun n m H' => m = ns.length - n ∧ n ≤ ns.length ∧ H1 Dl = none ∧ Ex H1 H' ∧ H' Dl = some (.lst (((ns.reverse.take n).filter f).map w)), ⟨ns.length, rfl, Nat.zero_le _, hD, Ex.new hD, upd_same⟩, fun n m H' hW => by
    obtain ⟨rfl, hn, p1, p2, p3⟩ := hW
    by_cases hlt : n < ns.length
    · have hlt2 : ns.length - 1 - n < ns.length := by omega
      have hlm : (ns.map V.int).length = ns.length := List.length_map _
      refine .inr ⟨⟨by rw [hlm]; exact hlt, ns.map V.int, _, ex_l ((e.trans e1).trans p2) hx, List.getElem?_eq_getElem (by rw [hlm]; omega)⟩, fun H2 => n + 1 ≤ ns.length ∧ H1 Dl = none ∧ Ex H1 H2 ∧ H2 Dl = some (.lst (((ns.reverse.take (n + 1)).filter f).map w)), fun H2 ⟨q1, q2, q3, q4⟩ => ⟨ns.length - (n + 1), by omega, rfl, q1, q2, q3, q4⟩, fun x H2 hy => ?_⟩
      obtain ⟨rfl, fx⟩ := hy
      have gx := fx _ (ex_l ((e.trans e1).trans p2) hx)
      rw [hlm] at gx
      rw [List.getElem?_map] at gx
      obtain ⟨r, hr, rfl⟩ := Option.map_eq_some_iff.mp gx
      have hm : r ∈ ns := List.mem_of_getElem? hr
      have hlen : (((ns.reverse.take n).filter f).map w).length < 100000 := by
        rw [List.length_map]
        have h1 := List.length_filter_le f (ns.reverse.take n)
        rw [List.length_take, List.length_reverse] at h1
        omega
      have et : ns.reverse.take (n + 1) = ns.reverse.take n ++ [r] := by
        rw [List.take_add_one, List.getElem?_reverse hlt, hr]
        rfl
      refine ⟨hw _, ?_⟩
      refine ht r H1 (e.trans e1) hm H2 p2 _ fun H3 e3 => ?_
      cases hf : f r with
      | true =>
        show te _ H3 _
        refine he r H1 (e.trans e1) hm hf H3 (p2.trans e3) _ fun H4 e4 => ⟨_, e4 Dl _ (e3 Dl _ p3), sz_lt hlen, hlt, p1, Ex.mut ((p2.trans e3).trans e4) p1, ?_⟩
        rw [upd_same, et, List.filter_append, List.map_append, List.filter_cons, if_pos hf]
        rfl
      | false =>
        refine ⟨hlt, p1, p2.trans e3, ?_⟩
        rw [et, List.filter_append, List.map_append, List.filter_cons, if_neg (by rw [hf]; decide)]
        show _ = some (HO.lst (_ ++ []))
        rw [List.append_nil]
        exact e3 Dl _ p3
    · have en : n = ns.length := by omega
      subst en
      rw [List.take_of_length_le (by rw [List.length_reverse]; exact Nat.le_refl _)] at p3
      exact .inl ⟨by show (ns.map V.int).length ≤ _; rw [List.length_map]; exact Nat.le_refl _, q Dl H' (fresh_back e1 p1) (e1.trans p2) p3⟩⟩⟩
/-- two lists by their names, glued -/
theorem el_cat2 {l b : Addr} {xs ys : List V} (ha : Ev ta σ H (.ref l)) (hl : H l = some (.lst xs)) (hb : Ev tb σ H (.ref b)) (hlb : H b = some (.lst ys)) (hz : xs.length + ys.length ≤ 100000) : EvL (tOp rCat ta tb) σ H (xs ++ ys) := fun H1 e Q q =>
  ha H1 e _ fun H2 e2 => hb H2 (e.trans e2) _ fun H3 e3 => ⟨l, b, xs, ys, rfl, rfl, (e.trans (e2.trans e3)) _ _ hl, (e.trans (e2.trans e3)) _ _ hlb, sz_of hz, fun l hl => q l _ (fresh_back (e2.trans e3) hl) ((e2.trans e3).trans (Ex.new hl)) upd_same⟩
/-- for i, x in enumerate(a new list) -/
theorem s_forEN {xs : List V} {j1 j2 : Nat} (h : EvL te σ H xs) (Pv : Addr → Nat → L2.St → Hp → Prop) (h0 : ∀ a H1, H a = none → Ex H H1 → H1 a = some (.lst xs) → Pv a 0 σ H1) (hl : ∀ a i σ' H', i ≤ xs.length → Pv a i σ' H' → SqL K H' a xs)
    (hs : ∀ a i x σ' H', xs[i]? = some x → Pv a i σ' H' → ∀ H2, Ex H' H2 → tu { D with nx := Pv a (i + 1), ct := Pv a (i + 1), bk := D.nx } ((σ'.set j1 (some (.int (i : Nat)))).set j2 (some x)) H2) (hd : ∀ a σ' H', Pv a xs.length σ' H' → D.nx σ' H') :
    tFor (iEnum K (tCons te tNil)) (gTup K 2 (gCons (gName j1) (gCons (gName j2) gNil))) tu D σ H :=
  h H (Ex.refl H) _ fun a H1 na e ha => ⟨a, xs, rfl, sq_of ha, fun i m σ' H' => m = xs.length - i ∧ i ≤ xs.length ∧ Pv a i σ' H', ⟨xs.length, rfl, Nat.zero_le _, h0 a H1 na e ha⟩, fun i m σ' H' hW => by
    obtain ⟨rfl, hi, p⟩ := hW
    have q := hl a i σ' H' hi p
    by_cases hlt : i < xs.length
    · refine .inr ⟨⟨xs, xs[i], q, List.getElem?_eq_getElem hlt⟩, Pv a (i + 1), fun σ2 H2 p' => ⟨xs.length - (i + 1), by omega, rfl, hlt, p'⟩, fun w H2 hy => ?_⟩
      obtain ⟨T, x, rfl, hT, rfl, fx⟩ := hy
      exact ⟨T, _, rfl, .inl (.inl upd_same), rfl, .int (i : Nat), [x], rfl, x, [], rfl, rfl, hs a i x σ' H' (fx xs q) p _ (Ex.new hT)⟩
    · have e : i = xs.length := by omega
      subst e
      exact .inl ⟨⟨xs, q, Nat.le_refl _⟩, hd a σ' H' p⟩⟩
theorem q_forEN {xs : List V} {j1 j2 : Nat} (h : EvL te σ H xs) (Pv : Addr → Nat → L2.St → Hp → Prop) (h0 : ∀ a H1, H a = none → Ex H H1 → H1 a = some (.lst xs) → Pv a 0 σ H1) (hl : ∀ a i σ' H', i ≤ xs.length → Pv a i σ' H' → SqL K H' a xs)
    (hs : ∀ a i x σ' H', xs[i]? = some x → Pv a i σ' H' → ∀ H2, Ex H' H2 → tu { D with nx := Pv a (i + 1), ct := Pv a (i + 1), bk := tz D } ((σ'.set j1 (some (.int (i : Nat)))).set j2 (some x)) H2) (hd : ∀ a σ' H', Pv a xs.length σ' H' → tz D σ' H') :
    tSeq (tFor (iEnum K (tCons te tNil)) (gTup K 2 (gCons (gName j1) (gCons (gName j2) gNil))) tu) tz D σ H := s_forEN (D := { D with nx := tz D }) h Pv h0 hl hs hd
/-- for a, b in a new list of pairs -/
theorem q_forP {rows : List (Int × Int)} {j1 j2 : Nat} (h : EvP K te σ H rows) (Pv : Hp → Nat → L2.St → Hp → Prop) (h0 : ∀ H1, Ex H H1 → Pv H1 0 σ H1) (hl : ∀ H1 i σ' H', Pv H1 i σ' H' → Ex H1 H')
    (hs : ∀ H1 i r σ' H', Ex H H1 → rows[i]? = some r → Pv H1 i σ' H' → tu { D with nx := Pv H1 (i + 1), ct := Pv H1 (i + 1), bk := tz D } ((σ'.set j1 (some (.int r.1))).set j2 (some (.int r.2))) H') (hd : ∀ H1 σ' H', Ex H H1 → Pv H1 rows.length σ' H' → tz D σ' H') :
    tSeq (tFor (iList K te) (gTup K 2 (gCons (gName j1) (gCons (gName j2) gNil))) tu) tz D σ H :=
  h H (Ex.refl H) _ fun p xs H1 np e hp pr => ⟨p, rfl, ⟨xs, sq_of hp⟩, for_list (xs := xs) (Pv H1) (h0 H1 e) (fun i σ' H' _ q => sq_of (hl _ _ _ _ q _ _ hp)) (fun i x σ' H' hx q => by
    obtain ⟨r, t, hr, rfl, ht⟩ := prs_get (pr.mono (hl _ _ _ _ q)) hx
    exact ⟨t, _, rfl, ht, rfl, .int r.1, [.int r.2], rfl, .int r.2, [], rfl, rfl, hs H1 i r σ' H' e hr q⟩) (fun σ' H' q => by
    rw [Paired.length pr] at q
    exact hd H1 σ' H' e q)⟩
/-- a list by its name, beside a new list of pairs -/
theorem ev_opLP {r : R2} {rows : List (Int × Int)} (ha : Ev ta σ H x) (hb : EvP K tb σ H rows) (hr : ∀ p xs H1, H1 p = some (.lst xs) → Prs K H1 xs rows → Ex H H1 → RV r x (.ref p) H1 z) : Ev (tOp r ta tb) σ H z := fun H1 e Q q =>
  ha H1 e _ fun H2 e2 => hb H2 (e.trans e2) _ fun p xs H3 np e3 hp pr => hr p xs H3 hp pr ((e.trans e2).trans e3) H3 (Ex.refl H3) Q fun H4 e4 => q H4 ((e2.trans e3).trans e4)
theorem inV_int (x : Int) : ∀ ns : List Int, inV (.int x) (ns.map V.int) = decide (x ∈ ns)
  | [] => rfl
  | n :: ns => by
    have ih := inV_int x ns
    show ((n == x) || inV (.int x) (ns.map V.int)) = _
    rw [ih, Bool.eq_iff_iff, Bool.or_eq_true, beq_iff_eq, decide_eq_true_iff, decide_eq_true_iff, List.mem_cons]
    constructor
    · rintro (h | h)
      · exact .inl h.symm
      · exact .inr h
    · rintro (h | h)
      · exact .inl h.symm
      · exact .inr h
theorem flat_ints : ∀ ns : List Int, (ns.map V.int).all flatV = true
  | [] => rfl
  | n :: ns => by
    rw [List.map_cons, List.all_cons, flat_ints ns]
    rfl
theorem ev_notIn {a : Addr} {x : Int} {ns : List Int} (ha : Ev ta σ H (.int x)) (hb : Ev tb σ H (.ref a)) (hl : SqL K H a (ns.map V.int)) : Ev (tOp (rIn K true) ta tb) σ H (.bl (!decide (x ∈ ns))) := by
  have := rv_niL (K := K) (x := .int x) hl rfl (flat_ints ns)
  rw [inV_int] at this
  exact ev_op ha hb this
/-- sorted(xs), ints -/
theorem el_sorted {a : Addr} {ns ms : List Int} (ha : Ev ta σ H (.ref a)) (hl : SqL K H a (ns.map V.int)) (hu : ∀ ns' : List Int, ns'.Perm ns → ns'.Pairwise (· ≤ ·) → ns' = ms) : EvL (tCB (rSortedI K) (tCons ta tNil)) σ H (ms.map V.int) := fun H1 e Q q =>
  ha H1 e _ fun H2 e2 => ⟨a, ns, rfl, ex_l (e.trans e2) hl, fun ns' p hp hs np => by
    rw [hu ns' hp hs]
    exact q p _ (fresh_back e2 np) (e2.trans (Ex.new np)) upd_same⟩
/-- list(t), t a tuple -/
theorem el_listT {p : Addr} {xs : List V} (ha : Ev ta σ H (.ref p)) (h : SqT K H p xs) : EvL (tCB (rListS K) (tCons ta tNil)) σ H xs := fun H1 e Q q =>
  ha H1 e _ fun H2 e2 => ⟨p, xs, rfl, Or.inr (ex_t (e.trans e2) h), fun l hl => q l _ (fresh_back e2 hl) (e2.trans (Ex.new hl)) upd_same⟩
theorem ev_int1b {b : Bool} (ha : Ev ta σ H (.bl b)) : Ev (tCB (fun xs H Q => (∃ i, xs = [.int i] ∧ Q (.int i) H) ∨ ∃ k, xs = [.bl k] ∧ Q (.int (if k then 1 else 0)) H) (tCons ta tNil)) σ H (.int (if b then 1 else 0)) := fun H1 e Q q =>
  ha H1 e _ fun H2 e2 => .inr ⟨b, rfl, q H2 e2⟩
theorem ev_isqrt {n : Nat} (ha : Ev ta σ H (.int (n : Nat))) (hn : n < 2 ^ 64) : Ev (tCB rIsqrt (tCons ta tNil)) σ H (.int ((Float64.isqrt n : Nat) : Int)) := fun H1 e Q q =>
  ha H1 e _ fun H2 e2 => ⟨(n : Nat), rfl, by omega, by omega, by rw [Int.toNat_natCast]; exact q H2 e2⟩
theorem tx_sqt {p : Addr} {xs : List V} (h : SqT K H p xs) : ∀ H1, Ex H H1 → TyX K H1 (.ref p) (.type "tuple") := fun H1 e => by
  rcases ex_t e h with (h | ⟨o, h⟩) | h
  · exact .base (.tup h)
  · exact .fTuple h
  · obtain ⟨o, its, n, h1, h2, _⟩ := h
    exact .kTuple h1 h2
end
end Kp

/-! Polynomials as lists: the number of each power, noughts cut off at the end, products, other powers of x, values. -/
namespace Kp
/-- the number of the m-th power -/
def coef (l : List Int) (m : Nat) : Int := l.getD m 0
theorem coef_lt {l : List Int} {m : Nat} (h : m < l.length) : coef l m = l[m] := by
  unfold coef
  rw [List.getD_eq_getElem?_getD, List.getElem?_eq_getElem h]
  rfl
theorem coef_ge {l : List Int} {m : Nat} (h : l.length ≤ m) : coef l m = 0 := by
  unfold coef
  rw [List.getD_eq_getElem?_getD, List.getElem?_eq_none h]
  rfl
theorem coef_get {l : List Int} {m : Nat} (h : m < l.length) : l[m]? = some (coef l m) := by
  rw [coef_lt h, List.getElem?_eq_getElem h]
theorem coef_of {l : List Int} {m : Nat} {x : Int} (h : l[m]? = some x) : coef l m = x := by
  unfold coef
  rw [List.getD_eq_getElem?_getD, h]
  rfl
theorem coef_nil (m : Nat) : coef [] m = 0 := coef_ge (Nat.zero_le _)
theorem ext_of {a b : List Int} (hl : a.length = b.length) (h : ∀ m, m < a.length → coef a m = coef b m) : a = b := by
  refine List.ext_getElem hl fun i h1 h2 => ?_
  have := h i h1
  rwa [coef_lt h1, coef_lt h2] at this
theorem coef_set {l : List Int} {j m : Nat} {x : Int} (hj : j < l.length) : coef (l.set j x) m = if m = j then x else coef l m := by
  unfold coef
  rw [List.getD_eq_getElem?_getD, List.getD_eq_getElem?_getD, List.getElem?_set]
  by_cases e : j = m
  · subst e
    rw [if_pos rfl, if_pos hj, if_pos rfl]
    rfl
  · rw [if_neg e, if_neg (fun q => e q.symm)]
theorem coef_app {a b : List Int} {m : Nat} : coef (a ++ b) m = if m < a.length then coef a m else coef b (m - a.length) := by
  unfold coef
  rw [List.getD_eq_getElem?_getD, List.getElem?_append]
  split <;> rw [List.getD_eq_getElem?_getD]
theorem coef_rep {n m : Nat} : coef (List.replicate n 0) m = 0 := by
  by_cases h : m < n
  · rw [coef_lt (by rw [List.length_replicate]; exact h), List.getElem_replicate]
  · exact coef_ge (by rw [List.length_replicate]; omega)
theorem coef_take {l : List Int} {n m : Nat} : coef (l.take n) m = if m < n then coef l m else 0 := by
  unfold coef
  rw [List.getD_eq_getElem?_getD, List.getElem?_take]
  split
  · rw [List.getD_eq_getElem?_getD]
  · rfl
def mkL (n : Nat) (h : Nat → Int) : List Int := (List.range n).map h
theorem mkL_len (n : Nat) (h : Nat → Int) : (mkL n h).length = n := by
  unfold mkL
  rw [List.length_map, List.length_range]
theorem coef_mkL {n m : Nat} {h : Nat → Int} : coef (mkL n h) m = if m < n then h m else 0 := by
  split
  · rename_i q
    rw [coef_lt (by rw [mkL_len]; exact q)]
    unfold mkL
    rw [List.getElem_map, List.getElem_range]
  · rename_i q
    exact coef_ge (by rw [mkL_len]; omega)
theorem mkL_of {l : List Int} {n : Nat} {h : Nat → Int} (hl : l.length = n) (e : ∀ m, m < n → coef l m = h m) : l = mkL n h := by
  refine ext_of (by rw [mkL_len, hl]) fun m hm => ?_
  rw [hl] at hm
  rw [e m hm, coef_mkL, if_pos hm]

/-! ### without a nought at the end -/
def Tr (l : List Int) : Prop := l ≠ [] → coef l (l.length - 1) ≠ 0
theorem Tr.nil : Tr [] := fun h => absurd rfl h
theorem tr_uniq {a b : List Int} (ha : Tr a) (hb : Tr b) (h : ∀ m, coef a m = coef b m) : a = b := by
  have key : ∀ {a b : List Int}, Tr b → (∀ m, coef a m = coef b m) → ¬ a.length < b.length := fun {a b} hb h q => by
    refine hb (fun e => by rw [e] at q; exact absurd q (Nat.not_lt_zero _)) ?_
    rw [← h]
    exact coef_ge (by omega)
  have h1 := key hb h
  have h2 := key ha (fun m => (h m).symm)
  exact ext_of (by omega) fun m _ => h m
/-- how many of the first n numbers stay -/
def tlen (l : List Int) : Nat → Nat
  | 0 => 0
  | n + 1 => if coef l n = 0 then tlen l n else n + 1
def trim (l : List Int) : List Int := l.take (tlen l l.length)
theorem tlen_le (l : List Int) : ∀ n, tlen l n ≤ n
  | 0 => Nat.le_refl _
  | n + 1 => by
    unfold tlen
    have := tlen_le l n
    split <;> omega
theorem tlen_zero (l : List Int) : ∀ n m, tlen l n ≤ m → m < n → coef l m = 0
  | 0, m, _, h => absurd h (Nat.not_lt_zero _)
  | n + 1, m, h1, h2 => by
    unfold tlen at h1
    split at h1
    · rename_i q
      by_cases e : m = n
      · rw [e]; exact q
      · exact tlen_zero l n m h1 (by omega)
    · omega
theorem tlen_last (l : List Int) : ∀ n, tlen l n ≠ 0 → coef l (tlen l n - 1) ≠ 0
  | 0, h => absurd rfl h
  | n + 1, h => by
    unfold tlen at h ⊢
    split
    · rename_i q
      rw [if_pos q] at h
      exact tlen_last l n h
    · rename_i q
      rw [Nat.add_sub_cancel]
      exact q
theorem trim_len (l : List Int) : (trim l).length = tlen l l.length := by
  unfold trim
  rw [List.length_take]
  have := tlen_le l l.length
  omega
theorem coef_trim (l : List Int) (m : Nat) : coef (trim l) m = coef l m := by
  unfold trim
  rw [coef_take]
  split
  · rfl
  · rename_i h
    by_cases q : m < l.length
    · exact (tlen_zero l _ m (by omega) q).symm
    · exact (coef_ge (by omega)).symm
theorem tr_trim (l : List Int) : Tr (trim l) := fun h => by
  have e := trim_len l
  have n0 : tlen l l.length ≠ 0 := fun q => h (List.eq_nil_of_length_eq_zero (by omega))
  rw [coef_trim, e]
  exact tlen_last l _ n0
theorem trim_of_tr {l : List Int} (h : Tr l) : trim l = l := tr_uniq (tr_trim l) h (coef_trim l)
theorem trim_ext {a b : List Int} (h : ∀ m, coef a m = coef b m) : trim a = trim b := tr_uniq (tr_trim a) (tr_trim b) fun m => by rw [coef_trim, coef_trim, h]
theorem trim_eq {a b : List Int} (hb : Tr b) (h : ∀ m, coef a m = coef b m) : trim a = b := tr_uniq (tr_trim a) hb fun m => by rw [coef_trim, h]

/-! ### sums -/
def addL (c : Int) (f g : List Int) : List Int := mkL (max f.length g.length) fun m => coef f m + c * coef g m
theorem coef_addL (c : Int) (f g : List Int) (m : Nat) : coef (addL c f g) m = coef f m + c * coef g m := by
  unfold addL
  rw [coef_mkL]
  split
  · rfl
  · rename_i h
    rw [coef_ge (show f.length ≤ m by omega), coef_ge (show g.length ≤ m by omega)]
    simp
def addP (c : Int) (f g : List Int) : List Int := trim (addL c f g)
theorem coef_addP (c : Int) (f g : List Int) (m : Nat) : coef (addP c f g) m = coef f m + c * coef g m := by
  unfold addP
  rw [coef_trim, coef_addL]
theorem coef_neg (g : List Int) (m : Nat) : coef (g.map fun x => -x) m = -coef g m := by
  by_cases h : m < g.length
  · rw [coef_lt (by rw [List.length_map]; exact h), coef_lt h, List.getElem_map]
  · rw [coef_ge (by rw [List.length_map]; omega), coef_ge (by omega)]
    rfl
theorem addP_neg (f g : List Int) : addP 1 f (g.map fun x => -x) = addP (0 - 1) f g := trim_ext fun m => by
  rw [coef_addL, coef_addL, coef_neg]
  omega

/-! ### products -/
/-- the number of the m-th power in the product of the first i numbers of f, and g -/
def cv (f g : List Int) : Nat → Nat → Int
  | 0, _ => 0
  | i + 1, m => cv f g i m + if i ≤ m then coef f i * coef g (m - i) else 0
theorem cv_far (f g : List Int) (m : Nat) : ∀ i, i + g.length ≤ m + 1 → cv f g i m = 0
  | 0, _ => rfl
  | i + 1, h => by
    unfold cv
    rw [cv_far f g m i (by omega), if_pos (by omega), coef_ge (show g.length ≤ m - i by omega)]
    simp
theorem cv_last {f g : List Int} (hf : f ≠ []) (hg : g ≠ []) : cv f g f.length (f.length + g.length - 2) = coef f (f.length - 1) * coef g (g.length - 1) := by
  have l1 := List.length_pos_iff.mpr hf
  have l2 := List.length_pos_iff.mpr hg
  obtain ⟨n, e⟩ : ∃ n, f.length = n + 1 := ⟨f.length - 1, by omega⟩
  rw [e]
  unfold cv
  rw [cv_far f g _ n (by omega), if_pos (by omega), Nat.add_sub_cancel, show n + 1 + g.length - 2 - n = g.length - 1 by omega]
  simp
/-- as the program multiplies, as the law does -/
def mulP (f g : List Int) : List Int := if f = [] ∨ g = [] then [] else mkL (f.length + g.length - 1) (cv f g f.length)
def mulL (f g : List Int) : List Int := trim (mkL (f.length + g.length) (cv f g f.length))
theorem coef_mulP (f g : List Int) (m : Nat) : coef (mulP f g) m = cv f g f.length m := by
  unfold mulP
  split
  · rename_i h
    rw [coef_nil]
    rcases h with h | h
    · rw [h]
      rfl
    · subst h
      symm
      have : ∀ i, cv f [] i m = 0 := fun i => by
        induction i with
        | zero => rfl
        | succ i ih =>
          unfold cv
          rw [ih, coef_nil]
          simp
      exact this _
  · rename_i h
    rw [coef_mkL]
    split
    · rfl
    · rename_i q
      exact (cv_far f g m _ (by omega)).symm
theorem coef_mulL (f g : List Int) (m : Nat) : coef (mulL f g) m = cv f g f.length m := by
  unfold mulL
  rw [coef_trim, coef_mkL]
  split
  · rfl
  · rename_i q
    exact (cv_far f g m _ (by omega)).symm
theorem tr_mulP {f g : List Int} (hf : Tr f) (hg : Tr g) : Tr (mulP f g) := by
  intro h
  unfold mulP at h ⊢
  split
  · rename_i q
    rw [if_pos q] at h
    exact absurd rfl h
  · rename_i q
    have q1 : f ≠ [] := fun e => q (.inl e)
    have q2 : g ≠ [] := fun e => q (.inr e)
    have l1 := List.length_pos_iff.mpr q1
    have l2 := List.length_pos_iff.mpr q2
    rw [mkL_len, coef_mkL, if_pos (by omega), show f.length + g.length - 1 - 1 = f.length + g.length - 2 by omega, cv_last q1 q2]
    exact Int.mul_ne_zero (hf q1) (hg q2)
theorem mul_eq {f g : List Int} (hf : Tr f) (hg : Tr g) : mulL f g = mulP f g := by
  unfold mulL
  refine trim_eq (tr_mulP hf hg) fun m => ?_
  rw [coef_mulP, ← coef_mulL]
  unfold mulL
  rw [coef_trim]

/-! ### at a power -/
def pw (f : List Int) (k m : Nat) : Int := if m % k = 0 then coef f (m / k) else 0
def atP (f : List Int) (k : Nat) : List Int := if f = [] then [] else mkL ((f.length - 1) * k + 1) (pw f k)
def wideL (k : Nat) : List Int → List Int
  | [] => []
  | x :: f => x :: List.replicate (k - 1) 0 ++ wideL k f
theorem pw_far {f : List Int} {k m : Nat} (hk : 1 ≤ k) (h : (f.length - 1) * k < m) : pw f k m = 0 := by
  unfold pw
  split
  · rename_i q
    refine coef_ge (Nat.le_of_not_lt fun r => ?_)
    have e := Nat.div_add_mod m k
    rw [q, Nat.add_zero] at e
    have : k * (m / k) ≤ k * (f.length - 1) := Nat.mul_le_mul_left k (by omega)
    rw [e, Nat.mul_comm] at this
    omega
  · rfl
theorem coef_atP {f : List Int} {k : Nat} (hk : 1 ≤ k) (m : Nat) : coef (atP f k) m = pw f k m := by
  unfold atP
  split
  · rename_i h
    subst h
    rw [coef_nil]
    unfold pw
    rw [coef_nil]
    split <;> rfl
  · rw [coef_mkL]
    split
    · rfl
    · exact (pw_far hk (by omega)).symm
theorem tr_atP {f : List Int} {k : Nat} (hk : 1 ≤ k) (hf : Tr f) : Tr (atP f k) := by
  intro h
  unfold atP at h ⊢
  split
  · rename_i q
    rw [if_pos q] at h
    exact absurd rfl h
  · rename_i q
    rw [mkL_len, Nat.add_sub_cancel, coef_mkL, if_pos (by omega)]
    unfold pw
    rw [Nat.mul_mod_left, if_pos rfl, Nat.mul_div_cancel _ (by omega)]
    exact hf q
theorem coef_wide {k : Nat} (hk : 1 ≤ k) : ∀ (f : List Int) (m : Nat), coef (wideL k f) m = pw f k m
  | [], m => by
    unfold pw
    rw [coef_nil]
    show coef [] m = _
    rw [coef_nil]
    split <;> rfl
  | x :: f, m => by
    have hl : (x :: List.replicate (k - 1) (0 : Int)).length = k := by
      rw [List.length_cons, List.length_replicate]
      omega
    show coef ((x :: List.replicate (k - 1) 0) ++ wideL k f) m = _
    rw [coef_app, hl]
    split
    · rename_i h
      unfold pw
      cases m with
      | zero =>
        rw [Nat.zero_mod, if_pos rfl, Nat.zero_div]
        rfl
      | succ m =>
        rw [Nat.mod_eq_of_lt h, if_neg (by omega)]
        show coef (List.replicate (k - 1) 0) m = 0
        exact coef_rep
    · rename_i h
      rw [coef_wide hk f (m - k)]
      unfold pw
      obtain ⟨d, rfl⟩ : ∃ d, m = k + d := ⟨m - k, by omega⟩
      rw [Nat.add_sub_cancel_left, Nat.add_mod_left, Nat.add_div_left _ (by omega)]
      rfl
theorem wide_eq {f : List Int} {k : Nat} (hk : 1 ≤ k) (hf : Tr f) : trim (wideL k f) = atP f k := trim_eq (tr_atP hk hf) fun m => by rw [coef_wide hk, coef_atP hk]
theorem wide_snoc (k : Nat) : ∀ (f : List Int) (x : Int), wideL k (f ++ [x]) = wideL k f ++ (x :: List.replicate (k - 1) 0)
  | [], x => by
    show x :: List.replicate (k - 1) 0 ++ [] = [] ++ _
    rw [List.append_nil, List.nil_append]
  | y :: f, x => by
    show y :: List.replicate (k - 1) 0 ++ wideL k (f ++ [x]) = (y :: List.replicate (k - 1) 0 ++ wideL k f) ++ _
    rw [wide_snoc k f x, List.append_assoc]
theorem wide_len {k : Nat} (hk : 1 ≤ k) : ∀ f : List Int, (wideL k f).length = f.length * k
  | [] => by
    show 0 = 0 * k
    omega
  | x :: f => by
    show (x :: List.replicate (k - 1) 0 ++ wideL k f).length = (f.length + 1) * k
    rw [List.length_append, List.length_cons, List.length_replicate, wide_len hk f, Nat.add_mul]
    omega

/-! ### values -/
def valP (x : Int) : List Int → Int
  | [] => 0
  | a :: f => a + x * valP x f
theorem val_drop {x : Int} {f : List Int} {i : Nat} {a : Int} (h : f[i]? = some a) : valP x (f.drop i) = a + x * valP x (f.drop (i + 1)) := by
  have hi := (List.getElem?_eq_some_iff.mp h).1
  rw [List.drop_eq_getElem_cons hi]
  have e : f[i] = a := (List.getElem?_eq_some_iff.mp h).2
  rw [e]
  rfl
end Kp

/-! Sums round n as lists: products by places, turned, spread. -/
namespace Kp
theorem addmod {i j n : Nat} (hi : i < n) (hj : j < n) : (i + j) % n = if i + j < n then i + j else i + j - n := by
  split
  · rename_i h
    exact Nat.mod_eq_of_lt h
  · rename_i h
    rw [Nat.mod_eq_sub_mod (by omega), Nat.mod_eq_of_lt (by omega)]
theorem submod {m i n : Nat} (hm : m < n) (hi : i < n) : (m + n - i) % n = if i ≤ m then m - i else m + n - i := by
  split
  · rename_i h
    rw [Nat.mod_eq_sub_mod (by omega), show m + n - i - n = m - i by omega, Nat.mod_eq_of_lt (by omega)]
  · rename_i h
    exact Nat.mod_eq_of_lt (by omega)
theorem addmod_eq {i j m n : Nat} (hi : i < n) (hj : j < n) (hm : m < n) : m = (i + j) % n ↔ (m + n - i) % n = j := by
  rw [addmod hi hj, submod hm hi]
  split <;> split <;> omega
/-- the number at the place m of the product of the first i numbers of f, and g -/
def cs (f g : List Int) (n : Nat) : Nat → Nat → Int
  | 0, _ => 0
  | i + 1, m => cs f g n i m + coef f i * coef g ((m + n - i) % n)
def mulS (f g : List Int) : List Int := mkL f.length (cs f g f.length f.length)
def addS (f g : List Int) : List Int := List.zipWith (· + ·) f g
theorem addS_len {f g : List Int} (h : f.length = g.length) : (addS f g).length = f.length := by
  unfold addS
  rw [List.length_zipWith]
  omega
theorem coef_addS {f g : List Int} (h : f.length = g.length) (m : Nat) : coef (addS f g) m = coef f m + coef g m := by
  by_cases q : m < f.length
  · rw [coef_lt (by rw [addS_len h]; exact q), coef_lt q, coef_lt (by omega)]
    unfold addS
    rw [List.getElem_zipWith]
  · rw [coef_ge (by rw [addS_len h]; omega), coef_ge (by omega), coef_ge (by omega)]
    rfl
theorem mulS_len (f g : List Int) : (mulS f g).length = f.length := mkL_len _ _
def turnS (f : List Int) (j : Int) : List Int := mkL f.length fun m => coef f (((m : Int) - j) % (f.length : Int)).toNat
theorem turn_eq {a m n : Nat} {j : Int} (ha : a < n) (hm : m < n) : (m : Int) = ((a : Int) + j) % (n : Int) ↔ (((m : Int) - j) % (n : Int)).toNat = a := by
  have e1 := Int.emod_add_mul_ediv ((a : Int) + j) n
  have e2 := Int.emod_add_mul_ediv ((m : Int) - j) n
  have b2 := Int.emod_nonneg ((m : Int) - j) (show (n : Int) ≠ 0 by omega)
  constructor
  · intro h
    rw [← h] at e1
    have : (m : Int) - j = (a : Int) + (n : Int) * (-(((a : Int) + j) / (n : Int))) := by
      rw [Int.mul_neg]
      omega
    rw [this, Int.add_mul_emod_self_left, Int.emod_eq_of_lt (by omega) (by omega)]
    omega
  · intro h
    have h2 : ((m : Int) - j) % (n : Int) = (a : Int) := by omega
    rw [h2] at e2
    have : (a : Int) + j = (m : Int) + (n : Int) * (-(((m : Int) - j) / (n : Int))) := by
      rw [Int.mul_neg]
      omega
    rw [this, Int.add_mul_emod_self_left, Int.emod_eq_of_lt (by omega) (by omega)]
def spreadS (f : List Int) (k : Nat) : List Int := mkL (k * f.length) (pw f k)
theorem spread_eq {a m k : Nat} (hk : 1 ≤ k) : m = k * a ↔ m % k = 0 ∧ m / k = a := by
  constructor
  · rintro rfl
    exact ⟨Nat.mul_mod_right _ _, Nat.mul_div_cancel_left _ (by omega)⟩
  · rintro ⟨h1, h2⟩
    have := Nat.div_add_mod m k
    rw [h1, h2] at this
    omega
theorem spread_lt {a k n : Nat} (hk : 1 ≤ k) (ha : a < n) : k * a < k * n := (Nat.mul_lt_mul_left (by omega)).mpr ha
theorem pw_lt {f : List Int} {k m : Nat} (hk : 1 ≤ k) : pw f k m = if m % k = 0 ∧ m / k < f.length then coef f (m / k) else 0 := by
  unfold pw
  by_cases h : m % k = 0
  · rw [if_pos h]
    by_cases q : m / k < f.length
    · rw [if_pos ⟨h, q⟩]
    · rw [if_neg (fun z => q z.2), coef_ge (by omega)]
  · rw [if_neg h, if_neg (fun z => h z.1)]
end Kp

/-! Comprehensions over zip; lists of new lists; == of lists of lists. -/
namespace Kp
open PySem PySem.Spec PyProof.Rows L2 Evl
section
variable {K : PySem.W.Frag} {σ : L2.St} {H H' : Hp} {ta tb te tl to ti : TE} {t : TT} {x y z v : V} {D : Ends} {tu tz : TS} {vs : List Nat}
/-- two arguments, lists of ints, either by its name or new -/
def EvAZ (K : PySem.W.Frag) (tg : TA) (σ : L2.St) (H : Hp) (ns ms : List Int) : Prop := ∀ H1, Ex H H1 → ∀ Q : List V → Hp → Prop, (∀ a b H2, Ex H1 H2 → SqL K H2 a (ns.map V.int) → SqL K H2 b (ms.map V.int) → Q [.ref a, .ref b] H2) → tg σ H1 Q
theorem az_vv {a b : Addr} {ns ms : List Int} (ha : Ev ta σ H (.ref a)) (hb : Ev tb σ H (.ref b)) (hx : SqL K H a (ns.map V.int)) (hy : SqL K H b (ms.map V.int)) : EvAZ K (tCons ta (tCons tb tNil)) σ H ns ms := fun H1 e Q q =>
  ha H1 e _ fun H2 e2 => hb H2 (e.trans e2) _ fun H3 e3 => q a b H3 (e2.trans e3) (ex_l ((e.trans e2).trans e3) hx) (ex_l ((e.trans e2).trans e3) hy)
theorem az_vn {a : Addr} {ns ms : List Int} (ha : Ev ta σ H (.ref a)) (hx : SqL K H a (ns.map V.int)) (hb : EvL tb σ H (ms.map V.int)) : EvAZ K (tCons ta (tCons tb tNil)) σ H ns ms := fun H1 e Q q =>
  ha H1 e _ fun H2 e2 => hb H2 (e.trans e2) _ fun b H3 nb e3 h3 => q a b H3 (e2.trans e3) (ex_l ((e.trans e2).trans e3) hx) (sq_of h3)
theorem az_nn {ns ms : List Int} (ha : EvL ta σ H (ns.map V.int)) (hb : EvL tb σ H (ms.map V.int)) : EvAZ K (tCons ta (tCons tb tNil)) σ H ns ms := fun H1 e Q q =>
  ha H1 e _ fun a H2 na e2 h2 => hb H2 (e.trans e2) _ fun b H3 nb e3 h3 => q a b H3 (e2.trans e3) (sq_of (e3 _ _ h2)) (sq_of h3)
/-- [e for x, y in zip(a, b)] -/
theorem el_lcZ {tg : TA} {ns ms : List Int} {i j : Nat} (w : Int → Int → V) (h : EvAZ K tg σ H ns ms) (hl : ns.length = ms.length) (hz : ns.length ≤ 40000) (hw : ∀ x y, wipe (((wipe σ vs).set i (some x)).set j (some y)) vs = wipe σ vs)
    (he : ∀ x y H1, Ex H H1 → x ∈ ns → y ∈ ms → Ev te (((wipe σ vs).set i (some (.int x))).set j (some (.int y))) H1 (w x y)) :
    EvL (tLc (iZip K tg) (gTup K 2 (gCons (gName i) (gCons (gName j) gNil))) tYes te vs) σ H (List.zipWith w ns ms) := fun H0 e Q q => h H0 e _ fun a b H1 e1 ha hb => ⟨a, b, _, _, rfl, ha, hb, fun Dl hD =>
  lc_it (n := ns.length) (walk_zip (by rw [List.length_map, List.length_map]; omega)) (fun n H' => H1 Dl = none ∧ Ex H1 H' ∧ H' Dl = some (.lst ((List.zipWith w ns ms).take n))) ⟨hD, Ex.new hD, upd_same⟩ (fun n H' _ p => ⟨ex_l p.2.1 ha, ex_l p.2.1 hb⟩) (fun n v H' H'' hn p y => by
    obtain ⟨p1, p2, p3⟩ := p
    obtain ⟨T, x, y, rfl, hT, rfl, hx, hy⟩ := y
    obtain ⟨r, hr, rfl⟩ := map_get hx
    obtain ⟨s, hs, rfl⟩ := map_get hy
    have e2 : Ex H' (upd H' T (.tup [V.int r, V.int s])) := Ex.new hT
    refine ⟨T, _, rfl, .inl (.inl upd_same), rfl, .int r, [.int s], rfl, .int s, [], rfl, rfl, hw _ _, ?_⟩
    refine et_yes (H := H') _ e2 _ fun H3 e3 => ?_
    show te _ H3 _
    refine he r s H1 (e.trans e1) (List.mem_of_getElem? hr) (List.mem_of_getElem? hs) H3 (p2.trans (e2.trans e3)) _ fun H4 e4 => ⟨_, e4 Dl _ (e3 Dl _ (e2 Dl _ p3)), ?_, p1, Ex.mut (((p2.trans e2).trans e3).trans e4) p1, ?_⟩
    · refine sz_lt ?_
      rw [List.length_take, List.length_zipWith]
      omega
    · rw [upd_same, List.take_add_one, List.getElem?_zipWith, hr, hs]
      rfl) (fun H' p => by
    have q1 := p.2.2
    rw [List.take_of_length_le (by rw [List.length_zipWith]; omega)] at q1
    exact q Dl H' (fresh_back e1 p.1) (e1.trans p.2.1) q1)⟩

/-! ### many new lists, each known -/
def NewL (H H' : Hp) (ps : List Addr) (xss : List (List V)) : Prop := Paired (fun p xs => H p = none ∧ H' p = some (.lst xs)) ps xss ∧ ps.Nodup
theorem NewL.fresh : ∀ {ps : List Addr} {xss : List (List V)}, Paired (fun p xs => H p = none ∧ H' p = some (.lst xs)) ps xss → ∀ p ∈ ps, H p = none
  | _, _, .nil, p, h => nomatch h
  | _, _, .cons a r, p, h => by
    rcases List.mem_cons.mp h with rfl | h
    · exact a.1
    · exact NewL.fresh r p h
theorem NewL.got : ∀ {ps : List Addr} {xss : List (List V)}, Paired (fun p xs => H p = none ∧ H' p = some (.lst xs)) ps xss → ∀ p ∈ ps, ∃ xs, H' p = some (.lst xs)
  | _, _, .nil, p, h => nomatch h
  | _, _, .cons a r, p, h => by
    rcases List.mem_cons.mp h with rfl | h
    · exact ⟨_, a.2⟩
    · exact NewL.got r p h
theorem NewL.mono {H'' : Hp} {ps : List Addr} {xss : List (List V)} (e : Ex H' H'') (h : NewL H H' ps xss) : NewL H H'' ps xss := ⟨Paired.mapP h.1 fun _ _ ⟨q1, q2⟩ => ⟨q1, e _ _ q2⟩, h.2⟩
theorem NewL.back {H0 : Hp} {ps : List Addr} {xss : List (List V)} (e : Ex H0 H) (h : NewL H H' ps xss) : NewL H0 H' ps xss := ⟨Paired.mapP h.1 fun _ _ ⟨q1, q2⟩ => ⟨fresh_back e q1, q2⟩, h.2⟩
theorem NewL.nil : NewL H H' [] [] := ⟨.nil, List.nodup_nil⟩
theorem paired_app {α β : Type} {F : α → β → Prop} : ∀ {l1 : List α} {m1 : List β} {l2 : List α} {m2 : List β}, Paired F l1 m1 → Paired F l2 m2 → Paired F (l1 ++ l2) (m1 ++ m2)
  | _, _, _, _, .nil, h => h
  | _, _, _, _, .cons a r, h => .cons a (paired_app r h)
theorem NewL.app {H1 H2 : Hp} {ps qs : List Addr} {xss yss : List (List V)} (h1 : NewL H H1 ps xss) (e : Ex H H1) (h2 : NewL H1 H2 qs yss) (e2 : Ex H1 H2) : NewL H H2 (ps ++ qs) (xss ++ yss) := by
  refine ⟨paired_app (h1.mono e2).1 (h2.back e).1, List.nodup_append.mpr ⟨h1.2, h2.2, fun a ha b hb he => ?_⟩⟩
  subst he
  obtain ⟨xs, g⟩ := NewL.got h1.1 a ha
  have := NewL.fresh h2.1 a hb
  rw [g] at this
  cases this
def EvNL (ta : TA) (σ : L2.St) (H : Hp) (xss : List (List V)) : Prop := ∀ H1, Ex H H1 → ∀ Q : List V → Hp → Prop, (∀ (ps : List Addr) H2, Ex H1 H2 → NewL H1 H2 ps xss → Q (ps.map V.ref) H2) → ta σ H1 Q
theorem enl_nil : EvNL tNil σ H [] := fun H1 _ Q q => q [] H1 (Ex.refl H1) NewL.nil
theorem enl_cons {tr : TA} {xs : List V} {xss : List (List V)} (h : EvL te σ H xs) (hr : EvNL tr σ H xss) : EvNL (tCons te tr) σ H (xs :: xss) := fun H1 e Q q =>
  h H1 e _ fun p H2 np e2 hp => hr H2 (e.trans e2) _ fun ps H3 e3 N => q (p :: ps) H3 (e2.trans e3) ⟨.cons ⟨np, e3 _ _ hp⟩ (N.back e2).1, List.nodup_cons.mpr ⟨fun hm => absurd (hp.symm.trans (NewL.fresh N.1 p hm)) (fun z => nomatch z), N.2⟩⟩
theorem NewL.len {ps : List Addr} {xss : List (List V)} (h : NewL H H' ps xss) : ps.length = xss.length := Paired.length h.1
theorem NewL.out {p : Addr} {o : HO} {ps : List Addr} {xss : List (List V)} (h : NewL H H' ps xss) (hp : H' p = none) : NewL H (upd H' p o) ps xss ∧ p ∉ ps := by
  have hn : p ∉ ps := fun hm => by
    obtain ⟨xs, g⟩ := NewL.got h.1 p hm
    rw [hp] at g
    cases g
  exact ⟨h.mono (Ex.new hp), hn⟩
/-- x = [new, new, ..] -/
theorem q_asgNL {tr : TA} {xss : List (List V)} {i : Nat} (h : EvNL tr σ H xss) (hz : xss.length ≤ 100000) (k : ∀ L ps H1, H L = none → Ex H H1 → H1 L = some (.lst (ps.map V.ref)) → NewL H H1 ps xss → L ∉ ps → tz D (σ.set i (some (.ref L))) H1) :
    tSeq (tAsg (tLst tr) (gName i)) tz D σ H := h H (Ex.refl H) _ fun ps H1 e1 N => ⟨sz_of (by rw [List.length_map, N.len]; exact hz), fun L nL => by
  obtain ⟨N2, nm⟩ := N.out (o := .lst (ps.map V.ref)) nL
  exact k L ps _ (fresh_back e1 nL) (e1.trans (Ex.new nL)) upd_same N2 nm⟩
/-- x = x + [new, new, ..], what x held new too -/
theorem q_catNL {H0 : Hp} {tr : TA} {xss yss : List (List V)} {i j : Nat} {l : Addr} {ps : List Addr} (N : NewL H0 H ps xss) (e0 : Ex H0 H) (hv : σ[j]? = some (some (.ref l))) (hl : H l = some (.lst (ps.map V.ref))) (h : EvNL tr σ H yss) (hz : xss.length + yss.length ≤ 100000)
    (k : ∀ L qs H1, H L = none → Ex H H1 → H1 L = some (.lst (qs.map V.ref)) → NewL H0 H1 qs (xss ++ yss) → L ∉ qs → tz D (σ.set i (some (.ref L))) H1) :
    tSeq (tAsg (tOp rCat (tVar j) (tLst tr)) (gName i)) tz D σ H := ⟨_, hv, h H (Ex.refl H) _ fun qs H1 e1 M => ⟨sz_of (by rw [List.length_map, M.len]; omega), fun r nr => by
  obtain ⟨M2, nm⟩ := M.out (o := .lst (qs.map V.ref)) nr
  have e2 : Ex H (upd H1 r (.lst (qs.map V.ref))) := e1.trans (Ex.new nr)
  have hz2 : (ps.map V.ref).length + (qs.map V.ref).length ≤ 100000 := by
    rw [List.length_map, List.length_map, N.len, M.len]
    exact hz
  refine ⟨l, r, _, _, rfl, rfl, e2 _ _ hl, upd_same, sz_of hz2, fun L nL => ?_⟩
  obtain ⟨A, na⟩ := (N.app e0 M2 e2).out (o := .lst (ps.map V.ref ++ qs.map V.ref)) nL
  refine k L (ps ++ qs) _ (fresh_back e2 nL) (e2.trans (Ex.new nL)) (by rw [upd_same, List.map_append]) A na⟩⟩
theorem paired_get {α β : Type} {F : α → β → Prop} : ∀ {l : List α} {m : List β} {i : Nat} {a : α}, Paired F l m → l[i]? = some a → ∃ b, m[i]? = some b ∧ F a b
  | _, _, _, _, .nil, h => by simp at h
  | _, _, 0, _, .cons (b := b) q _, h => ⟨b, rfl, by
    have e := Option.some.inj h
    exact e ▸ q⟩
  | _, _, i + 1, _, .cons _ q, h => paired_get (i := i) q h
/-- for row in xs: .., what stands in xs new and each turn changing its own row alone -/
theorem s_forRows {H0 : Hp} {L : Addr} {ps : List Addr} {xss : List (List V)} {j : Nat} (hv : Ev tl σ H (.ref L)) (hL : H L = some (.lst (ps.map V.ref))) (N : NewL H0 H ps xss) (e0 : Ex H0 H) (nL : L ∉ ps) (hj : j < σ.length)
    (hs : ∀ p xs H' (D' : Ends), xs ∈ xss → H' p = some (.lst xs) → Ex H0 H' → D'.rt = D.rt → (∀ H3 o, Ex H' H3 → D'.nx (σ.set j (some (.ref p))) (upd H3 p o)) → tu D' (σ.set j (some (.ref p))) H')
    (hd : ∀ y H', Ex H0 H' → D.nx (σ.set j y) H') :
    tFor (iList K tl) (gName j) tu D σ H := by
  refine s_forLn (xs := ps.map V.ref) hv (SqL.of hL) (fun i σ' H' => (∃ y, σ' = σ.set j y) ∧ Ex H0 H' ∧ H' L = some (.lst (ps.map V.ref)) ∧ ∀ k p xs, i ≤ k → ps[k]? = some p → xss[k]? = some xs → H' p = some (.lst xs))
    (fun H1 e1 => ⟨⟨σ[j], (List.set_getElem_self hj).symm⟩, e0.trans e1, e1 _ _ hL, fun k p xs _ hp hx => ?_⟩) (fun i σ' H' _ hp => SqL.of hp.2.2.1) (fun i x σ' H' hx hp => ?_) (fun σ' H' hp => ?_)
  · obtain ⟨b, hb, hF⟩ := paired_get N.1 hp
    rw [hx] at hb
    cases hb
    exact e1 _ _ hF.2
  · obtain ⟨⟨y, rfl⟩, p2, p3, p4⟩ := hp
    rw [List.getElem?_map] at hx
    obtain ⟨p, hp, rfl⟩ := Option.map_eq_some_iff.mp hx
    obtain ⟨xs, hxs, hF⟩ := paired_get N.1 hp
    have hLp : L ≠ p := fun e => nL (e ▸ List.mem_of_getElem? hp)
    rw [List.set_set]
    refine hs p xs H' _ (List.mem_of_getElem? hxs) (p4 i p xs (Nat.le_refl i) hp hxs) p2 rfl fun H3 o e3 => ⟨⟨_, rfl⟩, Ex.mut (p2.trans e3) hF.1, ?_, fun k p' xs' hk hp' hx' => ?_⟩
    · rw [upd_ne hLp]
      exact e3 _ _ p3
    · have ne : p' ≠ p := fun e => by
        subst e
        obtain ⟨h1, g1⟩ := List.getElem?_eq_some_iff.mp hp
        obtain ⟨h2, g2⟩ := List.getElem?_eq_some_iff.mp hp'
        exact List.pairwise_iff_getElem.mp N.2 i k h1 h2 (by omega) (g1.trans g2.symm)
      rw [upd_ne ne]
      exact e3 _ _ (p4 k p' xs' (by omega) hp' hx')
  · obtain ⟨⟨y, rfl⟩, p2, _, _⟩ := hp
    exact hd y H' p2

/-! ### == of lists of lists of ints -/
def dLL (nss : List (List Int)) : PyData := .list (nss.map dI)
theorem dI_inj (a b : List Int) (e : dI a = dI b) : a = b := map_inj (fun _ _ q => PyData.int.inj q) a b (PyData.list.inj e)
theorem dI_ok (a : List Int) : okD (dI a) = true := by
  unfold dI okD
  exact okA_map _ (fun _ => rfl) a
theorem dI_dep (a : List Int) : (dI a).depth ≤ 1 := Nat.succ_le_succ (dep_map PyData.int 0 (fun _ => Nat.le_refl 0) a)
theorem dI_lay (a : List Int) : PyData.canLay0 (dI a) = true := lay_map _ (fun _ => rfl) a
theorem dLL_sh (nss : List (List Int)) : SeqAt.shaped (dLL nss) = true := shaped_of (lay_map _ dI_lay nss) (Nat.le_trans (Nat.succ_le_succ (dep_map dI 1 dI_dep nss)) (by decide))
theorem dLL_eqv (nss mss : List (List Int)) : PyData.eqv (dLL nss) (dLL mss) = decide (nss = mss) := eqv_dec dLL (fun l => by unfold dLL okD; exact okA_map _ dI_ok l) (fun a b e => map_inj dI_inj a b (PyData.list.inj e)) nss mss
theorem dpa_lists : ∀ {ps : List Addr} {nss : List (List Int)}, Paired (fun p ns => SqL K H p (ns.map V.int)) ps nss → DpAll K H (ps.map V.ref) (nss.map dI)
  | _, _, .nil => .nil
  | _, _, .cons q r => .cons (dp_ints q) (dpa_lists r)
theorem dp_lists {a : Addr} {ps : List Addr} {nss : List (List Int)} (h : SqL K H a (ps.map V.ref)) (p : Paired (fun p ns => SqL K H p (ns.map V.int)) ps nss) : Dp K H (.ref a) (dLL nss) := .lst h (dpa_lists p)
theorem paired_map {α β γ : Type} {F : α → β → Prop} {f : γ → β} : ∀ {l : List α} {m : List γ}, Paired F l (m.map f) → Paired (fun a c => F a (f c)) l m
  | [], [], .nil => .nil
  | _ :: _, _ :: _, .cons a r => .cons a (paired_map r)
theorem NewL.sq {ps : List Addr} {nss : List (List Int)} (h : NewL H H' ps (nss.map fun ns => ns.map V.int)) : Paired (fun p ns => SqL K H' p (ns.map V.int)) ps nss := Paired.mapP (paired_map h.1) fun _ _ q => sq_of q.2
theorem rv_neLL {p q : Addr} {ps qs : List Addr} {nss mss : List (List Int)} (h1 : SqL K H p (ps.map V.ref)) (p1 : Paired (fun p ns => SqL K H p (ns.map V.int)) ps nss) (h2 : SqL K H q (qs.map V.ref)) (p2 : Paired (fun p ns => SqL K H p (ns.map V.int)) qs mss) : RV (rNeD K) (.ref p) (.ref q) H (.bl (!decide (nss = mss))) :=
  rv_neD (fun _ e => dp_lists (ex_l e h1) (Paired.mapP p1 fun _ _ z => ex_l e z)) (fun _ e => dp_lists (ex_l e h2) (Paired.mapP p2 fun _ _ z => ex_l e z)) (dLL_sh _) (dLL_sh _) (by rw [dLL_eqv])
/-! tuples of lists of ints -/
def dTL (nss : List (List Int)) : PyData := .tuple (nss.map dI)
theorem dTL_sh (nss : List (List Int)) : SeqAt.shaped (dTL nss) = true := shaped_of (lay_map _ dI_lay nss) (Nat.le_trans (Nat.succ_le_succ (dep_map dI 1 dI_dep nss)) (by decide))
theorem dTL_eqv (nss mss : List (List Int)) : PyData.eqv (dTL nss) (dTL mss) = decide (nss = mss) := eqv_dec dTL (fun l => by unfold dTL okD; exact okA_map _ dI_ok l) (fun a b e => map_inj dI_inj a b (PyData.tuple.inj e)) nss mss
theorem dp_tlists {a : Addr} {ps : List Addr} {nss : List (List Int)} (h : SqT K H a (ps.map V.ref)) (p : Paired (fun p ns => SqL K H p (ns.map V.int)) ps nss) : Dp K H (.ref a) (dTL nss) := .tup h (dpa_lists p)
theorem rv_neTL {p q : Addr} {ps qs : List Addr} {nss mss : List (List Int)} (h1 : SqT K H p (ps.map V.ref)) (p1 : Paired (fun p ns => SqL K H p (ns.map V.int)) ps nss) (h2 : SqT K H q (qs.map V.ref)) (p2 : Paired (fun p ns => SqL K H p (ns.map V.int)) qs mss) : RV (rNeD K) (.ref p) (.ref q) H (.bl (!decide (nss = mss))) :=
  rv_neD (fun _ e => dp_tlists (ex_t e h1) (Paired.mapP p1 fun _ _ z => ex_l e z)) (fun _ e => dp_tlists (ex_t e h2) (Paired.mapP p2 fun _ _ z => ex_l e z)) (dTL_sh _) (dTL_sh _) (by rw [dTL_eqv])
end
end Kp
namespace Kp
open PySem PySem.Spec PyProof.Rows L2 Evl
section
variable {K : PySem.W.Frag} {σ : L2.St} {H H' : Hp} {ta tb tc td : TE} {y z : V} {D : Ends} {tz : TS}
/-- x = [new, new, told, told] -/
theorem q_asgL4 {i : Nat} {xs ys : List V} (h1 : EvL ta σ H xs) (h2 : EvL tb σ H ys) (h3 : Ev tc σ H y) (h4 : Ev td σ H z) (k : ∀ L p q H1, Ex H H1 → H L = none → H1 L = some (.lst [.ref p, .ref q, y, z]) → H1 p = some (.lst xs) → H1 q = some (.lst ys) → tz D (σ.set i (some (.ref L))) H1) :
    tSeq (tAsg (tLst (tCons ta (tCons tb (tCons tc (tCons td tNil))))) (gName i)) tz D σ H :=
  h1 H (Ex.refl H) _ fun p H1 np e1 hp => h2 H1 e1 _ fun q H2 nq e2 hq => h3 H2 (e1.trans e2) _ fun H3 e3 => h4 H3 ((e1.trans e2).trans e3) _ fun H4 e4 => ⟨sz_of (show 4 ≤ 100000 by decide), fun L nL => by
    have e34 := e3.trans e4
    have e04 := (e1.trans e2).trans e34
    have eN : Ex H4 (upd H4 L (.lst [.ref p, .ref q, y, z])) := Ex.new nL
    exact k L p q _ (e04.trans eN) (fresh_back e04 nL) upd_same (eN _ _ (e34 _ _ (e2 _ _ hp))) (eN _ _ (e34 _ _ hq))⟩
/-- o[i] = e, of a list of ints, and on -/
theorem q_setI {te to ti : TE} {l : Addr} {ns : List Int} {j : Nat} {b : Int} (hl : H l = some (.lst (ns.map V.int))) (ho : Ev to σ H (.ref l)) (hi : Ev ti σ H (.int (j : Nat))) (hj : j < ns.length) (he : Ev te σ H (.int b))
    (k : ∀ H1, Ex H H1 → tz D σ (upd H1 l (.lst ((ns.set j b).map V.int)))) : tSeq (tAsg te (gSub to ti rSetL)) tz D σ H := s_setI (D := { D with nx := tz D }) hl ho hi hj he k
end
end Kp

namespace Own
open PySem PySem.Spec PyProof.Rows L2 Evl Kp
def topS (i : Nat) : Stmt := PySem.Challenge.pw_rootwheel_k16_sums.main.body.getD i (.Pass ⟨0, 0, 0, 0⟩)
/-! ### words of ours for the walk over readings -/
local macro_rules | `(tactic| one_place) => `(tactic| (fail_if_success (with_reducible first | refine probe ?_ | refine probeT ?_ | refine probeA ?_)); first
  | exact ev_c
  | exact ev_var rfl
  | exact ea_nil
  | (apply ea_cons <;> one_place)
  | (apply et_test; one_place)
  | (apply et_B; one_place)
  | (apply et_not; one_place)
  | (apply ev_add <;> one_place)
  | (apply ev_sub <;> one_place)
  | (apply ev_mul <;> first | one_place | (exact mulW (by omega) (by omega)))
  | (apply ev_div <;> first | one_place | (exact divW (by omega) (by omega)))
  | (apply ev_mod <;> first | one_place | omega)
  | (refine ev_pow (i := 10) (j := 6) (c := 1000000) ?_ ?_ ⟨by decide, by decide +kernel⟩ (by rfl) <;> one_place)
  | (refine ev_pow (i := 10) (j := 9) (c := 1000000000) ?_ ?_ ⟨by decide, by decide +kernel⟩ (by rfl) <;> one_place)
  | (refine ev_pow (i := 10) (j := 12) (c := 1000000000000) ?_ ?_ ⟨by decide, by decide +kernel⟩ (by rfl) <;> one_place)
  | (refine ev_pow (i := 10) (j := 18) (c := 1000000000000000000) ?_ ?_ ⟨by decide, by decide +kernel⟩ (by rfl) <;> one_place)
  | (apply ev_lt <;> one_place)
  | (apply ev_le <;> one_place)
  | (apply ev_gt <;> one_place)
  | (apply ev_ge <;> one_place)
  | (apply ev_eqI <;> one_place)
  | (apply ev_neI <;> one_place)
  | (apply ev_neg; one_place)
  | assumption)
/-! ### numbers of bounded size -/
def Bd (b : Nat) (l : List Int) : Prop := ∀ m, (coef l m).natAbs < 2 ^ b
theorem mulB {i j : Int} {a b : Nat} (hi : i.natAbs < 2 ^ a) (hj : j.natAbs < 2 ^ b) (h : a + b ≤ 900000) : CMulW i j :=
  wide_mul (a := a + 1) (b := b + 1) (Nat.lt_of_lt_of_le hi (Nat.pow_le_pow_right (by decide) (Nat.le_succ a))) (Nat.lt_of_lt_of_le hj (Nat.pow_le_pow_right (by decide) (Nat.le_succ b))) (Nat.succ_pos _) (Nat.succ_pos _) (by omega)
theorem Bd.at {b : Nat} {l : List Int} {i : Nat} {x : Int} (h : Bd b l) (hi : l[i]? = some x) : x.natAbs < 2 ^ b := by
  have := h i
  rwa [coef_of hi] at this
theorem Bd.of {b : Nat} {l : List Int} (h : ∀ x ∈ l, x.natAbs < 2 ^ b) : Bd b l := fun m => by
  by_cases q : m < l.length
  · rw [coef_lt q]
    exact h _ (List.getElem_mem q)
  · rw [coef_ge (by omega)]
    exact Nat.two_pow_pos b

/-! ### sums by places -/
/- sum_plus: slots 0 one, 1 other, 2 a, 3 b; calls  -/
abbrev s_sum_plus : Stmt := topS 1
theorem sc_sum_plus : FnScope ["one", "other", "a", "b"] ["one", "other"] (defScope s_sum_plus) := ⟨rfl, rfl, rfl, by decide +kernel, rfl, by decide +kernel, by decide +kernel⟩

def spSPlus (K : PySem.W.Frag) : Sp := fun vs H Q _ => ∃ (a b : Addr) (f g : List Int), vs = [.ref a, .ref b] ∧ SqL K H a (f.map V.int) ∧ SqL K H b (g.map V.int) ∧ f.length = g.length ∧ f.length ≤ 40000 ∧ RetL ((addS f g).map V.int) H Q
theorem zip_add : ∀ f g : List Int, List.zipWith (fun x y => V.int (x + y)) f g = (addS f g).map V.int
  | [], _ => rfl
  | _ :: _, [] => rfl
  | x :: f, y :: g => by
    show V.int (x + y) :: List.zipWith _ f g = V.int (x + y) :: (addS f g).map V.int
    rw [zip_add f g]
section
variable {P : Program} {w : World} {K : PySem.W.Frag} {mg : Str → Option Value} {base : Heap}
theorem cal_splus (nb : Nb mg) (d : Dfn K mg "sum_plus" ["one", "other"] s_sum_plus) : Cal P w K mg base CX0 "sum_plus" 1 ["one", "other"] (spSPlus K) := by
  refine d.cal sc_sum_plus (fun vs H Q E h => ?_) (fun fa cdv A outer s H vs Q E hr h => ?_)
  · obtain ⟨a, b, f, g, rfl, _⟩ := h
    rfl
  · obtain ⟨a, b, f, g, rfl, hF, hG, hl, hz, q⟩ := h
    refine ⟨_, (pss_one (ps_ret (pe_lc (own := [("a", 2), ("b", 3)]) (g := gTup K 2 (gCons (gName 2) (gCons (gName 3) gNil))) (tt := tYes) (by rfl) sc_sum_plus.nd (pi_zip (by rfl) nb.zip (pa_cons (pv 0) (pa_cons (pv 1) pa_nil))) (blkOk_by (N := ["one", "other", "a", "b"]) (sc := defScope s_sum_plus) (by decide +kernel)) (fun _ _ _ _ _ => (pg_tup (by rfl) (pgs_cons (pg_name (i := 2) sc_sum_plus.nd rfl (Or.inl rfl)) (pgs_cons (pg_name (i := 3) sc_sum_plus.nd rfl (Or.inl rfl)) pgs_nil)))) (fun _ _ _ _ _ => pts_nil) (fun _ _ _ _ _ => (pe_op op_add (pv 2) (pv 3)))))), ?_⟩
    exact s_retL (xs := (addS f g).map V.int) (el_is (el_lcZ (ns := f) (ms := g) (fun x y => .int (x + y)) (az_vv (ev_var rfl) (ev_var rfl) hF hG) hl hz (fun _ _ => rfl) fun x y H1 e1 _ _ => by one_place) (zip_add f g)) fun p H1 np e1 hp => q p H1 np e1 hp
end
/- sum_times: slots 0 one, 1 other, 2 n, 3 total, 4 i, 5 a, 6 j, 7 b; calls  -/
abbrev s_sum_times : Stmt := topS 2
theorem sc_sum_times : FnScope ["one", "other", "n", "total", "i", "a", "j", "b"] ["one", "other"] (defScope s_sum_times) := ⟨rfl, rfl, rfl, by decide +kernel, rfl, by decide +kernel, by decide +kernel⟩

def spSTimes (K : PySem.W.Frag) : Sp := fun vs H Q _ => ∃ (a b : Addr) (f g : List Int) (n m : Nat), vs = [.ref a, .ref b] ∧ SqL K H a (f.map V.int) ∧ SqL K H b (g.map V.int) ∧ f.length = g.length ∧ f.length ≤ 10000 ∧ Bd n f ∧ Bd m g ∧ n + m ≤ 900000 ∧ RetL ((mulS f g).map V.int) H Q
section
variable {P : Program} {w : World} {K : PySem.W.Frag} {mg : Str → Option Value} {base : Heap}
theorem cal_stimes (nb : Nb mg) (d : Dfn K mg "sum_times" ["one", "other"] s_sum_times) : Cal P w K mg base CX0 "sum_times" 1 ["one", "other"] (spSTimes K) := by
  refine d.cal sc_sum_times (fun vs H Q E h => ?_) (fun fa cdv A outer s H vs Q E hr h => ?_)
  · obtain ⟨a, b, f, g, n, m, rfl, _⟩ := h
    rfl
  · obtain ⟨a, b, f, g, bn, bm, rfl, hF, hG, hl, zf, bf, bg, hnm, q⟩ := h
    refine ⟨_, (pss_cons (ps_set (i := 2) sc_sum_times.nd rfl (.inl rfl) (pe_callB call_len_seq (by rfl) nb.len PySem.boot_len (pa_cons (pv 0) pa_nil)))
      (pss_cons (ps_set (i := 3) sc_sum_times.nd rfl (.inl rfl) (pe_op op_rep (pe_lst (pa_cons pe_int pa_nil)) (pv 2)))
      (pss_cons (ps_for PassesOwn.never rfl (pi_enum (by rfl) nb.enumerate (pa_cons (pv 0) pa_nil)) (pg_tup (by rfl) (pgs_cons (pg_name (i := 4) sc_sum_times.nd rfl (.inl rfl)) (pgs_cons (pg_name (i := 5) sc_sum_times.nd rfl (.inl rfl)) pgs_nil))) (pss_one (ps_if (pt_cmpR op_ne (pv 5) pe_int (nomark _)) (pss_one (ps_for PassesOwn.never rfl (pi_enum (by rfl) nb.enumerate (pa_cons (pv 1) pa_nil)) (pg_tup (by rfl) (pgs_cons (pg_name (i := 6) sc_sum_times.nd rfl (.inl rfl)) (pgs_cons (pg_name (i := 7) sc_sum_times.nd rfl (.inl rfl)) pgs_nil))) (pss_one (ps_augS (pv 3) (pe_op op_mod (pe_op op_add (pv 4) (pv 6)) (pv 2)) get_list (pe_op op_mulW (pv 5) (pv 7)) ip_add set_list)))) pss_nil)))
      (pss_one (ps_ret (pv 3)))))), ?_⟩
    refine q_asg (v := .int ((f.length : Nat) : Int)) (ev_is (ev_len (ev_var rfl) hF) (by rw [List.length_map])) fun H1 e1 => ?_
    refine q_asgL (xs := (List.replicate f.length (0 : Int)).map V.int) (el_is (el_rep (k := (f.length : Int)) (el_lst (by one_place) (by decide)) (by one_place) (by omega) (by omega)) (by rw [List.map_replicate, Int.toNat_natCast])) fun t H2 nt e2 h2 => ?_
    have e02 := e1.trans e2
    have ntH : H t = none := fresh_back e1 nt
    refine q_forE (xs := f.map V.int) (by one_place) (ex_l e02 hF) (fun i σ' H' => ∃ (T : List Int) (x y z u : Option V), σ' = [some (.ref a), some (.ref b), some (.int ((f.length : Nat) : Int)), some (.ref t), x, y, z, u] ∧ Ex H H' ∧ H' t = some (.lst (T.map V.int)) ∧ T.length = f.length ∧ ∀ m, m < f.length → coef T m = cs f g f.length i m)
      (fun H3 e3 => ⟨_, none, none, none, none, rfl, e02.trans e3, e3 _ _ h2, List.length_replicate, fun m _ => coef_rep⟩) (fun i σ' H' _ hp => ?_) (fun i x σ' H' hx hp H3 e3 => ?_) (fun σ' H' hp => ?_)
    · obtain ⟨_, _, _, _, _, _, e3, _⟩ := hp
      exact ex_l e3 hF
    · obtain ⟨T, x1, x2, x3, x4, rfl, e4, h4, hT, hc⟩ := hp
      obtain ⟨z, hz, rfl⟩ := map_get hx
      have hi := (List.getElem?_eq_some_iff.mp hz).1
      refine s_when (b := !decide (z = 0)) (by one_place) (fun hb H5 e5 => ?_) (fun hb H5 e5 => ?_)
      · refine s_forE (xs := g.map V.int) (by one_place) (ex_l ((e4.trans e3).trans e5) hG) (fun j σ' H' => ∃ (T : List Int) (x y : Option V), σ' = [some (.ref a), some (.ref b), some (.int ((f.length : Nat) : Int)), some (.ref t), some (.int (i : Nat)), some (.int z), x, y] ∧ Ex H H' ∧ H' t = some (.lst (T.map V.int)) ∧ T.length = f.length ∧ ∀ m, m < f.length → coef T m = cs f g f.length i m + if (m + f.length - i) % f.length < j then coef f i * coef g ((m + f.length - i) % f.length) else 0)
          (fun H6 e6 => ⟨T, _, _, rfl, ((e4.trans e3).trans e5).trans e6, (e5.trans e6) _ _ (e3 _ _ h4), hT, fun m hm => ?_⟩) (fun j σ' H' _ hp => ?_) (fun j x σ' H' hx hp H6 e6 => ?_) (fun σ' H' hp => ?_)
        · rw [hc m hm, if_neg (by omega)]
          omega
        · obtain ⟨_, _, _, _, e6, _⟩ := hp
          exact ex_l e6 hG
        · obtain ⟨T, y1, y2, rfl, e7, h7, hT, hc⟩ := hp
          obtain ⟨y, hy, rfl⟩ := map_get hx
          have hj := (List.getElem?_eq_some_iff.mp hy).1
          have hj2 : j < f.length := by omega
          have hlt : (i + j) % f.length < f.length := Nat.mod_lt _ (by omega)
          refine s_augL (j := (i + j) % f.length) (a := coef T ((i + j) % f.length)) (b := z * y) (e6 _ _ h7) (by one_place) (ev_is (ev_mod (ev_add (ev_var rfl) (ev_var rfl)) (ev_var rfl) (by omega)) (by rfl)) (coef_get (by omega)) (ev_mul (ev_var rfl) (ev_var rfl) (mulB (bf.at hz) (bg.at hy) hnm)) fun H8 e8 => ⟨_, _, _, rfl, Ex.mut ((e7.trans e6).trans e8) ntH, upd_same, by rw [List.length_set]; exact hT, fun m hm => ?_⟩
          rw [coef_set (by omega), hc m hm, hc _ hlt]
          have key := addmod_eq hi hj2 hm
          by_cases e : m = (i + j) % f.length
          · have k2 := key.mp e
            rw [if_pos e, ← e, k2, if_neg (Nat.lt_irrefl j), if_pos (by omega), coef_of hz, coef_of hy]
            omega
          · rw [if_neg e]
            have k2 : (m + f.length - i) % f.length ≠ j := fun q => e (key.mpr q)
            split <;> split <;> first | rfl | omega
        · obtain ⟨T, y1, y2, rfl, e7, h7, hT, hc⟩ := hp
          refine ⟨T, _, _, _, _, rfl, e7, h7, hT, fun m hm => ?_⟩
          rw [List.length_map] at hc
          rw [hc m hm, cs, if_pos (by rw [← hl]; exact Nat.mod_lt _ (by omega))]
      · have hz0 : z = 0 := by
          rw [Bool.not_eq_false', decide_eq_true_iff] at hb
          exact hb
        refine ⟨T, _, _, _, _, rfl, (e4.trans e3).trans e5, e5 _ _ (e3 _ _ h4), hT, fun m hm => ?_⟩
        rw [hc m hm, cs, coef_of hz, hz0, Int.zero_mul]
        omega
    · obtain ⟨T, x1, x2, x3, x4, rfl, e4, h4, hT, hc⟩ := hp
      rw [List.length_map] at hc
      have eT : T = mulS f g := mkL_of hT fun m hm => hc m hm
      refine s_ret (v := .ref t) (by one_place) fun H5 e5 => ?_
      exact q.go (Ex.refl H) ntH (e4.trans e5) (by rw [← eT]; exact e5 _ _ h4)
end
/- turned: slots 0 some, 1 j, 2 n, 3 place; calls  -/
abbrev s_turned : Stmt := topS 3
theorem sc_turned : FnScope ["some", "j", "n", "place"] ["some", "j"] (defScope s_turned) := ⟨rfl, rfl, rfl, by decide +kernel, rfl, by decide +kernel, by decide +kernel⟩

def spTurned (K : PySem.W.Frag) : Sp := fun vs H Q _ => ∃ (a : Addr) (f : List Int) (j : Int), vs = [.ref a, .int j] ∧ SqL K H a (f.map V.int) ∧ f.length ≤ 40000 ∧ RetL ((turnS f j).map V.int) H Q
/- spread: slots 0 some, 1 k, 2 wide, 3 place, 4 number; calls  -/
abbrev s_spread : Stmt := topS 4
theorem sc_spread : FnScope ["some", "k", "wide", "place", "number"] ["some", "k"] (defScope s_spread) := ⟨rfl, rfl, rfl, by decide +kernel, rfl, by decide +kernel, by decide +kernel⟩

def spSpread (K : PySem.W.Frag) : Sp := fun vs H Q _ => ∃ (a : Addr) (f : List Int) (k : Nat), vs = [.ref a, .int (k : Nat)] ∧ SqL K H a (f.map V.int) ∧ f.length ≤ 400 ∧ 1 ≤ k ∧ k ≤ 100 ∧ RetL ((spreadS f k).map V.int) H Q
section
variable {P : Program} {w : World} {K : PySem.W.Frag} {mg : Str → Option Value} {base : Heap}
theorem cal_turned (nb : Nb mg) (d : Dfn K mg "turned" ["some", "j"] s_turned) : Cal P w K mg base CX0 "turned" 1 ["some", "j"] (spTurned K) := by
  refine d.cal sc_turned (fun vs H Q E h => ?_) (fun fa cdv A outer s H vs Q E hr h => ?_)
  · obtain ⟨a, f, j, rfl, _⟩ := h
    rfl
  · obtain ⟨a, f, j, rfl, hF, hz, q⟩ := h
    refine ⟨_, (pss_cons (ps_set (i := 2) sc_turned.nd rfl (.inr rfl) (pe_callB call_len_seq (by rfl) nb.len PySem.boot_len (pa_cons (pv 0) pa_nil)))
      (pss_one (ps_ret (pe_lc (own := [("place", 3)]) (g := gName 3) (tt := tYes) (te := (tOp (rIxL K) (tVar 0) (tOp (rI (fun _ j => 0 < j) fun i j => .int (i % j)) (tOp (rI0 fun i j => .int (i - j)) (tVar 3) (tVar 1)) (tVar 2)))) (by rfl) sc_turned.nd (pi_range1 (by rfl) nb.range (pa_cons (pv 2) pa_nil)) (blkOk_by (N := ["some", "j", "n", "place"]) (sc := defScope s_turned) (by decide +kernel)) (fun _ _ _ _ _ => (pg_name (i := 3) sc_turned.nd rfl (Or.inl rfl))) (fun _ _ _ _ _ => pts_nil) (fun _ _ _ _ _ => (pe_ix ix_list (pv 0) (pe_op op_mod (pe_op op_sub (pv 3) (pv 1)) (pv 2)) (fun _ _ => rfl))))))), ?_⟩
    refine q_asg (v := .int ((f.length : Nat) : Int)) (ev_is (ev_len (ev_var rfl) hF) (by rw [List.length_map])) fun H1 e1 => ?_
    refine s_retL (xs := (turnS f j).map V.int) (el_is (el_lcR1 (n := (f.length : Int)) (fun _ => true) (fun m => .int (coef f (((m : Int) - j) % (f.length : Int)).toNat)) (by one_place) (by omega) (fun x => rfl) (fun i H2 e2 hi => et_yes) (fun i H2 e2 hi _ => ?_)) ?_) fun p H2 np e2 hp => q.go e1 np e2 hp
    · have h0 := Int.emod_nonneg ((i : Int) - j) (show (f.length : Int) ≠ 0 by omega)
      have h1 := Int.emod_lt_of_pos ((i : Int) - j) (show 0 < (f.length : Int) by omega)
      exact ev_ixI (j := (((i : Int) - j) % (f.length : Int)).toNat) (ex_l (e1.trans e2) hF) (ev_var rfl) (ev_is (v := .int (((i : Int) - j) % (f.length : Int))) (ev_mod (ev_sub (ev_var rfl) (ev_var rfl)) (ev_var rfl) (by omega)) (by congr 1; omega)) (coef_get (by omega))
    · unfold given
      rw [filter_yes, Int.toNat_natCast]
      unfold turnS mkL
      rw [List.map_map]
      rfl
theorem cal_spread (nb : Nb mg) (d : Dfn K mg "spread" ["some", "k"] s_spread) : Cal P w K mg base CX0 "spread" 1 ["some", "k"] (spSpread K) := by
  refine d.cal sc_spread (fun vs H Q E h => ?_) (fun fa cdv A outer s H vs Q E hr h => ?_)
  · obtain ⟨a, f, k, rfl, _⟩ := h
    rfl
  · obtain ⟨a, f, k, rfl, hF, hz, k1, k2, q⟩ := h
    refine ⟨_, (pss_cons (ps_set (i := 2) sc_spread.nd rfl (.inl rfl) (pe_op op_rep (pe_lst (pa_cons pe_int pa_nil)) (pe_op op_mulW (pv 1) (pe_callB call_len_seq (by rfl) nb.len PySem.boot_len (pa_cons (pv 0) pa_nil)))))
      (pss_cons (ps_for PassesOwn.never rfl (pi_enum (by rfl) nb.enumerate (pa_cons (pv 0) pa_nil)) (pg_tup (by rfl) (pgs_cons (pg_name (i := 3) sc_spread.nd rfl (.inl rfl)) (pgs_cons (pg_name (i := 4) sc_spread.nd rfl (.inl rfl)) pgs_nil))) (pss_one (ps_asg (pv 4) (pg_sub (pv 2) (pe_op op_mulW (pv 1) (pv 3)) set_list))))
      (pss_one (ps_ret (pv 2))))), ?_⟩
    have hkn : k * f.length ≤ 100 * 400 := Nat.mul_le_mul k2 hz
    refine q_asgL (xs := (List.replicate (k * f.length) (0 : Int)).map V.int) (el_is (el_rep (k := ((k * f.length : Nat) : Int)) (el_lst (by one_place) (by decide)) (ev_is (ev_mul (ev_var rfl) (ev_len (ev_var rfl) hF) (mulW (by omega) (by rw [List.length_map]; omega))) (by rw [List.length_map]; rfl)) (by omega) (by omega)) (by rw [List.map_replicate, Int.toNat_natCast])) fun t H2 nt e2 h2 => ?_
    refine q_forE (xs := f.map V.int) (by one_place) (ex_l e2 hF) (fun i σ' H' => ∃ (T : List Int) (x y : Option V), σ' = [some (.ref a), some (.int (k : Nat)), some (.ref t), x, y] ∧ Ex H H' ∧ H' t = some (.lst (T.map V.int)) ∧ T.length = k * f.length ∧ ∀ m, m < k * f.length → coef T m = if m % k = 0 ∧ m / k < i then coef f (m / k) else 0)
      (fun H3 e3 => ⟨_, none, none, rfl, e2.trans e3, e3 _ _ h2, List.length_replicate, fun m _ => by rw [coef_rep, if_neg (fun z => absurd z.2 (Nat.not_lt_zero _))]⟩) (fun i σ' H' _ hp => ?_) (fun i x σ' H' hx hp H3 e3 => ?_) (fun σ' H' hp => ?_)
    · obtain ⟨_, _, _, _, e3, _⟩ := hp
      exact ex_l e3 hF
    · obtain ⟨T, x1, x2, rfl, e4, h4, hT, hc⟩ := hp
      obtain ⟨z, hz, rfl⟩ := map_get hx
      have hi := (List.getElem?_eq_some_iff.mp hz).1
      have hlt := spread_lt k1 hi
      refine s_setI (j := k * i) (b := z) (e3 _ _ h4) (by one_place) (ev_is (ev_mul (ev_var rfl) (ev_var rfl) (mulW (by omega) (by omega))) (by rfl)) (by omega) (ev_var rfl) fun H5 e5 => ⟨_, _, _, rfl, Ex.mut ((e4.trans e3).trans e5) nt, upd_same, by rw [List.length_set]; exact hT, fun m hm => ?_⟩
      rw [coef_set (by omega), hc m hm]
      have key := spread_eq (a := i) (m := m) k1
      by_cases e : m = k * i
      · have k3 := key.mp e
        rw [if_pos e, if_pos ⟨k3.1, by omega⟩, k3.2, coef_of hz]
      · rw [if_neg e]
        by_cases g1 : m % k = 0
        · have : m / k ≠ i := fun q => e (key.mpr ⟨g1, q⟩)
          by_cases g2 : m / k < i
          · rw [if_pos ⟨g1, g2⟩, if_pos ⟨g1, by omega⟩]
          · rw [if_neg (fun z => g2 z.2), if_neg (fun z => by omega)]
        · rw [if_neg (fun z => g1 z.1), if_neg (fun z => g1 z.1)]
    · obtain ⟨T, x1, x2, rfl, e4, h4, hT, hc⟩ := hp
      rw [List.length_map] at hc
      have eT : T = spreadS f k := mkL_of hT fun m hm => by rw [hc m hm, pw_lt k1]
      refine s_ret (v := .ref t) (by one_place) fun H5 e5 => ?_
      exact q.go (Ex.refl H) nt (e4.trans e5) (by rw [← eT]; exact e5 _ _ h4)
end

/- _law_mix: slots 0 _law_cell, 1 _law_k, 2 _law_turn, 3 _law_number; calls  -/
abbrev s__law_mix : Stmt := topS 7
theorem sc__law_mix : FnScope ["_law_cell", "_law_k", "_law_turn", "_law_number"] ["_law_cell", "_law_k"] (defScope s__law_mix) := ⟨rfl, rfl, rfl, by decide +kernel, rfl, by decide +kernel, by decide +kernel⟩

/-- the law's own mixing of a cell -/
def divs : Nat → Int → Int
  | 0, c => c
  | n + 1, c => divs n c / 1000000
def mix0 (c k : Int) : Int := (c % 1000003 + k * k * 7919 + k) * 48271 % 2147483629
def mix1 (c k : Int) : Int := mix0 c k * mix0 c k % 2147483587
def mix (c k : Int) : Int := if 1000000000000000000 ≤ c then divs k.toNat (c % (1000000000000000000000000000000000000000000000000000000000000 : Int) ^ 20) % 1000000 else mix1 c k * (mix1 c k + 2) % 2147483579 / 7
theorem mix_nn (c k : Int) : 0 ≤ mix c k := by
  unfold mix
  split
  · omega
  · omega
theorem mix_le (c k : Int) : mix c k ≤ 306783369 := by
  unfold mix
  split
  · omega
  · omega
def spMix : Sp := fun vs H Q _ => ∃ c k : Int, vs = [.int c, .int k] ∧ 0 ≤ k ∧ k ≤ 100 ∧ RetV (.int (mix c k)) H Q
section
variable {P : Program} {w : World} {K : PySem.W.Frag} {mg : Str → Option Value} {base : Heap}
theorem cal_mix (nb : Nb mg) (d : Dfn K mg "_law_mix" ["_law_cell", "_law_k"] s__law_mix) : Cal P w K mg base CX0 "_law_mix" 1 ["_law_cell", "_law_k"] spMix := by
  refine d.cal sc__law_mix (fun vs H Q E h => ?_) (fun f cdv A outer s H vs Q E hr h => ?_)
  · obtain ⟨c, k, rfl, _⟩ := h
    rfl
  · obtain ⟨c, k, rfl, h0, h1, q⟩ := h
    refine ⟨_, (pss_cons (ps_if (pt_cmpR op_ge (pv 0) (pe_op op_powW pe_int pe_int) (nomark _)) (pss_cons (ps_set (i := 0) sc__law_mix.nd rfl (.inl rfl) (pe_op op_mod (pv 0) (pe_op op_powW (pe_op op_powW pe_int pe_int) pe_int)))
      (pss_cons (ps_for PassesOwn.never rfl (pi_range1 (by rfl) nb.range (pa_cons (pv 1) pa_nil)) (pg_name (i := 2) sc__law_mix.nd rfl (.inl rfl)) (pss_one (ps_set (i := 0) sc__law_mix.nd rfl (.inl rfl) (pe_op op_fdivW (pv 0) (pe_op op_powW pe_int pe_int)))))
      (pss_one (ps_ret (pe_op op_mod (pv 0) (pe_op op_powW pe_int pe_int)))))) pss_nil)
      (pss_cons (ps_set (i := 3) sc__law_mix.nd rfl (.inl rfl) (pe_op op_mod (pe_op op_mulW (pe_op op_add (pe_op op_add (pe_op op_mod (pv 0) pe_int) (pe_op op_mulW (pe_op op_mulW (pv 1) (pv 1)) pe_int)) (pv 1)) pe_int) pe_int))
      (pss_cons (ps_set (i := 3) sc__law_mix.nd rfl (.inl rfl) (pe_op op_mod (pe_op op_mulW (pv 3) (pv 3)) pe_int))
      (pss_one (ps_ret (pe_op op_fdivW (pe_op op_mod (pe_op op_mulW (pv 3) (pe_op op_add (pv 3) pe_int)) pe_int) pe_int)))))), ?_⟩
    refine q_when (b := decide (1000000000000000000 ≤ c)) (by one_place) (fun hb H1 e1 => ?_) (fun hb H1 e1 => ?_)
    · refine q_asg (v := .int (c % (1000000000000000000000000000000000000000000000000000000000000 : Int) ^ 20)) (ev_mod (by one_place) (ev_pow (i := 1000000000000000000000000000000000000000000000000000000000000) (ev_pow (i := 10) (by one_place) (by one_place) ⟨by decide, by decide +kernel⟩ (by rfl)) (by one_place) ⟨by decide, by decide +kernel⟩ rfl) (Int.pow_pos (by decide))) fun H2 e2 => ?_
      refine q_forR1 (n := k) (by one_place) (by omega) (fun i σ' H' => ∃ x, σ' = [some (.int (divs i (c % (1000000000000000000000000000000000000000000000000000000000000 : Int) ^ 20))), some (.int k), x, none] ∧ Ex H H') (fun H3 e3 => ⟨none, rfl, (e1.trans e2).trans e3⟩) (fun i σ' H' hi hp => ?_) (fun σ' H' hp => ?_)
      · obtain ⟨x, rfl, e4⟩ := hp
        refine s_asg (v := .int (divs (i + 1) (c % (1000000000000000000000000000000000000000000000000000000000000 : Int) ^ 20))) (ev_is (by one_place) rfl) fun H5 e5 => ⟨_, rfl, e4.trans e5⟩
      · obtain ⟨x, rfl, e4⟩ := hp
        refine s_ret (v := .int (mix c k)) (ev_is (by one_place) ?_) fun H5 e5 => q _ (e4.trans e5)
        unfold mix
        rw [if_pos (of_decide_eq_true hb)]
    · have b0 : 0 ≤ mix0 c k := by
        unfold mix0
        omega
      have b1 : mix0 c k < 2147483629 := by
        unfold mix0
        omega
      have b2 : 0 ≤ mix1 c k := by
        unfold mix1
        omega
      have b3 : mix1 c k < 2147483587 := by
        unfold mix1
        omega
      have b4 : 0 ≤ k * k := Int.mul_nonneg h0 h0
      have b5 : k * k ≤ 100 * 100 := Int.mul_le_mul h1 h1 h0 (by decide)
      refine q_asg (v := .int (mix0 c k)) (by one_place) fun H2 e2 => ?_
      refine q_asg (v := .int (mix1 c k)) (by one_place) fun H3 e3 => ?_
      refine s_ret (v := .int (mix c k)) (ev_is (by one_place) ?_) fun H5 e5 => q _ (((e1.trans e2).trans e3).trans e5)
      unfold mix
      rw [if_neg (of_decide_eq_false hb)]
end

/- _law_whole: slots 0 _law_got, 1 _law_one; calls  -/
abbrev s__law_whole : Stmt := topS 11
theorem sc__law_whole : FnScope ["_law_got", "_law_one"] ["_law_got"] (defScope s__law_whole) := ⟨rfl, rfl, rfl, by decide +kernel, rfl, by decide +kernel, by decide +kernel⟩

def spWhole : Sp := fun vs H Q _ => ∃ (a : Addr) (ns : List Int), vs = [.ref a] ∧ H a = some (.lst (ns.map V.int)) ∧ RetV (.bl true) H Q
section
variable {P : Program} {w : World} {K : PySem.W.Frag} {mg : Str → Option Value} {base : Heap}
theorem cal_whole (nb : Nb mg) (d : Dfn K mg "_law_whole" ["_law_got"] s__law_whole) : Cal P w K mg base CX0 "_law_whole" 1 ["_law_got"] spWhole := by
  refine d.cal sc__law_whole (fun vs H Q E h => ?_) (fun f cdv A outer s H vs Q E hr h => ?_)
  · obtain ⟨a, ns, rfl, _⟩ := h
    rfl
  · obtain ⟨a, ns, rfl, ha, q⟩ := h
    refine ⟨_, (pss_cons (ps_if (pt_not (pt_val (pe_callB call_isi (by rfl) nb.isinstance (by decide +kernel) (pa_cons (pv 0) (pa_cons (pe_bltn (v := .ty "list") (by rfl) nb.list (by decide +kernel) rfl) pa_nil))))) (pss_one (ps_ret pe_bl)) pss_nil)
      (pss_cons (ps_for PassesOwn.never rfl (pi_list (pv 0)) (pg_name (i := 1) sc__law_whole.nd rfl (.inl rfl)) (pss_one (ps_if (PW.pt (pw_or (pt_not (pt_val (pe_callB call_isi (by rfl) nb.isinstance (by decide +kernel) (pa_cons (pv 1) (pa_cons (pe_bltn (v := .ty "int") (by rfl) nb.int (by decide +kernel) rfl) pa_nil))))) (pw_or1 (pt_val (pe_callB call_isi (by rfl) nb.isinstance (by decide +kernel) (pa_cons (pv 1) (pa_cons (pe_bltn (v := .ty "bool") (by rfl) nb.bool (by decide +kernel) rfl) pa_nil))))))) (pss_one (ps_ret pe_bl)) pss_nil)))
      (pss_one (ps_ret pe_bl)))), ?_⟩
    refine q_when (b := false) (et_is (et_not (et_B (ev_isi (b := true) (by one_place) (tx_lst ha) (by decide +kernel)))) rfl) (fun hb => nomatch hb) (fun _ H1 e1 => ?_)
    refine q_forLn (xs := ns.map V.int) (by one_place) (SqL.of (e1 _ _ ha)) (fun i σ' H' => ∃ x, σ' = [some (.ref a), x] ∧ Ex H H') (fun H2 e2 => ⟨none, rfl, e1.trans e2⟩) (fun i σ' H' _ hp => ?_) (fun i x σ' H' hx hp => ?_) (fun σ' H' hp => ?_)
    · obtain ⟨y, rfl, e3⟩ := hp
      exact SqL.of (e3 _ _ ha)
    · obtain ⟨y, rfl, e3⟩ := hp
      obtain ⟨z, rfl⟩ := int_of_mem (List.mem_of_getElem? hx)
      exact s_when (b := false) (et_is (et_or (et_not (et_B (ev_isi (b := true) (by one_place) tx_int (by decide +kernel)))) fun _ => et_B (ev_isi (b := false) (by one_place) tx_int (by decide +kernel))) rfl) (fun hb => nomatch hb) (fun _ H4 e4 => ⟨_, rfl, e3.trans e4⟩)
    · obtain ⟨y, rfl, e3⟩ := hp
      exact s_ret (v := .bl true) (by one_place) fun H4 e4 => q _ (e3.trans e4)
end

/-! ### the law's drawn sums -/
/- _law_sum: slots 0 _law_n, 1 _law_cell, 2 _law_wide, 3 _law_told, 4 _law_j, 5 _law_pick; calls _law_mix -/
abbrev s__law_sum : Stmt := topS 10
theorem sc__law_sum : FnScope ["_law_n", "_law_cell", "_law_wide", "_law_told", "_law_j", "_law_pick"] ["_law_n", "_law_cell", "_law_wide"] (defScope s__law_sum) := ⟨rfl, rfl, rfl, by decide +kernel, rfl, by decide +kernel, by decide +kernel⟩

def lsPick (c : Int) (j : Nat) : Int := mix c ((j : Int) % 20) / (1 + (j : Int) / 20)
def lsItem (c w : Int) (j : Nat) : Int := ([0, lsPick c j / 4 % 7 - 3, lsPick c j / 4 % 3 - 1, (lsPick c j / 4 % 19 - 9) * w] : List Int).getD (lsPick c j % 4).toNat 0
def lsumF (n c w : Int) : List Int := mkL n.toNat (lsItem c w)
theorem lsItem_bd (c w : Int) (j : Nat) (hw : w.natAbs < 2 ^ 110) : (lsItem c w j).natAbs < 2 ^ 120 := by
  unfold lsItem
  have hl : (lsPick c j % 4).toNat < 4 := by omega
  generalize lsPick c j = z at *
  have hb : ∀ i, i < 4 → (([0, z / 4 % 7 - 3, z / 4 % 3 - 1, (z / 4 % 19 - 9) * w] : List Int).getD i 0).natAbs < 2 ^ 120 := fun i hi => by
    rcases i with _ | _ | _ | _ | i
    · show (0 : Int).natAbs < _
      omega
    · show (z / 4 % 7 - 3).natAbs < _
      omega
    · show (z / 4 % 3 - 1).natAbs < _
      omega
    · show ((z / 4 % 19 - 9) * w).natAbs < _
      rw [Int.natAbs_mul]
      have h1 : (z / 4 % 19 - 9).natAbs ≤ 10 := by omega
      have := Nat.mul_le_mul h1 (Nat.le_of_lt hw)
      omega
    · omega
  exact hb _ hl
theorem lsumF_len (n c w : Int) (h : 0 ≤ n) : ((lsumF n c w).length : Int) = n := by
  unfold lsumF
  rw [mkL_len]
  omega
theorem lsumF_bd (n c w : Int) (hw : w.natAbs < 2 ^ 110) : Bd 120 (lsumF n c w) := fun m => by
  unfold lsumF
  rw [coef_mkL]
  split
  · exact lsItem_bd c w m hw
  · exact Nat.two_pow_pos 120
def spLSum : Sp := fun vs H Q _ => ∃ n c w : Int, vs = [.int n, .int c, .int w] ∧ 0 ≤ n ∧ n ≤ 1000 ∧ w.natAbs < 2 ^ 110 ∧ RetL ((lsumF n c w).map V.int) H Q
section
variable {P : Program} {w : World} {K : PySem.W.Frag} {mg : Str → Option Value} {base : Heap}
theorem cal_lsum (nb : Nb mg) (c__law_mix : Cal P w K mg base CX0 "_law_mix" 1 ["_law_cell", "_law_k"] spMix) (d : Dfn K mg "_law_sum" ["_law_n", "_law_cell", "_law_wide"] s__law_sum) : Cal P w K mg base CX0 "_law_sum" 2 ["_law_n", "_law_cell", "_law_wide"] spLSum := by
  refine d.cal sc__law_sum (fun vs H Q E h => ?_) (fun fa cdv A outer s H vs Q E hr h => ?_)
  · obtain ⟨n, c, w, rfl, _⟩ := h
    rfl
  · obtain ⟨n, c, w, rfl, n0, n1, hw, q⟩ := h
    refine ⟨_, (pss_cons (ps_set (i := 3) sc__law_sum.nd rfl (.inl rfl) (pe_lst pa_nil))
      (pss_cons (ps_for PassesOwn.never rfl (pi_range1 (by rfl) nb.range (pa_cons (pv 0) pa_nil)) (pg_name (i := 4) sc__law_sum.nd rfl (.inl rfl)) (pss_cons (ps_set (i := 5) sc__law_sum.nd rfl (.inl rfl) (pe_op op_fdivW (pe_cal c__law_mix (hr.mono (by first | decide | omega)) (by rfl) pass0 (pa_cons (pv 1) (pa_cons (pe_op op_mod (pv 4) pe_int) pa_nil))) (pe_op op_add pe_int (pe_op op_fdivW (pv 4) pe_int))))
      (pss_one (ps_expr (pe_bm PySem.F.plainAttrs_list PySem.F.slot_list_append PySem.F.type_list_append mt_append (pv 3) (pa_cons (pe_ix ix_list (pe_lst (pa_cons pe_int (pa_cons (pe_op op_sub (pe_op op_mod (pe_op op_fdivW (pv 5) pe_int) pe_int) pe_int) (pa_cons (pe_op op_sub (pe_op op_mod (pe_op op_fdivW (pv 5) pe_int) pe_int) pe_int) (pa_cons (pe_op op_mulW (pe_op op_sub (pe_op op_mod (pe_op op_fdivW (pv 5) pe_int) pe_int) pe_int) (pv 2)) pa_nil))))) (pe_op op_mod (pv 5) pe_int) (fun _ _ => rfl)) pa_nil))))))
      (pss_one (ps_ret (pv 3))))), ?_⟩
    refine q_asgL (xs := []) (el_lst ea_nil (by decide)) fun t H1 nt e1 h1 => ?_
    refine q_forR1 (n := n) (by one_place) (by omega) (fun i σ' H' => ∃ x y, σ' = [some (.int n), some (.int c), some (.int w), some (.ref t), x, y] ∧ Ex H H' ∧ H' t = some (.lst ((mkL i (lsItem c w)).map V.int)))
      (fun H2 e2 => ⟨none, none, rfl, e1.trans e2, e2 _ _ h1⟩) (fun i σ' H' hi hp => ?_) (fun σ' H' hp => ?_)
    · obtain ⟨x, y, rfl, e2, h2⟩ := hp
      refine q_asg (v := .int (lsPick c i)) (ev_div (ev_cal (vs := [.int c, .int ((i : Int) % 20)]) (by one_place) fun H3 e3 Q k E => ⟨c, (i : Int) % 20, rfl, by omega, by omega, k⟩) (by one_place) (divW (by omega) (by omega))) fun H3 e3 => ?_
      refine s_app (v := .int (lsItem c w i)) (e3 _ _ h2) (by one_place) (ev_ixN (ns := [0, lsPick c i / 4 % 7 - 3, lsPick c i / 4 % 3 - 1, (lsPick c i / 4 % 19 - 9) * w]) (el_lst (by one_place) (by show 4 ≤ 100000; decide)) (fun _ _ => by one_place) (by omega) (by simp; omega)) (by rw [List.length_map, mkL_len]; omega) fun H4 e4 => ⟨_, _, rfl, Ex.mut ((e2.trans e3).trans e4) nt, ?_⟩
      rw [upd_same]
      unfold mkL
      rw [List.range_succ, List.map_append, List.map_append]
      rfl
    · obtain ⟨x, y, rfl, e2, h2⟩ := hp
      exact s_ret (v := .ref t) (by one_place) fun H5 e5 => q.go (Ex.refl H) nt (e2.trans e5) (e5 _ _ h2)
end

/- _law_product: slots 0 _law_one, 1 _law_other, 2 _law_n, 3 _law_told, 4 _law_i, 5 _law_j, 6 _law_at; calls  -/
abbrev s__law_product : Stmt := topS 12
theorem sc__law_product : FnScope ["_law_one", "_law_other", "_law_n", "_law_told", "_law_i", "_law_j", "_law_at"] ["_law_one", "_law_other"] (defScope s__law_product) := ⟨rfl, rfl, rfl, by decide +kernel, rfl, by decide +kernel, by decide +kernel⟩

def spProd (K : PySem.W.Frag) : Sp := fun vs H Q _ => ∃ (a b : Addr) (f g : List Int) (n m : Nat), vs = [.ref a, .ref b] ∧ SqL K H a (f.map V.int) ∧ SqL K H b (g.map V.int) ∧ f.length = g.length ∧ f.length ≤ 10000 ∧ Bd n f ∧ Bd m g ∧ n + m ≤ 900000 ∧ RetL ((mulS f g).map V.int) H Q
section
variable {P : Program} {w : World} {K : PySem.W.Frag} {mg : Str → Option Value} {base : Heap}
theorem cal_product (nb : Nb mg) (d : Dfn K mg "_law_product" ["_law_one", "_law_other"] s__law_product) : Cal P w K mg base CX0 "_law_product" 1 ["_law_one", "_law_other"] (spProd K) := by
  refine d.cal sc__law_product (fun vs H Q E h => ?_) (fun fa cdv A outer s H vs Q E hr h => ?_)
  · obtain ⟨a, b, f, g, n, m, rfl, _⟩ := h
    rfl
  · obtain ⟨a, b, f, g, bn, bm, rfl, hF, hG, hl, zf, bf, bg, hnm, q⟩ := h
    refine ⟨_, (pss_cons (ps_set (i := 2) sc__law_product.nd rfl (.inl rfl) (pe_callB call_len_seq (by rfl) nb.len PySem.boot_len (pa_cons (pv 0) pa_nil)))
      (pss_cons (ps_set (i := 3) sc__law_product.nd rfl (.inl rfl) (pe_op op_rep (pe_lst (pa_cons pe_int pa_nil)) (pv 2)))
      (pss_cons (ps_for PassesOwn.never rfl (pi_range1 (by rfl) nb.range (pa_cons (pv 2) pa_nil)) (pg_name (i := 4) sc__law_product.nd rfl (.inl rfl)) (pss_one (ps_for PassesOwn.never rfl (pi_range1 (by rfl) nb.range (pa_cons (pv 2) pa_nil)) (pg_name (i := 5) sc__law_product.nd rfl (.inl rfl)) (pss_cons (ps_set (i := 6) sc__law_product.nd rfl (.inl rfl) (pe_op op_mod (pe_op op_add (pv 4) (pv 5)) (pv 2)))
      (pss_one (ps_asg (pe_op op_add (pe_ix ix_list (pv 3) (pv 6) (fun _ _ => rfl)) (pe_op op_mulW (pe_ix ix_list (pv 0) (pv 4) (fun _ _ => rfl)) (pe_ix ix_list (pv 1) (pv 5) (fun _ _ => rfl)))) (pg_sub (pv 3) (pv 6) set_list)))))))
      (pss_one (ps_ret (pv 3)))))), ?_⟩
    refine q_asg (v := .int ((f.length : Nat) : Int)) (ev_is (ev_len (ev_var rfl) hF) (by rw [List.length_map])) fun H1 e1 => ?_
    refine q_asgL (xs := (List.replicate f.length (0 : Int)).map V.int) (el_is (el_rep (k := (f.length : Int)) (el_lst (by one_place) (by decide)) (by one_place) (by omega) (by omega)) (by rw [List.map_replicate, Int.toNat_natCast])) fun t H2 nt e2 h2 => ?_
    have e02 := e1.trans e2
    have ntH : H t = none := fresh_back e1 nt
    refine q_forR1 (n := (f.length : Int)) (by one_place) (by omega) (fun i σ' H' => ∃ (T : List Int) (x y z : Option V), σ' = [some (.ref a), some (.ref b), some (.int ((f.length : Nat) : Int)), some (.ref t), x, y, z] ∧ Ex H H' ∧ H' t = some (.lst (T.map V.int)) ∧ T.length = f.length ∧ ∀ m, m < f.length → coef T m = cs f g f.length i m)
      (fun H3 e3 => ⟨_, none, none, none, rfl, e02.trans e3, e3 _ _ h2, List.length_replicate, fun m _ => coef_rep⟩) (fun i σ' H' hi hp => ?_) (fun σ' H' hp => ?_)
    · obtain ⟨T, x1, x2, x3, rfl, e4, h4, hT, hc⟩ := hp
      have hi2 : i < f.length := by omega
      refine s_forR1 (n := (f.length : Int)) (by one_place) (by omega) (fun j σ' H' => ∃ (T : List Int) (x y : Option V), σ' = [some (.ref a), some (.ref b), some (.int ((f.length : Nat) : Int)), some (.ref t), some (.int (i : Nat)), x, y] ∧ Ex H H' ∧ H' t = some (.lst (T.map V.int)) ∧ T.length = f.length ∧ ∀ m, m < f.length → coef T m = cs f g f.length i m + if (m + f.length - i) % f.length < j then coef f i * coef g ((m + f.length - i) % f.length) else 0)
        (fun H6 e6 => ⟨T, _, _, rfl, e4.trans e6, e6 _ _ h4, hT, fun m hm => ?_⟩) (fun j σ' H' hj hp => ?_) (fun σ' H' hp => ?_)
      · rw [hc m hm, if_neg (by omega)]
        omega
      · obtain ⟨T, y1, y2, rfl, e7, h7, hT, hc⟩ := hp
        have hj2 : j < f.length := by omega
        have hlt : (i + j) % f.length < f.length := Nat.mod_lt _ (by omega)
        refine q_asg (v := .int (((i + j) % f.length : Nat) : Int)) (ev_is (ev_mod (ev_add (ev_var rfl) (ev_var rfl)) (ev_var rfl) (by omega)) (by rfl)) fun H8 e8 => ?_
        refine s_setI (j := (i + j) % f.length) (b := coef T ((i + j) % f.length) + coef f i * coef g j) (e8 _ _ h7) (by one_place) (by one_place) (by omega) (ev_add (ev_ixI (j := (i + j) % f.length) (SqL.of (e8 _ _ h7)) (ev_var rfl) (ev_var rfl) (coef_get (by omega))) (ev_mul (ev_ixI (j := i) (ex_l (e7.trans e8) hF) (ev_var rfl) (ev_var rfl) (coef_get (by omega))) (ev_ixI (j := j) (ex_l (e7.trans e8) hG) (ev_var rfl) (ev_var rfl) (coef_get (by omega))) (mulB (bf i) (bg j) hnm))) fun H9 e9 => ⟨_, _, _, rfl, Ex.mut ((e7.trans e8).trans e9) ntH, upd_same, by rw [List.length_set]; exact hT, fun m hm => ?_⟩
        rw [coef_set (by omega), hc m hm, hc _ hlt]
        have key := addmod_eq hi2 hj2 hm
        by_cases e : m = (i + j) % f.length
        · have k2 := key.mp e
          rw [if_pos e, ← e, k2, if_neg (Nat.lt_irrefl j), if_pos (by omega)]
          omega
        · rw [if_neg e]
          have k2 : (m + f.length - i) % f.length ≠ j := fun q => e (key.mpr q)
          split <;> split <;> first | rfl | omega
      · obtain ⟨T, y1, y2, rfl, e7, h7, hT, hc⟩ := hp
        refine ⟨T, _, _, _, rfl, e7, h7, hT, fun m hm => ?_⟩
        rw [Int.toNat_natCast] at hc
        rw [hc m hm, cs, if_pos (Nat.mod_lt _ (by omega))]
    · obtain ⟨T, x1, x2, x3, rfl, e4, h4, hT, hc⟩ := hp
      rw [Int.toNat_natCast] at hc
      have eT : T = mulS f g := mkL_of hT fun m hm => hc m hm
      refine s_ret (v := .ref t) (by one_place) fun H5 e5 => ?_
      exact q.go (Ex.refl H) ntH (e4.trans e5) (by rw [← eT]; exact e5 _ _ h4)
end
/- _law_right: slots 0 _law_one, 1 _law_other, 2 _law_j, 3 _law_k, 4 _law_n, 5 _law_handed, 6 _law_moved, 7 _law_wide, 8 _law_at, 9 _law_dues, 10 _law_again, 11 _law_told, 12 _law_row, 13 _law_x, 14 _law_y; calls _law_product, sum_times, sum_plus, spread, turned, _law_whole -/
abbrev s__law_right : Stmt := topS 13
theorem sc__law_right : FnScope ["_law_one", "_law_other", "_law_j", "_law_k", "_law_n", "_law_handed", "_law_moved", "_law_wide", "_law_at", "_law_dues", "_law_again", "_law_told", "_law_row", "_law_x", "_law_y"] ["_law_one", "_law_other", "_law_j", "_law_k"] (defScope s__law_right) := ⟨rfl, rfl, rfl, by decide +kernel, rfl, by decide +kernel, by decide +kernel⟩

def spRight (K : PySem.W.Frag) : Sp := fun vs H Q _ => ∃ (a b : Addr) (f g : List Int) (j : Int) (k : Nat), vs = [.ref a, .ref b, .int j, .int (k : Nat)] ∧ SqL K H a (f.map V.int) ∧ SqL K H b (g.map V.int) ∧ f.length = g.length ∧ f.length ≤ 100 ∧ Bd 120 f ∧ Bd 120 g ∧ 1 ≤ k ∧ k ≤ 5 ∧ RetV (.bl true) H Q
theorem dec_not {p : Prop} [Decidable p] (h : p) : (!decide p) = false := by
  rw [decide_eq_true h]
  rfl
section
variable {P : Program} {w : World} {K : PySem.W.Frag} {mg : Str → Option Value} {base : Heap}
theorem cal_right (nb : Nb mg) (c_sum_plus : Cal P w K mg base CX0 "sum_plus" 1 ["one", "other"] (spSPlus K)) (c_sum_times : Cal P w K mg base CX0 "sum_times" 1 ["one", "other"] (spSTimes K)) (c_turned : Cal P w K mg base CX0 "turned" 1 ["some", "j"] (spTurned K)) (c_spread : Cal P w K mg base CX0 "spread" 1 ["some", "k"] (spSpread K))
    (c__law_whole : Cal P w K mg base CX0 "_law_whole" 1 ["_law_got"] spWhole) (c__law_product : Cal P w K mg base CX0 "_law_product" 1 ["_law_one", "_law_other"] (spProd K))
    (d : Dfn K mg "_law_right" ["_law_one", "_law_other", "_law_j", "_law_k"] s__law_right) : Cal P w K mg base CX0 "_law_right" 2 ["_law_one", "_law_other", "_law_j", "_law_k"] (spRight K) := by
  refine d.cal sc__law_right (fun vs H Q E h => ?_) (fun fa cdv A outer s H vs Q E hr h => ?_)
  · obtain ⟨a, b, f, g, j, k, rfl, _⟩ := h
    rfl
  · obtain ⟨a, b, f, g, j, k, rfl, hF, hG, hl, hz, bf, bg, k1, k2, q⟩ := h
    refine ⟨_, (pss_cons (ps_set (i := 4) sc__law_right.nd rfl (.inl rfl) (pe_callB call_len_seq (by rfl) nb.len PySem.boot_len (pa_cons (pv 0) pa_nil)))
      (pss_cons (ps_set (i := 5) sc__law_right.nd rfl (.inl rfl) (pe_tup (pa_cons (pe_callTy call_list_of (by rfl) nb.list (by decide +kernel) (pa_cons (pv 0) pa_nil)) (pa_cons (pe_callTy call_list_of (by rfl) nb.list (by decide +kernel) (pa_cons (pv 1) pa_nil)) pa_nil))))
      (pss_cons (ps_set (i := 6) sc__law_right.nd rfl (.inl rfl) (pe_op op_rep (pe_lst (pa_cons pe_int pa_nil)) (pv 4)))
      (pss_cons (ps_set (i := 7) sc__law_right.nd rfl (.inl rfl) (pe_op op_rep (pe_lst (pa_cons pe_int pa_nil)) (pe_op op_mulW (pv 3) (pv 4))))
      (pss_cons (ps_for PassesOwn.never rfl (pi_range1 (by rfl) nb.range (pa_cons (pv 4) pa_nil)) (pg_name (i := 8) sc__law_right.nd rfl (.inl rfl)) (pss_cons (ps_asg (pe_ix ix_list (pv 0) (pv 8) (fun _ _ => rfl)) (pg_sub (pv 6) (pe_op op_mod (pe_op op_add (pv 8) (pv 2)) (pv 4)) set_list))
      (pss_one (ps_asg (pe_ix ix_list (pv 0) (pv 8) (fun _ _ => rfl)) (pg_sub (pv 7) (pe_op op_mulW (pv 3) (pv 8)) set_list)))))
      (pss_cons (ps_set (i := 9) sc__law_right.nd rfl (.inl rfl) (pe_lst (pa_cons (pe_lc (own := [("_law_x", 13), ("_law_y", 14)]) (g := gTup K 2 (gCons (gName 13) (gCons (gName 14) gNil))) (tt := tYes) (by rfl) sc__law_right.nd (pi_zip (by rfl) nb.zip (pa_cons (pv 0) (pa_cons (pv 1) pa_nil))) (blkOk_by (N := ["_law_one", "_law_other", "_law_j", "_law_k", "_law_n", "_law_handed", "_law_moved", "_law_wide", "_law_at", "_law_dues", "_law_again", "_law_told", "_law_row", "_law_x", "_law_y"]) (sc := defScope s__law_right) (by decide +kernel)) (fun _ _ _ _ _ => (pg_tup (by rfl) (pgs_cons (pg_name (i := 13) sc__law_right.nd rfl (Or.inl rfl)) (pgs_cons (pg_name (i := 14) sc__law_right.nd rfl (Or.inl rfl)) pgs_nil)))) (fun _ _ _ _ _ => pts_nil) (fun _ _ _ _ _ => (pe_op op_add (pv 13) (pv 14)))) (pa_cons (pe_cal c__law_product (hr.mono (by first | decide | omega)) (by rfl) pass0 (pa_cons (pv 0) (pa_cons (pv 1) pa_nil))) (pa_cons (pv 6) (pa_cons (pv 7) pa_nil))))))
      (pss_cons (ps_for PassesOwn.never rfl (pi_range1 (by rfl) nb.range (pa_cons pe_int pa_nil)) (pg_name (i := 10) sc__law_right.nd rfl (.inl rfl)) (pss_cons (ps_set (i := 11) sc__law_right.nd rfl (.inl rfl) (pe_lst (pa_cons (pe_cal c_sum_plus (hr.mono (by first | decide | omega)) (by rfl) pass0 (pa_cons (pe_ix ix_tup (pv 5) pe_int (fun _ _ => rfl)) (pa_cons (pe_ix ix_tup (pv 5) pe_int (fun _ _ => rfl)) pa_nil))) (pa_cons (pe_cal c_sum_times (hr.mono (by first | decide | omega)) (by rfl) pass0 (pa_cons (pe_ix ix_tup (pv 5) pe_int (fun _ _ => rfl)) (pa_cons (pe_ix ix_tup (pv 5) pe_int (fun _ _ => rfl)) pa_nil))) pa_nil))))
      (pss_cons (ps_set (i := 11) sc__law_right.nd rfl (.inl rfl) (pe_op op_cat (pv 11) (pe_lst (pa_cons (pe_cal c_turned (hr.mono (by first | decide | omega)) (by rfl) pass0 (pa_cons (pe_ix ix_tup (pv 5) pe_int (fun _ _ => rfl)) (pa_cons (pv 2) pa_nil))) (pa_cons (pe_cal c_spread (hr.mono (by first | decide | omega)) (by rfl) pass0 (pa_cons (pe_ix ix_tup (pv 5) pe_int (fun _ _ => rfl)) (pa_cons (pv 3) pa_nil))) pa_nil)))))
      (pss_cons (ps_if (PW.pt (pw_or (pt_cmpR (op_neD hr.units) (pv 11) (pv 9) (nomark _)) (pw_or1 (pt_cmpR (op_neD hr.units) (pv 5) (pe_tup (pa_cons (pv 0) (pa_cons (pv 1) pa_nil))) (nomark _))))) (pss_one (ps_ret pe_bl)) pss_nil)
      (pss_one (ps_for PassesOwn.never rfl (pi_list (pv 11)) (pg_name (i := 12) sc__law_right.nd rfl (.inl rfl)) (pss_cons (ps_if (pt_not (pt_val (pe_cal c__law_whole (hr.mono (by first | decide | omega)) (by rfl) pass0 (pa_cons (pv 12) pa_nil)))) (pss_one (ps_ret pe_bl)) pss_nil)
      (pss_one (ps_expr (pe_bm PySem.F.plainAttrs_list PySem.F.slot_list_append PySem.F.type_list_append mt_append (pv 12) (pa_cons pe_non pa_nil)))))))))))
      (pss_one (ps_ret pe_bl))))))))), ?_⟩
    have hkn : k * f.length ≤ 5 * 100 := Nat.mul_le_mul k2 hz
    refine q_asg (v := .int ((f.length : Nat) : Int)) (ev_is (ev_len (ev_var rfl) hF) (by rw [List.length_map])) fun H1 e1 => ?_
    refine q_asgT2 (xs := f.map V.int) (ys := g.map V.int) (el_list (ev_var rfl) (ex_l e1 hF)) (el_list (ev_var rfl) (ex_l e1 hG)) fun t p1 p2 H2 e2 ht hp1 hp2 => ?_
    have e12 := e1.trans e2
    refine q_asgL (xs := (List.replicate f.length (0 : Int)).map V.int) (el_is (el_rep (k := (f.length : Int)) (el_lst (by one_place) (by decide)) (by one_place) (by omega) (by omega)) (by rw [List.map_replicate, Int.toNat_natCast])) fun mv H3 nmv e3 h3 => ?_
    refine q_asgL (xs := (List.replicate (k * f.length) (0 : Int)).map V.int) (el_is (el_rep (k := ((k * f.length : Nat) : Int)) (el_lst (by one_place) (by decide)) (ev_is (ev_mul (ev_var rfl) (ev_var rfl) (mulW (by omega) (by omega))) (by rfl)) (by omega) (by omega)) (by rw [List.map_replicate, Int.toNat_natCast])) fun wd H4 nwd e4 h4 => ?_
    have nwd2 : H2 wd = none := fresh_back e3 nwd
    have ne : mv ≠ wd := fun e => by
      rw [← e, h3] at nwd
      cases nwd
    refine q_forR1 (n := (f.length : Int)) (by one_place) (by omega) (fun i σ' H' => ∃ (T U : List Int) (x : Option V), σ' = [some (.ref a), some (.ref b), some (.int j), some (.int (k : Nat)), some (.int ((f.length : Nat) : Int)), some (.ref t), some (.ref mv), some (.ref wd), x, none, none, none, none, none, none] ∧ Ex H2 H' ∧ H' mv = some (.lst (T.map V.int)) ∧ H' wd = some (.lst (U.map V.int)) ∧ T.length = f.length ∧ U.length = k * f.length
        ∧ (∀ m, m < f.length → coef T m = if (((m : Int) - j) % (f.length : Int)).toNat < i then coef f (((m : Int) - j) % (f.length : Int)).toNat else 0) ∧ ∀ m, m < k * f.length → coef U m = if m % k = 0 ∧ m / k < i then coef f (m / k) else 0)
      (fun H5 e5 => ⟨_, _, none, rfl, (e3.trans e4).trans e5, e5 _ _ (e4 _ _ h3), e5 _ _ h4, List.length_replicate, List.length_replicate, fun m _ => by rw [coef_rep, if_neg (by omega)], fun m _ => by rw [coef_rep, if_neg (fun z => absurd z.2 (Nat.not_lt_zero _))]⟩) (fun i σ' H' hi hp => ?_) (fun σ' H' hp => ?_)
    · obtain ⟨T, U, x, rfl, e5, h5, h6, hT, hU, cT, cU⟩ := hp
      have hi2 : i < f.length := by omega
      have m0 := Int.emod_nonneg ((i : Int) + j) (show (f.length : Int) ≠ 0 by omega)
      have m1 := Int.emod_lt_of_pos ((i : Int) + j) (show 0 < (f.length : Int) by omega)
      have hlt := spread_lt k1 hi2
      refine q_setI (j := (((i : Int) + j) % (f.length : Int)).toNat) (b := coef f i) h5 (ev_var rfl) (ev_is (v := .int (((i : Int) + j) % (f.length : Int))) (ev_mod (ev_add (ev_var rfl) (ev_var rfl)) (ev_var rfl) (by omega)) (by congr 1; omega)) (by omega) (ev_ixI (j := i) (ex_l (e12.trans e5) hF) (ev_var rfl) (ev_var rfl) (coef_get hi2)) fun H6 e6 => ?_
      have e56 : Ex H2 (upd H6 mv (.lst ((T.set (((i : Int) + j) % (f.length : Int)).toNat (coef f i)).map V.int))) := Ex.mut (e5.trans e6) nmv
      refine s_setI (j := k * i) (b := coef f i) (ns := U) (by rw [upd_ne ne.symm]; exact e6 _ _ h6) (by one_place) (ev_is (ev_mul (ev_var rfl) (ev_var rfl) (mulW (by omega) (by omega))) (by rfl)) (by omega) (ev_ixI (j := i) (ex_l (e12.trans e56) hF) (ev_var rfl) (ev_var rfl) (coef_get hi2)) fun H7 e7 => ⟨T.set (((i : Int) + j) % (f.length : Int)).toNat (coef f i), U.set (k * i) (coef f i), _, rfl, Ex.mut (e56.trans e7) nwd2, ?_, upd_same, by rw [List.length_set]; exact hT, by rw [List.length_set]; exact hU, fun m hm => ?_, fun m hm => ?_⟩
      · rw [upd_ne ne]
        exact e7 _ _ upd_same
      · rw [coef_set (by omega), cT m hm]
        have key := turn_eq (j := j) hi2 hm
        by_cases e : m = (((i : Int) + j) % (f.length : Int)).toNat
        · have k3 := key.mp (by omega)
          rw [if_pos e, if_pos (by omega), k3]
        · have k3 : (((m : Int) - j) % (f.length : Int)).toNat ≠ i := fun q => e (by have := key.mpr q; omega)
          rw [if_neg e]
          split <;> split <;> first | rfl | omega
      · rw [coef_set (by omega), cU m hm]
        have key := spread_eq (a := i) (m := m) k1
        by_cases e : m = k * i
        · have k3 := key.mp e
          rw [if_pos e, if_pos ⟨k3.1, by omega⟩, k3.2]
        · rw [if_neg e]
          by_cases g1 : m % k = 0
          · have : m / k ≠ i := fun q => e (key.mpr ⟨g1, q⟩)
            by_cases g2 : m / k < i
            · rw [if_pos ⟨g1, g2⟩, if_pos ⟨g1, by omega⟩]
            · rw [if_neg (fun z => g2 z.2), if_neg (fun z => by omega)]
          · rw [if_neg (fun z => g1 z.1), if_neg (fun z => g1 z.1)]
    · obtain ⟨T, U, x, rfl, e5, h5, h6, hT, hU, cT, cU⟩ := hp
      rw [Int.toNat_natCast] at cT cU
      have eT : T = turnS f j := mkL_of hT fun m hm => by
        have m0 := Int.emod_nonneg ((m : Int) - j) (show (f.length : Int) ≠ 0 by omega)
        have m1 := Int.emod_lt_of_pos ((m : Int) - j) (show 0 < (f.length : Int) by omega)
        rw [cT m hm, if_pos (by omega)]
      have eU : U = spreadS f k := mkL_of hU fun m hm => by rw [cU m hm, pw_lt k1]
      subst eT eU
      have e05 := e12.trans e5
      refine q_asgL4 (xs := (addS f g).map V.int) (ys := (mulS f g).map V.int) (y := .ref mv) (z := .ref wd) (el_is (el_lcZ (ns := f) (ms := g) (fun x y => .int (x + y)) (az_vv (ev_var rfl) (ev_var rfl) (ex_l e05 hF) (ex_l e05 hG)) hl (by omega) (fun _ _ => rfl) fun x y H1 e1 _ _ => by one_place) (zip_add f g)) (el_cal (by one_place) fun H8 e8 Q kk E => ⟨a, b, f, g, 120, 120, rfl, ex_l (e05.trans e8) hF, ex_l (e05.trans e8) hG, hl, by omega, bf, bg, by decide, kk⟩) (ev_var rfl) (ev_var rfl) fun d d1 d2 H6 e6 nd hd hd1 hd2 => ?_
      have hmv := e6 _ _ h5
      have hwd := e6 _ _ h6
      have e06 := e05.trans e6
      have e26 := e5.trans e6
      have hdues : ∀ {H7 : Hp}, Ex H6 H7 → Paired (fun p ns => SqL K H7 p (ns.map V.int)) [d1, d2, mv, wd] [addS f g, mulS f g, turnS f j, spreadS f k] := fun e7 => .cons (SqL.of (e7 _ _ hd1)) (.cons (SqL.of (e7 _ _ hd2)) (.cons (SqL.of (e7 _ _ hmv)) (.cons (SqL.of (e7 _ _ hwd)) .nil)))
      refine q_forR1 (n := 2) (by one_place) (by omega) (fun i σ' H' => ∃ (x y z : Option V), σ' = [some (.ref a), some (.ref b), some (.int j), some (.int (k : Nat)), some (.int ((f.length : Nat) : Int)), some (.ref t), some (.ref mv), some (.ref wd), _, some (.ref d), x, y, z, none, none] ∧ Ex H6 H')
        (fun H7 e7 => ⟨none, none, none, rfl, e7⟩) (fun i σ' H' hi hp => ?_) (fun σ' H' hp => ?_)
      · obtain ⟨x, y, z, rfl, e7⟩ := hp
        have z0 : ∀ {σ : L2.St} {H8 : Hp}, σ[5]? = some (some (.ref t)) → Ex H' H8 → Ev (tOp (rIxT K) (tVar 5) (tC (.int 0))) σ H8 (.ref p1) := fun hs e8 => ev_ixT (j := 0) (SqT.of (e8 _ _ (e7 _ _ (e26 _ _ ht)))) (ev_var hs) ev_c rfl
        have z1 : ∀ {σ : L2.St} {H8 : Hp}, σ[5]? = some (some (.ref t)) → Ex H' H8 → Ev (tOp (rIxT K) (tVar 5) (tC (.int 1))) σ H8 (.ref p2) := fun hs e8 => ev_ixT (j := 1) (SqT.of (e8 _ _ (e7 _ _ (e26 _ _ ht)))) (ev_var hs) ev_c rfl
        have g1 := e7 _ _ (e26 _ _ hp1)
        have g2 := e7 _ _ (e26 _ _ hp2)
        refine q_asgNL (xss := [(addS f g).map V.int, (mulS f g).map V.int]) (enl_cons (el_cal (ea_cons (z0 rfl (Ex.refl _)) (ea_cons (z1 rfl (Ex.refl _)) ea_nil)) fun H8 e8 Q kk E => ⟨p1, p2, f, g, rfl, SqL.of (e8 _ _ g1), SqL.of (e8 _ _ g2), hl, by omega, kk⟩)
          (enl_cons (el_cal (ea_cons (z0 rfl (Ex.refl _)) (ea_cons (z1 rfl (Ex.refl _)) ea_nil)) fun H8 e8 Q kk E => ⟨p1, p2, f, g, 120, 120, rfl, SqL.of (e8 _ _ g1), SqL.of (e8 _ _ g2), hl, by omega, bf, bg, by decide, kk⟩) enl_nil)) (by show 2 ≤ 100000; decide) fun L ps H8 nL e8 hL N nm => ?_
        refine q_catNL (j := 11) (yss := [(turnS f j).map V.int, (spreadS f k).map V.int]) N e8 rfl hL (enl_cons (el_cal (ea_cons (z0 rfl e8) (by one_place)) fun H9 e9 Q kk E => ⟨p1, f, j, rfl, SqL.of (e9 _ _ (e8 _ _ g1)), by omega, kk⟩)
          (enl_cons (el_cal (ea_cons (z0 rfl e8) (by one_place)) fun H9 e9 Q kk E => ⟨p1, f, k, rfl, SqL.of (e9 _ _ (e8 _ _ g1)), by omega, k1, by omega, kk⟩) enl_nil)) (by show 2 + 2 ≤ 100000; decide) fun L2 qs H9 nL2 e9 hL2 N2 nm2 => ?_
        have N3 : NewL H' H9 qs ([addS f g, mulS f g, turnS f j, spreadS f k].map fun ns => ns.map V.int) := N2
        have e79 := e8.trans e9
        have e69 := e7.trans e79
        have e09 := e06.trans e69
        refine q_when (b := false) (et_is (et_or (et_test (ev_op (ev_var rfl) (ev_var rfl) (rv_neLL (SqL.of hL2) N3.sq (qs := [d1, d2, mv, wd]) (mss := [addS f g, mulS f g, turnS f j, spreadS f k]) (SqL.of (e69 _ _ hd)) (hdues e69)))) fun _ => et_test (ev_opU (xs := [.ref a, .ref b]) (ev_var rfl) (eu_tup (by one_place) (by show 2 ≤ 100000; decide)) fun u H10 hu e10 => rv_neTL (ps := [p1, p2]) (nss := [f, g]) (qs := [a, b]) (mss := [f, g]) (SqT.of (e10 _ _ (e69 _ _ (e26 _ _ ht)))) (.cons (SqL.of (e10 _ _ (e69 _ _ (e26 _ _ hp1)))) (.cons (SqL.of (e10 _ _ (e69 _ _ (e26 _ _ hp2)))) .nil)) (SqT.of hu) (.cons (ex_l (e09.trans e10) hF) (.cons (ex_l (e09.trans e10) hG) .nil)))) (by rw [dec_not rfl, dec_not rfl]; rfl)) (fun hb => nomatch hb) (fun _ H10 e10 => ?_)
        refine s_forRows (H0 := H') (ps := qs) (by one_place) (e10 _ _ hL2) (N3.mono e10) (e79.trans e10) nm2 (by show 12 < 15; decide) (fun p xs H11 D' hx hp e11 _ kk => ?_) (fun y H11 e11 => ⟨_, _, _, rfl, e7.trans e11⟩)
        obtain ⟨ns, hns, rfl⟩ := List.mem_map.mp hx
        have hlen : ns.length < 100000 := by
          simp only [List.mem_cons, List.not_mem_nil, or_false] at hns
          rcases hns with rfl | rfl | rfl | rfl
          · rw [addS_len hl]; omega
          · rw [mulS_len]; omega
          · show (mkL _ _).length < _
            rw [mkL_len]; omega
          · show (mkL _ _).length < _
            rw [mkL_len]; omega
        refine q_when (b := false) (et_is (et_not (et_B (ev_cal (vs := [.ref p]) (z := .bl true) (by one_place) fun H12 e12 Q kk E => ⟨p, ns, rfl, e12 _ _ hp, kk⟩))) rfl) (fun hb => nomatch hb) (fun _ H12 e12 => ?_)
        exact s_app (v := .non) (e12 _ _ hp) (by one_place) ev_c (by rw [List.length_map]; exact hlen) fun H13 e13 => kk H13 _ (e12.trans e13)
      · obtain ⟨x, y, z, rfl, e7⟩ := hp
        exact s_ret (v := .bl true) ev_c fun H8 e8 => q _ ((e06.trans e7).trans e8)
end

/- _law_count: slots 0 _law_pick, 1 _law_great; calls  -/
abbrev s__law_count : Stmt := topS 9
theorem sc__law_count : FnScope ["_law_pick", "_law_great"] ["_law_pick"] (defScope s__law_count) := ⟨rfl, rfl, rfl, by decide +kernel, rfl, by decide +kernel, by decide +kernel⟩

def cnt (k : Int) : Int := ([1 + k / 5 % 60, 1 + k / 5 % 12, ([30, 36, 60, 45, 12, 24, 42, 50] : List Int).getD (k / 5 % 8).toNat 0, 1 + k / 5 % 30] : List Int).getD (k % 4).toNat 0
theorem getD_bd {l : List Int} {lo hi : Int} {i : Nat} (h : ∀ x ∈ l, lo ≤ x ∧ x ≤ hi) (hi' : i < l.length) : lo ≤ l.getD i 0 ∧ l.getD i 0 ≤ hi := by
  rw [List.getD_eq_getElem?_getD, List.getElem?_eq_getElem hi']
  exact h _ (List.getElem_mem hi')
theorem cnt_bd (k : Int) : 1 ≤ cnt k ∧ cnt k ≤ 60 := by
  unfold cnt
  have g : 1 ≤ ([30, 36, 60, 45, 12, 24, 42, 50] : List Int).getD (k / 5 % 8).toNat 0 ∧ ([30, 36, 60, 45, 12, 24, 42, 50] : List Int).getD (k / 5 % 8).toNat 0 ≤ 60 := getD_bd (by decide) (by simp; omega)
  refine getD_bd ?_ (by simp; omega)
  intro x hx
  simp only [List.mem_cons, List.not_mem_nil, or_false] at hx
  omega
def spCount : Sp := fun vs H Q _ => ∃ k : Int, vs = [.int k] ∧ 0 ≤ k ∧ RetV (.int (cnt k)) H Q
section
variable {P : Program} {w : World} {K : PySem.W.Frag} {mg : Str → Option Value} {base : Heap}
theorem cal_count (nb : Nb mg) (d : Dfn K mg "_law_count" ["_law_pick"] s__law_count) : Cal P w K mg base CX0 "_law_count" 1 ["_law_pick"] spCount := by
  refine d.cal sc__law_count (fun vs H Q E h => ?_) (fun f cdv A outer s H vs Q E hr h => ?_)
  · obtain ⟨a, rfl, _⟩ := h
    rfl
  · obtain ⟨k, rfl, k0, q⟩ := h
    refine ⟨_, (pss_cons (ps_set (i := 1) sc__law_count.nd rfl (.inl rfl) (pe_ix ix_list (pe_lst (pa_cons pe_int (pa_cons pe_int (pa_cons pe_int (pa_cons pe_int (pa_cons pe_int (pa_cons pe_int (pa_cons pe_int (pa_cons pe_int pa_nil))))))))) (pe_op op_mod (pe_op op_fdivW (pv 0) pe_int) pe_int) (fun _ _ => rfl)))
      (pss_one (ps_ret (pe_ix ix_list (pe_lst (pa_cons (pe_op op_add pe_int (pe_op op_mod (pe_op op_fdivW (pv 0) pe_int) pe_int)) (pa_cons (pe_op op_add pe_int (pe_op op_mod (pe_op op_fdivW (pv 0) pe_int) pe_int)) (pa_cons (pv 1) (pa_cons (pe_op op_add pe_int (pe_op op_mod (pe_op op_fdivW (pv 0) pe_int) pe_int)) pa_nil))))) (pe_op op_mod (pv 0) pe_int) (fun _ _ => rfl))))), ?_⟩
    refine q_asg (v := .int (([30, 36, 60, 45, 12, 24, 42, 50] : List Int).getD (k / 5 % 8).toNat 0)) (ev_ixN (ns := [30, 36, 60, 45, 12, 24, 42, 50]) (el_lst (by one_place) (by decide)) (fun _ _ => by one_place) (by omega) (by simp; omega)) fun H1 e1 => ?_
    refine s_ret (v := .int (cnt k)) (ev_ixN (ns := [1 + k / 5 % 60, 1 + k / 5 % 12, ([30, 36, 60, 45, 12, 24, 42, 50] : List Int).getD (k / 5 % 8).toNat 0, 1 + k / 5 % 30]) (el_lst (by one_place) (by show 4 ≤ 100000; decide)) (fun _ _ => by one_place) (by omega) (by simp; omega)) fun H2 e2 => q _ (e1.trans e2)
end

/-! ### the law -/
/- law: slots 0 _law_script, 1 _law_cell, 2 _law_pick, 3 _law_n, 4 _law_more, 5 _law_one, 6 _law_other, 7 _law_j; calls _law_mix, _law_count, _law_sum, _law_right -/
abbrev s_law : Stmt := topS 14
theorem sc_law : FnScope ["_law_script", "_law_cell", "_law_pick", "_law_n", "_law_more", "_law_one", "_law_other", "_law_j"] ["_law_script"] (defScope s_law) := ⟨rfl, rfl, rfl, by decide +kernel, rfl, by decide +kernel, by decide +kernel⟩

def spLaw (K : PySem.W.Frag) : Sp := fun vs H Q _ => ∃ (a : Addr) (ns : List Int), vs = [.ref a] ∧ SqL K H a (ns.map V.int) ∧ ns.length ≤ 63 ∧ ∀ H', Q (.bl true) H'
def wideN (m : Int) : Int := ([1, 1000000000000000000000000000000] : List Int).getD (m % 2).toNat 0
theorem wideN_bd (m : Int) : (wideN m).natAbs < 2 ^ 110 := by
  unfold wideN
  have e : (m % 2).toNat = 0 ∨ (m % 2).toNat = 1 := by omega
  rcases e with e | e <;> rw [e] <;> decide
section
variable {P : Program} {w : World} {K : PySem.W.Frag} {mg : Str → Option Value} {base : Heap}
theorem law_ok {f : Addr} {fd : FuncData} (F : Fun K "law" "law" s_law f fd) (nb : Nb mg) (d_sum_plus : Dfn K mg "sum_plus" ["one", "other"] s_sum_plus) (d_sum_times : Dfn K mg "sum_times" ["one", "other"] s_sum_times) (d_turned : Dfn K mg "turned" ["some", "j"] s_turned) (d_spread : Dfn K mg "spread" ["some", "k"] s_spread)
    (d__law_mix : Dfn K mg "_law_mix" ["_law_cell", "_law_k"] s__law_mix) (d__law_count : Dfn K mg "_law_count" ["_law_pick"] s__law_count) (d__law_sum : Dfn K mg "_law_sum" ["_law_n", "_law_cell", "_law_wide"] s__law_sum) (d__law_whole : Dfn K mg "_law_whole" ["_law_got"] s__law_whole) (d__law_product : Dfn K mg "_law_product" ["_law_one", "_law_other"] s__law_product) (d__law_right : Dfn K mg "_law_right" ["_law_one", "_law_other", "_law_j", "_law_k"] s__law_right) :
    FnOk P w K mg base CX0 3 f fd ["_law_script"] (spLaw K) := by
  have c__law_mix : Cal P w K mg base CX0 "_law_mix" 1 ["_law_cell", "_law_k"] spMix := cal_mix nb d__law_mix
  have c__law_count : Cal P w K mg base CX0 "_law_count" 1 ["_law_pick"] spCount := cal_count nb d__law_count
  have c__law_sum : Cal P w K mg base CX0 "_law_sum" 2 ["_law_n", "_law_cell", "_law_wide"] spLSum := cal_lsum nb c__law_mix d__law_sum
  have c__law_right : Cal P w K mg base CX0 "_law_right" 2 ["_law_one", "_law_other", "_law_j", "_law_k"] (spRight K) := cal_right nb (cal_splus nb d_sum_plus) (cal_stimes nb d_sum_times) (cal_turned nb d_turned) (cal_spread nb d_spread) (cal_whole nb d__law_whole) (cal_product nb d__law_product) d__law_right
  refine F.ok sc_law (fun vs H Q E h => ?_) (fun cdv A outer s H vs Q E hr h => ?_)
  · obtain ⟨a, ns, rfl, _⟩ := h
    rfl
  · obtain ⟨a, ns, rfl, hS, hlen, q⟩ := h
    refine ⟨_, (pss_cons (ps_for PassesOwn.never rfl (pi_list (pe_op op_cat (pe_slice sl_list (pv 0) po_none (po_some pe_int)) (pe_lst (pa_cons pe_int pa_nil)))) (pg_name (i := 1) sc_law.nd rfl (.inl rfl)) (pss_cons (ps_set (i := 2) sc_law.nd rfl (.inl rfl) (pe_cal c__law_mix (hr.mono (by first | decide | omega)) (by rfl) pass0 (pa_cons (pv 1) (pa_cons pe_int pa_nil))))
      (pss_cons (ps_set (i := 3) sc_law.nd rfl (.inl rfl) (pe_cal c__law_count (hr.mono (by first | decide | omega)) (by rfl) pass0 (pa_cons (pv 2) pa_nil)))
      (pss_cons (ps_set (i := 4) sc_law.nd rfl (.inl rfl) (pe_cal c__law_mix (hr.mono (by first | decide | omega)) (by rfl) pass0 (pa_cons (pv 1) (pa_cons pe_int pa_nil))))
      (pss_cons (ps_set (i := 5) sc_law.nd rfl (.inl rfl) (pe_cal c__law_sum (hr.mono (by first | decide | omega)) (by rfl) pass0 (pa_cons (pv 3) (pa_cons (pv 1) (pa_cons (pe_ix ix_list (pe_lst (pa_cons pe_int (pa_cons (pe_op op_powW pe_int pe_int) pa_nil))) (pe_op op_mod (pv 4) pe_int) (fun _ _ => rfl)) pa_nil)))))
      (pss_cons (ps_set (i := 6) sc_law.nd rfl (.inl rfl) (pe_cal c__law_sum (hr.mono (by first | decide | omega)) (by rfl) pass0 (pa_cons (pv 3) (pa_cons (pe_op op_add (pe_op op_fdivW (pv 1) pe_int) pe_int) (pa_cons pe_int pa_nil)))))
      (pss_cons (ps_set (i := 7) sc_law.nd rfl (.inl rfl) (pe_ix ix_list (pe_lst (pa_cons (pe_op op_sub (pe_op op_mod (pe_op op_fdivW (pv 4) pe_int) pe_int) pe_int) (pa_cons (pe_op op_sub (pe_op op_powW pe_int pe_int) (pv 4)) (pa_cons (pe_op op_sub (pe_op op_sub pe_int (pe_op op_powW pe_int pe_int)) (pv 4)) pa_nil)))) (pe_op op_mod (pe_op op_fdivW (pv 4) pe_int) pe_int) (fun _ _ => rfl)))
      (pss_one (ps_if (pt_not (pt_val (pe_cal c__law_right (hr.mono (by first | decide | omega)) (by rfl) pass0 (pa_cons (pv 5) (pa_cons (pv 6) (pa_cons (pv 7) (pa_cons (pe_op op_add pe_int (pe_op op_mod (pe_op op_fdivW (pv 4) pe_int) pe_int)) pa_nil))))))) (pss_one (ps_ret pe_bl)) pss_nil)))))))))
      (pss_one (ps_ret pe_bl))), ?_⟩
    have hz : (cutV (ns.map V.int) none (some 8) ++ [V.int 0]).length ≤ 64 := by
      have := cutV_length (ns.map V.int) none (some 8)
      rw [List.length_map] at this
      rw [List.length_append, List.length_singleton]
      omega
    refine q_forNLn (xs := cutV (ns.map V.int) none (some 8) ++ [V.int 0]) (el_cat (el_sl (by one_place) eo_none (eo_some ev_c) hS) (el_lst (by one_place) (by decide)) (by rw [List.length_append] at hz; omega))
      (fun p i σ' H' => ∃ x1 x2 x3 x4 x5 x6 x7, σ' = [some (.ref a), x1, x2, x3, x4, x5, x6, x7] ∧ H' p = some (.lst (cutV (ns.map V.int) none (some 8) ++ [V.int 0])))
      (fun p H1 np e1 hp => ⟨none, none, none, none, none, none, none, rfl, hp⟩) (fun p i σ' H' _ hp => ?_) (fun p i x σ' H' hx hp => ?_) (fun p σ' H' hp => ?_)
    · obtain ⟨_, _, _, _, _, _, _, _, hp⟩ := hp
      exact SqL.of hp
    · obtain ⟨_, x2, x3, x4, x5, x6, x7, rfl, hp⟩ := hp
      obtain ⟨c, rfl⟩ : ∃ c, x = V.int c := by
        rcases List.mem_append.mp (List.mem_of_getElem? hx) with h | h
        · exact int_of_mem (cut_mem h)
        · exact ⟨0, List.mem_singleton.mp h⟩
      have m0 := mix_nn c 20
      have m1 := mix_le c 20
      have r0 := mix_nn c 21
      have r1 := mix_le c 21
      refine q_asg (v := .int (mix c 20)) (ev_cal (by one_place) fun H1 e1 Q k E => ⟨c, 20, rfl, by decide, by decide, k⟩) fun H1 e1 => ?_
      refine q_asg (v := .int (cnt (mix c 20))) (ev_cal (by one_place) fun H1 e1 Q k E => ⟨mix c 20, rfl, m0, k⟩) fun H2 e2 => ?_
      obtain ⟨n1, n2⟩ := cnt_bd (mix c 20)
      refine q_asg (v := .int (mix c 21)) (ev_cal (by one_place) fun H1 e1 Q k E => ⟨c, 21, rfl, by decide, by decide, k⟩) fun H3 e3 => ?_
      generalize cnt (mix c 20) = n at *
      generalize mix c 21 = r at *
      refine q_asgL (xs := (lsumF n c (wideN r)).map V.int) (el_cal (vs := [.int n, .int c, .int (wideN r)]) (ea_cons (by one_place) (ea_cons (by one_place) (ea_cons (ev_ixN (ns := [1, 1000000000000000000000000000000]) (el_lst (ea_cons (by one_place) (ea_cons (ev_pow (i := 10) (j := 30) ev_c ev_c ⟨by decide, by decide +kernel⟩ (by rfl)) ea_nil)) (by show 2 ≤ 100000; decide)) (fun _ _ => by one_place) (by omega) (by simp; omega)) ea_nil))) fun H4 e4 Q k E => ⟨n, c, wideN r, rfl, by omega, by omega, wideN_bd r, k⟩) fun pf H4 nf e4 h4 => ?_
      refine q_asgL (xs := (lsumF n (c / 7 + 3) 1).map V.int) (el_cal (vs := [.int n, .int (c / 7 + 3), .int 1]) (by one_place) fun H5 e5 Q k E => ⟨n, c / 7 + 3, 1, rfl, by omega, by omega, by decide, k⟩) fun pg H5 ng e5 h5 => ?_
      have lf := lsumF_len n c (wideN r) (by omega)
      have lg := lsumF_len n (c / 7 + 3) 1 (by omega)
      have bf := lsumF_bd n c (wideN r) (wideN_bd r)
      have bg := lsumF_bd n (c / 7 + 3) 1 (by decide)
      generalize lsumF n c (wideN r) = f at *
      generalize lsumF n (c / 7 + 3) 1 = g at *
      refine q_asg (v := .int (([r / 2 % 401 - 200, 100000000000000000000 - r, 0 - 100000000000000000000 - r] : List Int).getD (r / 1000 % 3).toNat 0)) (ev_ixN (ns := [r / 2 % 401 - 200, 100000000000000000000 - r, 0 - 100000000000000000000 - r]) (el_lst (ea_cons (by one_place) (ea_cons (ev_sub (ev_pow (i := 10) (j := 20) ev_c ev_c ⟨by decide, by decide +kernel⟩ (by rfl)) (ev_var rfl)) (ea_cons (ev_sub (ev_sub ev_c (ev_pow (i := 10) (j := 20) ev_c ev_c ⟨by decide, by decide +kernel⟩ (by rfl))) (ev_var rfl)) ea_nil))) (by show 3 ≤ 100000; decide)) (fun _ _ => by one_place) (by omega) (by simp; omega)) fun H6 e6 => ?_
      refine s_when (b := false) (et_is (et_not (et_B (ev_cal (vs := [.ref pf, .ref pg, .int (([r / 2 % 401 - 200, 100000000000000000000 - r, 0 - 100000000000000000000 - r] : List Int).getD (r / 1000 % 3).toNat 0), .int (((1 + r / 64 % 5).toNat : Nat) : Int)]) (z := .bl true) (ea_cons (ev_var rfl) (ea_cons (ev_var rfl) (ea_cons (ev_var rfl) (ea_cons (ev_is (w := .int (((1 + r / 64 % 5).toNat : Nat) : Int)) (v := .int (1 + r / 64 % 5)) (by one_place) (by congr 1; omega)) ea_nil)))) fun H7 e7 Q kk E => ⟨pf, pg, f, g, _, (1 + r / 64 % 5).toNat, rfl, SqL.of (e7 _ _ (e6 _ _ (e5 _ _ h4))), SqL.of (e7 _ _ (e6 _ _ h5)), by omega, by omega, bf, bg, by omega, by omega, kk⟩))) rfl) (fun hb => nomatch hb) (fun _ H7 e7 => ?_)
      exact ⟨_, _, _, _, _, _, _, rfl, e7 _ _ (e6 _ _ (e5 _ _ (e4 _ _ (e3 _ _ (e2 _ _ (e1 _ _ hp))))))⟩
    · obtain ⟨_, _, _, _, _, _, _, rfl, hp⟩ := hp
      exact s_ret (v := .bl true) ev_c fun H1 e1 => q _
end
theorem all_mk {l : PySem.W.OpenLaw} {w : World} {K : PySem.W.Frag} {h : Heap} {mg : Str → Option Value} {fa : Addr} (X : K.In h) (G : h.Ns mainGlobals mg) (hfa : mg "law" = some (.ref fa))
    {f0 f1 f2 f3 f4 f5 f6 f7 f8 f9 f10 : Addr} {od0 an0 od1 an1 od2 an2 od3 an3 od4 an4 od5 an5 od6 an6 od7 an7 od8 an8 od9 an9 od10 an10 : Option Addr} {sl0 sl1 sl2 sl3 sl4 sl5 sl6 sl7 sl8 sl9 sl10 : Array (Option Value)} {oc0 kV0 dc0 pm0 cd0 ct0 oc1 kV1 dc1 pm1 cd1 ct1 oc2 kV2 dc2 pm2 cd2 ct2 oc3 kV3 dc3 pm3 cd3 ct3 oc4 kV4 dc4 pm4 cd4 ct4 oc5 kV5 dc5 pm5 cd5 ct5 oc6 kV6 dc6 pm6 cd6 ct6 oc7 kV7 dc7 pm7 cd7 ct7 oc8 kV8 dc8 pm8 cd8 ct8 oc9 kV9 dc9 pm9 cd9 ct9 oc10 kV10 dc10 pm10 cd10 ct10 : Value}
    (a0 : PySem.W.nsIn K mainGlobals "sum_plus" = some (some (.ref f0))) (l0 : K.lookup f0 = some ⟨oc0, od0, .func (PySem.W.fnOf "sum_plus" "sum_plus" (defArgs s_sum_plus) (defBody s_sum_plus) (defScope s_sum_plus) .none kV0 dc0 pm0 an0 cd0 ct0), sl0⟩) (c0 : PySem.W.codeIn K cd0 "sum_plus" = true) (k0 : PySem.W.keepIn K (.ref f0) = true)
    (a1 : PySem.W.nsIn K mainGlobals "sum_times" = some (some (.ref f1))) (l1 : K.lookup f1 = some ⟨oc1, od1, .func (PySem.W.fnOf "sum_times" "sum_times" (defArgs s_sum_times) (defBody s_sum_times) (defScope s_sum_times) .none kV1 dc1 pm1 an1 cd1 ct1), sl1⟩) (c1 : PySem.W.codeIn K cd1 "sum_times" = true) (k1 : PySem.W.keepIn K (.ref f1) = true)
    (a2 : PySem.W.nsIn K mainGlobals "turned" = some (some (.ref f2))) (l2 : K.lookup f2 = some ⟨oc2, od2, .func (PySem.W.fnOf "turned" "turned" (defArgs s_turned) (defBody s_turned) (defScope s_turned) .none kV2 dc2 pm2 an2 cd2 ct2), sl2⟩) (c2 : PySem.W.codeIn K cd2 "turned" = true) (k2 : PySem.W.keepIn K (.ref f2) = true)
    (a3 : PySem.W.nsIn K mainGlobals "spread" = some (some (.ref f3))) (l3 : K.lookup f3 = some ⟨oc3, od3, .func (PySem.W.fnOf "spread" "spread" (defArgs s_spread) (defBody s_spread) (defScope s_spread) .none kV3 dc3 pm3 an3 cd3 ct3), sl3⟩) (c3 : PySem.W.codeIn K cd3 "spread" = true) (k3 : PySem.W.keepIn K (.ref f3) = true)
    (a4 : PySem.W.nsIn K mainGlobals "_law_mix" = some (some (.ref f4))) (l4 : K.lookup f4 = some ⟨oc4, od4, .func (PySem.W.fnOf "_law_mix" "_law_mix" (defArgs s__law_mix) (defBody s__law_mix) (defScope s__law_mix) .none kV4 dc4 pm4 an4 cd4 ct4), sl4⟩) (c4 : PySem.W.codeIn K cd4 "_law_mix" = true) (k4 : PySem.W.keepIn K (.ref f4) = true)
    (a5 : PySem.W.nsIn K mainGlobals "_law_count" = some (some (.ref f5))) (l5 : K.lookup f5 = some ⟨oc5, od5, .func (PySem.W.fnOf "_law_count" "_law_count" (defArgs s__law_count) (defBody s__law_count) (defScope s__law_count) .none kV5 dc5 pm5 an5 cd5 ct5), sl5⟩) (c5 : PySem.W.codeIn K cd5 "_law_count" = true) (k5 : PySem.W.keepIn K (.ref f5) = true)
    (a6 : PySem.W.nsIn K mainGlobals "_law_sum" = some (some (.ref f6))) (l6 : K.lookup f6 = some ⟨oc6, od6, .func (PySem.W.fnOf "_law_sum" "_law_sum" (defArgs s__law_sum) (defBody s__law_sum) (defScope s__law_sum) .none kV6 dc6 pm6 an6 cd6 ct6), sl6⟩) (c6 : PySem.W.codeIn K cd6 "_law_sum" = true) (k6 : PySem.W.keepIn K (.ref f6) = true)
    (a7 : PySem.W.nsIn K mainGlobals "_law_whole" = some (some (.ref f7))) (l7 : K.lookup f7 = some ⟨oc7, od7, .func (PySem.W.fnOf "_law_whole" "_law_whole" (defArgs s__law_whole) (defBody s__law_whole) (defScope s__law_whole) .none kV7 dc7 pm7 an7 cd7 ct7), sl7⟩) (c7 : PySem.W.codeIn K cd7 "_law_whole" = true) (k7 : PySem.W.keepIn K (.ref f7) = true)
    (a8 : PySem.W.nsIn K mainGlobals "_law_product" = some (some (.ref f8))) (l8 : K.lookup f8 = some ⟨oc8, od8, .func (PySem.W.fnOf "_law_product" "_law_product" (defArgs s__law_product) (defBody s__law_product) (defScope s__law_product) .none kV8 dc8 pm8 an8 cd8 ct8), sl8⟩) (c8 : PySem.W.codeIn K cd8 "_law_product" = true) (k8 : PySem.W.keepIn K (.ref f8) = true)
    (a9 : PySem.W.nsIn K mainGlobals "_law_right" = some (some (.ref f9))) (l9 : K.lookup f9 = some ⟨oc9, od9, .func (PySem.W.fnOf "_law_right" "_law_right" (defArgs s__law_right) (defBody s__law_right) (defScope s__law_right) .none kV9 dc9 pm9 an9 cd9 ct9), sl9⟩) (c9 : PySem.W.codeIn K cd9 "_law_right" = true) (k9 : PySem.W.keepIn K (.ref f9) = true)
    (a10 : PySem.W.nsIn K mainGlobals "law" = some (some (.ref f10))) (l10 : K.lookup f10 = some ⟨oc10, od10, .func (PySem.W.fnOf "law" "law" (defArgs s_law) (defBody s_law) (defScope s_law) .none kV10 dc10 pm10 an10 cd10 ct10), sl10⟩) (c10 : PySem.W.codeIn K cd10 "law" = true) (k10 : PySem.W.keepIn K (.ref f10) = true)
    (z_len : PySem.W.nsIn K mainGlobals "len" = some none)    (z_range : PySem.W.nsIn K mainGlobals "range" = some none)    (z_max : PySem.W.nsIn K mainGlobals "max" = some none)    (z_list : PySem.W.nsIn K mainGlobals "list" = some none)    (z_int : PySem.W.nsIn K mainGlobals "int" = some none)    (z_bool : PySem.W.nsIn K mainGlobals "bool" = some none)    (z_tuple : PySem.W.nsIn K mainGlobals "tuple" = some none)    (z_isinstance : PySem.W.nsIn K mainGlobals "isinstance" = some none)    (z_enumerate : PySem.W.nsIn K mainGlobals "enumerate" = some none)    (z_reversed : PySem.W.nsIn K mainGlobals "reversed" = some none)    (z_sorted : PySem.W.nsIn K mainGlobals "sorted" = some none)    (z_zip : PySem.W.nsIn K mainGlobals "zip" = some none)    (z_all : PySem.W.nsIn K mainGlobals "all" = some none)    (z_str : PySem.W.nsIn K mainGlobals "str" = some none) :
    ∃ fd : FuncData, (∀ (s : Shared) (v : Value), BindsTo s fd ⟨[v], []⟩ [("_law_script", v)]) ∧ ∀ base : Heap, K.In base → base.Ns mainGlobals mg → FnOk l.prog w K mg base CX0 3 fa fd ["_law_script"] (spLaw K) := by
  have e := hfa.symm.trans (PySem.W.mg_of X G a10)
  cases e
  have nb : Nb mg := ⟨PySem.W.mg_none_of X G z_len, PySem.W.mg_none_of X G z_range, PySem.W.mg_none_of X G z_max, PySem.W.mg_none_of X G z_list, PySem.W.mg_none_of X G z_int, PySem.W.mg_none_of X G z_bool, PySem.W.mg_none_of X G z_tuple, PySem.W.mg_none_of X G z_isinstance, PySem.W.mg_none_of X G z_enumerate, PySem.W.mg_none_of X G z_reversed, PySem.W.mg_none_of X G z_sorted, PySem.W.mg_none_of X G z_zip, PySem.W.mg_none_of X G z_all, PySem.W.mg_none_of X G z_str⟩
  have d_sum_plus : Dfn K mg "sum_plus" ["one", "other"] s_sum_plus := by
    have F := fun_mk (st := s_sum_plus) l0 c0 k0
    exact ⟨_, _, F, PySem.W.mg_of X G a0, F.binds (ps := ["one", "other"]) fun _ _ _ _ _ _ us hl => match us, hl with | [_, _], _ => rfl⟩
  have d_sum_times : Dfn K mg "sum_times" ["one", "other"] s_sum_times := by
    have F := fun_mk (st := s_sum_times) l1 c1 k1
    exact ⟨_, _, F, PySem.W.mg_of X G a1, F.binds (ps := ["one", "other"]) fun _ _ _ _ _ _ us hl => match us, hl with | [_, _], _ => rfl⟩
  have d_turned : Dfn K mg "turned" ["some", "j"] s_turned := by
    have F := fun_mk (st := s_turned) l2 c2 k2
    exact ⟨_, _, F, PySem.W.mg_of X G a2, F.binds (ps := ["some", "j"]) fun _ _ _ _ _ _ us hl => match us, hl with | [_, _], _ => rfl⟩
  have d_spread : Dfn K mg "spread" ["some", "k"] s_spread := by
    have F := fun_mk (st := s_spread) l3 c3 k3
    exact ⟨_, _, F, PySem.W.mg_of X G a3, F.binds (ps := ["some", "k"]) fun _ _ _ _ _ _ us hl => match us, hl with | [_, _], _ => rfl⟩
  have d__law_mix : Dfn K mg "_law_mix" ["_law_cell", "_law_k"] s__law_mix := by
    have F := fun_mk (st := s__law_mix) l4 c4 k4
    exact ⟨_, _, F, PySem.W.mg_of X G a4, F.binds (ps := ["_law_cell", "_law_k"]) fun _ _ _ _ _ _ us hl => match us, hl with | [_, _], _ => rfl⟩
  have d__law_count : Dfn K mg "_law_count" ["_law_pick"] s__law_count := by
    have F := fun_mk (st := s__law_count) l5 c5 k5
    exact ⟨_, _, F, PySem.W.mg_of X G a5, F.binds (ps := ["_law_pick"]) fun _ _ _ _ _ _ us hl => match us, hl with | [_], _ => rfl⟩
  have d__law_sum : Dfn K mg "_law_sum" ["_law_n", "_law_cell", "_law_wide"] s__law_sum := by
    have F := fun_mk (st := s__law_sum) l6 c6 k6
    exact ⟨_, _, F, PySem.W.mg_of X G a6, F.binds (ps := ["_law_n", "_law_cell", "_law_wide"]) fun _ _ _ _ _ _ us hl => match us, hl with | [_, _, _], _ => rfl⟩
  have d__law_whole : Dfn K mg "_law_whole" ["_law_got"] s__law_whole := by
    have F := fun_mk (st := s__law_whole) l7 c7 k7
    exact ⟨_, _, F, PySem.W.mg_of X G a7, F.binds (ps := ["_law_got"]) fun _ _ _ _ _ _ us hl => match us, hl with | [_], _ => rfl⟩
  have d__law_product : Dfn K mg "_law_product" ["_law_one", "_law_other"] s__law_product := by
    have F := fun_mk (st := s__law_product) l8 c8 k8
    exact ⟨_, _, F, PySem.W.mg_of X G a8, F.binds (ps := ["_law_one", "_law_other"]) fun _ _ _ _ _ _ us hl => match us, hl with | [_, _], _ => rfl⟩
  have d__law_right : Dfn K mg "_law_right" ["_law_one", "_law_other", "_law_j", "_law_k"] s__law_right := by
    have F := fun_mk (st := s__law_right) l9 c9 k9
    exact ⟨_, _, F, PySem.W.mg_of X G a9, F.binds (ps := ["_law_one", "_law_other", "_law_j", "_law_k"]) fun _ _ _ _ _ _ us hl => match us, hl with | [_, _, _, _], _ => rfl⟩
  have F := fun_mk (st := s_law) l10 c10 k10
  exact ⟨PySem.W.fnOf "law" "law" (defArgs s_law) (defBody s_law) (defScope s_law) .none kV10 dc10 pm10 an10 cd10 ct10, fun s v => .of_eq rfl, fun base _ _ => law_ok F nb  d_sum_plus d_sum_times d_turned d_spread d__law_mix d__law_count d__law_sum d__law_whole d__law_product d__law_right⟩
end Own
open PySem PySem.W PyProof.Rows
set_option maxHeartbeats 0 in
theorem PySem.Challenge.cw_rootwheel_k16_sums_holds : PySem.Challenge.rw_rootwheel_k16_sums.Holds := by
  w_on; o_law; k_head; (case hw => w_witness2)
  k_fill
  refine L2.walk_of (l := PySem.Challenge.rw_rootwheel_k16_sums) (n := 63) (k := 3) (x := "_law_script") (CX := fun _ => L2.CX0) (sp := fun w => Own.spLaw _) rfl (by decide) rfl ⟨rfl, by decide, by decide⟩ (fun w h Y => PySem.W.kIn_of Y) ?F (fun _ _ a ns hl _ hS => ⟨a, ns, rfl, hS, hl, fun _ => rfl⟩) (fun _ _ _ _ _ h => h)
  case F =>
    intro w mg fa h KX G hmg
    refine' Own.all_mk KX G hmg ?a0 ?l0 ?c0 ?k0 ?a1 ?l1 ?c1 ?k1 ?a2 ?l2 ?c2 ?k2 ?a3 ?l3 ?c3 ?k3 ?a4 ?l4 ?c4 ?k4 ?a5 ?l5 ?c5 ?k5 ?a6 ?l6 ?c6 ?k6 ?a7 ?l7 ?c7 ?k7 ?a8 ?l8 ?c8 ?k8 ?a9 ?l9 ?c9 ?k9 ?a10 ?l10 ?c10 ?k10 ?z_len ?z_range ?z_max ?z_list ?z_int ?z_bool ?z_tuple ?z_isinstance ?z_enumerate ?z_reversed ?z_sorted ?z_zip ?z_all ?z_str
    (case a0 => k_is)
    (case l0 => k_is)
    (case c0 => k_is)
    (case k0 => k_is)
    (case a1 => k_is)
    (case l1 => k_is)
    (case c1 => k_is)
    (case k1 => k_is)
    (case a2 => k_is)
    (case l2 => k_is)
    (case c2 => k_is)
    (case k2 => k_is)
    (case a3 => k_is)
    (case l3 => k_is)
    (case c3 => k_is)
    (case k3 => k_is)
    (case a4 => k_is)
    (case l4 => k_is)
    (case c4 => k_is)
    (case k4 => k_is)
    (case a5 => k_is)
    (case l5 => k_is)
    (case c5 => k_is)
    (case k5 => k_is)
    (case a6 => k_is)
    (case l6 => k_is)
    (case c6 => k_is)
    (case k6 => k_is)
    (case a7 => k_is)
    (case l7 => k_is)
    (case c7 => k_is)
    (case k7 => k_is)
    (case a8 => k_is)
    (case l8 => k_is)
    (case c8 => k_is)
    (case k8 => k_is)
    (case a9 => k_is)
    (case l9 => k_is)
    (case c9 => k_is)
    (case k9 => k_is)
    (case a10 => k_is)
    (case l10 => k_is)
    (case c10 => k_is)
    (case k10 => k_is)
    (case z_len => k_is)
    (case z_range => k_is)
    (case z_max => k_is)
    (case z_list => k_is)
    (case z_int => k_is)
    (case z_bool => k_is)
    (case z_tuple => k_is)
    (case z_isinstance => k_is)
    (case z_enumerate => k_is)
    (case z_reversed => k_is)
    (case z_sorted => k_is)
    (case z_zip => k_is)
    (case z_all => k_is)
    (case z_str => k_is)


