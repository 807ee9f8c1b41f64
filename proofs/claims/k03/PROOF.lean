import PyProof.Rows.All
import Wide.All
import OpenK.AllK
import Wide.FinOn
import HandS.ForMost
import HandS.Evl
import HandS.Wide
import HandS.WideMore
import HandS.Gcd
import HandS.IsInst
import HandS.SortInts
import HandS.Rev
import HandS.ForExc
import HandS.ExcIs
import HandS.ExcValue
import PySem.Challenge.RW_rootwheel_k03_orders
set_option Elab.async false
set_option linter.all false
set_option maxRecDepth 100000
set_option maxHeartbeats 4000000
/-! What every proof of ours leans on: calls by a promise that stands for a name, rules of ours, words for the readings. -/
namespace Kp
open PySem PySem.Spec PyProof.Rows L2 Evl

/-! ### the names of Python that a text leaves as they are -/
structure Nb (mg : Str → Option Value) : Prop where
  len : mg "len" = none
  range : mg "range" = none
  max : mg "max" = none
  list : mg "list" = none
  int : mg "int" = none
  bool : mg "bool" = none
  tuple : mg "tuple" = none
  isinstance : mg "isinstance" = none
  enumerate : mg "enumerate" = none
  reversed : mg "reversed" = none
  sorted : mg "sorted" = none
  zip : mg "zip" = none
  all : mg "all" = none
  str : mg "str" = none

/-! ### a def by its name -/
/-- by the name x the module holds a def that keeps the promise sp, at the level k -/
def Cal (P : Program) (w : World) (K : PySem.W.Frag) (mg : Str → Option Value) (base : Heap) (CX : CXT) (x : Str) (k : Nat) (ps : List Str) (sp : Sp) : Prop :=
  ∃ (f : Addr) (fd : FuncData), FnOk P w K mg base CX k f fd ps sp ∧ mg x = some (.ref f) ∧ PySem.W.keepIn K (.ref f) = true ∧ Binds K fd ps []
/-- by the name x the module holds the def that st writes -/
def Dfn (K : PySem.W.Frag) (mg : Str → Option Value) (x : Str) (ps : List Str) (st : Stmt) : Prop :=
  ∃ (f : Addr) (fd : FuncData), Fun K x x st f fd ∧ mg x = some (.ref f) ∧ Binds K fd ps []
section
variable {P : Program} {w : World} {K : PySem.W.Frag} {mg : Str → Option Value} {base : Heap} {CX : CXT} {x : Str} {k : Nat} {ps N : List Str} {sp : Sp} {st : Stmt}
theorem Dfn.cal (d : Dfn K mg x ps st) (S : FnScope N ps (defScope st)) (len : ∀ vs H Q E, sp vs H Q E → vs.length = ps.length)
    (hbody : ∀ (f : Addr) (cdv : Value) (A : Around) (outer : List Env) (s : Shared) (H : Hp) (vs : List V) (Q : VK) (E : XK), Room k (A.deeper (envOfC x (defScope st) s.heap.objs.size f cdv)) → sp vs H Q E →
      ∃ t, PSs (cxOf CX0 P w K mg base N x (defScope st) f cdv A outer s H E).nox (defBody st) t ∧ t { nx := fun _ H' => Q .non H', rt := Q } (start N vs) H) : Cal P w K mg base CX0 x (k + 1) ps sp := by
  obtain ⟨f, fd, F, g, b⟩ := d
  exact ⟨f, fd, F.ok S len (hbody f), g, F.kp, b⟩
end
section
variable {X : Cx} {CX : CXT} {k : Nat} {ps : List Str} {sp : Sp} {E : XK} {x : Str} {p pos : Pos} {e : Expr} {es : List Expr} {t : TA}
theorem pe_cal (c : Cal X.prog X.w X.K X.mg X.base CX x k ps sp) (hr : Room k X.A) (hg : Gl X x) (hx : Passes CX X E)
    (ha : PA X (e :: es) t) (hdb : (x == ("__debug__" : Str)) = false := by decide) (he : starEach (e :: es) X.env = (false, eval e X.env) :: starEach es X.env := by rfl) (hpl : (backTo pos (starEach es X.env)).any (·.1) = false := by rfl) :
    PE X (.Call (.Name x p) (e :: es) [] pos) (tCall sp [] E t) := by
  obtain ⟨f, fd, F, g, kp, b⟩ := c
  exact pe_call F hr hg g kp b .nil hx ha hdb he hpl
end

/-! ### rules of ours -/
def CPowW (i j : Int) : Prop := 0 ≤ j ∧ (Builtin.Int.intBits i : Int) * j ≤ 2 ^ 27
section
variable {X : Cx}
theorem op_powW : OpR X (binaryOp .Pow) (rI CPowW fun i j => .int (i ^ j.toNat)) := opI fun _ _ _ _ _ _ _ hc q => pow_int hc.1 hc.2 q
/-- what stands at a place of a list, for o[i] op= e -/
def rGetL (K : PySem.W.Frag) : V → V → Hp → VK → Prop := fun o i H Q => ∃ p xs j v, o = .ref p ∧ i = .int ((j : Nat) : Int) ∧ SqL K H p xs ∧ xs[j]? = some v ∧ Q v H
theorem get_list : PGet X (rGetL X.K) := by
  intro pins s σ H o i ov iv Q I ro ri h
  obtain ⟨p, xs, j, z, rfl, rfl, hq, he, q⟩ := h
  cases ro
  obtain ⟨t, rfl⟩ := ri
  obtain ⟨its, r, pl, hz⟩ := I.list hq
  obtain ⟨w, ew, rw'⟩ := r.get he
  have hj : j < xs.length := (List.getElem?_eq_some_iff.mp he).1
  have hn := line63
  have hl := r.length
  exact wpAny_getItem_list pl.isList (by omega) (by omega) (by simpa using ew) ⟨z, H, I, rw', q⟩
theorem pip_of {op : Operator} {r : R2} (ho : OpR X (inplaceOp op) r) : PIp X op r := fun pins s σ H x y v u Q I rx ry h => ho pins s σ H x y v u Q I rx ry h
/-- math.isqrt -/
def rIsqrt : List V → Hp → VK → Prop := fun vs H Q => ∃ a : Int, vs = [.int a] ∧ 0 ≤ a ∧ a < 2 ^ 64 ∧ Q (.int ((Float64.isqrt a.toNat : Nat) : Int)) H
theorem cr_isqrt : CallR X (.builtin "math.isqrt") rIsqrt := by
  intro pins s σ H vs us Q I r h
  obtain ⟨a, rfl, h0, h1, q⟩ := h
  obtain ⟨u, rfl, t, rfl⟩ := vals1 r
  exact PySem.W.mg_isqrt h0 h1 ⟨.int _, H, I.tok _, ⟨_, rfl⟩, q⟩
end

/-! ### what evaluates to what, by operators -/
section
variable {K : PySem.W.Frag} {σ : L2.St} {H : Hp} {ta tb te : TE} {i j : Int}
theorem ev_add (ha : Ev ta σ H (.int i)) (hb : Ev tb σ H (.int j)) : Ev (tOp (rI0 fun i j => .int (i + j)) ta tb) σ H (.int (i + j)) := ev_op ha hb rv_I0
theorem ev_sub (ha : Ev ta σ H (.int i)) (hb : Ev tb σ H (.int j)) : Ev (tOp (rI0 fun i j => .int (i - j)) ta tb) σ H (.int (i - j)) := ev_op ha hb rv_I0
theorem ev_mul (ha : Ev ta σ H (.int i)) (hb : Ev tb σ H (.int j)) (h : CMulW i j) : Ev (tOp (rI CMulW fun i j => .int (i * j)) ta tb) σ H (.int (i * j)) := ev_op ha hb (rv_I h)
theorem ev_div (ha : Ev ta σ H (.int i)) (hb : Ev tb σ H (.int j)) (h : CDivW i j) : Ev (tOp (rI CDivW fun i j => .int (i / j)) ta tb) σ H (.int (i / j)) := ev_op ha hb (rv_I h)
theorem ev_mod (ha : Ev ta σ H (.int i)) (hb : Ev tb σ H (.int j)) (h : 0 < j) : Ev (tOp (rI (fun _ j => 0 < j) fun i j => .int (i % j)) ta tb) σ H (.int (i % j)) := ev_op ha hb (rv_I (C := fun _ j => 0 < j) h)
theorem ev_pow {c : Int} (ha : Ev ta σ H (.int i)) (hb : Ev tb σ H (.int j)) (h : CPowW i j) (hc : i ^ j.toNat = c) : Ev (tOp (rI CPowW fun i j => .int (i ^ j.toNat)) ta tb) σ H (.int c) := by
  rw [← hc]
  exact ev_op ha hb (rv_I h)
theorem ev_neg (ha : Ev ta σ H (.int i)) : Ev (tUn (rU fun i => .int (-i)) ta) σ H (.int (-i)) := ev_un ha ru_neg
theorem ev_lt (ha : Ev ta σ H (.int i)) (hb : Ev tb σ H (.int j)) : Ev (tOp (rI0 fun i j => .bl (decide (i < j))) ta tb) σ H (.bl (decide (i < j))) := ev_op ha hb rv_I0
theorem ev_le (ha : Ev ta σ H (.int i)) (hb : Ev tb σ H (.int j)) : Ev (tOp (rI0 fun i j => .bl (decide (i ≤ j))) ta tb) σ H (.bl (decide (i ≤ j))) := ev_op ha hb rv_I0
theorem ev_gt (ha : Ev ta σ H (.int i)) (hb : Ev tb σ H (.int j)) : Ev (tOp (rI0 fun i j => .bl (decide (j < i))) ta tb) σ H (.bl (decide (j < i))) := ev_op ha hb rv_I0
theorem ev_ge (ha : Ev ta σ H (.int i)) (hb : Ev tb σ H (.int j)) : Ev (tOp (rI0 fun i j => .bl (decide (j ≤ i))) ta tb) σ H (.bl (decide (j ≤ i))) := ev_op ha hb rv_I0
theorem dec_int (i j : Int) : decide (V.int i = V.int j) = decide (i = j) := decide_eq_decide.mpr ⟨V.int.inj, fun e => by rw [e]⟩
theorem ev_eqI (ha : Ev ta σ H (.int i)) (hb : Ev tb σ H (.int j)) : Ev (tOp rEq ta tb) σ H (.bl (decide (i = j))) := by
  rw [← dec_int]
  exact ev_op ha hb (rv_eq rfl)
theorem ev_neI (ha : Ev ta σ H (.int i)) (hb : Ev tb σ H (.int j)) : Ev (tOp rNe ta tb) σ H (.bl (!decide (i = j))) := by
  rw [← dec_int]
  exact ev_op ha hb (rv_ne rfl)
theorem ev_isN {v : V} (ha : Ev ta σ H v) : Ev (tOp (fun x y H Q => y = .non ∧ Q (.bl (decide (x = .non))) H) ta (tC .non)) σ H (.bl (decide (v = .non))) := ev_op ha ev_c fun H1 _ _ q => ⟨rfl, q H1 (Ex.refl H1)⟩
theorem ev_notN {v : V} (ha : Ev ta σ H v) : Ev (tOp (fun x y H Q => y = .non ∧ Q (.bl (!decide (x = .non))) H) ta (tC .non)) σ H (.bl (!decide (v = .non))) := ev_op ha ev_c fun H1 _ _ q => ⟨rfl, q H1 (Ex.refl H1)⟩
/-- numbers of some hundred bits -/
theorem mulW {i j : Int} (hi : i.natAbs < 2 ^ 300) (hj : j.natAbs < 2 ^ 300) : CMulW i j := wide_mul hi hj (by decide) (by decide) (by decide)
theorem divW {i j : Int} (h : 0 < j) (hj : j < 2 ^ 300) : CDivW i j := wide_div (b := 300) h (by omega) (by decide) (by decide)
/-- no reading is this: a goal that takes it has not been told yet which reading it speaks of -/
def tProbe : TE := fun _ _ _ => False
def tProbeT : TT := fun _ _ _ => False
def tProbeA : TA := fun _ _ _ => False
theorem probe {v : V} (h : False) : Ev tProbe σ H v := h.elim
theorem probeT {b : Bool} (h : False) : EvT tProbeT σ H b := h.elim
theorem probeA {vs : List V} (h : False) : EvA tProbeA σ H vs := h.elim
/-- a call's promise: one value -/
theorem ev_cal {sp : Sp} {vs : List V} {E : XK} {ta : TA} {z : V} (h : EvA ta σ H vs) (hs : ∀ H1, Ex H H1 → ∀ Q : VK, RetV z H1 Q → ∀ E : XK, sp vs H1 Q E) : Ev (tCall sp [] E ta) σ H z := fun H1 e Q q =>
  h H1 e _ fun H2 e2 => by
    show sp (vs ++ []) H2 Q E
    rw [List.append_nil]
    exact hs H2 (e.trans e2) Q (fun H3 e3 => q H3 (e2.trans e3)) E
/-- one new list -/
theorem el_cal {sp : Sp} {vs xs : List V} {E : XK} {ta : TA} (h : EvA ta σ H vs) (hs : ∀ H1, Ex H H1 → ∀ Q : VK, RetL xs H1 Q → ∀ E : XK, sp vs H1 Q E) : EvL (tCall sp [] E ta) σ H xs := fun H1 e Q q =>
  h H1 e _ fun H2 e2 => by
    show sp (vs ++ []) H2 Q E
    rw [List.append_nil]
    exact hs H2 (e.trans e2) Q (fun p H3 hp e3 h3 => q p H3 (fresh_back e2 hp) (e2.trans e3) h3) E
end
end Kp

/-! Data as a whole; lists of pairs; comprehensions; new lists. -/
namespace Kp
open PySem PySem.Spec PyProof.Rows L2 Evl

/-! ### == of data without truths, texts and dicts -/
mutual
def okD : PyData → Bool
  | .none => true
  | .int _ => true
  | .list xs => okA xs
  | .tuple xs => okA xs
  | .bool _ => false
  | .str _ => false
  | .dict _ => false
def okA : List PyData → Bool
  | [] => true
  | x :: xs => okD x && okA xs
end
mutual
theorem eqv_ok : ∀ d e : PyData, okD d = true → okD e = true → (PyData.eqv d e = true ↔ d = e)
  | .none, e, _, h => by cases e <;> simp_all [okD, PyData.eqv]
  | .int i, e, _, h => by cases e <;> simp_all [okD, PyData.eqv]
  | .list xs, e, h1, h => by
    cases e with
    | list ys =>
      unfold okD at h1 h
      unfold PyData.eqv
      rw [eqvA_ok xs ys h1 h]
      exact ⟨fun e => by rw [e], PyData.list.inj⟩
    | _ => simp_all [okD, PyData.eqv]
  | .tuple xs, e, h1, h => by
    cases e with
    | tuple ys =>
      unfold okD at h1 h
      unfold PyData.eqv
      rw [eqvA_ok xs ys h1 h]
      exact ⟨fun e => by rw [e], PyData.tuple.inj⟩
    | _ => simp_all [okD, PyData.eqv]
  | .bool _, _, h, _ => by simp [okD] at h
  | .str _, _, h, _ => by simp [okD] at h
  | .dict _, _, h, _ => by simp [okD] at h
theorem eqvA_ok : ∀ ds es : List PyData, okA ds = true → okA es = true → (PyData.eqvAll ds es = true ↔ ds = es)
  | [], [], _, _ => by simp [PyData.eqvAll]
  | [], _ :: _, _, _ => by simp [PyData.eqvAll]
  | _ :: _, [], _, _ => by simp [PyData.eqvAll]
  | d :: ds, e :: es, h1, h2 => by
    unfold okA at h1 h2
    rw [Bool.and_eq_true] at h1 h2
    unfold PyData.eqvAll
    rw [Bool.and_eq_true, eqv_ok d e h1.1 h2.1, eqvA_ok ds es h1.2 h2.2]
    simp
end
theorem eqv_dec {α : Type} [DecidableEq α] (enc : α → PyData) (ok : ∀ a, okD (enc a) = true) (inj : ∀ a b, enc a = enc b → a = b) (a b : α) : PyData.eqv (enc a) (enc b) = decide (a = b) := by
  have h := eqv_ok (enc a) (enc b) (ok a) (ok b)
  by_cases e : a = b
  · subst e
    rw [decide_eq_true rfl]
    exact h.mpr rfl
  · rw [decide_eq_false e]
    cases q : PyData.eqv (enc a) (enc b) with
    | false => rfl
    | true => exact absurd (inj _ _ (h.mp q)) e
theorem okA_map {α : Type} (f : α → PyData) (h : ∀ a, okD (f a) = true) : ∀ l : List α, okA (l.map f) = true
  | [] => rfl
  | a :: l => by
    rw [List.map_cons]
    unfold okA
    rw [h a, okA_map f h l]
    rfl
theorem lay_map {α : Type} (f : α → PyData) (h : ∀ a, PyData.canLay0 (f a) = true) : ∀ l : List α, PyData.canLayAll0 (l.map f) = true
  | [] => rfl
  | a :: l => by
    rw [List.map_cons]
    unfold PyData.canLayAll0
    rw [h a, lay_map f h l]
    rfl
theorem dep_map {α : Type} (f : α → PyData) (k : Nat) (h : ∀ a, PyData.depth (f a) ≤ k) : ∀ l : List α, PyData.depthAll (l.map f) ≤ k
  | [] => Nat.zero_le _
  | a :: l => by
    rw [List.map_cons]
    unfold PyData.depthAll
    exact Nat.max_le.mpr ⟨h a, dep_map f k h l⟩
theorem shaped_of {d : PyData} (h : PyData.canLay0 d = true) (k : PyData.depth d ≤ 64) : SeqAt.shaped d = true := by
  unfold SeqAt.shaped
  rw [h, decide_eq_true k]
  rfl
/-- a list of ints, a pair of ints, a list of such -/
def dI (ns : List Int) : PyData := .list (ns.map .int)
def dP (r : Int × Int) : PyData := .tuple [.int r.1, .int r.2]
def dR (rows : List (Int × Int)) : PyData := .list (rows.map dP)
theorem map_inj {α β : Type} {f : α → β} (h : ∀ a b, f a = f b → a = b) : ∀ l m : List α, l.map f = m.map f → l = m
  | [], [], _ => rfl
  | [], _ :: _, e => by simp at e
  | _ :: _, [], e => by simp at e
  | a :: l, b :: m, e => by
    rw [List.map_cons, List.map_cons] at e
    injection e with e1 e2
    rw [h _ _ e1, map_inj h l m e2]
theorem dI_sh (ns : List Int) : SeqAt.shaped (dI ns) = true := shaped_of (lay_map _ (fun _ => rfl) ns) (Nat.le_trans (Nat.succ_le_succ (dep_map PyData.int 0 (fun _ => Nat.le_refl 0) ns)) (by decide))
theorem dR_sh (rows : List (Int × Int)) : SeqAt.shaped (dR rows) = true := shaped_of (lay_map _ (fun _ => rfl) rows) (Nat.le_trans (Nat.succ_le_succ (dep_map dP 1 (fun _ => Nat.le_refl 1) rows)) (by decide))
theorem dI_eqv (ns ms : List Int) : PyData.eqv (dI ns) (dI ms) = decide (ns = ms) := eqv_dec dI (fun l => by unfold dI okD; exact okA_map _ (fun _ => rfl) l) (fun a b e => map_inj (fun _ _ q => PyData.int.inj q) a b (PyData.list.inj e)) ns ms
theorem dP_inj (a b : Int × Int) (e : dP a = dP b) : a = b := by
  obtain ⟨a1, a2⟩ := a
  obtain ⟨b1, b2⟩ := b
  simp [dP] at e
  rw [e.1, e.2]
theorem dR_eqv (rs qs : List (Int × Int)) : PyData.eqv (dR rs) (dR qs) = decide (rs = qs) := eqv_dec dR (fun l => by unfold dR okD; exact okA_map _ (fun _ => rfl) l) (fun a b e => map_inj dP_inj a b (PyData.list.inj e)) rs qs

section
variable {K : PySem.W.Frag} {σ : L2.St} {H H' : Hp} {ta tb te tl : TE} {t : TT} {x y z v : V} {D : Ends} {tz : TS} {vs : List Nat}
theorem dpa_ints (K : PySem.W.Frag) (H : Hp) : ∀ ns : List Int, DpAll K H (ns.map V.int) (ns.map PyData.int)
  | [] => .nil
  | n :: ns => .cons (.int n) (dpa_ints K H ns)
theorem dp_ints {a : Addr} {ns : List Int} (h : SqL K H a (ns.map V.int)) : Dp K H (.ref a) (dI ns) := .lst h (dpa_ints K H ns)

/-! ### lists of pairs -/
/-- each item a tuple of the pair's two ints -/
def Prs (K : PySem.W.Frag) (H : Hp) : List V → List (Int × Int) → Prop := Paired fun v r => ∃ t, v = .ref t ∧ SqT K H t [.int r.1, .int r.2]
theorem Prs.mono {xs : List V} {rows : List (Int × Int)} (e : Ex H H') (h : Prs K H xs rows) : Prs K H' xs rows := Paired.mapP h fun v r ⟨t, q, s⟩ => ⟨t, q, ex_t e s⟩
theorem sqt_upd {l t : Addr} {xs ys ts : List V} (hl : H l = some (.lst xs)) (h : SqT K H t ts) : SqT K (upd H l (.lst ys)) t ts := by
  rcases h with h | h
  · refine .inl ?_
    rcases h with h | ⟨o, h⟩
    · refine .inl ?_
      rw [upd_ne (ne_of h hl (by intro z; cases z))]
      exact h
    · refine .inr ⟨o, ?_⟩
      rw [upd_ne (ne_of h hl (by intro z; cases z))]
      exact h
  · exact .inr h
theorem Prs.upd {l : Addr} {us ys xs : List V} {rows : List (Int × Int)} (hl : H l = some (.lst us)) (h : Prs K H xs rows) : Prs K (upd H l (.lst ys)) xs rows := Paired.mapP h fun v r ⟨t, q, s⟩ => ⟨t, q, sqt_upd hl s⟩
theorem Prs.snoc {xs : List V} {rows : List (Int × Int)} {t : Addr} {a b : Int} (h : Prs K H xs rows) (ht : SqT K H t [.int a, .int b]) : Prs K H (xs ++ [.ref t]) (rows ++ [(a, b)]) := Paired.snoc h ⟨t, rfl, ht⟩
theorem prs_get : ∀ {xs : List V} {rows : List (Int × Int)} {i : Nat} {x : V}, Prs K H xs rows → xs[i]? = some x → ∃ r t, rows[i]? = some r ∧ x = .ref t ∧ SqT K H t [.int r.1, .int r.2]
  | _, _, _, _, .nil, h => by simp at h
  | _, _, 0, _, .cons (b := r) q _, h => by
    obtain ⟨t, q1, q2⟩ := q
    have e := Option.some.inj h
    exact ⟨r, t, rfl, e ▸ q1, q2⟩
  | _, _, i + 1, _, .cons _ q, h => prs_get (i := i) q h
theorem dpa_prs : ∀ {xs : List V} {rows : List (Int × Int)}, Prs K H xs rows → DpAll K H xs (rows.map dP)
  | _, _, .nil => .nil
  | _, _, .cons q r => by
    obtain ⟨t, rfl, q2⟩ := q
    exact .cons (.tup q2 (.cons (.int _) (.cons (.int _) .nil))) (dpa_prs r)
theorem dp_prs {a : Addr} {xs : List V} {rows : List (Int × Int)} (h : SqL K H a xs) (p : Prs K H xs rows) : Dp K H (.ref a) (dR rows) := .lst h (dpa_prs p)

/-! ### == and != -/
theorem rv_eqD {d e : PyData} {b : Bool} (h1 : Dp K H x d) (h2 : Dp K H y e) (m1 : ∀ H1, Ex H H1 → Dp K H1 x d) (m2 : ∀ H1, Ex H H1 → Dp K H1 y e) (s1 : SeqAt.shaped d = true) (s2 : SeqAt.shaped e = true) (hb : PyData.eqv d e = b) : RV (rEqD K) x y H (.bl b) := by
  subst hb
  exact fun H1 e1 Q q => ⟨d, e, m1 H1 e1, m2 H1 e1, s1, s2, q H1 (Ex.refl H1)⟩
theorem rv_neD {d e : PyData} {b : Bool} (m1 : ∀ H1, Ex H H1 → Dp K H1 x d) (m2 : ∀ H1, Ex H H1 → Dp K H1 y e) (s1 : SeqAt.shaped d = true) (s2 : SeqAt.shaped e = true) (hb : (!PyData.eqv d e) = b) : RV (rNeD K) x y H (.bl b) := by
  subst hb
  exact fun H1 e1 Q q => ⟨d, e, m1 H1 e1, m2 H1 e1, s1, s2, q H1 (Ex.refl H1)⟩
theorem rv_eqI {p q : Addr} {ns ms : List Int} (h1 : SqL K H p (ns.map V.int)) (h2 : SqL K H q (ms.map V.int)) : RV (rEqD K) (.ref p) (.ref q) H (.bl (decide (ns = ms))) :=
  rv_eqD (dp_ints h1) (dp_ints h2) (fun _ e => dp_ints (ex_l e h1)) (fun _ e => dp_ints (ex_l e h2)) (dI_sh _) (dI_sh _) (dI_eqv _ _)
theorem rv_neI {p q : Addr} {ns ms : List Int} (h1 : SqL K H p (ns.map V.int)) (h2 : SqL K H q (ms.map V.int)) : RV (rNeD K) (.ref p) (.ref q) H (.bl (!decide (ns = ms))) :=
  rv_neD (fun _ e => dp_ints (ex_l e h1)) (fun _ e => dp_ints (ex_l e h2)) (dI_sh _) (dI_sh _) (by rw [dI_eqv])
theorem rv_neR {p q : Addr} {xs ys : List V} {rs qs : List (Int × Int)} (h1 : SqL K H p xs) (p1 : Prs K H xs rs) (h2 : SqL K H q ys) (p2 : Prs K H ys qs) : RV (rNeD K) (.ref p) (.ref q) H (.bl (!decide (rs = qs))) :=
  rv_neD (fun _ e => dp_prs (ex_l e h1) (p1.mono e)) (fun _ e => dp_prs (ex_l e h2) (p2.mono e)) (dR_sh _) (dR_sh _) (by rw [dR_eqv])

/-! ### new lists -/
theorem el_is {xs ys : List V} (h : EvL te σ H xs) (e : xs = ys) : EvL te σ H ys := by
  rw [← e]
  exact h
theorem el_cat {xs ys : List V} (ha : EvL ta σ H xs) (hb : EvL tb σ H ys) (hz : xs.length + ys.length ≤ 100000) : EvL (tOp rCat ta tb) σ H (xs ++ ys) := fun H1 e Q q =>
  ha H1 e _ fun p H2 np e2 hp => hb H2 (e.trans e2) _ fun r H3 nr e3 hr => ⟨p, r, xs, ys, rfl, rfl, e3 p _ hp, hr, sz_of hz, fun l hl => q l _ (fresh_back (e2.trans e3) hl) ((e2.trans e3).trans (Ex.new hl)) upd_same⟩
theorem el_rep {k : Int} (ha : EvL ta σ H [x]) (hb : Ev tb σ H (.int k)) (h0 : 0 ≤ k) (hz : k ≤ 100000) : EvL (tOp rRep ta tb) σ H (List.replicate k.toNat x) := fun H1 e Q q =>
  ha H1 e _ fun p H2 np e2 hp => hb H2 (e.trans e2) _ fun H3 e3 => ⟨p, k, [x], rfl, rfl, e3 p _ hp, by omega, by omega, sz_of (by rw [List.length_singleton]; omega), fun l hl => q l _ (fresh_back (e2.trans e3) hl) ((e2.trans e3).trans (Ex.new hl)) (by
    rw [upd_same]
    congr 2
    generalize k.toNat = n
    induction n with
    | zero => rfl
    | succ n ih => rw [List.replicate_succ, List.flatten_cons, ih, List.replicate_succ]; rfl)⟩
/-- an item of a new list of ints -/
theorem ev_ixN {ns : List Int} {i : Int} (ha : EvL ta σ H (ns.map V.int)) (hb : ∀ H1, Ex H H1 → Ev tb σ H1 (.int i)) (h0 : 0 ≤ i) (h1 : i < (ns.length : Int)) : Ev (tOp (rIxL K) ta tb) σ H (.int (ns.getD i.toNat 0)) :=
  ev_opL1 ha hb fun p H1 hp _ => rv_ixL (sq_of hp) (by
    obtain ⟨j, rfl⟩ := Int.eq_ofNat_of_zero_le h0
    refine atI_nat ?_
    have hj : j < ns.length := by omega
    rw [List.getElem?_map, List.getElem?_eq_getElem hj, Int.toNat_natCast, List.getD_eq_getElem?_getD, List.getElem?_eq_getElem hj]
    rfl)
/-- an append to a new list that is thrown away -/
theorem s_appN {xs : List V} (h : EvL ta σ H xs) (hv : ∀ H1, Ex H H1 → Ev te σ H1 v) (hz : xs.length < 100000) (k : ∀ H1, Ex H H1 → D.nx σ H1) : tDrop (tBM K "list" rAppend ta (tCons te tNil)) D σ H := h H (Ex.refl H) _ fun p H1 np e1 hp =>
  ⟨Or.inl ⟨rfl, xs, sq_of hp⟩, hv H1 e1 H1 (Ex.refl _) _ fun H2 e2 => ⟨p, xs, v, rfl, rfl, e2 p _ hp, sz_lt hz, k _ (Ex.mut (e1.trans e2) np)⟩⟩
theorem q_appN {xs : List V} (h : EvL ta σ H xs) (hv : ∀ H1, Ex H H1 → Ev te σ H1 v) (hz : xs.length < 100000) (k : ∀ H1, Ex H H1 → tz D σ H1) : tSeq (tDrop (tBM K "list" rAppend ta (tCons te tNil))) tz D σ H := s_appN (D := { D with nx := tz D }) h hv hz k
theorem cut_mem {xs : List V} {lo hi : Option Int} {x : V} (h : x ∈ cutV xs lo hi) : x ∈ xs := List.mem_of_mem_drop (List.mem_of_mem_take h)
theorem int_of_mem {ns : List Int} {x : V} (h : x ∈ ns.map V.int) : ∃ i, x = .int i := by
  obtain ⟨i, _, rfl⟩ := List.mem_map.mp h
  exact ⟨i, rfl⟩

/-! ### a new list of pairs -/
def RetP (K : PySem.W.Frag) (rows : List (Int × Int)) (H : Hp) (Q : VK) : Prop := ∀ p xs H2, H p = none → Ex H H2 → H2 p = some (.lst xs) → Prs K H2 xs rows → Q (.ref p) H2
def EvP (K : PySem.W.Frag) (te : TE) (σ : L2.St) (H : Hp) (rows : List (Int × Int)) : Prop := ∀ H1, Ex H H1 → ∀ Q : VK, (∀ p xs H2, H1 p = none → Ex H1 H2 → H2 p = some (.lst xs) → Prs K H2 xs rows → Q (.ref p) H2) → te σ H1 Q
theorem ep_cal {sp : Sp} {vs : List V} {E : XK} {ta : TA} {rows : List (Int × Int)} (h : EvA ta σ H vs) (hs : ∀ H1, Ex H H1 → ∀ Q : VK, RetP K rows H1 Q → ∀ E : XK, sp vs H1 Q E) : EvP K (tCall sp [] E ta) σ H rows := fun H1 e Q q =>
  h H1 e _ fun H2 e2 => by
    show sp (vs ++ []) H2 Q E
    rw [List.append_nil]
    exact hs H2 (e.trans e2) Q (fun p xs H3 hp e3 h3 p3 => q p xs H3 (fresh_back e2 hp) (e2.trans e3) h3 p3) E
theorem q_asgP {i : Nat} {rows : List (Int × Int)} (h : EvP K te σ H rows) (k : ∀ p xs H1, H p = none → Ex H H1 → H1 p = some (.lst xs) → Prs K H1 xs rows → tz D (σ.set i (some (.ref p))) H1) : tSeq (tAsg te (gName i)) tz D σ H :=
  h H (Ex.refl H) _ fun p xs H1 hp e h1 p1 => k p xs H1 hp e h1 p1
theorem s_appNP {rows : List (Int × Int)} (h : EvP K ta σ H rows) (hv : ∀ H1, Ex H H1 → Ev te σ H1 v) (hz : rows.length < 100000) (k : ∀ H1, Ex H H1 → D.nx σ H1) : tDrop (tBM K "list" rAppend ta (tCons te tNil)) D σ H := h H (Ex.refl H) _ fun p xs H1 np e1 hp pp =>
  ⟨Or.inl ⟨rfl, xs, sq_of hp⟩, hv H1 e1 H1 (Ex.refl _) _ fun H2 e2 => ⟨p, xs, v, rfl, rfl, e2 p _ hp, sz_lt (by rw [Paired.length pp]; exact hz), k _ (Ex.mut (e1.trans e2) np)⟩⟩
theorem q_appNP {rows : List (Int × Int)} (h : EvP K ta σ H rows) (hv : ∀ H1, Ex H H1 → Ev te σ H1 v) (hz : rows.length < 100000) (k : ∀ H1, Ex H H1 → tz D σ H1) : tSeq (tDrop (tBM K "list" rAppend ta (tCons te tNil))) tz D σ H := s_appNP (D := { D with nx := tz D }) h hv hz k

/-! ### isinstance -/
theorem ev_isi {n s : String} {b : Bool} (ha : Ev ta σ H x) (ty : ∀ H1, Ex H H1 → TyX K H1 x (.type s)) (hk : kitB s n = some b) : Ev (tCB (rIsi K) (tCons ta (tCons (tC (.ty n)) tNil))) σ H (.bl b) := fun H1 e Q q =>
  ha H1 e _ fun H2 e2 => ⟨x, .ty n, .type s, .type n, b, rfl, .ty n, ty H2 (e.trans e2), kit_ty hk, q H2 e2⟩
theorem tx_int {i : Int} : ∀ H1, Ex H H1 → TyX K H1 (.int i) (.type "int") := fun _ _ => .base (.int i)
theorem tx_lst {p : Addr} {xs : List V} (h : H p = some (.lst xs)) : ∀ H1, Ex H H1 → TyX K H1 (.ref p) (.type "list") := fun _ e => .base (.lst (e p _ h))
theorem tx_tup {p : Addr} {xs : List V} (h : H p = some (.tup xs)) : ∀ H1, Ex H H1 → TyX K H1 (.ref p) (.type "tuple") := fun _ e => .base (.tup (e p _ h))

/-! ### comprehensions -/
/-- over a list of pairs, its target a pair of names -/
theorem el_lcP {a : Addr} {xs : List V} {rows : List (Int × Int)} {i j : Nat} (f : Int × Int → Bool) (w : Int × Int → V) (h : Ev tl σ H (.ref a)) (hx : SqL K H a xs) (hp : Prs K H xs rows) (hz : rows.length ≤ 40000)
    (hw : ∀ x y, wipe (((wipe σ vs).set i (some x)).set j (some y)) vs = wipe σ vs)
    (ht : ∀ r H1, Ex H H1 → r ∈ rows → EvT t (((wipe σ vs).set i (some (.int r.1))).set j (some (.int r.2))) H1 (f r)) (he : ∀ r H1, Ex H H1 → r ∈ rows → f r = true → Ev te (((wipe σ vs).set i (some (.int r.1))).set j (some (.int r.2))) H1 (w r)) :
    EvL (tLc (iList K tl) (gTup K 2 (gCons (gName i) (gCons (gName j) gNil))) t te vs) σ H ((rows.filter f).map w) := fun H0 e Q q => h H0 e _ fun H1 e1 => ⟨a, rfl, ⟨xs, ex_l (e.trans e1) hx⟩, fun Dl hD =>
  lc_list (xs := xs) (fun n H' => H1 Dl = none ∧ Ex H1 H' ∧ H' Dl = some (.lst (((rows.take n).filter f).map w))) ⟨hD, Ex.new hD, upd_same⟩ (fun n H' _ p => ex_l ((e.trans e1).trans p.2.1) hx) (fun n x H' hn p => by
    obtain ⟨p1, p2, p3⟩ := p
    obtain ⟨r, u, hr, rfl, hu⟩ := prs_get (hp.mono ((e.trans e1).trans p2)) hn
    have hm : r ∈ rows := List.mem_of_getElem? hr
    have hlen : (((rows.take n).filter f).map w).length < 100000 := by
      rw [List.length_map]
      have h1 := List.length_filter_le f (rows.take n)
      rw [List.length_take] at h1
      omega
    refine ⟨u, _, rfl, hu, rfl, .int r.1, [.int r.2], rfl, .int r.2, [], rfl, rfl, hw _ _, ?_⟩
    refine ht r H1 (e.trans e1) hm H' p2 _ fun H3 e3 => ?_
    have et : rows.take (n + 1) = rows.take n ++ [r] := by rw [List.take_add_one, hr]; rfl
    cases hf : f r with
    | true =>
      show te _ H3 _
      refine he r H1 (e.trans e1) hm hf H3 (p2.trans e3) _ fun H4 e4 => ⟨_, e4 Dl _ (e3 Dl _ p3), sz_lt hlen, p1, Ex.mut ((p2.trans e3).trans e4) p1, ?_⟩
      rw [upd_same, et, List.filter_append, List.map_append, List.filter_cons, if_pos hf]
      rfl
    | false =>
      refine ⟨p1, p2.trans e3, ?_⟩
      rw [et, List.filter_append, List.map_append, List.filter_cons, if_neg (by rw [hf]; decide)]
      show _ = some (HO.lst (_ ++ []))
      rw [List.append_nil]
      exact e3 Dl _ p3) (fun H' p => by
    have q1 := p.2.2
    rw [Paired.length hp, List.take_length] at q1
    exact q Dl H' (fresh_back e1 p.1) (e1.trans p.2.1) q1)⟩
/-- over a list of ints -/
theorem el_lcI {a : Addr} {ns : List Int} {j : Nat} (f : Int → Bool) (w : Int → V) (h : Ev tl σ H (.ref a)) (hx : SqL K H a (ns.map V.int)) (hz : ns.length ≤ 40000)
    (hw : ∀ x, wipe ((wipe σ vs).set j (some x)) vs = wipe σ vs)
    (ht : ∀ r H1, Ex H H1 → r ∈ ns → EvT t ((wipe σ vs).set j (some (.int r))) H1 (f r)) (he : ∀ r H1, Ex H H1 → r ∈ ns → f r = true → Ev te ((wipe σ vs).set j (some (.int r))) H1 (w r)) :
    EvL (tLc (iList K tl) (gName j) t te vs) σ H ((ns.filter f).map w) := fun H0 e Q q => h H0 e _ fun H1 e1 => ⟨a, rfl, ⟨_, ex_l (e.trans e1) hx⟩, fun Dl hD =>
  lc_list (xs := ns.map V.int) (fun n H' => H1 Dl = none ∧ Ex H1 H' ∧ H' Dl = some (.lst (((ns.take n).filter f).map w))) ⟨hD, Ex.new hD, upd_same⟩ (fun n H' _ p => ex_l ((e.trans e1).trans p.2.1) hx) (fun n x H' hn p => by
    obtain ⟨p1, p2, p3⟩ := p
    rw [List.getElem?_map] at hn
    obtain ⟨r, hr, rfl⟩ := Option.map_eq_some_iff.mp hn
    have hm : r ∈ ns := List.mem_of_getElem? hr
    have hlen : (((ns.take n).filter f).map w).length < 100000 := by
      rw [List.length_map]
      have h1 := List.length_filter_le f (ns.take n)
      rw [List.length_take] at h1
      omega
    refine ⟨hw _, ?_⟩
    refine ht r H1 (e.trans e1) hm H' p2 _ fun H3 e3 => ?_
    have et : ns.take (n + 1) = ns.take n ++ [r] := by rw [List.take_add_one, hr]; rfl
    cases hf : f r with
    | true =>
      show te _ H3 _
      refine he r H1 (e.trans e1) hm hf H3 (p2.trans e3) _ fun H4 e4 => ⟨_, e4 Dl _ (e3 Dl _ p3), sz_lt hlen, p1, Ex.mut ((p2.trans e3).trans e4) p1, ?_⟩
      rw [upd_same, et, List.filter_append, List.map_append, List.filter_cons, if_pos hf]
      rfl
    | false =>
      refine ⟨p1, p2.trans e3, ?_⟩
      rw [et, List.filter_append, List.map_append, List.filter_cons, if_neg (by rw [hf]; decide)]
      show _ = some (HO.lst (_ ++ []))
      rw [List.append_nil]
      exact e3 Dl _ p3) (fun H' p => by
    have q1 := p.2.2
    rw [List.length_map, List.take_length] at q1
    exact q Dl H' (fresh_back e1 p.1) (e1.trans p.2.1) q1)⟩
theorem et_yes : EvT tYes σ H true := fun H1 _ _ q => q H1 (Ex.refl H1)
theorem ev_gcd {a b : Int} (ha : Ev ta σ H (.int a)) (hb : Ev tb σ H (.int b)) : Ev (tCB rGcd (tCons ta (tCons tb tNil))) σ H (.int ((Nat.gcd a.natAbs b.natAbs : Nat) : Int)) :=
  ev_cb (ea_cons ha (ea_cons hb ea_nil)) fun H1 _ _ q => ⟨a, b, rfl, q H1 (Ex.refl H1)⟩
end
end Kp

/-! Loops over enumerate and reversed; what stands at a place of a list, changed; many new lists at once. -/
namespace Kp
open PySem PySem.Spec PyProof.Rows L2 Evl
section
variable {K : PySem.W.Frag} {σ : L2.St} {H H' : Hp} {ta tb te tl to ti : TE} {t : TT} {x y z v : V} {D : Ends} {tu tz : TS} {vs : List Nat}
/-- for i, x in enumerate(xs) -/
theorem s_forE {a : Addr} {xs : List V} {tl : TA} {j1 j2 : Nat} (h : EvA tl σ H [.ref a]) (hx : SqL K H a xs) (Pv : Nat → L2.St → Hp → Prop) (h0 : ∀ H1, Ex H H1 → Pv 0 σ H1) (hl : ∀ i σ' H', i ≤ xs.length → Pv i σ' H' → SqL K H' a xs)
    (hs : ∀ i x σ' H', xs[i]? = some x → Pv i σ' H' → ∀ H2, Ex H' H2 → tu { D with nx := Pv (i + 1), ct := Pv (i + 1), bk := D.nx } ((σ'.set j1 (some (.int (i : Nat)))).set j2 (some x)) H2) (hd : ∀ σ' H', Pv xs.length σ' H' → D.nx σ' H') :
    tFor (iEnum K tl) (gTup K 2 (gCons (gName j1) (gCons (gName j2) gNil))) tu D σ H :=
  h H (Ex.refl H) _ fun H1 e => ⟨a, xs, rfl, ex_l e hx, fun i m σ' H' => m = xs.length - i ∧ i ≤ xs.length ∧ Pv i σ' H', ⟨xs.length, rfl, Nat.zero_le _, h0 H1 e⟩, fun i m σ' H' hW => by
    obtain ⟨rfl, hi, p⟩ := hW
    have q := hl i σ' H' hi p
    by_cases hlt : i < xs.length
    · refine .inr ⟨⟨xs, xs[i], q, List.getElem?_eq_getElem hlt⟩, Pv (i + 1), fun σ2 H2 p' => ⟨xs.length - (i + 1), by omega, rfl, hlt, p'⟩, fun w H2 hy => ?_⟩
      obtain ⟨T, x, rfl, hT, rfl, fx⟩ := hy
      exact ⟨T, _, rfl, .inl (.inl upd_same), rfl, .int (i : Nat), [x], rfl, x, [], rfl, rfl, hs i x σ' H' (fx xs q) p _ (Ex.new hT)⟩
    · have e : i = xs.length := by omega
      subst e
      exact .inl ⟨⟨xs, q, Nat.le_refl _⟩, hd σ' H' p⟩⟩
theorem q_forE {a : Addr} {xs : List V} {tl : TA} {j1 j2 : Nat} (h : EvA tl σ H [.ref a]) (hx : SqL K H a xs) (Pv : Nat → L2.St → Hp → Prop) (h0 : ∀ H1, Ex H H1 → Pv 0 σ H1) (hl : ∀ i σ' H', i ≤ xs.length → Pv i σ' H' → SqL K H' a xs)
    (hs : ∀ i x σ' H', xs[i]? = some x → Pv i σ' H' → ∀ H2, Ex H' H2 → tu { D with nx := Pv (i + 1), ct := Pv (i + 1), bk := tz D } ((σ'.set j1 (some (.int (i : Nat)))).set j2 (some x)) H2) (hd : ∀ σ' H', Pv xs.length σ' H' → tz D σ' H') :
    tSeq (tFor (iEnum K tl) (gTup K 2 (gCons (gName j1) (gCons (gName j2) gNil))) tu) tz D σ H := s_forE (D := { D with nx := tz D }) h hx Pv h0 hl hs hd
/-- for x in reversed(xs) -/
theorem s_forV {a : Addr} {xs : List V} {tl : TA} {j : Nat} (h : EvA tl σ H [.ref a]) (hx : SqL K H a xs) (Pv : Nat → L2.St → Hp → Prop) (h0 : ∀ H1, Ex H H1 → Pv 0 σ H1) (hl : ∀ i σ' H', i ≤ xs.length → Pv i σ' H' → SqL K H' a xs)
    (hs : ∀ i x σ' H', i < xs.length → xs[xs.length - 1 - i]? = some x → Pv i σ' H' → tu { D with nx := Pv (i + 1), ct := Pv (i + 1), bk := D.nx } (σ'.set j (some x)) H') (hd : ∀ σ' H', Pv xs.length σ' H' → D.nx σ' H') :
    tFor (iRev K tl) (gName j) tu D σ H :=
  h H (Ex.refl H) _ fun H1 e => ⟨a, xs, rfl, ex_l e hx, fun i m σ' H' => m = xs.length - i ∧ i ≤ xs.length ∧ Pv i σ' H', ⟨xs.length, rfl, Nat.zero_le _, h0 H1 e⟩, fun i m σ' H' hW => by
    obtain ⟨rfl, hi, p⟩ := hW
    have q := hl i σ' H' hi p
    by_cases hlt : i < xs.length
    · have hlt2 : xs.length - 1 - i < xs.length := by omega
      refine .inr ⟨⟨hlt, xs, xs[xs.length - 1 - i], q, List.getElem?_eq_getElem hlt2⟩, Pv (i + 1), fun σ2 H2 p' => ⟨xs.length - (i + 1), by omega, rfl, hlt, p'⟩, fun w H2 hy => ?_⟩
      obtain ⟨rfl, fx⟩ := hy
      exact hs i w σ' H2 hlt (fx xs q) p
    · have e : i = xs.length := by omega
      subst e
      exact .inl ⟨Nat.le_refl _, hd σ' H' p⟩⟩
theorem q_forV {a : Addr} {xs : List V} {tl : TA} {j : Nat} (h : EvA tl σ H [.ref a]) (hx : SqL K H a xs) (Pv : Nat → L2.St → Hp → Prop) (h0 : ∀ H1, Ex H H1 → Pv 0 σ H1) (hl : ∀ i σ' H', i ≤ xs.length → Pv i σ' H' → SqL K H' a xs)
    (hs : ∀ i x σ' H', i < xs.length → xs[xs.length - 1 - i]? = some x → Pv i σ' H' → tu { D with nx := Pv (i + 1), ct := Pv (i + 1), bk := tz D } (σ'.set j (some x)) H') (hd : ∀ σ' H', Pv xs.length σ' H' → tz D σ' H') :
    tSeq (tFor (iRev K tl) (gName j) tu) tz D σ H := s_forV (D := { D with nx := tz D }) h hx Pv h0 hl hs hd
/-- o[i] += e, of a list of ints -/
theorem s_augL {l : Addr} {ns : List Int} {j : Nat} {f : Int → Int → Int} {a b : Int} (hl : H l = some (.lst (ns.map V.int))) (ho : Ev to σ H (.ref l)) (hi : Ev ti σ H (.int (j : Nat))) (hj : ns[j]? = some a) (he : Ev te σ H (.int b))
    (k : ∀ H1, Ex H H1 → D.nx σ (upd H1 l (.lst ((ns.set j (f a b)).map V.int)))) : tAugS to ti te (rGetL K) (ipI f) rSetL D σ H := ho H (Ex.refl H) _ fun H1 e1 => hi H1 e1 _ fun H2 e2 =>
  ⟨l, ns.map V.int, j, .int a, rfl, rfl, sq_of ((e1.trans e2) l _ hl), by rw [List.getElem?_map, hj]; rfl, he H2 (e1.trans e2) _ fun H3 e3 => ⟨a, b, rfl, rfl, l, ns.map V.int, (j : Nat), j, rfl, rfl, ((e1.trans e2).trans e3) l _ hl,
    ixN_nat (by rw [List.length_map]; exact (List.getElem?_eq_some_iff.mp hj).1), by
      have q := k H3 ((e1.trans e2).trans e3)
      rw [List.map_set] at q
      exact q⟩⟩
/-- the same with an operator that asks something of its two ints -/
theorem s_augLC {l : Addr} {ns : List Int} {j : Nat} {C : Int → Int → Prop} {f : Int → Int → Int} {a b : Int} (hl : H l = some (.lst (ns.map V.int))) (ho : Ev to σ H (.ref l)) (hi : Ev ti σ H (.int (j : Nat))) (hj : ns[j]? = some a) (he : Ev te σ H (.int b))
    (k : ∀ H1, Ex H H1 → D.nx σ (upd H1 l (.lst ((ns.set j (f a b)).map V.int)))) : tAugS to ti te (rGetL K) (rI0 fun i j => .int (f i j)) rSetL D σ H := s_augL hl ho hi hj he k
/-- o[i] = e, of a list of ints -/
theorem s_setI {l : Addr} {ns : List Int} {j : Nat} {b : Int} (hl : H l = some (.lst (ns.map V.int))) (ho : Ev to σ H (.ref l)) (hi : Ev ti σ H (.int (j : Nat))) (hj : j < ns.length) (he : Ev te σ H (.int b))
    (k : ∀ H1, Ex H H1 → D.nx σ (upd H1 l (.lst ((ns.set j b).map V.int)))) : tAsg te (gSub to ti rSetL) D σ H :=
  s_setL hl he ho hi (by rw [List.length_map]; exact hj) fun H1 e1 => by
    have q := k H1 e1
    rw [List.map_set] at q
    exact q
/-- xs[i], of a list of ints -/
theorem ev_ixI {a : Addr} {ns : List Int} {j : Nat} {b : Int} (hl : SqL K H a (ns.map V.int)) (ho : Ev ta σ H (.ref a)) (hi : Ev tb σ H (.int (j : Nat))) (hj : ns[j]? = some b) : Ev (tOp (rIxL K) ta tb) σ H (.int b) :=
  ev_op ho hi (rv_ixL hl (atI_nat (by rw [List.getElem?_map, hj]; rfl)))
/-- t[i], of a tuple -/
theorem ev_ixT {a : Addr} {xs : List V} {j : Nat} (hl : SqT K H a xs) (ho : Ev ta σ H (.ref a)) (hi : Ev tb σ H (.int (j : Nat))) (hj : xs[j]? = some v) : Ev (tOp (rIxT K) ta tb) σ H v :=
  ev_op ho hi (rv_ixT hl (atI_nat hj))
/-- xs.pop() as a statement -/
theorem s_pop {l : Addr} {xs : List V} {y : V} (hl : H l = some (.lst (xs ++ [y]))) (ha : Ev ta σ H (.ref l)) (k : ∀ H1, Ex H H1 → D.nx σ (upd H1 l (.lst xs))) : tDrop (tBM0 K "list" rPop ta) D σ H := ha H (Ex.refl H) _ fun H1 e1 =>
  ⟨Or.inl ⟨rfl, _, sq_of (e1 l _ hl)⟩, l, xs ++ [y], y, rfl, rfl, e1 l _ hl, by simp, by
    rw [List.dropLast_concat]
    exact k H1 e1⟩

/-! ### many new lists -/
def EvNs (n : Nat) (ta : TA) (σ : L2.St) (H : Hp) : Prop := ∀ H1, Ex H H1 → ∀ Q : List V → Hp → Prop, (∀ (ps : List Addr) H2, ps.length = n → Ex H1 H2 → (∀ p ∈ ps, H1 p = none ∧ ∃ xs, H2 p = some (.lst xs) ∧ xs.length < 50000) → Q (ps.map V.ref) H2) → ta σ H1 Q
theorem en_nil : EvNs 0 tNil σ H := fun H1 _ Q q => q [] H1 rfl (Ex.refl H1) fun _ h => nomatch h
theorem en_cons {tr : TA} {xs : List V} {n : Nat} (h : EvL te σ H xs) (hz : xs.length < 50000) (hr : EvNs n tr σ H) : EvNs (n + 1) (tCons te tr) σ H := fun H1 e Q q =>
  h H1 e _ fun p H2 np e2 hp => hr H2 (e.trans e2) _ fun ps H3 hl e3 hps => q (p :: ps) H3 (by rw [List.length_cons, hl]) (e2.trans e3) fun r hr' => by
    rcases List.mem_cons.mp hr' with rfl | hm
    · exact ⟨np, xs, e3 _ _ hp, hz⟩
    · obtain ⟨n1, n2⟩ := hps r hm
      exact ⟨fresh_back e2 n1, n2⟩
/-- for x in [new, new, ..]: x.append(e) -/
theorem s_forNs {tr : TA} {n j : Nat} {u : V} (h : EvNs n tr σ H) (hn : n ≤ 1000) (hj : j < σ.length) (k : ∀ σ' H1, (∃ x, σ' = σ.set j x) → Ex H H1 → D.nx σ' H1) :
    tFor (iList K (tLst tr)) (gName j) (tDrop (tBM K "list" rAppend (tVar j) (tCons (tC u) tNil))) D σ H :=
  h H (Ex.refl H) _ fun ps H2 hl e2 hps => ⟨sz_of (by rw [List.length_map]; omega), fun L nL => ⟨L, rfl, ⟨_, SqL.of upd_same⟩, for_list (xs := ps.map V.ref)
    (fun i σ' H' => (∃ x, σ' = σ.set j x) ∧ Ex H H' ∧ H' L = some (.lst (ps.map V.ref)) ∧ ∀ p ∈ ps, ∃ xs, H' p = some (.lst xs) ∧ xs.length < 50000 + i)
    ⟨⟨σ[j], (List.set_getElem_self hj).symm⟩, e2.trans (Ex.new nL), upd_same, fun p hp => by
      obtain ⟨xs, q1, q2⟩ := (hps p hp).2
      exact ⟨xs, by rw [upd_ne (ne_of_none q1 nL)]; exact q1, by omega⟩⟩
    (fun i σ' H' _ p => SqL.of p.2.2.1) (fun i x σ' H' hx p => by
      obtain ⟨⟨y, rfl⟩, p2, p3, p4⟩ := p
      rw [List.getElem?_map] at hx
      obtain ⟨r, hr, rfl⟩ := Option.map_eq_some_iff.mp hx
      have hm := List.mem_of_getElem? hr
      have hi : i < ps.length := (List.getElem?_eq_some_iff.mp hr).1
      obtain ⟨xs, q1, q2⟩ := p4 r hm
      have nLr : L ≠ r := fun e => by
        obtain ⟨zs, z1, _⟩ := (hps r hm).2
        rw [← e, nL] at z1
        cases z1
      refine s_app q1 (ev_var (by rw [List.getElem?_set_self (by rw [List.length_set]; exact hj)])) ev_c (by omega) fun H3 e3 => ⟨⟨_, List.set_set ..⟩, Ex.mut (p2.trans e3) (hps r hm).1, ?_, fun p hp => ?_⟩
      · rw [upd_ne nLr]
        exact e3 _ _ p3
      · by_cases e : p = r
        · subst e
          exact ⟨_, upd_same, by rw [List.length_append, List.length_singleton]; omega⟩
        · obtain ⟨ys, z1, z2⟩ := p4 p hp
          exact ⟨ys, by rw [upd_ne e]; exact e3 _ _ z1, by omega⟩) (fun σ' H' p => k σ' H' p.1 p.2.1)⟩⟩
theorem q_forNs {tr : TA} {n j : Nat} {u : V} (h : EvNs n tr σ H) (hn : n ≤ 1000) (hj : j < σ.length) (k : ∀ σ' H1, (∃ x, σ' = σ.set j x) → Ex H H1 → tz D σ' H1) :
    tSeq (tFor (iList K (tLst tr)) (gName j) (tDrop (tBM K "list" rAppend (tVar j) (tCons (tC u) tNil)))) tz D σ H := s_forNs (D := { D with nx := tz D }) h hn hj k
end
end Kp
namespace Kp
open PySem PySem.Spec PyProof.Rows L2 Evl
section
variable {K : PySem.W.Frag} {σ : L2.St} {H H' : Hp} {ta tb te tl to ti : TE} {t : TT} {x y z v : V} {D : Ends} {tu tz : TS} {vs : List Nat}
/-- (a new list, a new list) -/
theorem q_asgT2 {i : Nat} {xs ys : List V} (h1 : EvL ta σ H xs) (h2 : EvL tb σ H ys) (k : ∀ t p q H1, Ex H H1 → H1 t = some (.tup [.ref p, .ref q]) → H1 p = some (.lst xs) → H1 q = some (.lst ys) → tz D (σ.set i (some (.ref t))) H1) :
    tSeq (tAsg (tTup (tCons ta (tCons tb tNil))) (gName i)) tz D σ H :=
  h1 H (Ex.refl H) _ fun p H1 np e1 hp => h2 H1 e1 _ fun q H2 nq e2 hq => ⟨sz_of (show 2 ≤ 100000 by decide), fun t nt =>
    k t p q _ ((e1.trans e2).trans (Ex.new nt)) upd_same (by rw [upd_ne (ne_of_none (e2 _ _ hp) nt)]; exact e2 _ _ hp) (by rw [upd_ne (ne_of_none hq nt)]; exact hq)⟩
/-- a call upon one new list, one value back -/
theorem ev_calL1 {sp : Sp} {xs : List V} {E : XK} (h : EvL ta σ H xs) (hs : ∀ p H1, Ex H H1 → H1 p = some (.lst xs) → ∀ Q : VK, RetV z H1 Q → ∀ E : XK, sp [.ref p] H1 Q E) : Ev (tCall sp [] E (tCons ta tNil)) σ H z := fun H1 e Q q =>
  h H1 e _ fun p H2 np e2 hp => hs p H2 (e.trans e2) hp Q (fun H3 e3 => q H3 (e2.trans e3)) E
/-- a list by its name and a new one, glued -/
theorem el_cat1 {l : Addr} {xs ys : List V} (ha : Ev ta σ H (.ref l)) (hl : H l = some (.lst xs)) (hb : EvL tb σ H ys) (hz : xs.length + ys.length ≤ 100000) : EvL (tOp rCat ta tb) σ H (xs ++ ys) := fun H1 e Q q =>
  ha H1 e _ fun H2 e2 => hb H2 (e.trans e2) _ fun r H3 nr e3 hr => ⟨l, r, xs, ys, rfl, rfl, (e.trans (e2.trans e3)) _ _ hl, hr, sz_of hz, fun l hl => q l _ (fresh_back (e2.trans e3) hl) ((e2.trans e3).trans (Ex.new hl)) upd_same⟩
theorem cut_take (xs : List V) (m : Nat) : cutV xs none (some (m : Int)) = xs.take m := by
  unfold cutV
  rw [HT.sIx_none, HT.sIx_nat, Nat.sub_zero, List.drop_zero]
  by_cases h : m ≤ xs.length
  · rw [Nat.min_eq_left h]
  · rw [Nat.min_eq_right (by omega), List.take_of_length_le (Nat.le_refl _), List.take_of_length_le (by omega)]
theorem map_get {ns : List Int} {i : Nat} {x : V} (h : (ns.map V.int)[i]? = some x) : ∃ a, ns[i]? = some a ∧ x = .int a := by
  rw [List.getElem?_map] at h
  obtain ⟨a, h1, h2⟩ := Option.map_eq_some_iff.mp h
  exact ⟨a, h1, h2.symm⟩
end
end Kp

/-! More of loops, comprehensions and lists. -/
namespace Kp
open PySem PySem.Spec PyProof.Rows L2 Evl
theorem filter_yes {α : Type} (l : List α) : l.filter (fun _ => true) = l := List.filter_eq_self.mpr fun _ _ => rfl
section
variable {K : PySem.W.Frag} {σ : L2.St} {H H' : Hp} {ta tb te tl to ti : TE} {t : TT} {x y z v : V} {D : Ends} {tu tz : TS} {vs : List Nat}
/-- [e for x in range(a, b) if t] -/
theorem el_lcR2 {tg : TA} {j : Nat} {lo hi : Int} (f : Nat → Bool) (w : Nat → V) (h : EvA tg σ H [.int lo, .int hi]) (hb : 0 ≤ lo ∧ lo ≤ 40000 ∧ -40000 ≤ hi ∧ hi ≤ 40000) (hw : ∀ x, wipe ((wipe σ vs).set j (some x)) vs = wipe σ vs)
    (ht : ∀ (i : Nat) H1, Ex H H1 → lo + (i : Int) < hi → EvT t ((wipe σ vs).set j (some (.int (lo + (i : Int))))) H1 (f i)) (he : ∀ (i : Nat) H1, Ex H H1 → lo + (i : Int) < hi → f i = true → Ev te ((wipe σ vs).set j (some (.int (lo + (i : Int))))) H1 (w i)) :
    EvL (tLc (iRng2 tg) (gName j) t te vs) σ H (((List.range (hi - lo).toNat).filter f).map w) := fun H0 e Q q => h H0 e _ fun H1 e1 => ⟨lo, hi, rfl, ⟨by omega, by omega, by omega, by omega⟩, fun Dl hD =>
  lc_range (lo := lo) (n := (hi - lo).toNat) (Cw H1 f w Dl) ⟨hD, Ex.new hD, upd_same⟩ (fun i H' hi p => ⟨hw _, cw_turn p (by omega) (ht i H1 (e.trans e1) (by omega)) (fun hf => he i H1 (e.trans e1) (by omega) hf)⟩) (fun H' p => q Dl H' (fresh_back e1 p.1) (e1.trans p.2.1) p.2.2)⟩
/-- [e for x in reversed(xs) if t], xs ints -/
theorem el_lcV {tg : TA} {a : Addr} {ns : List Int} {j : Nat} (f : Int → Bool) (w : Int → V) (h : EvA tg σ H [.ref a]) (hx : SqL K H a (ns.map V.int)) (hz : ns.length ≤ 40000)
    (hw : ∀ x, wipe ((wipe σ vs).set j (some x)) vs = wipe σ vs)
    (ht : ∀ r H1, Ex H H1 → r ∈ ns → EvT t ((wipe σ vs).set j (some (.int r))) H1 (f r)) (he : ∀ r H1, Ex H H1 → r ∈ ns → f r = true → Ev te ((wipe σ vs).set j (some (.int r))) H1 (w r)) :
    EvL (tLc (iRev K tg) (gName j) t te vs) σ H ((ns.reverse.filter f).map w) := fun H0 e Q q => h H0 e _ fun H1 e1 => ⟨a, _, rfl, ex_l (e.trans e1) hx, fun Dl hD =>
  ⟨fun n m H' => m = ns.length - n ∧ n ≤ ns.length ∧ H1 Dl = none ∧ Ex H1 H' ∧ H' Dl = some (.lst (((ns.reverse.take n).filter f).map w)), ⟨ns.length, rfl, Nat.zero_le _, hD, Ex.new hD, upd_same⟩, fun n m H' hW => by
    obtain ⟨rfl, hn, p1, p2, p3⟩ := hW
    by_cases hlt : n < ns.length
    · have hlt2 : ns.length - 1 - n < ns.length := by omega
      have hlm : (ns.map V.int).length = ns.length := List.length_map _
      refine .inr ⟨⟨by rw [hlm]; exact hlt, ns.map V.int, _, ex_l ((e.trans e1).trans p2) hx, List.getElem?_eq_getElem (by rw [hlm]; omega)⟩, fun H2 => n + 1 ≤ ns.length ∧ H1 Dl = none ∧ Ex H1 H2 ∧ H2 Dl = some (.lst (((ns.reverse.take (n + 1)).filter f).map w)), fun H2 ⟨q1, q2, q3, q4⟩ => ⟨ns.length - (n + 1), by omega, rfl, q1, q2, q3, q4⟩, fun x H2 hy => ?_⟩
      obtain ⟨rfl, fx⟩ := hy
      have gx := fx _ (ex_l ((e.trans e1).trans p2) hx)
      rw [hlm] at gx
      rw [List.getElem?_map] at gx
      obtain ⟨r, hr, rfl⟩ := Option.map_eq_some_iff.mp gx
      have hm : r ∈ ns := List.mem_of_getElem? hr
      have hlen : (((ns.reverse.take n).filter f).map w).length < 100000 := by
        rw [List.length_map]
        have h1 := List.length_filter_le f (ns.reverse.take n)
        rw [List.length_take, List.length_reverse] at h1
        omega
      have et : ns.reverse.take (n + 1) = ns.reverse.take n ++ [r] := by
        rw [List.take_add_one, List.getElem?_reverse hlt, hr]
        rfl
      refine ⟨hw _, ?_⟩
      refine ht r H1 (e.trans e1) hm H2 p2 _ fun H3 e3 => ?_
      cases hf : f r with
      | true =>
        show te _ H3 _
        refine he r H1 (e.trans e1) hm hf H3 (p2.trans e3) _ fun H4 e4 => ⟨_, e4 Dl _ (e3 Dl _ p3), sz_lt hlen, hlt, p1, Ex.mut ((p2.trans e3).trans e4) p1, ?_⟩
        rw [upd_same, et, List.filter_append, List.map_append, List.filter_cons, if_pos hf]
        rfl
      | false =>
        refine ⟨hlt, p1, p2.trans e3, ?_⟩
        rw [et, List.filter_append, List.map_append, List.filter_cons, if_neg (by rw [hf]; decide)]
        show _ = some (HO.lst (_ ++ []))
        rw [List.append_nil]
        exact e3 Dl _ p3
    · have en : n = ns.length := by omega
      subst en
      rw [List.take_of_length_le (by rw [List.length_reverse]; exact Nat.le_refl _)] at p3
      exact .inl ⟨by show (ns.map V.int).length ≤ _; rw [List.length_map]; exact Nat.le_refl _, q Dl H' (fresh_back e1 p1) (e1.trans p2) p3⟩⟩⟩
/-- two lists by their names, glued -/
theorem el_cat2 {l b : Addr} {xs ys : List V} (ha : Ev ta σ H (.ref l)) (hl : H l = some (.lst xs)) (hb : Ev tb σ H (.ref b)) (hlb : H b = some (.lst ys)) (hz : xs.length + ys.length ≤ 100000) : EvL (tOp rCat ta tb) σ H (xs ++ ys) := fun H1 e Q q =>
  ha H1 e _ fun H2 e2 => hb H2 (e.trans e2) _ fun H3 e3 => ⟨l, b, xs, ys, rfl, rfl, (e.trans (e2.trans e3)) _ _ hl, (e.trans (e2.trans e3)) _ _ hlb, sz_of hz, fun l hl => q l _ (fresh_back (e2.trans e3) hl) ((e2.trans e3).trans (Ex.new hl)) upd_same⟩
/-- for i, x in enumerate(a new list) -/
theorem s_forEN {xs : List V} {j1 j2 : Nat} (h : EvL te σ H xs) (Pv : Addr → Nat → L2.St → Hp → Prop) (h0 : ∀ a H1, H a = none → Ex H H1 → H1 a = some (.lst xs) → Pv a 0 σ H1) (hl : ∀ a i σ' H', i ≤ xs.length → Pv a i σ' H' → SqL K H' a xs)
    (hs : ∀ a i x σ' H', xs[i]? = some x → Pv a i σ' H' → ∀ H2, Ex H' H2 → tu { D with nx := Pv a (i + 1), ct := Pv a (i + 1), bk := D.nx } ((σ'.set j1 (some (.int (i : Nat)))).set j2 (some x)) H2) (hd : ∀ a σ' H', Pv a xs.length σ' H' → D.nx σ' H') :
    tFor (iEnum K (tCons te tNil)) (gTup K 2 (gCons (gName j1) (gCons (gName j2) gNil))) tu D σ H :=
  h H (Ex.refl H) _ fun a H1 na e ha => ⟨a, xs, rfl, sq_of ha, fun i m σ' H' => m = xs.length - i ∧ i ≤ xs.length ∧ Pv a i σ' H', ⟨xs.length, rfl, Nat.zero_le _, h0 a H1 na e ha⟩, fun i m σ' H' hW => by
    obtain ⟨rfl, hi, p⟩ := hW
    have q := hl a i σ' H' hi p
    by_cases hlt : i < xs.length
    · refine .inr ⟨⟨xs, xs[i], q, List.getElem?_eq_getElem hlt⟩, Pv a (i + 1), fun σ2 H2 p' => ⟨xs.length - (i + 1), by omega, rfl, hlt, p'⟩, fun w H2 hy => ?_⟩
      obtain ⟨T, x, rfl, hT, rfl, fx⟩ := hy
      exact ⟨T, _, rfl, .inl (.inl upd_same), rfl, .int (i : Nat), [x], rfl, x, [], rfl, rfl, hs a i x σ' H' (fx xs q) p _ (Ex.new hT)⟩
    · have e : i = xs.length := by omega
      subst e
      exact .inl ⟨⟨xs, q, Nat.le_refl _⟩, hd a σ' H' p⟩⟩
theorem q_forEN {xs : List V} {j1 j2 : Nat} (h : EvL te σ H xs) (Pv : Addr → Nat → L2.St → Hp → Prop) (h0 : ∀ a H1, H a = none → Ex H H1 → H1 a = some (.lst xs) → Pv a 0 σ H1) (hl : ∀ a i σ' H', i ≤ xs.length → Pv a i σ' H' → SqL K H' a xs)
    (hs : ∀ a i x σ' H', xs[i]? = some x → Pv a i σ' H' → ∀ H2, Ex H' H2 → tu { D with nx := Pv a (i + 1), ct := Pv a (i + 1), bk := tz D } ((σ'.set j1 (some (.int (i : Nat)))).set j2 (some x)) H2) (hd : ∀ a σ' H', Pv a xs.length σ' H' → tz D σ' H') :
    tSeq (tFor (iEnum K (tCons te tNil)) (gTup K 2 (gCons (gName j1) (gCons (gName j2) gNil))) tu) tz D σ H := s_forEN (D := { D with nx := tz D }) h Pv h0 hl hs hd
/-- for a, b in a new list of pairs -/
theorem q_forP {rows : List (Int × Int)} {j1 j2 : Nat} (h : EvP K te σ H rows) (Pv : Hp → Nat → L2.St → Hp → Prop) (h0 : ∀ H1, Ex H H1 → Pv H1 0 σ H1) (hl : ∀ H1 i σ' H', Pv H1 i σ' H' → Ex H1 H')
    (hs : ∀ H1 i r σ' H', Ex H H1 → rows[i]? = some r → Pv H1 i σ' H' → tu { D with nx := Pv H1 (i + 1), ct := Pv H1 (i + 1), bk := tz D } ((σ'.set j1 (some (.int r.1))).set j2 (some (.int r.2))) H') (hd : ∀ H1 σ' H', Ex H H1 → Pv H1 rows.length σ' H' → tz D σ' H') :
    tSeq (tFor (iList K te) (gTup K 2 (gCons (gName j1) (gCons (gName j2) gNil))) tu) tz D σ H :=
  h H (Ex.refl H) _ fun p xs H1 np e hp pr => ⟨p, rfl, ⟨xs, sq_of hp⟩, for_list (xs := xs) (Pv H1) (h0 H1 e) (fun i σ' H' _ q => sq_of (hl _ _ _ _ q _ _ hp)) (fun i x σ' H' hx q => by
    obtain ⟨r, t, hr, rfl, ht⟩ := prs_get (pr.mono (hl _ _ _ _ q)) hx
    exact ⟨t, _, rfl, ht, rfl, .int r.1, [.int r.2], rfl, .int r.2, [], rfl, rfl, hs H1 i r σ' H' e hr q⟩) (fun σ' H' q => by
    rw [Paired.length pr] at q
    exact hd H1 σ' H' e q)⟩
/-- a list by its name, beside a new list of pairs -/
theorem ev_opLP {r : R2} {rows : List (Int × Int)} (ha : Ev ta σ H x) (hb : EvP K tb σ H rows) (hr : ∀ p xs H1, H1 p = some (.lst xs) → Prs K H1 xs rows → Ex H H1 → RV r x (.ref p) H1 z) : Ev (tOp r ta tb) σ H z := fun H1 e Q q =>
  ha H1 e _ fun H2 e2 => hb H2 (e.trans e2) _ fun p xs H3 np e3 hp pr => hr p xs H3 hp pr ((e.trans e2).trans e3) H3 (Ex.refl H3) Q fun H4 e4 => q H4 ((e2.trans e3).trans e4)
theorem inV_int (x : Int) : ∀ ns : List Int, inV (.int x) (ns.map V.int) = decide (x ∈ ns)
  | [] => rfl
  | n :: ns => by
    have ih := inV_int x ns
    show ((n == x) || inV (.int x) (ns.map V.int)) = _
    rw [ih, Bool.eq_iff_iff, Bool.or_eq_true, beq_iff_eq, decide_eq_true_iff, decide_eq_true_iff, List.mem_cons]
    constructor
    · rintro (h | h)
      · exact .inl h.symm
      · exact .inr h
    · rintro (h | h)
      · exact .inl h.symm
      · exact .inr h
theorem flat_ints : ∀ ns : List Int, (ns.map V.int).all flatV = true
  | [] => rfl
  | n :: ns => by
    rw [List.map_cons, List.all_cons, flat_ints ns]
    rfl
theorem ev_notIn {a : Addr} {x : Int} {ns : List Int} (ha : Ev ta σ H (.int x)) (hb : Ev tb σ H (.ref a)) (hl : SqL K H a (ns.map V.int)) : Ev (tOp (rIn K true) ta tb) σ H (.bl (!decide (x ∈ ns))) := by
  have := rv_niL (K := K) (x := .int x) hl rfl (flat_ints ns)
  rw [inV_int] at this
  exact ev_op ha hb this
/-- sorted(xs), ints -/
theorem el_sorted {a : Addr} {ns ms : List Int} (ha : Ev ta σ H (.ref a)) (hl : SqL K H a (ns.map V.int)) (hu : ∀ ns' : List Int, ns'.Perm ns → ns'.Pairwise (· ≤ ·) → ns' = ms) : EvL (tCB (rSortedI K) (tCons ta tNil)) σ H (ms.map V.int) := fun H1 e Q q =>
  ha H1 e _ fun H2 e2 => ⟨a, ns, rfl, ex_l (e.trans e2) hl, fun ns' p hp hs np => by
    rw [hu ns' hp hs]
    exact q p _ (fresh_back e2 np) (e2.trans (Ex.new np)) upd_same⟩
/-- list(t), t a tuple -/
theorem el_listT {p : Addr} {xs : List V} (ha : Ev ta σ H (.ref p)) (h : SqT K H p xs) : EvL (tCB (rListS K) (tCons ta tNil)) σ H xs := fun H1 e Q q =>
  ha H1 e _ fun H2 e2 => ⟨p, xs, rfl, Or.inr (ex_t (e.trans e2) h), fun l hl => q l _ (fresh_back e2 hl) (e2.trans (Ex.new hl)) upd_same⟩
theorem ev_int1b {b : Bool} (ha : Ev ta σ H (.bl b)) : Ev (tCB (fun xs H Q => (∃ i, xs = [.int i] ∧ Q (.int i) H) ∨ ∃ k, xs = [.bl k] ∧ Q (.int (if k then 1 else 0)) H) (tCons ta tNil)) σ H (.int (if b then 1 else 0)) := fun H1 e Q q =>
  ha H1 e _ fun H2 e2 => .inr ⟨b, rfl, q H2 e2⟩
theorem ev_isqrt {n : Nat} (ha : Ev ta σ H (.int (n : Nat))) (hn : n < 2 ^ 64) : Ev (tCB rIsqrt (tCons ta tNil)) σ H (.int ((Float64.isqrt n : Nat) : Int)) := fun H1 e Q q =>
  ha H1 e _ fun H2 e2 => ⟨(n : Nat), rfl, by omega, by omega, by rw [Int.toNat_natCast]; exact q H2 e2⟩
theorem tx_sqt {p : Addr} {xs : List V} (h : SqT K H p xs) : ∀ H1, Ex H H1 → TyX K H1 (.ref p) (.type "tuple") := fun H1 e => by
  rcases ex_t e h with (h | ⟨o, h⟩) | h
  · exact .base (.tup h)
  · exact .fTuple h
  · obtain ⟨o, its, n, h1, h2, _⟩ := h
    exact .kTuple h1 h2
end
end Kp

/-! Polynomials as lists: the number of each power, noughts cut off at the end, products, other powers of x, values. -/
namespace Kp
/-- the number of the m-th power -/
def coef (l : List Int) (m : Nat) : Int := l.getD m 0
theorem coef_lt {l : List Int} {m : Nat} (h : m < l.length) : coef l m = l[m] := by
  unfold coef
  rw [List.getD_eq_getElem?_getD, List.getElem?_eq_getElem h]
  rfl
theorem coef_ge {l : List Int} {m : Nat} (h : l.length ≤ m) : coef l m = 0 := by
  unfold coef
  rw [List.getD_eq_getElem?_getD, List.getElem?_eq_none h]
  rfl
theorem coef_get {l : List Int} {m : Nat} (h : m < l.length) : l[m]? = some (coef l m) := by
  rw [coef_lt h, List.getElem?_eq_getElem h]
theorem coef_of {l : List Int} {m : Nat} {x : Int} (h : l[m]? = some x) : coef l m = x := by
  unfold coef
  rw [List.getD_eq_getElem?_getD, h]
  rfl
theorem coef_nil (m : Nat) : coef [] m = 0 := coef_ge (Nat.zero_le _)
theorem ext_of {a b : List Int} (hl : a.length = b.length) (h : ∀ m, m < a.length → coef a m = coef b m) : a = b := by
  refine List.ext_getElem hl fun i h1 h2 => ?_
  have := h i h1
  rwa [coef_lt h1, coef_lt h2] at this
theorem coef_set {l : List Int} {j m : Nat} {x : Int} (hj : j < l.length) : coef (l.set j x) m = if m = j then x else coef l m := by
  unfold coef
  rw [List.getD_eq_getElem?_getD, List.getD_eq_getElem?_getD, List.getElem?_set]
  by_cases e : j = m
  · subst e
    rw [if_pos rfl, if_pos hj, if_pos rfl]
    rfl
  · rw [if_neg e, if_neg (fun q => e q.symm)]
theorem coef_app {a b : List Int} {m : Nat} : coef (a ++ b) m = if m < a.length then coef a m else coef b (m - a.length) := by
  unfold coef
  rw [List.getD_eq_getElem?_getD, List.getElem?_append]
  split <;> rw [List.getD_eq_getElem?_getD]
theorem coef_rep {n m : Nat} : coef (List.replicate n 0) m = 0 := by
  by_cases h : m < n
  · rw [coef_lt (by rw [List.length_replicate]; exact h), List.getElem_replicate]
  · exact coef_ge (by rw [List.length_replicate]; omega)
theorem coef_take {l : List Int} {n m : Nat} : coef (l.take n) m = if m < n then coef l m else 0 := by
  unfold coef
  rw [List.getD_eq_getElem?_getD, List.getElem?_take]
  split
  · rw [List.getD_eq_getElem?_getD]
  · rfl
def mkL (n : Nat) (h : Nat → Int) : List Int := (List.range n).map h
theorem mkL_len (n : Nat) (h : Nat → Int) : (mkL n h).length = n := by
  unfold mkL
  rw [List.length_map, List.length_range]
theorem coef_mkL {n m : Nat} {h : Nat → Int} : coef (mkL n h) m = if m < n then h m else 0 := by
  split
  · rename_i q
    rw [coef_lt (by rw [mkL_len]; exact q)]
    unfold mkL
    rw [List.getElem_map, List.getElem_range]
  · rename_i q
    exact coef_ge (by rw [mkL_len]; omega)
theorem mkL_of {l : List Int} {n : Nat} {h : Nat → Int} (hl : l.length = n) (e : ∀ m, m < n → coef l m = h m) : l = mkL n h := by
  refine ext_of (by rw [mkL_len, hl]) fun m hm => ?_
  rw [hl] at hm
  rw [e m hm, coef_mkL, if_pos hm]

/-! ### without a nought at the end -/
def Tr (l : List Int) : Prop := l ≠ [] → coef l (l.length - 1) ≠ 0
theorem Tr.nil : Tr [] := fun h => absurd rfl h
theorem tr_uniq {a b : List Int} (ha : Tr a) (hb : Tr b) (h : ∀ m, coef a m = coef b m) : a = b := by
  have key : ∀ {a b : List Int}, Tr b → (∀ m, coef a m = coef b m) → ¬ a.length < b.length := fun {a b} hb h q => by
    refine hb (fun e => by rw [e] at q; exact absurd q (Nat.not_lt_zero _)) ?_
    rw [← h]
    exact coef_ge (by omega)
  have h1 := key hb h
  have h2 := key ha (fun m => (h m).symm)
  exact ext_of (by omega) fun m _ => h m
/-- how many of the first n numbers stay -/
def tlen (l : List Int) : Nat → Nat
  | 0 => 0
  | n + 1 => if coef l n = 0 then tlen l n else n + 1
def trim (l : List Int) : List Int := l.take (tlen l l.length)
theorem tlen_le (l : List Int) : ∀ n, tlen l n ≤ n
  | 0 => Nat.le_refl _
  | n + 1 => by
    unfold tlen
    have := tlen_le l n
    split <;> omega
theorem tlen_zero (l : List Int) : ∀ n m, tlen l n ≤ m → m < n → coef l m = 0
  | 0, m, _, h => absurd h (Nat.not_lt_zero _)
  | n + 1, m, h1, h2 => by
    unfold tlen at h1
    split at h1
    · rename_i q
      by_cases e : m = n
      · rw [e]; exact q
      · exact tlen_zero l n m h1 (by omega)
    · omega
theorem tlen_last (l : List Int) : ∀ n, tlen l n ≠ 0 → coef l (tlen l n - 1) ≠ 0
  | 0, h => absurd rfl h
  | n + 1, h => by
    unfold tlen at h ⊢
    split
    · rename_i q
      rw [if_pos q] at h
      exact tlen_last l n h
    · rename_i q
      rw [Nat.add_sub_cancel]
      exact q
theorem trim_len (l : List Int) : (trim l).length = tlen l l.length := by
  unfold trim
  rw [List.length_take]
  have := tlen_le l l.length
  omega
theorem coef_trim (l : List Int) (m : Nat) : coef (trim l) m = coef l m := by
  unfold trim
  rw [coef_take]
  split
  · rfl
  · rename_i h
    by_cases q : m < l.length
    · exact (tlen_zero l _ m (by omega) q).symm
    · exact (coef_ge (by omega)).symm
theorem tr_trim (l : List Int) : Tr (trim l) := fun h => by
  have e := trim_len l
  have n0 : tlen l l.length ≠ 0 := fun q => h (List.eq_nil_of_length_eq_zero (by omega))
  rw [coef_trim, e]
  exact tlen_last l _ n0
theorem trim_of_tr {l : List Int} (h : Tr l) : trim l = l := tr_uniq (tr_trim l) h (coef_trim l)
theorem trim_ext {a b : List Int} (h : ∀ m, coef a m = coef b m) : trim a = trim b := tr_uniq (tr_trim a) (tr_trim b) fun m => by rw [coef_trim, coef_trim, h]
theorem trim_eq {a b : List Int} (hb : Tr b) (h : ∀ m, coef a m = coef b m) : trim a = b := tr_uniq (tr_trim a) hb fun m => by rw [coef_trim, h]

/-! ### sums -/
def addL (c : Int) (f g : List Int) : List Int := mkL (max f.length g.length) fun m => coef f m + c * coef g m
theorem coef_addL (c : Int) (f g : List Int) (m : Nat) : coef (addL c f g) m = coef f m + c * coef g m := by
  unfold addL
  rw [coef_mkL]
  split
  · rfl
  · rename_i h
    rw [coef_ge (show f.length ≤ m by omega), coef_ge (show g.length ≤ m by omega)]
    simp
def addP (c : Int) (f g : List Int) : List Int := trim (addL c f g)
theorem coef_addP (c : Int) (f g : List Int) (m : Nat) : coef (addP c f g) m = coef f m + c * coef g m := by
  unfold addP
  rw [coef_trim, coef_addL]
theorem coef_neg (g : List Int) (m : Nat) : coef (g.map fun x => -x) m = -coef g m := by
  by_cases h : m < g.length
  · rw [coef_lt (by rw [List.length_map]; exact h), coef_lt h, List.getElem_map]
  · rw [coef_ge (by rw [List.length_map]; omega), coef_ge (by omega)]
    rfl
theorem addP_neg (f g : List Int) : addP 1 f (g.map fun x => -x) = addP (0 - 1) f g := trim_ext fun m => by
  rw [coef_addL, coef_addL, coef_neg]
  omega

/-! ### products -/
/-- the number of the m-th power in the product of the first i numbers of f, and g -/
def cv (f g : List Int) : Nat → Nat → Int
  | 0, _ => 0
  | i + 1, m => cv f g i m + if i ≤ m then coef f i * coef g (m - i) else 0
theorem cv_far (f g : List Int) (m : Nat) : ∀ i, i + g.length ≤ m + 1 → cv f g i m = 0
  | 0, _ => rfl
  | i + 1, h => by
    unfold cv
    rw [cv_far f g m i (by omega), if_pos (by omega), coef_ge (show g.length ≤ m - i by omega)]
    simp
theorem cv_last {f g : List Int} (hf : f ≠ []) (hg : g ≠ []) : cv f g f.length (f.length + g.length - 2) = coef f (f.length - 1) * coef g (g.length - 1) := by
  have l1 := List.length_pos_iff.mpr hf
  have l2 := List.length_pos_iff.mpr hg
  obtain ⟨n, e⟩ : ∃ n, f.length = n + 1 := ⟨f.length - 1, by omega⟩
  rw [e]
  unfold cv
  rw [cv_far f g _ n (by omega), if_pos (by omega), Nat.add_sub_cancel, show n + 1 + g.length - 2 - n = g.length - 1 by omega]
  simp
/-- as the program multiplies, as the law does -/
def mulP (f g : List Int) : List Int := if f = [] ∨ g = [] then [] else mkL (f.length + g.length - 1) (cv f g f.length)
def mulL (f g : List Int) : List Int := trim (mkL (f.length + g.length) (cv f g f.length))
theorem coef_mulP (f g : List Int) (m : Nat) : coef (mulP f g) m = cv f g f.length m := by
  unfold mulP
  split
  · rename_i h
    rw [coef_nil]
    rcases h with h | h
    · rw [h]
      rfl
    · subst h
      symm
      have : ∀ i, cv f [] i m = 0 := fun i => by
        induction i with
        | zero => rfl
        | succ i ih =>
          unfold cv
          rw [ih, coef_nil]
          simp
      exact this _
  · rename_i h
    rw [coef_mkL]
    split
    · rfl
    · rename_i q
      exact (cv_far f g m _ (by omega)).symm
theorem coef_mulL (f g : List Int) (m : Nat) : coef (mulL f g) m = cv f g f.length m := by
  unfold mulL
  rw [coef_trim, coef_mkL]
  split
  · rfl
  · rename_i q
    exact (cv_far f g m _ (by omega)).symm
theorem tr_mulP {f g : List Int} (hf : Tr f) (hg : Tr g) : Tr (mulP f g) := by
  intro h
  unfold mulP at h ⊢
  split
  · rename_i q
    rw [if_pos q] at h
    exact absurd rfl h
  · rename_i q
    have q1 : f ≠ [] := fun e => q (.inl e)
    have q2 : g ≠ [] := fun e => q (.inr e)
    have l1 := List.length_pos_iff.mpr q1
    have l2 := List.length_pos_iff.mpr q2
    rw [mkL_len, coef_mkL, if_pos (by omega), show f.length + g.length - 1 - 1 = f.length + g.length - 2 by omega, cv_last q1 q2]
    exact Int.mul_ne_zero (hf q1) (hg q2)
theorem mul_eq {f g : List Int} (hf : Tr f) (hg : Tr g) : mulL f g = mulP f g := by
  unfold mulL
  refine trim_eq (tr_mulP hf hg) fun m => ?_
  rw [coef_mulP, ← coef_mulL]
  unfold mulL
  rw [coef_trim]

/-! ### at a power -/
def pw (f : List Int) (k m : Nat) : Int := if m % k = 0 then coef f (m / k) else 0
def atP (f : List Int) (k : Nat) : List Int := if f = [] then [] else mkL ((f.length - 1) * k + 1) (pw f k)
def wideL (k : Nat) : List Int → List Int
  | [] => []
  | x :: f => x :: List.replicate (k - 1) 0 ++ wideL k f
theorem pw_far {f : List Int} {k m : Nat} (hk : 1 ≤ k) (h : (f.length - 1) * k < m) : pw f k m = 0 := by
  unfold pw
  split
  · rename_i q
    refine coef_ge (Nat.le_of_not_lt fun r => ?_)
    have e := Nat.div_add_mod m k
    rw [q, Nat.add_zero] at e
    have : k * (m / k) ≤ k * (f.length - 1) := Nat.mul_le_mul_left k (by omega)
    rw [e, Nat.mul_comm] at this
    omega
  · rfl
theorem coef_atP {f : List Int} {k : Nat} (hk : 1 ≤ k) (m : Nat) : coef (atP f k) m = pw f k m := by
  unfold atP
  split
  · rename_i h
    subst h
    rw [coef_nil]
    unfold pw
    rw [coef_nil]
    split <;> rfl
  · rw [coef_mkL]
    split
    · rfl
    · exact (pw_far hk (by omega)).symm
theorem tr_atP {f : List Int} {k : Nat} (hk : 1 ≤ k) (hf : Tr f) : Tr (atP f k) := by
  intro h
  unfold atP at h ⊢
  split
  · rename_i q
    rw [if_pos q] at h
    exact absurd rfl h
  · rename_i q
    rw [mkL_len, Nat.add_sub_cancel, coef_mkL, if_pos (by omega)]
    unfold pw
    rw [Nat.mul_mod_left, if_pos rfl, Nat.mul_div_cancel _ (by omega)]
    exact hf q
theorem coef_wide {k : Nat} (hk : 1 ≤ k) : ∀ (f : List Int) (m : Nat), coef (wideL k f) m = pw f k m
  | [], m => by
    unfold pw
    rw [coef_nil]
    show coef [] m = _
    rw [coef_nil]
    split <;> rfl
  | x :: f, m => by
    have hl : (x :: List.replicate (k - 1) (0 : Int)).length = k := by
      rw [List.length_cons, List.length_replicate]
      omega
    show coef ((x :: List.replicate (k - 1) 0) ++ wideL k f) m = _
    rw [coef_app, hl]
    split
    · rename_i h
      unfold pw
      cases m with
      | zero =>
        rw [Nat.zero_mod, if_pos rfl, Nat.zero_div]
        rfl
      | succ m =>
        rw [Nat.mod_eq_of_lt h, if_neg (by omega)]
        show coef (List.replicate (k - 1) 0) m = 0
        exact coef_rep
    · rename_i h
      rw [coef_wide hk f (m - k)]
      unfold pw
      obtain ⟨d, rfl⟩ : ∃ d, m = k + d := ⟨m - k, by omega⟩
      rw [Nat.add_sub_cancel_left, Nat.add_mod_left, Nat.add_div_left _ (by omega)]
      rfl
theorem wide_eq {f : List Int} {k : Nat} (hk : 1 ≤ k) (hf : Tr f) : trim (wideL k f) = atP f k := trim_eq (tr_atP hk hf) fun m => by rw [coef_wide hk, coef_atP hk]
theorem wide_snoc (k : Nat) : ∀ (f : List Int) (x : Int), wideL k (f ++ [x]) = wideL k f ++ (x :: List.replicate (k - 1) 0)
  | [], x => by
    show x :: List.replicate (k - 1) 0 ++ [] = [] ++ _
    rw [List.append_nil, List.nil_append]
  | y :: f, x => by
    show y :: List.replicate (k - 1) 0 ++ wideL k (f ++ [x]) = (y :: List.replicate (k - 1) 0 ++ wideL k f) ++ _
    rw [wide_snoc k f x, List.append_assoc]
theorem wide_len {k : Nat} (hk : 1 ≤ k) : ∀ f : List Int, (wideL k f).length = f.length * k
  | [] => by
    show 0 = 0 * k
    omega
  | x :: f => by
    show (x :: List.replicate (k - 1) 0 ++ wideL k f).length = (f.length + 1) * k
    rw [List.length_append, List.length_cons, List.length_replicate, wide_len hk f, Nat.add_mul]
    omega

/-! ### values -/
def valP (x : Int) : List Int → Int
  | [] => 0
  | a :: f => a + x * valP x f
theorem val_drop {x : Int} {f : List Int} {i : Nat} {a : Int} (h : f[i]? = some a) : valP x (f.drop i) = a + x * valP x (f.drop (i + 1)) := by
  have hi := (List.getElem?_eq_some_iff.mp h).1
  rw [List.drop_eq_getElem_cons hi]
  have e : f[i] = a := (List.getElem?_eq_some_iff.mp h).2
  rw [e]
  rfl
end Kp

/-! An error of the text's own that an except suite keeps by a name, to be asked of behind the try. -/
namespace Kp
open PySem PySem.Spec PyProof.Rows L2 Evl

/-- at a stands an error of the class cls that has no dict of its own -/
def ExV (cls : Value) (a : Addr) : HO := .ext fun h => ∃ (o : Obj) (fs : Array Value), h.get? a = some o ∧ o.cls = cls ∧ o.dict = none ∧ o.data = .fields fs
section
variable {X : Cx} {pins : List (Addr × Obj)} {σ : L2.St} {H : Hp} {s : Shared}
/-- an object of ours that was pinned and not tracked is tracked from here on -/
theorem track {a : Addr} {o : Obj} {fs : Array Value} {cls : Value} (I : Inv X ((a, o) :: pins) σ H s) (n0 : X.s_0.heap.get? a = none) (nP : ∀ p ∈ X.pn ++ pins, p.1 ≠ a) (h1 : o.cls = cls) (h2 : o.dict = none) (h3 : o.data = .fields fs) :
    Inv X pins σ (upd H a (ExV cls a)) s := by
  obtain ⟨pa, pn, pl, pf, pc⟩ := I.pin (a, o) (List.mem_append_right _ (List.mem_cons_self ..))
  have old : ∀ {b : Addr} {u : Obj}, X.s_0.heap.get? b = some u → b ≠ a := fun {b u} e z => by
    subst z
    rw [n0] at e
    cases e
  have tr : ∀ {b : Addr} {u : HO}, H b = some u → b ≠ a := fun {b u} e => ne_of_none e pn
  exact {
    ok := I.ok
    os := I.os
    bare := I.bare
    base := {
      keep := I.base.keep
      slot := I.base.slot
      free := fun b u e n x => (upd_ne (old e)).trans (I.base.free b u e n x)
      there := I.base.there
      tups := fun b xs e => (upd_ne (tr (I.base.tups b xs e))).trans (I.base.tups b xs e)
      frzs := fun b u xs e => (upd_ne (tr (I.base.frzs b u xs e))).trans (I.base.frzs b u xs e)
      tbls := fun b ps e => by
        obtain ⟨m, q⟩ := I.base.tbls b ps e
        exact ⟨m, (upd_ne (tr q)).trans q⟩ }
    loc := I.loc
    cell := I.cell
    free := (upd_ne (Ne.symm pl)).trans I.free
    freeC := fun y c e => by
      have nc : c ≠ a := fun z => by
        obtain ⟨v, ⟨u, hu, du⟩⟩ := I.cell y c e
        rw [z] at hu
        have q : some u = some o := hu.symm.trans pa
        cases q
        exact pc _ du
      exact (upd_ne nc).trans (I.freeC y c e)
    pin := fun p hp => by
      have q := I.pin p (by
        rcases List.mem_append.mp hp with z | z
        · exact List.mem_append_left _ z
        · exact List.mem_append_right _ (List.mem_cons_of_mem _ z))
      exact ⟨q.1, (upd_ne (nP p hp)).trans q.2.1, q.2.2⟩
    hok := I.hok.laidN (fun _ _ e => e) pn ⟨⟨o, fs, pa, h1, h2, h3⟩, ⟨o, pa⟩, fun g g' ⟨u, us, q, r⟩ k => ⟨u, us, k u q, r⟩⟩
    len := I.len }
end

/-- what is wished of an error of the body where the suite is «y = n»: slot i is n's, slot j is y's; the clause always meets -/
def wKeep (K : PySem.W.Frag) (c : Value) (i j : Nat) (D : Ends) : WX := fun cls d σ H => PySem.W.exmOne K cls c = some true ∧ d = none ∧
  ∀ a, H a = none → D.nx (((σ.set i (some (.ref a))).set j (some (.ref a))).set i none) (upd H a (ExV cls a))
section
variable {X : Cx} {x n : Str} {c : Value} {i j : Nat} {body : List Stmt} {st : Stmt} {np pos pos' : Pos} {tb : WX → TS}
theorem keep_caught {pins : List (Addr × Obj)} {D : Ends} {u : Value} {s' : Shared} {xe : Value → Shared → Prop} (ok : X.Ok) (hs : X.stack = X.env :: X.outer) (hf : X.env.frame = some X.env.locals) (hex : X.ex = []) (hN : X.N.Nodup) (hi : X.N[i]? = some n) (hln : X.env.kindOf n = some .local) (hc : Names X x c)
    (hsu : ∀ (a : Addr) (o : Obj) (pn : List (Addr × Obj)), PSs (X.suite a ((a, o) :: pn)) [st] (tAsg (tVar i) (gName j))) (hij : i < X.N.length)
    (xx : XE (X.tr (X.pn ++ pins) xe) (wKeep X.K c i j D) u s') :
    wpAny (model X.prog X.w) X.A (noteFrame u X.env) (fun _ s₂ => wpAny (model X.prog X.w) X.A (setFlight u none) (fun _ s₃ => wpAny (model X.prog X.w) X.A (handleBy u X.env [.ExceptHandler (some (.Name x np)) (some n) [st] pos']) (SP X pins D) X.xe s₃) X.xe s₂) X.xe s' := by
  obtain ⟨a, B, sI, pins', σ', H', cls, d, rfl, JJ, nb, up, sky, na, os, ag, meets, rfl, wish⟩ := xx
  have J : Inv X pins σ' H' sI := Inv.ofTry JJ ok
  have frames : X.A.frames = some (X.env :: X.outer) := ok.frames.trans (congrArg some hs)
  have ground : B.get? a = none := by
    rcases sky with q | q | q
    · exact q.2.1
    · exact q.2.1
    · exact q.2.1
  have sky2 : Sky B (X.env :: X.outer) a (Zc cls none) X.env.locals s'.heap := hs ▸ sky
  refine Sky.land Zc.steady frames hf sky2 fun g fl upg => ?_
  -- the error is no frame's object
  obtain ⟨o, fs, ho, hz, hd⟩ := fl.there
  have noFrame : a ∉ frs (X.env :: X.outer) := fun m => by
    obtain ⟨_, o2, e2, no⟩ := fl.2.2.1.mem m
    have q := Option.some.inj (e2.symm.trans ho)
    exact no fs (q ▸ hd)
  have nL : a ≠ X.env.locals := fun z => noFrame (List.mem_filterMap.mpr ⟨X.env, List.mem_cons_self .., by rw [hf, z]⟩)
  have nF : a ∉ X.fs := fun m => by
    obtain ⟨e, he, q⟩ := List.mem_filterMap.mp m
    exact noFrame (List.mem_filterMap.mpr ⟨e, List.mem_cons_of_mem _ he, q⟩)
  have newI : sI.heap.get? a = none := by
    cases q : sI.heap.get? a with
    | none => rfl
    | some w =>
      have z := nb a w q (by
        show a ∉ frs X.stack
        rw [hs]
        exact noFrame)
      rw [ground] at z
      cases z
  have new0 : X.s_0.heap.get? a = none := by
    cases q : X.s_0.heap.get? a with
    | none => rfl
    | some w =>
      obtain ⟨w2, q2⟩ := J.base.there a w q (by
        rw [hex]
        exact fun z => nomatch z)
      rw [newI] at q2
      cases q2
  have newP : ∀ p ∈ X.pn ++ pins, p.1 ≠ a := fun p hp z => by
    have q := (J.pin p hp).1
    rw [z, newI] at q
    cases q
  have JG : Inv X pins σ' H' { s' with heap := g } := J.landed nb fl.1 (up.trans upg) os ag
  have SG := JG.suite ho hd na nL nF
  -- the clause's class is asked
  refine wpAny_handleBy_cons (codeAny_handlers_test ?_) (fun z => nomatch z)
  have kind : PySem.W.Looks (model X.prog X.w) g (typeOf (.ref a)) cls := fun A Q E t k q => wpAny_typeOf_ref (k _ _ ho) (by
    rw [hz.1]
    exact q)
  have ask := PySem.W.exm_one (M := model X.prog X.w) JG.kIn kind meets
  have named : ∀ {Q E : Value → Shared → Prop}, Q c { s' with heap := g } → wpAny (model X.prog X.w) (X.A.mark (some (.ref a))) (eval (.Name x np) X.env) Q E { s' with heap := g } := fun {Q E} q => by
    obtain ⟨g1, g2, g3⟩ := hc
    rcases g3 with m | ⟨m1, m2, m3⟩
    · exact ld_glob (X := X.suite a ((a, o) :: (X.pn ++ pins))) SG g1 m q g2
    · exact ld_blt (X := X.suite a ((a, o) :: (X.pn ++ pins))) SG g1 m1 m2 q m3 g2
  refine named (ask.here ?_)
  -- the suite
  refine codeAny_handlers_suite_as (HandSPX.lands_againZ fl fun g2 fl2 up2 => ?_)
  have J2 : Inv X pins σ' H' { s' with heap := g2 } := J.landed nb fl2.1 ((up.trans upg).trans up2) os ag
  obtain ⟨o2, fs2, ho2, hz2, hd2⟩ := fl2.there
  have S2 := J2.suite ho2 hd2 na nL nF
  refine store_ok (X := X.suite a ((a, o2) :: (X.pn ++ pins))) (v := .ref a) S2 hN hi (.inl hln) rfl (fun s5 S5 => ?_) (.inr hln)
  have len : i < σ'.length := by
    rw [J.len]
    exact hij
  have reads : tAsg (tVar i) (gName j) { nx := fun σ2 H2 => σ2 = (σ'.set i (some (.ref a))).set j (some (.ref a)) ∧ H2 = H', rt := fun _ _ => False } (σ'.set i (some (.ref a))) H' :=
    ⟨.ref a, List.getElem?_set_self len, rfl, rfl⟩
  refine wpAny_mono ((hsu a o2 (X.pn ++ pins)).run [] s5 _ H' _ S5 reads) (fun f s6 q => ?_) (fun _ _ z => z.elim)
  cases f with
  | next =>
    obtain ⟨σ6, H6, S6, rfl, rfl⟩ := q
    obtain ⟨t1, t2, t3, t4, t5⟩ := S6.pin (a, o2) (List.mem_append_left _ (List.mem_cons_self ..))
    have U6 : Inv X pins _ _ s6 := S6.unsuite ok
    have P6 : Inv X ((a, o2) :: pins) _ _ s6 := U6.pins_of fun p hp => by
      rcases List.mem_cons.mp hp with rfl | m
      · exact ⟨t1, t2, t3, t4, t5⟩
      · exact U6.pin p (List.mem_append_right _ m)
    exact gone_ok P6 hN hi hln fun s7 J7 => ⟨_, _, track J7 new0 newP hz2.1 hz2.2 hd2, wish a na⟩
  | brk =>
    obtain ⟨_, _, _, z⟩ := q
    exact z.elim
  | cont =>
    obtain ⟨_, _, _, z⟩ := q
    exact z.elim
  | ret v =>
    obtain ⟨_, _, _, _, _, z⟩ := q
    exact z.elim
theorem ps_try_keep (hs : X.stack = X.env :: X.outer) (hf : X.env.frame = some X.env.locals) (hex : X.ex = []) (hN : X.N.Nodup) (hi : X.N[i]? = some n) (hln : X.env.kindOf n = some .local) (hc : Names X x c) (hij : i < X.N.length)
    (hb : ∀ (W : WX) (pn : List (Addr × Obj)) (xe : Value → Shared → Prop), Takes (X.tr pn xe) W → PassesOwn (model X.prog X.w) X.A X.env xe → PSs (X.tr pn xe) body (tb W))
    (hsu : ∀ (a : Addr) (o : Obj) (pn : List (Addr × Obj)), PSs (X.suite a ((a, o) :: pn)) [st] (tAsg (tVar i) (gName j))) :
    PS X (.Try body [.ExceptHandler (some (.Name x np)) (some n) [st] pos'] [] [] pos) (fun D σ H => tb (wKeep X.K c i j D) D σ H) := by
  refine ⟨fun pins s σ H D I h => wpAny_Try_except ?_⟩
  have ok := I.ok
  have run := (hb (wKeep X.K c i j D) (X.pn ++ pins) _ (fun u s' xx => keep_caught (np := np) (pos' := pos') ok hs hf hex hN hi hln hc hsu hij xx) PassesOwn.looking).run [] s σ H D (I.toTry _) h
  refine wpAny_mono run (fun f s1 q => ?_) (fun _ _ z => z)
  cases f with
  | next =>
    obtain ⟨σ1, H1, J, z⟩ := q
    exact wpAny_execs_nil ⟨σ1, H1, J.ofTry ok, z⟩
  | brk =>
    obtain ⟨σ1, H1, J, z⟩ := q
    exact ⟨σ1, H1, J.ofTry ok, z⟩
  | cont =>
    obtain ⟨σ1, H1, J, z⟩ := q
    exact ⟨σ1, H1, J.ofTry ok, z⟩
  | ret v =>
    obtain ⟨v1, σ1, H1, J, r, z⟩ := q
    exact ⟨v1, σ1, H1, J.ofTry ok, r, z⟩
end

/-! ### isinstance of such an error -/
section
variable {X : Cx}
/-- isinstance(e, c); isinstance(e, (c1, c2, ..)) -/
def rIsX (K : PySem.W.Frag) (C : Addr) : List V → Hp → VK → Prop := fun xs H Q => ∃ (a : Addr) (c : V) (u : Value) (b : Bool), xs = [.ref a, c] ∧ H a = some (ExV (.ref C) a) ∧ ClsV c u ∧ PySem.W.kitOne K (.ref C) u = some b ∧ Q (.bl b) H
def rIsXT (K : PySem.W.Frag) (C : Addr) : List V → Hp → VK → Prop := fun xs H Q => ∃ (a tp : Addr) (cs : List V) (us : List Value) (b : Bool), xs = [.ref a, .ref tp] ∧ H a = some (ExV (.ref C) a) ∧ H tp = some (.tup cs) ∧ Paired ClsV cs us ∧ PySem.W.kitAny K (.ref C) us = some b ∧ Q (.bl b) H
theorem inst_of {pins : List (Addr × Obj)} {σ : L2.St} {H : Hp} {s : Shared} {a C : Addr} (I : Inv X pins σ H s) (h : H a = some (ExV (.ref C) a)) : ∃ o, PySem.W.InstAt s.heap a o C none := by
  obtain ⟨⟨o, fs, h1, h2, h3, h4⟩, _⟩ := I.hok a _ h
  obtain ⟨oc, od, dt, sl⟩ := o
  dsimp only at h2 h3 h4
  subst h2 h3 h4
  exact ⟨_, h1, rfl, rfl, trivial⟩
theorem call_isX {C : Addr} (T : ExcC X.K C) : CallR X (.builtin "isinstance") (rIsX X.K C) := by
  intro pins s σ H xs us Q I r h
  obtain ⟨a, c, u, b, rfl, ha, k, e, q⟩ := h
  obtain ⟨u1, u2, rfl, r1, r2⟩ := vals2 r
  obtain rfl := k.eq r2
  cases (show u1 = Value.ref a from r1)
  obtain ⟨o, J⟩ := inst_of I ha
  exact PySem.W.kia_one (PySem.W.handS_kitx_exc T.hg T.hk T.hs T.hd T.ha T.hn T.ht T.hm) I.kIn J e (fun z => nomatch z) fun tk => ⟨.bl b, H, I.tok tk, rfl, q⟩
theorem call_isXT {C : Addr} (T : ExcC X.K C) : CallR X (.builtin "isinstance") (rIsXT X.K C) := by
  intro pins s σ H xs us Q I r h
  obtain ⟨a, tp, cs, ws, b, rfl, ha, hT, k, e, q⟩ := h
  obtain ⟨u1, u2, rfl, r1, r2⟩ := vals2 r
  cases (show u1 = Value.ref a from r1)
  cases (show u2 = Value.ref tp from r2)
  obtain ⟨o, J⟩ := inst_of I ha
  obtain ⟨_, its, rv, ot, h1, h2, n, h3⟩ := I.hok tp _ hT
  obtain rfl := ClsV.all k rv
  obtain ⟨oc, od, dt, sl⟩ := ot
  dsimp only at h2 h3
  subst h2 h3
  exact PySem.W.kia_tup (PySem.W.handS_kitx_exc T.hg T.hk T.hs T.hd T.ha T.hn T.ht T.hm) I.kIn J h1 e (fun z => nomatch z) fun tk => ⟨.bl b, H, I.tok tk, rfl, q⟩
variable {K : PySem.W.Frag} {σ : L2.St} {H : Hp} {ta tb : TE} {C a : Addr}
theorem ev_isX {c : V} {u : Value} {b : Bool} (ha : Ev ta σ H (.ref a)) (hb : Ev tb σ H c) (h : H a = some (ExV (.ref C) a)) (k : ClsV c u) (e : PySem.W.kitOne K (.ref C) u = some b) : Ev (tCB (rIsX K C) (tCons ta (tCons tb tNil))) σ H (.bl b) := fun H1 e1 Q q =>
  ha H1 e1 _ fun H2 e2 => hb H2 (e1.trans e2) _ fun H3 e3 => ⟨a, c, u, b, rfl, (e1.trans (e2.trans e3)) _ _ h, k, e, q H3 (e2.trans e3)⟩
theorem ev_isXT {cs : List V} {us : List Value} {b : Bool} (ha : Ev ta σ H (.ref a)) (hb : EvU tb σ H cs) (h : H a = some (ExV (.ref C) a)) (k : Paired ClsV cs us) (e : PySem.W.kitAny K (.ref C) us = some b) : Ev (tCB (rIsXT K C) (tCons ta (tCons tb tNil))) σ H (.bl b) := fun H1 e1 Q q =>
  ha H1 e1 _ fun H2 e2 => hb H2 (e1.trans e2) _ fun p H3 np e3 hp => ⟨a, p, cs, us, b, rfl, (e1.trans (e2.trans e3)) _ _ h, hp, k, e, q H3 (e2.trans e3)⟩
end
end Kp

/-! Defs that raise; calls to them in a try; more of lists; one polynomial parted by another. -/
namespace Kp
open PySem PySem.Spec PyProof.Rows L2 Evl
/-- the class C, by the name x, straight under WheelError -/
structure OwnX (K : PySem.W.Frag) (mg : Str → Option Value) (x : Str) (C : Addr) : Prop where
  g : mg x = some (.ref C)
  kp : PySem.W.keepIn K (.ref C) = true
  xi : PySem.W.excIn K C [.type "ValueError", .type "Exception", .type "BaseException", .type "object"] "ValueError.__new__" = true
  ty : PySem.W.typeIn K (.ref C) = some (.type "type")
  e : ExcC K C
section
variable {P : Program} {w : World} {K : PySem.W.Frag} {mg : Str → Option Value} {base : Heap} {x : Str} {k : Nat} {ps N : List Str} {sp : Sp} {st : Stmt}
theorem Dfn.calX (d : Dfn K mg x ps st) (S : FnScope N ps (defScope st)) (len : ∀ vs H Q E, sp vs H Q E → vs.length = ps.length)
    (hbody : ∀ (f : Addr) (cdv : Value) (A : Around) (outer : List Env) (s : Shared) (H : Hp) (vs : List V) (Q : VK) (E : XK), Room k (A.deeper (envOfC x (defScope st) s.heap.objs.size f cdv)) → sp vs H Q E →
      ∃ t, PSs (cxOf (L2.CX P w) P w K mg base N x (defScope st) f cdv A outer s H E) (defBody st) t ∧ t { nx := fun _ H' => Q .non H', rt := Q } (start N vs) H) : Cal P w K mg base (L2.CX P w) x (k + 1) ps sp := by
  obtain ⟨f, fd, F, g, b⟩ := d
  exact ⟨f, fd, F.okX S len (hbody f), g, F.kp, b⟩
end
section
variable {X : Cx} {k : Nat} {ps : List Str} {sp : Sp} {W : WX} {x : Str} {p pos : Pos} {e : Expr} {es : List Expr} {t : TA}
theorem pe_calS (c : Cal X.prog X.w X.K X.mg X.base (L2.CX X.prog X.w) x k ps sp) (hr : Room k X.A) (hg : Gl X x) (tk : Takes X W)
    (ha : PA X (e :: es) t) (hdb : (x == ("__debug__" : Str)) = false := by decide) (he : starEach (e :: es) X.env = (false, eval e X.env) :: starEach es X.env := by rfl) (hpl : (backTo pos (starEach es X.env)).any (·.1) = false := by rfl) :
    PE X (.Call (.Name x p) (e :: es) [] pos) (tCallS sp (WE W) t) := by
  obtain ⟨f, fd, F, g, kp, b⟩ := c
  exact pe_callS F hr hg g kp b (fun σ => passAt tk σ) ha hdb he hpl
theorem pe_cls {C : Addr} (hg : Gl X x) (hm : X.mg x = some (.ref C)) (hd : (x == ("__debug__" : Str)) = false := by decide) : PE X (.Name x pos) (tC (.ref C)) := pe_glob hg hm rfl hd
theorem pmk_of {C : Addr} {m : Str} {j : Nat} {p2 : Pos} (T : OwnX X.K X.mg x C) (hg : Gl X x) (hdb : (x == ("__debug__" : Str)) = false := by decide) : PMk X (.Call (.Name x p) [.Constant (.str m) j p2] [] pos) (fun _ H Q => Q (.ref C) none H) :=
  pmk_own PySem.F.excBase_ValueError T.xi T.g T.kp (raises_own T.e.hs T.ty) hg hdb
end

/-! ### the class is asked -/
theorem exm_own {K : PySem.W.Frag} {mg : Str → Option Value} {x : Str} {B C : Addr} {b : Bool} (T : OwnX K mg x B) (h : PySem.W.subIn K (.ref C) (.ref B) = some b) : PySem.W.exmOne K (.ref C) (.ref B) = some b := PySem.W.exm_ref T.e.hs T.e.hd T.ty h

/-- by the name x the class D -/
structure GlX (mg : Str → Option Value) (x : Str) (D : Addr) : Prop where
  g : mg x = some (.ref D)
theorem kit_ref {K : PySem.W.Frag} {C D : Addr} {b : Bool} (hd : PySem.W.hasDictIn K D = true) (ht : PySem.W.typeIn K (.ref D) = some (.type "type")) (ne : C ≠ D) (h : PySem.W.subIn K (.ref C) (.ref D) = some b) : PySem.W.kitOne K (.ref C) (.ref D) = some b := by
  obtain ⟨cd, hc, _⟩ := PySem.W.any_some hd
  have e2 : ((PySem.W.clsIn K D).isSome && PySem.W.typeIn K (.ref D) == some (.type "type")) = true := by rw [hc, ht] <;> rfl
  unfold PySem.W.kitOne
  rw [if_neg (by simpa using ne)]
  show (if ((PySem.W.clsIn K D).isSome && PySem.W.typeIn K (.ref D) == some (.type "type")) = true then PySem.W.subIn K (.ref C) (.ref D) else none) = some b
  rw [if_pos e2]
  exact h
theorem kit_VE {K : PySem.W.Frag} {C : Addr} {b : Bool} (h : PySem.W.subIn K (.ref C) (.type "ValueError") = some b) : PySem.W.kitOne K (.ref C) (.type "ValueError") = some b := by
  unfold PySem.W.kitOne
  rw [if_neg (by simp)]
  show (if PySem.W.kitMeta "ValueError" = true then PySem.W.subIn K (.ref C) (.type "ValueError") else none) = some b
  rw [if_pos (by decide +kernel)]
  exact h
theorem cls_ne {K : PySem.W.Frag} {C D : Addr} (h1 : PySem.W.subIn K (.ref C) (.ref C) = some true) (h2 : PySem.W.subIn K (.ref C) (.ref D) = some false) : C ≠ D := fun e => by
  subst e
  rw [h1] at h2
  exact nomatch h2

/-! ### lists once more -/
section
variable {K : PySem.W.Frag} {D : Ends} {σ : L2.St} {H : Hp} {ta : TA} {tz : TS} {i : Nat}
theorem q_asgPop {te : TE} {l : Addr} {xs : List V} {y : V} (hl : H l = some (.lst (xs ++ [y]))) (ha : Ev te σ H (.ref l)) (k : ∀ H1, Ex H H1 → tz D (σ.set i (some y)) (upd H1 l (.lst xs))) :
    tSeq (tAsg (tBM0 K "list" rPop te) (gName i)) tz D σ H := ha H (Ex.refl H) _ fun H1 e1 =>
  ⟨Or.inl ⟨rfl, _, sq_of (e1 l _ hl)⟩, l, xs ++ [y], y, rfl, rfl, e1 l _ hl, by simp, by
    rw [List.dropLast_concat]
    exact k H1 e1⟩
theorem q_rev {te : TE} {l : Addr} {xs : List V} (hl : H l = some (.lst xs)) (ha : Ev te σ H (.ref l)) (k : ∀ H1, Ex H H1 → tz D σ (upd H1 l (.lst xs.reverse))) :
    tSeq (tDrop (tBM0 K "list" rReverse te)) tz D σ H := ha H (Ex.refl H) _ fun H1 e1 =>
  ⟨Or.inl ⟨rfl, _, sq_of (e1 l _ hl)⟩, l, xs, rfl, rfl, e1 l _ hl, k H1 e1⟩
theorem atI_last {α : Type} {xs : List α} {v : α} (h : xs[xs.length - 1]? = some v) : atI xs (-1) = some v := by
  have hj := (List.getElem?_eq_some_iff.mp h).1
  unfold atI ixN
  rw [if_neg (by omega), if_pos (by omega)]
  show xs[((-1 : Int) + (xs.length : Int)).toNat]? = some v
  rw [show ((-1 : Int) + (xs.length : Int)).toNat = xs.length - 1 by omega]
  exact h
theorem cut_init (xs : List V) : cutV xs none (some (-1)) = xs.take (xs.length - 1) := by
  unfold cutV
  rw [HT.sIx_none]
  show List.take ((if (-1 : Int) < 0 then ((-1 : Int) + (xs.length : Int)).toNat else min (-1 : Int).toNat xs.length) - 0) (xs.drop 0) = _
  rw [if_pos (by decide), Nat.sub_zero, List.drop_zero, show ((-1 : Int) + (xs.length : Int)).toNat = xs.length - 1 by omega]
end


section
variable {K : PySem.W.Frag} {D : Ends} {σ : L2.St} {H : Hp}
theorem ev_lenT {te : TE} {p : Addr} {xs : List V} (ha : Ev te σ H (.ref p)) (h : SqT K H p xs) : Ev (tCB (rLenS K) (tCons te tNil)) σ H (.int (xs.length : Int)) := fun H1 e Q q =>
  ha H1 e _ fun H2 e2 => ⟨p, xs, rfl, Or.inr (ex_t (e.trans e2) h), q H2 e2⟩
/-- a call whose first argument is a new list -/
theorem el_calL {sp : Sp} {t1 : TE} {ta : TA} {xs ys vs : List V} {E : XK} (h : EvL t1 σ H xs) (h2 : EvA ta σ H vs) (hs : ∀ p H1, Ex H H1 → H1 p = some (.lst xs) → ∀ Q : VK, RetL ys H1 Q → ∀ E : XK, sp (.ref p :: vs) H1 Q E) : EvL (tCall sp [] E (tCons t1 ta)) σ H ys := fun H1 e Q q =>
  h H1 e _ fun p H2 np e2 hp => h2 H2 (e.trans e2) _ fun H3 e3 => by
    show sp ((.ref p :: vs) ++ []) H3 Q E
    rw [List.append_nil]
    exact hs p H3 ((e.trans e2).trans e3) (e3 _ _ hp) Q (fun p' H4 hp' e4 h4 => q p' H4 (fresh_back (e2.trans e3) hp') ((e2.trans e3).trans e4) h4) E
theorem s_retVL {ta tb : TE} {v : V} {ys : List V} (h1 : Ev ta σ H v) (h2 : EvL tb σ H ys) (k : ∀ t q H1, H t = none → H q = none → Ex H H1 → H1 t = some (.tup [v, .ref q]) → H1 q = some (.lst ys) → D.rt (.ref t) H1) : tRet (tTup (tCons ta (tCons tb tNil))) D σ H :=
  h1 H (Ex.refl H) _ fun H1 e1 => h2 H1 e1 _ fun q H2 nq e2 hq => ⟨sz_of (show 2 ≤ 100000 by decide), fun t nt =>
    k t q _ (fresh_back (e1.trans e2) nt) (fresh_back e1 nq) ((e1.trans e2).trans (Ex.new nt)) upd_same (by rw [upd_ne (ne_of_none hq nt)]; exact hq)⟩
end

/-! ### parting -/
theorem cv_congr {a b g : List Int} {m : Nat} : ∀ i, (∀ j, j < i → coef a j = coef b j) → cv a g i m = cv b g i m
  | 0, _ => rfl
  | i + 1, h => by
    unfold cv
    rw [cv_congr i fun j hj => h j (by omega), h i (by omega)]
theorem cv_set {a b g : List Int} {m s : Nat} {x : Int} (h0 : coef a s = 0) (hs : coef b s = x) (h : ∀ j, j ≠ s → coef b j = coef a j) : ∀ i, s < i → cv b g i m = cv a g i m + if s ≤ m then x * coef g (m - s) else 0
  | 0, q => absurd q (Nat.not_lt_zero _)
  | i + 1, q => by
    unfold cv
    by_cases e : s = i
    · subst e
      rw [cv_congr s fun j hj => h j (by omega), hs, h0]
      split <;> simp
    · rw [cv_set h0 hs h i (by omega), h i (by omega)]
      omega
theorem cv_none {a g : List Int} {m : Nat} : ∀ i, (∀ j, j < i → coef a j = 0) → cv a g i m = 0
  | 0, _ => rfl
  | i + 1, h => by
    unfold cv
    rw [cv_none i fun j hj => h j (by omega), h i (by omega)]
    split <;> simp
end Kp

namespace Own
open PySem PySem.Spec PyProof.Rows L2 Evl Kp
def topS (i : Nat) : Stmt := PySem.Challenge.pw_rootwheel_k03_orders.main.body.getD i (.Pass ⟨0, 0, 0, 0⟩)
/-! ### words of ours for the walk over readings -/
local macro_rules | `(tactic| one_place) => `(tactic| (fail_if_success (with_reducible first | refine probe ?_ | refine probeT ?_ | refine probeA ?_)); first
  | exact ev_c
  | exact ev_var rfl
  | exact ea_nil
  | (apply ea_cons <;> one_place)
  | (apply et_test; one_place)
  | (apply et_B; one_place)
  | (apply et_not; one_place)
  | (apply ev_add <;> one_place)
  | (apply ev_sub <;> one_place)
  | (apply ev_mul <;> first | one_place | (exact mulW (by omega) (by omega)))
  | (apply ev_div <;> first | one_place | (exact divW (by omega) (by omega)))
  | (apply ev_mod <;> first | one_place | omega)
  | (refine ev_pow (i := 10) (j := 6) (c := 1000000) ?_ ?_ ⟨by decide, by decide +kernel⟩ (by rfl) <;> one_place)
  | (refine ev_pow (i := 10) (j := 9) (c := 1000000000) ?_ ?_ ⟨by decide, by decide +kernel⟩ (by rfl) <;> one_place)
  | (refine ev_pow (i := 10) (j := 12) (c := 1000000000000) ?_ ?_ ⟨by decide, by decide +kernel⟩ (by rfl) <;> one_place)
  | (refine ev_pow (i := 10) (j := 18) (c := 1000000000000000000) ?_ ?_ ⟨by decide, by decide +kernel⟩ (by rfl) <;> one_place)
  | (apply ev_lt <;> one_place)
  | (apply ev_le <;> one_place)
  | (apply ev_gt <;> one_place)
  | (apply ev_ge <;> one_place)
  | (apply ev_eqI <;> one_place)
  | (apply ev_neI <;> one_place)
  | (apply ev_neg; one_place)
  | assumption)
/-! ### how often p divides, and what is left -/
def strip (p : Int) : Nat → Int → Int → Int × Int
  | 0, l, t => (l, t)
  | m + 1, l, t => if l % p = 0 then strip p m (l / p) (t + 1) else (l, t)
theorem strip_stop {p l t : Int} {m : Nat} (h : ¬ l % p = 0) : strip p m l t = (l, t) := by
  cases m with
  | zero => rfl
  | succ m =>
    unfold strip
    rw [if_neg h]
theorem strip_go {p l t : Int} {m : Nat} (h : l % p = 0) : strip p (m + 1) l t = strip p m (l / p) (t + 1) := by
  rw [strip, if_pos h]
theorem half_lt {p l : Int} {m : Nat} (hp : 2 ≤ p) (h0 : 0 < l) (h : l < 2 ^ (m + 1)) (hd : l % p = 0) : 0 < l / p ∧ l / p < 2 ^ m ∧ l / p ≤ l := by
  have e : p * (l / p) + l % p = l := Int.mul_ediv_add_emod l p
  have e2 : p * (l / p) = l := by omega
  have p0 : 0 < l / p := by
    refine Int.lt_of_not_ge fun q => ?_
    have := Int.mul_nonneg (show 0 ≤ p by omega) (show 0 ≤ -(l / p) by omega)
    rw [Int.mul_neg] at this
    omega
  have e3 : 2 * (l / p) ≤ p * (l / p) := Int.mul_le_mul_of_nonneg_right hp (Int.le_of_lt p0)
  rw [Int.pow_succ] at h
  generalize (2 : Int) ^ m = M at *
  omega

/- _law_parted: slots 0 _law_n, 1 _law_told, 2 _law_p, 3 _law_often; calls  -/
abbrev s__law_parted : Stmt := topS 23
theorem sc__law_parted : FnScope ["_law_n", "_law_told", "_law_p", "_law_often"] ["_law_n"] (defScope s__law_parted) := ⟨rfl, rfl, rfl, by decide +kernel, rfl, by decide +kernel, by decide +kernel⟩

def lpS (n : Int) : Nat → Int × List (Int × Int)
  | 0 => (n, [])
  | i + 1 => ((strip (2 + i) 64 (lpS n i).1 0).1, if 0 < (strip (2 + i) 64 (lpS n i).1 0).2 then (lpS n i).2 ++ [((2 + i : Int), (strip (2 + i) 64 (lpS n i).1 0).2)] else (lpS n i).2)
/-- the rows of n's primes, as the law makes them -/
def lpF (n : Int) : List (Int × Int) := (lpS n (n - 1).toNat).2
theorem lpS_len (n : Int) : ∀ i, (lpS n i).2.length ≤ i
  | 0 => Nat.le_refl _
  | i + 1 => by
    have := lpS_len n i
    show (if _ then _ else _ : List (Int × Int)).length ≤ i + 1
    split
    · rw [List.length_append, List.length_singleton]
      omega
    · omega
theorem lpS_pos (n : Int) : ∀ i, ∀ r ∈ (lpS n i).2, 2 ≤ r.1
  | 0, r, h => nomatch h
  | i + 1, r, h => by
    have ih := lpS_pos n i
    have h2 : r ∈ (if 0 < (strip (2 + i) 64 (lpS n i).1 0).2 then (lpS n i).2 ++ [((2 + i : Int), (strip (2 + i) 64 (lpS n i).1 0).2)] else (lpS n i).2) := h
    split at h2
    · rcases List.mem_append.mp h2 with q | q
      · exact ih r q
      · rw [List.mem_singleton.mp q]
        show (2 : Int) ≤ 2 + (i : Int)
        omega
    · exact ih r h2
def spLParted (K : PySem.W.Frag) : Sp := fun vs H Q _ => ∃ n : Int, vs = [.int n] ∧ 1 ≤ n ∧ n ≤ 40000 ∧ RetP K (lpF n) H Q
section
variable {P : Program} {w : World} {K : PySem.W.Frag} {mg : Str → Option Value} {base : Heap}
theorem cal_lparted (nb : Nb mg) (d : Dfn K mg "_law_parted" ["_law_n"] s__law_parted) : Cal P w K mg base CX0 "_law_parted" 1 ["_law_n"] (spLParted K) := by
  refine d.cal sc__law_parted (fun vs H Q E h => ?_) (fun f cdv A outer s H vs Q E hr h => ?_)
  · obtain ⟨a, rfl, _⟩ := h
    rfl
  · obtain ⟨n, rfl, n1, n2, q⟩ := h
    refine ⟨_, (pss_cons (ps_set (i := 1) sc__law_parted.nd rfl (.inl rfl) (pe_lst pa_nil))
      (pss_cons (ps_for PassesOwn.never rfl (pi_range2 (by rfl) nb.range (pa_cons pe_int (pa_cons (pe_op op_add (pv 0) pe_int) pa_nil))) (pg_name (i := 2) sc__law_parted.nd rfl (.inl rfl)) (pss_cons (ps_set (i := 3) sc__law_parted.nd rfl (.inl rfl) pe_int)
      (pss_cons (ps_while PassesOwn.never (pt_cmpR op_eq (pe_op op_mod (pv 0) (pv 2)) pe_int (nomark _)) (pss_cons (ps_set (i := 0) sc__law_parted.nd rfl (.inl rfl) (pe_op op_fdivW (pv 0) (pv 2)))
      (pss_one (ps_set (i := 3) sc__law_parted.nd rfl (.inl rfl) (pe_op op_add (pv 3) pe_int)))))
      (pss_one (ps_if (pt_cmpR op_gt (pv 3) pe_int (nomark _)) (pss_one (ps_expr (pe_bm PySem.F.plainAttrs_list PySem.F.slot_list_append PySem.F.type_list_append mt_append (pv 1) (pa_cons (pe_tup (pa_cons (pv 2) (pa_cons (pv 3) pa_nil))) pa_nil)))) pss_nil)))))
      (pss_one (ps_ret (pv 1))))), ?_⟩
    refine q_asgL (xs := []) (el_lst ea_nil (by decide)) fun a H1 ha e1 h1 => ?_
    refine q_forR2 (lo := 2) (n := n + 1) (by one_place) (by omega) (fun i σ' H' => ∃ (xs : List V) (x y : Option V), σ' = [some (.int (lpS n i).1), some (.ref a), x, y] ∧ 0 < (lpS n i).1 ∧ (lpS n i).1 ≤ n ∧ Ex H H' ∧ H' a = some (.lst xs) ∧ Prs K H' xs (lpS n i).2)
      (fun H2 e2 => ⟨[], none, none, rfl, by show 0 < n; omega, Int.le_refl n, e1.trans e2, e2 _ _ h1, .nil⟩) (fun i σ' H' hi hp => ?_) (fun σ' H' hp => ?_)
    · obtain ⟨xs, x, y, rfl, l1, l2, e3, h3, pr⟩ := hp
      have hlen := lpS_len n i
      refine q_asg (v := .int 0) (by one_place) fun H4 e4 => ?_
      refine q_while (fun k σ' H' => ∃ u t : Int, σ' = [some (.int u), some (.ref a), some (.int (2 + (i : Int))), some (.int t)] ∧ 0 < u ∧ u ≤ n ∧ u < 2 ^ k ∧ strip (2 + i) k u t = strip (2 + i) 64 (lpS n i).1 0 ∧ Ex H4 H') 64
        ⟨(lpS n i).1, 0, rfl, l1, l2, by omega, rfl, Ex.refl _⟩ fun k σ' H' hW => ?_
      obtain ⟨u, t, rfl, u1, u2, uk, eS, e7⟩ := hW
      refine ⟨decide (u % (2 + (i : Int)) = 0), by one_place, fun hb H8 e8 => ?_, fun hb H8 e8 => ?_⟩
      · have hd := of_decide_eq_true hb
        cases k with
        | zero =>
          rw [Int.pow_zero] at uk
          omega
        | succ k =>
          obtain ⟨v1, v2, v3⟩ := half_lt (by omega) u1 uk hd
          rw [strip_go hd] at eS
          refine ⟨_, fun σ2 H2 hN => ⟨k, Nat.lt_succ_self k, hN⟩, ?_⟩
          refine q_asg (v := .int (u / (2 + (i : Int)))) (by one_place) fun H9 e9 => ?_
          refine s_asg (v := .int (t + 1)) (by one_place) fun H10 e10 => ?_
          exact ⟨_, t + 1, rfl, v1, by omega, v2, eS, ((e7.trans e8).trans e9).trans e10⟩
      · have hd := of_decide_eq_false hb
        rw [strip_stop hd] at eS
        have h8 := e8 _ _ (e7 _ _ (e4 _ _ h3))
        have e48 := e4.trans (e7.trans e8)
        have eS1 : (lpS n (i + 1)).1 = u := by
          show (strip (2 + i) 64 (lpS n i).1 0).1 = u
          rw [← eS]
        refine s_when (b := decide (0 < t)) (by one_place) (fun hb H9 e9 => ?_) (fun hb H9 e9 => ?_)
        · have ht := of_decide_eq_true hb
          have eS2 : (lpS n (i + 1)).2 = (lpS n i).2 ++ [(2 + (i : Int), t)] := by
            show (if 0 < (strip (2 + i) 64 (lpS n i).1 0).2 then _ else _) = _
            rw [← eS, if_pos ht]
          refine s_appU (ys := [.int (2 + (i : Int)), .int t]) (e9 _ _ h8) (by one_place) (eu_tup (by one_place) (by show 2 ≤ 100000; decide)) (by rw [Paired.length pr]; omega) fun tp H10 htp e10 h10 => ?_
          have h10a := e10 _ _ (e9 _ _ h8)
          refine ⟨xs ++ [.ref tp], some (.int (2 + (i : Int))), some (.int t), ?_, by rw [eS1]; exact u1, by rw [eS1]; exact u2, Ex.mut ((e3.trans e48).trans (e9.trans e10)) ha, upd_same, ?_⟩
          · rw [eS1]
          · rw [eS2]
            exact ((pr.mono (e48.trans (e9.trans e10))).upd h10a).snoc (sqt_upd h10a (SqT.of h10))
        · have ht := of_decide_eq_false hb
          have eS2 : (lpS n (i + 1)).2 = (lpS n i).2 := by
            show (if 0 < (strip (2 + i) 64 (lpS n i).1 0).2 then _ else _) = _
            rw [← eS, if_neg ht]
          refine ⟨xs, some (.int (2 + (i : Int))), some (.int t), ?_, by rw [eS1]; exact u1, by rw [eS1]; exact u2, (e3.trans e48).trans e9, e9 _ _ h8, ?_⟩
          · rw [eS1]
          · rw [eS2]
            exact pr.mono (e48.trans e9)
    · obtain ⟨xs, x, y, rfl, l1, l2, e3, h3, pr⟩ := hp
      refine s_ret (v := .ref a) (by one_place) fun H11 e11 => ?_
      refine q a xs H11 ha (e3.trans e11) (e11 _ _ h3) ?_
      have ee : (n + 1 - 2).toNat = (n - 1).toNat := by omega
      rw [ee] at pr
      exact pr.mono e11
end

/-! ### primes that two numbers share; powers that come back to one -/
theorem cop_dvd {e p x : Int} (h : Int.gcd e p = 1) (d : e ∣ p * x) : e ∣ x := by
  have d2 := Int.natAbs_dvd_natAbs.mpr d
  rw [Int.natAbs_mul] at d2
  exact Int.natAbs_dvd_natAbs.mp (Nat.Coprime.dvd_of_dvd_mul_left h d2)
theorem strip_is {p : Int} (hp : 2 ≤ p) : ∀ (m : Nat) (l t : Int), 0 < l → l < 2 ^ m → 0 < (strip p m l t).1 ∧ ¬ p ∣ (strip p m l t).1 ∧ (strip p m l t).1 ∣ l ∧ t ≤ (strip p m l t).2 ∧ ((strip p m l t).2 = t → (strip p m l t).1 = l) ∧ (t < (strip p m l t).2 → p ∣ l) ∧ ∀ e : Int, Int.gcd e p = 1 → e ∣ l → e ∣ (strip p m l t).1
  | 0, l, t, h0, h1 => by
    rw [Int.pow_zero] at h1
    omega
  | m + 1, l, t, h0, h1 => by
    by_cases hd : l % p = 0
    · obtain ⟨v1, v2, v3⟩ := half_lt hp h0 h1 hd
      rw [strip_go hd]
      obtain ⟨i1, i2, i3, i4, i5, i6, i7⟩ := strip_is hp m (l / p) (t + 1) v1 v2
      have pl : p ∣ l := Int.dvd_of_emod_eq_zero hd
      have el : p * (l / p) = l := Int.mul_ediv_cancel' pl
      refine ⟨i1, i2, Int.dvd_trans i3 ⟨p, by rw [Int.mul_comm]; exact el.symm⟩, by omega, fun q => by omega, fun _ => pl, fun e he hel => i7 e he ?_⟩
      rw [← el] at hel
      exact cop_dvd he hel
    · rw [strip_stop hd]
      exact ⟨h0, fun q => hd (Int.emod_eq_zero_of_dvd q), Int.dvd_refl l, Int.le_refl t, fun _ => rfl, fun q => absurd q (Int.lt_irrefl t), fun e _ h => h⟩
structure LpI (a n : Int) (i : Nat) : Prop where
  pos : 0 < (lpS n i).1
  dn : (lpS n i).1 ∣ n
  no : ∀ m : Int, 2 ≤ m → m < 2 + i → ¬ m ∣ (lpS n i).1
  rows : ∀ r ∈ (lpS n i).2, r.1 ∣ n
  sh : (∀ r ∈ (lpS n i).2, ¬ r.1 ∣ a) → ∀ e : Int, e ∣ a → e ∣ n → e ∣ (lpS n i).1
theorem lpI (a : Int) {n : Int} (n1 : 1 ≤ n) (n2 : n < 2 ^ 64) : ∀ i, LpI a n i
  | 0 => ⟨by show 0 < n; omega, Int.dvd_refl n, fun m h1 h2 => by omega, (fun r h => nomatch h), fun _ e _ h => h⟩
  | i + 1 => by
    have o := lpI a n1 n2 i
    have hp : (2 : Int) ≤ 2 + (i : Int) := by omega
    have ll : (lpS n i).1 ≤ n := Int.le_of_dvd (by omega) o.dn
    obtain ⟨s1, s2, s3, s4, s5, s6, s7⟩ := strip_is hp 64 (lpS n i).1 0 o.pos (by omega)
    have e1 : (lpS n (i + 1)).1 = (strip (2 + i) 64 (lpS n i).1 0).1 := rfl
    have e2 : (lpS n (i + 1)).2 = if 0 < (strip (2 + i) 64 (lpS n i).1 0).2 then (lpS n i).2 ++ [((2 + i : Int), (strip (2 + i) 64 (lpS n i).1 0).2)] else (lpS n i).2 := rfl
    refine ⟨by rw [e1]; exact s1, by rw [e1]; exact Int.dvd_trans s3 o.dn, fun m h1 h2 => ?_, fun r hr => ?_, fun hn e ea en => ?_⟩
    · rw [e1]
      by_cases q : m = 2 + i
      · rw [q]; exact s2
      · exact fun d => o.no m h1 (by omega) (Int.dvd_trans d s3)
    · rw [e2] at hr
      split at hr
      · rename_i ht
        rcases List.mem_append.mp hr with q | q
        · exact o.rows r q
        · rw [List.mem_singleton.mp q]
          exact Int.dvd_trans (s6 ht) o.dn
      · exact o.rows r hr
    · rw [e1]
      rw [e2] at hn
      by_cases ht : 0 < (strip (2 + i) 64 (lpS n i).1 0).2
      · rw [if_pos ht] at hn
        have el := o.sh (fun r hr => hn r (List.mem_append_left _ hr)) e ea en
        have pa : ¬ (2 + (i : Int)) ∣ a := hn _ (List.mem_append_right _ (List.mem_singleton.mpr rfl))
        refine s7 e ?_ el
        -- a shared divisor of e and p is no lesser one, and not p
        have g1 : ((Int.gcd e (2 + (i : Int)) : Nat) : Int) ∣ e := Int.gcd_dvd_left ..
        have g2 : ((Int.gcd e (2 + (i : Int)) : Nat) : Int) ∣ 2 + (i : Int) := Int.gcd_dvd_right ..
        have g0 : Int.gcd e (2 + (i : Int)) ≠ 0 := fun z => by
          rw [z] at g2
          have := Int.zero_dvd.mp g2
          omega
        have gl : ((Int.gcd e (2 + (i : Int)) : Nat) : Int) ≤ 2 + (i : Int) := Int.le_of_dvd (by omega) g2
        generalize Int.gcd e (2 + (i : Int)) = g at *
        by_cases q : g = 1
        · exact q
        · exfalso
          by_cases q2 : (g : Int) = 2 + (i : Int)
          · rw [q2] at g1
            exact pa (Int.dvd_trans g1 ea)
          · exact o.no g (by omega) (by omega) (Int.dvd_trans g1 el)
      · rw [if_neg ht] at hn
        rw [s5 (by omega)]
        exact o.sh hn e ea en
/-- the rows of n's primes that divide a are none just where a and n share no divisor but 1 -/
theorem lp_gcd (a : Int) {n : Int} (n1 : 1 ≤ n) (n2 : n < 2 ^ 64) : (((lpF n).filter fun r => decide (a % r.1 = 0)).map fun r => r.1) = [] ↔ Nat.gcd a.natAbs n.natAbs = 1 := by
  have o := lpI a n1 n2 (n - 1).toNat
  have pp := lpS_pos n (n - 1).toNat
  have L1 : (lpS n (n - 1).toNat).1 = 1 := by
    have l := Int.le_of_dvd (by omega) o.dn
    have p := o.pos
    by_cases q : (lpS n (n - 1).toNat).1 = 1
    · exact q
    · exact absurd (Int.dvd_refl _) (o.no _ (by omega) (by omega))
  show (((lpS n (n - 1).toNat).2.filter fun r => decide (a % r.1 = 0)).map fun r => r.1) = [] ↔ _
  rw [List.map_eq_nil_iff, List.filter_eq_nil_iff]
  constructor
  · intro h
    have e := o.sh (fun r hr d => h r hr (by rw [decide_eq_true_iff]; exact Int.emod_eq_zero_of_dvd d)) ((Int.gcd a n : Nat) : Int) (Int.gcd_dvd_left ..) (Int.gcd_dvd_right ..)
    rw [L1] at e
    have g : Int.gcd a n = 1 := by
      have h1 := Int.le_of_dvd (by decide) e
      have h0 : Int.gcd a n ≠ 0 := fun z => by
        rw [z] at e
        have := Int.zero_dvd.mp e
        omega
      omega
    exact g
  · intro h r hr q
    rw [decide_eq_true_iff] at q
    have d : r.1 ∣ ((Int.gcd a n : Nat) : Int) := Int.dvd_coe_gcd (Int.dvd_of_emod_eq_zero q) (o.rows r hr)
    have h' : Int.gcd a n = 1 := h
    rw [h'] at d
    have := Int.le_of_dvd (by decide) d
    have := pp r hr
    omega
/-- the powers by n: what a to the power i and 1 leaves -/
def pwm (a n : Int) : Nat → Int
  | 0 => a % n
  | i + 1 => pwm a n i * a % n
def IsOrd (a n : Int) (i : Nat) : Prop := pwm a n i = 1 % n ∧ ∀ j, j < i → pwm a n j ≠ 1 % n
theorem IsOrd.uniq {a n : Int} {i j : Nat} (h : IsOrd a n i) (k : IsOrd a n j) : i = j := by
  rcases Nat.lt_trichotomy i j with q | q | q
  · exact absurd h.1 (k.2 i q)
  · exact q
  · exact absurd k.1 (h.2 j q)
theorem pwm_bd {a n : Int} (hn : 0 < n) (i : Nat) : 0 ≤ pwm a n i ∧ pwm a n i < n := by
  cases i with
  | zero => exact ⟨Int.emod_nonneg _ (by omega), Int.emod_lt_of_pos _ hn⟩
  | succ i => exact ⟨Int.emod_nonneg _ (by omega), Int.emod_lt_of_pos _ hn⟩
theorem mul_mod_r (x a n : Int) : x * (a % n) % n = x * a % n := by rw [Int.mul_emod, Int.emod_emod, ← Int.mul_emod]
/-- what a times x and a times y leave alike, x and y do -/
theorem cancel {a n x y : Int} (h : Int.gcd a n = 1) (e : x * a % n = y * a % n) : x % n = y % n := by
  rw [Int.emod_eq_emod_iff_emod_sub_eq_zero] at e ⊢
  have d := Int.dvd_of_emod_eq_zero e
  rw [← Int.sub_mul, Int.mul_comm] at d
  exact Int.emod_eq_zero_of_dvd (cop_dvd (by rw [Int.gcd_comm]; exact h) d)
theorem pigeon : ∀ (n : Nat) (f : Nat → Nat), (∀ i, i ≤ n → f i < n) → ∃ i j, i < j ∧ j ≤ n ∧ f i = f j
  | 0, f, h => absurd (h 0 (Nat.le_refl 0)) (Nat.not_lt_zero _)
  | n + 1, f, h => by
    by_cases c : ∃ i, i ≤ n ∧ f i = f (n + 1)
    · obtain ⟨i, hi, e⟩ := c
      exact ⟨i, n + 1, by omega, Nat.le_refl _, e⟩
    · have c2 : ∀ i, i ≤ n → f i ≠ f (n + 1) := fun i hi e => c ⟨i, hi, e⟩
      obtain ⟨i, j, hij, hj, e⟩ := pigeon n (fun i => if f i = n then f (n + 1) else f i) fun i hi => by
        have h1 := h i (by omega)
        have h2 := h (n + 1) (Nat.le_refl _)
        have h3 := c2 i hi
        show (if f i = n then f (n + 1) else f i) < n
        split <;> omega
      refine ⟨i, j, hij, by omega, ?_⟩
      have h1 := c2 i (by omega)
      have h2 := c2 j hj
      have e2 : (if f i = n then f (n + 1) else f i) = if f j = n then f (n + 1) else f j := e
      split at e2 <;> split at e2 <;> omega
theorem pwm_back {a n : Int} (hn : 0 < n) (h : Int.gcd a n = 1) : ∀ i j, i < j → pwm a n i = pwm a n j → pwm a n (j - i - 1) = 1 % n
  | 0, 0, q, _ => absurd q (Nat.lt_irrefl _)
  | 0, j + 1, _, e => by
    have e2 : 1 * a % n = pwm a n j * a % n := by
      rw [Int.one_mul]
      exact e
    have e3 := cancel h e2
    rw [show j + 1 - 0 - 1 = j by omega, e3, Int.emod_eq_of_lt (pwm_bd hn j).1 (pwm_bd hn j).2]
  | i + 1, 0, q, _ => absurd q (Nat.not_lt_zero _)
  | i + 1, j + 1, q, e => by
    have e3 := cancel h (show pwm a n i * a % n = pwm a n j * a % n from e)
    rw [Int.emod_eq_of_lt (pwm_bd hn i).1 (pwm_bd hn i).2, Int.emod_eq_of_lt (pwm_bd hn j).1 (pwm_bd hn j).2] at e3
    rw [show j + 1 - (i + 1) - 1 = j - i - 1 by omega]
    exact pwm_back hn h i j (by omega) e3
theorem least {p : Nat → Prop} : ∀ n, p n → ∃ i, i ≤ n ∧ p i ∧ ∀ j, j < i → ¬ p j := fun n => by
  induction n using Nat.strongRecOn with
  | _ n ih =>
    intro h
    by_cases c : ∃ j, j < n ∧ p j
    · obtain ⟨j, hj, hp⟩ := c
      obtain ⟨i, h1, h2⟩ := ih j hj hp
      exact ⟨i, by omega, h2⟩
    · exact ⟨n, Nat.le_refl n, h, fun j hj hp => c ⟨j, hj, hp⟩⟩
theorem ord_is {a n : Int} (hn : 0 < n) (h : Int.gcd a n = 1) : ∃ i : Nat, (i : Int) ≤ n ∧ IsOrd a n i := by
  obtain ⟨i, j, hij, hj, e⟩ := pigeon n.toNat (fun i => (pwm a n i).toNat) fun i _ => by
    have := pwm_bd (a := a) hn i
    omega
  have e2 : pwm a n i = pwm a n j := by
    have h1 := pwm_bd (a := a) hn i
    have h2 := pwm_bd (a := a) hn j
    have e3 : (pwm a n i).toNat = (pwm a n j).toNat := e
    omega
  obtain ⟨k, h1, h2, h3⟩ := least (p := fun i => pwm a n i = 1 % n) _ (pwm_back hn h i j hij e2)
  exact ⟨k, by omega, h2, h3⟩

/-- over a new list of pairs -/
theorem el_lcPN {K : PySem.W.Frag} {σ : L2.St} {H : Hp} {tl te : TE} {t : TT} {vs : List Nat} {rows : List (Int × Int)} {i j : Nat} (f : Int × Int → Bool) (w : Int × Int → V) (h : EvP K tl σ H rows) (hz : rows.length ≤ 40000)
    (hw : ∀ x y, wipe (((wipe σ vs).set i (some x)).set j (some y)) vs = wipe σ vs)
    (ht : ∀ r H1, Ex H H1 → r ∈ rows → EvT t (((wipe σ vs).set i (some (.int r.1))).set j (some (.int r.2))) H1 (f r)) (he : ∀ r H1, Ex H H1 → r ∈ rows → f r = true → Ev te (((wipe σ vs).set i (some (.int r.1))).set j (some (.int r.2))) H1 (w r)) :
    EvL (tLc (iList K tl) (gTup K 2 (gCons (gName i) (gCons (gName j) gNil))) t te vs) σ H ((rows.filter f).map w) := fun H0 e Q q => h H0 e _ fun p xs H1 np e1 hp pr =>
  el_lcP (tl := tC (.ref p)) f w ev_c (SqL.of hp) pr hz hw (fun r H2 e2 => ht r H2 ((e.trans e1).trans e2)) (fun r H2 e2 => he r H2 ((e.trans e1).trans e2)) H1 (Ex.refl H1) Q fun l H2 nl e2 hl => q l H2 (fresh_back e1 nl) (e1.trans e2) hl
/- order: slots 0 a, 1 n, 2 step, 3 one, 4 power, 5 k; calls  -/
abbrev s_order : Stmt := topS 17
theorem sc_order : FnScope ["a", "n", "step", "one", "power", "k"] ["a", "n"] (defScope s_order) := ⟨rfl, rfl, rfl, by decide +kernel, rfl, by decide +kernel, by decide +kernel⟩

def spOrder (C : Addr) : Sp := fun vs H Q E => ∃ a n : Int, vs = [.int a, .int n] ∧ 1 ≤ n ∧ n ≤ 40000 ∧ a.natAbs < 2 ^ 200 ∧ (Int.gcd a n = 1 → ∀ i : Nat, IsOrd a n i → RetV (.int ((i : Int) + 1)) H Q) ∧ (Int.gcd a n ≠ 1 → ∀ H1, Ex H H1 → E (.ref C) none H1)
/- _law_due: slots 0 _law_a, 1 _law_n, 2 _law_left, 3 _law_k, 4 _law_p, 5 _law_often; calls _law_parted -/
abbrev s__law_due : Stmt := topS 25
theorem sc__law_due : FnScope ["_law_a", "_law_n", "_law_left", "_law_k", "_law_p", "_law_often"] ["_law_a", "_law_n"] (defScope s__law_due) := ⟨rfl, rfl, rfl, by decide +kernel, rfl, by decide +kernel, by decide +kernel⟩

def spDue : Sp := fun vs H Q _ => ∃ a n : Int, vs = [.int a, .int n] ∧ 1 ≤ n ∧ n ≤ 40000 ∧ a.natAbs < 2 ^ 200 ∧ (Int.gcd a n = 1 → ∀ i : Nat, IsOrd a n i → RetV (.int ((i : Int) + 1)) H Q) ∧ (Int.gcd a n ≠ 1 → RetV .non H Q)
section
variable {P : Program} {w : World} {K : PySem.W.Frag} {mg : Str → Option Value} {base : Heap} {C : Addr}
theorem mulW2 {i j : Int} (hi : i.natAbs < 2 ^ 300) (hj : j.natAbs < 2 ^ 200) : CMulW i j := mulW hi (Nat.lt_of_lt_of_le hj (Nat.pow_le_pow_right (by decide) (by decide)))
theorem cal_order (nb : Nb mg) (nb_gcd : mg "gcd" = some (.builtin "math.gcd")) (x_NoOrder : OwnX K mg "NoOrder" C) (d : Dfn K mg "order" ["a", "n"] s_order) : Cal P w K mg base (L2.CX P w) "order" 2 ["a", "n"] (spOrder C) := by
  refine d.calX sc_order (fun vs H Q E h => ?_) (fun fa cdv A outer s H vs Q E hr h => ?_)
  · obtain ⟨a, n, rfl, _⟩ := h
    rfl
  · obtain ⟨a, n, rfl, n1, n2, ba, kG, kB⟩ := h
    refine ⟨_, (pss_cons (ps_if (pt_cmpR op_ne (pe_callBfun cr_gcd (by rfl) nb_gcd (pa_cons (pv 0) (pa_cons (pv 1) pa_nil))) pe_int (nomark _)) (pss_one (ps_raise rfl (takes_of rfl rfl rfl rfl) (pmk_of x_NoOrder rfl))) pss_nil)
      (pss_cons (ps_set (i := 2) sc_order.nd rfl (.inl rfl) (pe_op op_mod (pv 0) (pv 1)))
      (pss_cons (ps_set (i := 3) sc_order.nd rfl (.inl rfl) (pe_op op_mod pe_int (pv 1)))
      (pss_cons (ps_set (i := 4) sc_order.nd rfl (.inl rfl) (pv 2))
      (pss_cons (ps_set (i := 5) sc_order.nd rfl (.inl rfl) pe_int)
      (pss_cons (ps_while (passes_of rfl) (pt_cmpR op_ne (pv 4) (pv 3) (nomark _)) (pss_cons (ps_set (i := 4) sc_order.nd rfl (.inl rfl) (pe_op op_mod (pe_op op_mulW (pv 4) (pv 2)) (pv 1)))
      (pss_one (ps_aug (i := 5) sc_order.nd rfl (.inl rfl) pe_int ip_add))))
      (pss_one (ps_ret (pv 5))))))))), ?_⟩
    refine q_when (b := !decide (((Nat.gcd a.natAbs n.natAbs : Nat) : Int) = 1)) (et_test (ev_neI (ev_gcd (ev_var rfl) (ev_var rfl)) ev_c)) (fun hb H1 e1 => ?_) (fun hb H1 e1 => ?_)
    · refine kB (fun hg => ?_) H1 e1
      have hg2 : Nat.gcd a.natAbs n.natAbs = 1 := hg
      rw [hg2] at hb
      exact nomatch hb
    · have hg : Int.gcd a n = 1 := by
        rw [Bool.not_eq_false', decide_eq_true_iff] at hb
        have hg : Nat.gcd a.natAbs n.natAbs = 1 := by omega
        exact hg
      obtain ⟨i, hin, hi⟩ := ord_is (a := a) (show 0 < n by omega) hg
      have kG := kG hg i hi
      refine q_asg (v := .int (a % n)) (by one_place) fun H2 e2 => ?_
      refine q_asg (v := .int (1 % n)) (by one_place) fun H3 e3 => ?_
      refine q_asg (v := .int (a % n)) (by one_place) fun H4 e4 => ?_
      refine q_asg (v := .int 1) (by one_place) fun H5 e5 => ?_
      refine q_while (fun m σ' H' => ∃ j : Nat, σ' = [some (.int a), some (.int n), some (.int (a % n)), some (.int (1 % n)), some (.int (pwm a n j)), some (.int ((j : Int) + 1))] ∧ j ≤ i ∧ m = i - j ∧ Ex H H') i
        ⟨0, rfl, Nat.zero_le _, rfl, (((e1.trans e2).trans e3).trans e4).trans e5⟩ fun m σ' H' hW => ?_
      obtain ⟨j, rfl, hj, rfl, e6⟩ := hW
      have hb := pwm_bd (a := a) (show 0 < n by omega) j
      have hs := pwm_bd (a := a) (show 0 < n by omega) 0
      have hs' : 0 ≤ a % n ∧ a % n < n := hs
      refine ⟨!decide (pwm a n j = 1 % n), by one_place, fun ht H7 e7 => ?_, fun ht H7 e7 => ?_⟩
      · have hne : pwm a n j ≠ 1 % n := by
          intro z
          rw [decide_eq_true z] at ht
          exact nomatch ht
        have hlt : j < i := by
          rcases Nat.lt_or_ge j i with q | q
          · exact q
          · rw [show j = i by omega] at hne
            exact absurd hi.1 hne
        refine ⟨_, fun σ2 H2 hN => ⟨i - (j + 1), by omega, hN⟩, ?_⟩
        refine q_asg (v := .int (pwm a n (j + 1))) (ev_is (ev_mod (ev_mul (ev_var rfl) (ev_var rfl) (mulW (by omega) (by omega))) (ev_var rfl) (by omega)) (by rw [mul_mod_r]; rfl)) fun H8 e8 => ?_
        exact s_aug (a := (j : Int) + 1) (b := 1) rfl (by one_place) fun H9 e9 => ⟨j + 1, rfl, hlt, rfl, ((e6.trans e7).trans e8).trans e9⟩
      · have he : pwm a n j = 1 % n := by
          rw [Bool.not_eq_false', decide_eq_true_iff] at ht
          exact ht
        have hji : j = i := by
          rcases Nat.lt_or_ge j i with q | q
          · exact absurd he (hi.2 j q)
          · omega
        subst hji
        exact s_ret (v := .int ((j : Int) + 1)) (by one_place) fun H8 e8 => kG _ ((e6.trans e7).trans e8)
theorem cal_due (nb : Nb mg) (c__law_parted : Cal P w K mg base CX0 "_law_parted" 1 ["_law_n"] (spLParted K)) (d : Dfn K mg "_law_due" ["_law_a", "_law_n"] s__law_due) : Cal P w K mg base CX0 "_law_due" 2 ["_law_a", "_law_n"] spDue := by
  refine d.cal sc__law_due (fun vs H Q E h => ?_) (fun fa cdv A outer s H vs Q E hr h => ?_)
  · obtain ⟨a, n, rfl, _⟩ := h
    rfl
  · obtain ⟨a, n, rfl, n1, n2, ba, kG, kB⟩ := h
    refine ⟨_, (pss_cons (ps_if (pt_cmpR (op_neD hr.units) (pe_lc (own := [("_law_p", 4), ("_law_often", 5)]) (g := gTup K 2 (gCons (gName 4) (gCons (gName 5) gNil))) (by rfl) sc__law_due.nd (pi_list (pe_cal c__law_parted (hr.mono (by first | decide | omega)) (by rfl) pass0 (pa_cons (pv 1) pa_nil))) (blkOk_by (N := ["_law_a", "_law_n", "_law_left", "_law_k", "_law_p", "_law_often"]) (sc := defScope s__law_due) (by decide +kernel)) (fun _ _ _ _ _ => (pg_tup (by rfl) (pgs_cons (pg_name (i := 4) sc__law_due.nd rfl (Or.inl rfl)) (pgs_cons (pg_name (i := 5) sc__law_due.nd rfl (Or.inl rfl)) pgs_nil)))) (fun _ _ _ _ _ => pts_one (pt_cmpR op_eq (pe_op op_mod (pv 0) (pv 4)) pe_int (nomark _))) (fun _ _ _ _ _ => (pv 4))) (pe_lst pa_nil) (nomark _)) (pss_one (ps_ret pe_non)) pss_nil)
      (pss_cons (ps_set (i := 2) sc__law_due.nd rfl (.inl rfl) (pe_op op_mod (pv 0) (pv 1)))
      (pss_cons (ps_set (i := 3) sc__law_due.nd rfl (.inl rfl) pe_int)
      (pss_cons (ps_while PassesOwn.never (pt_cmpR op_ne (pe_op op_mod (pe_op op_sub (pv 2) pe_int) (pv 1)) pe_int (nomark _)) (pss_cons (ps_set (i := 2) sc__law_due.nd rfl (.inl rfl) (pe_op op_mod (pe_op op_mulW (pv 2) (pv 0)) (pv 1)))
      (pss_one (ps_set (i := 3) sc__law_due.nd rfl (.inl rfl) (pe_op op_add (pv 3) pe_int)))))
      (pss_one (ps_ret (pv 3))))))), ?_⟩
    have hlp : (lpF n).length ≤ 40000 := by
      have := lpS_len n (n - 1).toNat
      unfold lpF
      omega
    have hpos : ∀ r ∈ lpF n, 2 ≤ r.1 := lpS_pos n _
    have hlg := lp_gcd a n1 (show n < 2 ^ 64 by omega)
    refine q_when (b := !decide ((((lpF n).filter fun r => decide (a % r.1 = 0)).map fun r => r.1) = [])) (et_test (ev_opLL (xs := ((((lpF n).filter fun r => decide (a % r.1 = 0)).map fun r => r.1).map V.int)) (ys := []) (el_is (el_lcPN (rows := lpF n) (fun r => decide (a % r.1 = 0)) (fun r => .int r.1) (ep_cal (by one_place) fun H1 e1 Q k E => ⟨n, rfl, n1, n2, k⟩) hlp (fun _ _ => rfl) (fun r H6 e6 hr => ?_) (fun r H6 e6 hr hf => ev_var rfl)) ?_) (el_lst ea_nil (by decide)) (fun p q H6 hp hq e6 => rv_neI (ms := []) (SqL.of hp) (SqL.of hq)))) (fun hb H1 e1 => ?_) (fun hb H1 e1 => ?_)
    · have := hpos r hr
      one_place
    · rw [List.map_map]
      rfl
    · refine s_ret (v := .non) ev_c fun H2 e2 => kB (fun hg => ?_) _ (e1.trans e2)
      rw [decide_eq_true (hlg.mpr hg)] at hb
      exact nomatch hb
    · have hg : Int.gcd a n = 1 := by
        rw [Bool.not_eq_false', decide_eq_true_iff] at hb
        exact hlg.mp hb
      obtain ⟨i, hin, hi⟩ := ord_is (a := a) (show 0 < n by omega) hg
      have kG := kG hg i hi
      refine q_asg (v := .int (a % n)) (by one_place) fun H2 e2 => ?_
      refine q_asg (v := .int 1) (by one_place) fun H3 e3 => ?_
      refine q_while (fun m σ' H' => ∃ j : Nat, σ' = [some (.int a), some (.int n), some (.int (pwm a n j)), some (.int ((j : Int) + 1)), none, none] ∧ j ≤ i ∧ m = i - j ∧ Ex H H') i
        ⟨0, rfl, Nat.zero_le _, rfl, (e1.trans e2).trans e3⟩ fun m σ' H' hW => ?_
      obtain ⟨j, rfl, hj, rfl, e6⟩ := hW
      have hb := pwm_bd (a := a) (show 0 < n by omega) j
      have hiff : (pwm a n j - 1) % n = 0 ↔ pwm a n j = 1 % n := by
        rw [← Int.emod_eq_emod_iff_emod_sub_eq_zero, Int.emod_eq_of_lt hb.1 hb.2]
      refine ⟨!decide ((pwm a n j - 1) % n = 0), by one_place, fun ht H7 e7 => ?_, fun ht H7 e7 => ?_⟩
      · have hne : pwm a n j ≠ 1 % n := by
          intro z
          rw [decide_eq_true (hiff.mpr z)] at ht
          exact nomatch ht
        have hlt : j < i := by
          rcases Nat.lt_or_ge j i with q | q
          · exact q
          · rw [show j = i by omega] at hne
            exact absurd hi.1 hne
        refine ⟨_, fun σ2 H2 hN => ⟨i - (j + 1), by omega, hN⟩, ?_⟩
        refine q_asg (v := .int (pwm a n (j + 1))) (ev_mod (ev_mul (ev_var rfl) (ev_var rfl) (mulW2 (by omega) ba)) (ev_var rfl) (by omega)) fun H8 e8 => ?_
        exact s_asg (v := .int ((j : Int) + 1 + 1)) (by one_place) fun H9 e9 => ⟨j + 1, rfl, hlt, rfl, ((e6.trans e7).trans e8).trans e9⟩
      · have he : pwm a n j = 1 % n := by
          rw [Bool.not_eq_false', decide_eq_true_iff] at ht
          exact hiff.mp ht
        have hji : j = i := by
          rcases Nat.lt_or_ge j i with q | q
          · exact absurd he (hi.2 j q)
          · omega
        subst hji
        exact s_ret (v := .int ((j : Int) + 1)) (by one_place) fun H8 e8 => kG _ ((e6.trans e7).trans e8)
end

/-- by the name x another class, whose errors those of C are not -/
structure OthX (K : PySem.W.Frag) (mg : Str → Option Value) (x : Str) (C D : Addr) : Prop where
  g : mg x = some (.ref D)
  n : PySem.W.kitOne K (.ref C) (.ref D) = some false
theorem any_no {K : PySem.W.Frag} {mg : Str → Option Value} {x : Str} {C D : Addr} {us : List Value} (h : OthX K mg x C D) (r : PySem.W.kitAny K (.ref C) us = some false) : PySem.W.kitAny K (.ref C) (.ref D :: us) = some false := kitAny_cons h.n (fun _ => r) (fun z => nomatch z)
theorem kit_self {K : PySem.W.Frag} {C : Addr} : PySem.W.kitOne K (.ref C) (.ref C) = some true := by
  unfold PySem.W.kitOne
  rw [if_pos (beq_self_eq_true _)]

/- _law_kind: slots 0 _law_caught, 1 _law_others, 2 _law_more; calls  -/
abbrev s__law_kind : Stmt := topS 26
theorem sc__law_kind : FnScope ["_law_caught", "_law_others", "_law_more"] ["_law_caught"] (defScope s__law_kind) := ⟨rfl, rfl, rfl, by decide +kernel, rfl, by decide +kernel, by decide +kernel⟩

def spKind (C : Addr) : Sp := fun vs H Q _ => ∃ (a : Addr), vs = [.ref a] ∧ H a = some (ExV (.ref C) a) ∧ RetV (.bl true) H Q
section
variable {P : Program} {w : World} {K : PySem.W.Frag} {mg : Str → Option Value} {base : Heap} {C D1 D2 D3 D4 D5 D6 D7 D8 D9 D10 D11 D12 : Addr}
theorem cal_kind (nb : Nb mg) (z_ValueError : mg "ValueError" = none) (hv : PySem.W.kitOne K (.ref C) (.type "ValueError") = some true) (x_OWN : OwnX K mg "NoOrder" C) (x_NoCosine : OthX K mg "NoCosine" C D1) (x_NoCrowds : OthX K mg "NoCrowds" C D2) (x_NoDeed : OthX K mg "NoDeed" C D3) (x_NoFold : OthX K mg "NoFold" C D4) (x_NoName : OthX K mg "NoName" C D5) (x_NoPart : OthX K mg "NoPart" C D6) (x_NoPlain : OthX K mg "NoPlain" C D7)
    (x_NoPrime : OthX K mg "NoPrime" C D8) (x_NoRow : OthX K mg "NoRow" C D9) (x_NoSize : OthX K mg "NoSize" C D10) (x_NoText : OthX K mg "NoText" C D11) (x_NoUnit : OthX K mg "NoUnit" C D12) (d : Dfn K mg "_law_kind" ["_law_caught"] s__law_kind) : Cal P w K mg base CX0 "_law_kind" 1 ["_law_caught"] (spKind C) := by
  have x_NoOrder := x_OWN
  refine d.cal sc__law_kind (fun vs H Q E h => ?_) (fun fa cdv A outer s H vs Q E hr h => ?_)
  · obtain ⟨a, rfl, _⟩ := h
    rfl
  · obtain ⟨a, rfl, ha, q⟩ := h
    refine ⟨_, (pss_cons (ps_set (i := 1) sc__law_kind.nd rfl (.inl rfl) (pe_callB (call_isXT x_OWN.e) (by rfl) nb.isinstance (by decide +kernel) (pa_cons (pv 0) (pa_cons (pe_tup (pa_cons (pe_cls (x := "NoCosine") rfl x_NoCosine.g) (pa_cons (pe_cls (x := "NoCrowds") rfl x_NoCrowds.g) (pa_cons (pe_cls (x := "NoDeed") rfl x_NoDeed.g) (pa_cons (pe_cls (x := "NoFold") rfl x_NoFold.g) (pa_cons (pe_cls (x := "NoName") rfl x_NoName.g) (pa_cons (pe_cls (x := "NoPart") rfl x_NoPart.g) (pa_cons (pe_cls (x := "NoPlain") rfl x_NoPlain.g) pa_nil)))))))) pa_nil))))
      (pss_cons (ps_set (i := 2) sc__law_kind.nd rfl (.inl rfl) (pe_callB (call_isXT x_OWN.e) (by rfl) nb.isinstance (by decide +kernel) (pa_cons (pv 0) (pa_cons (pe_tup (pa_cons (pe_cls (x := "NoPrime") rfl x_NoPrime.g) (pa_cons (pe_cls (x := "NoRow") rfl x_NoRow.g) (pa_cons (pe_cls (x := "NoSize") rfl x_NoSize.g) (pa_cons (pe_cls (x := "NoText") rfl x_NoText.g) (pa_cons (pe_cls (x := "NoUnit") rfl x_NoUnit.g) pa_nil)))))) pa_nil))))
      (pss_one (ps_ret (pe_and (pe_callB (call_isX x_OWN.e) (by rfl) nb.isinstance (by decide +kernel) (pa_cons (pv 0) (pa_cons (pe_cls (x := "NoOrder") rfl x_NoOrder.g) pa_nil))) (pe_and (pe_callB (call_isX x_OWN.e) (by rfl) nb.isinstance (by decide +kernel) (pa_cons (pv 0) (pa_cons (pe_bltn (v := .ty "ValueError") (by rfl) z_ValueError (by decide +kernel) rfl) pa_nil))) (pe_and (pe_not (pv 1)) (pe_one (pe_not (pv 2)))))))))), ?_⟩
    refine q_asg (v := .bl false) (ev_isXT (ev_var rfl) (eu_tup (ea_cons ev_c (ea_cons ev_c (ea_cons ev_c (ea_cons ev_c (ea_cons ev_c (ea_cons ev_c (ea_cons ev_c ea_nil))))))) (by show 7 ≤ 100000; decide)) ha (.cons (.own _) (.cons (.own _) (.cons (.own _) (.cons (.own _) (.cons (.own _) (.cons (.own _) (.cons (.own _) .nil)))))))
      (any_no x_NoCosine (any_no x_NoCrowds (any_no x_NoDeed (any_no x_NoFold (any_no x_NoName (any_no x_NoPart (any_no x_NoPlain kitAny_nil)))))))) fun H1 e1 => ?_
    refine q_asg (v := .bl false) (ev_isXT (ev_var rfl) (eu_tup (ea_cons ev_c (ea_cons ev_c (ea_cons ev_c (ea_cons ev_c (ea_cons ev_c ea_nil))))) (by show 5 ≤ 100000; decide)) (e1 _ _ ha) (.cons (.own _) (.cons (.own _) (.cons (.own _) (.cons (.own _) (.cons (.own _) .nil)))))
      (any_no x_NoPrime (any_no x_NoRow (any_no x_NoSize (any_no x_NoText (any_no x_NoUnit kitAny_nil)))))) fun H2 e2 => ?_
    have h2 := e2 _ _ (e1 _ _ ha)
    exact s_ret (v := .bl true) (ev_is (ev_andV (a := true) (b := true) (ev_isX (ev_var rfl) ev_c h2 (.own _) kit_self) fun _ => ev_is (ev_andV (a := true) (b := true) (ev_isX (ev_var rfl) ev_c h2 (.ty _) hv) fun _ => ev_is (ev_andV (a := true) (b := true) (ev_is (ev_notV (ev_var rfl)) rfl) fun _ => ev_is (ev_notV (ev_var rfl)) rfl) rfl) rfl) rfl) fun H3 e3 => q _ ((e1.trans e2).trans e3)
end

/- _law_is: slots 0 _law_found, 1 _law_due_here; calls  -/
abbrev s__law_is : Stmt := topS 24
theorem sc__law_is : FnScope ["_law_found", "_law_due_here"] ["_law_found", "_law_due_here"] (defScope s__law_is) := ⟨rfl, rfl, rfl, by decide +kernel, rfl, by decide +kernel, by decide +kernel⟩

def spIs : Sp := fun vs H Q _ => ∃ i j : Int, vs = [.int i, .int j] ∧ RetV (.bl (decide (i = j))) H Q
section
variable {P : Program} {w : World} {K : PySem.W.Frag} {mg : Str → Option Value} {base : Heap}
theorem cal_is (nb : Nb mg) (d : Dfn K mg "_law_is" ["_law_found", "_law_due_here"] s__law_is) : Cal P w K mg base CX0 "_law_is" 1 ["_law_found", "_law_due_here"] spIs := by
  refine d.cal sc__law_is (fun vs H Q E h => ?_) (fun f cdv A outer s H vs Q E hr h => ?_)
  · obtain ⟨a, ns, rfl, _⟩ := h
    rfl
  · obtain ⟨i, j, rfl, q⟩ := h
    refine ⟨_, (pss_one (ps_ret (pe_and (pe_callB call_isi (by rfl) nb.isinstance (by decide +kernel) (pa_cons (pv 0) (pa_cons (pe_bltn (v := .ty "int") (by rfl) nb.int (by decide +kernel) rfl) pa_nil))) (pe_and (pe_not (pe_callB call_isi (by rfl) nb.isinstance (by decide +kernel) (pa_cons (pv 0) (pa_cons (pe_bltn (v := .ty "bool") (by rfl) nb.bool (by decide +kernel) rfl) pa_nil)))) (pe_one (pe_cmpR op_eq (pv 0) (pv 1) (nomark _))))))), ?_⟩
    exact s_ret (v := .bl (decide (i = j))) (ev_is (ev_andV (ev_isi (b := true) (by one_place) tx_int (by decide +kernel)) fun _ => ev_andV (ev_notV (ev_isi (b := false) (by one_place) tx_int (by decide +kernel))) fun _ => (by one_place : Ev _ _ _ (.bl (decide (i = j))))) (by simp)) fun H4 e4 => q _ e4
end

/- _law_right: slots 0 _law_a, 1 _law_n, 2 _law_caught, 3 _law_got, 4 e, 5 _law_due_here; calls order, _law_due, _law_kind, _law_is -/
abbrev s__law_right : Stmt := topS 27
theorem sc__law_right : FnScope ["_law_a", "_law_n", "_law_caught", "_law_got", "e", "_law_due_here"] ["_law_a", "_law_n"] (defScope s__law_right) := ⟨rfl, rfl, rfl, by decide +kernel, rfl, by decide +kernel, by decide +kernel⟩

def spRight : Sp := fun vs H Q _ => ∃ a n : Int, vs = [.int a, .int n] ∧ 1 ≤ n ∧ n ≤ 40000 ∧ a.natAbs < 2 ^ 200 ∧ RetV (.bl true) H Q
section
variable {P : Program} {w : World} {K : PySem.W.Frag} {mg : Str → Option Value} {base : Heap} {C Wc : Addr}
theorem er_ord {σ : L2.St} {H : Hp} {ta : TA} {E : L2.St → XK} {a n : Int} (h : EvA ta σ H [.int a, .int n]) (n1 : 1 ≤ n) (n2 : n ≤ 40000) (ba : a.natAbs < 2 ^ 200) (hg : Int.gcd a n = 1) :
    ∀ H1, Ex H H1 → ∀ Q : VK, (∀ i : Nat, IsOrd a n i → RetV (.int ((i : Int) + 1)) H1 Q) → tCallS (spOrder C) E ta σ H1 Q := fun H1 e Q k => h H1 e _ fun H2 e2 => ⟨a, n, rfl, n1, n2, ba, fun _ i hi H3 e3 => k i hi H3 (e2.trans e3), fun z => absurd hg z⟩
theorem er_ordN {σ : L2.St} {H : Hp} {ta : TA} {E : L2.St → XK} {a n : Int} (h : EvA ta σ H [.int a, .int n]) (n1 : 1 ≤ n) (n2 : n ≤ 40000) (ba : a.natAbs < 2 ^ 200) (hg : Int.gcd a n ≠ 1) :
    ∀ H1, Ex H H1 → ∀ Q : VK, (∀ H2, Ex H1 H2 → E σ (.ref C) none H2) → tCallS (spOrder C) E ta σ H1 Q := fun H1 e Q k => h H1 e _ fun H2 e2 => ⟨a, n, rfl, n1, n2, ba, fun z => absurd z hg, fun _ H3 e3 => k H3 (e2.trans e3)⟩
theorem int_non {i : Int} : decide (V.int i = V.non) = false := decide_eq_false fun h => nomatch h
theorem cal_right (nb : Nb mg) (x_WheelError : GlX mg "WheelError" Wc) (hex : PySem.W.exmOne K (.ref C) (.ref Wc) = some true) (c_order : Cal P w K mg base (L2.CX P w) "order" 2 ["a", "n"] (spOrder C)) (c__law_due : Cal P w K mg base CX0 "_law_due" 2 ["_law_a", "_law_n"] spDue) (c__law_kind : Cal P w K mg base CX0 "_law_kind" 1 ["_law_caught"] (spKind C))
    (c__law_is : Cal P w K mg base CX0 "_law_is" 1 ["_law_found", "_law_due_here"] spIs) (d : Dfn K mg "_law_right" ["_law_a", "_law_n"] s__law_right) : Cal P w K mg base CX0 "_law_right" 4 ["_law_a", "_law_n"] spRight := by
  refine d.cal sc__law_right (fun vs H Q E h => ?_) (fun fa cdv A outer s H vs Q E hr h => ?_)
  · obtain ⟨a, n, rfl, _⟩ := h
    rfl
  · obtain ⟨a, n, rfl, n1, n2, ba, q⟩ := h
    refine ⟨_, (pss_cons (ps_set (i := 2) sc__law_right.nd rfl (.inl rfl) pe_non)
      (pss_cons (ps_set (i := 3) sc__law_right.nd rfl (.inl rfl) pe_non)
      (pss_cons (ps_try_keep (i := 4) (j := 2) (tb := fun W => tAsg (tCallS (spOrder C) (WE W) (tCons (tVar 0) (tCons (tVar 1) tNil))) (gName 3)) rfl rfl rfl sc__law_right.nd rfl rfl ⟨rfl, by decide, .inl x_WheelError.g⟩ (by show 4 < 6; decide) (fun W pn xe tk po => (pss_one (by exact (ps_set (i := 3) sc__law_right.nd rfl (.inl rfl) (pe_calS c_order (hr.mono (by first | decide | omega)) (by rfl) tk (pa_cons (pv 0) (pa_cons (pv 1) pa_nil))))))) (fun a o pn => pss_one (ps_set (i := 2) sc__law_right.nd rfl (.inl rfl) (pv 4))))
      (pss_cons (ps_set (i := 5) sc__law_right.nd rfl (.inl rfl) (pe_cal c__law_due (hr.mono (by first | decide | omega)) (by rfl) pass0 (pa_cons (pv 0) (pa_cons (pv 1) pa_nil))))
      (pss_cons (ps_if (pt_cmpR op_isN (pv 5) pe_non (nomark _)) (pss_one (ps_ret (pe_cal c__law_kind (hr.mono (by first | decide | omega)) (by rfl) pass0 (pa_cons (pv 2) pa_nil)))) pss_nil)
      (pss_one (ps_ret (pe_and (pe_cmpR op_isN (pv 2) pe_non (nomark _)) (pe_one (pe_cal c__law_is (hr.mono (by first | decide | omega)) (by rfl) pass0 (pa_cons (pv 3) (pa_cons (pv 5) pa_nil)))))))))))), ?_⟩
    refine q_asg (v := .non) ev_c fun H1 e1 => ?_
    refine q_asg (v := .non) ev_c fun H2 e2 => ?_
    have e12 := e1.trans e2
    by_cases hg : Int.gcd a n = 1
    · obtain ⟨i, hin, hi⟩ := ord_is (a := a) (show 0 < n by omega) hg
      refine er_ord (C := C) (a := a) (n := n) (ea_cons (ev_var rfl) (ea_cons (ev_var rfl) ea_nil)) n1 n2 ba hg H2 (Ex.refl H2) _ fun j hj H3 e3 => ?_
      obtain rfl := hj.uniq hi
      have e13 := e12.trans e3
      dsimp only [gName]
      refine q_asg (v := .int ((j : Int) + 1)) (ev_cal (by one_place) fun H4 e4 Q k E => ⟨a, n, rfl, n1, n2, ba, fun _ j2 hj2 => by rw [hj2.uniq hj]; exact k, fun z => absurd hg z⟩) fun H4 e4 => ?_
      refine q_when (b := false) (et_is (et_test (ev_isN (ev_var rfl))) int_non) (fun hb => nomatch hb) (fun _ H5 e5 => ?_)
      exact s_ret (v := .bl true) (ev_is (ev_andV (a := true) (b := true) (ev_is (ev_isN (ev_var rfl)) rfl) fun _ => ev_cal (by one_place) fun H6 e6 Q k E => ⟨(j : Int) + 1, (j : Int) + 1, rfl, by rw [decide_eq_true rfl]; exact k⟩) rfl) fun H6 e6 => q _ (((e13.trans e4).trans e5).trans e6)
    · refine er_ordN (C := C) (a := a) (n := n) (ea_cons (ev_var rfl) (ea_cons (ev_var rfl) ea_nil)) n1 n2 ba hg H2 (Ex.refl H2) _ fun H3 e3 => ⟨hex, rfl, fun e ne => ?_⟩
      have e13 : Ex H (upd H3 e (ExV (.ref C) e)) := (e12.trans e3).trans (Ex.new ne)
      have he : upd H3 e (ExV (.ref C) e) e = some (ExV (.ref C) e) := upd_same
      dsimp only
      refine q_asg (v := .non) (ev_cal (by one_place) fun H4 e4 Q k E => ⟨a, n, rfl, n1, n2, ba, fun z => absurd z hg, fun _ => k⟩) fun H4 e4 => ?_
      refine q_when (b := true) (et_is (et_test (ev_isN (ev_var rfl))) rfl) (fun _ H5 e5 => ?_) (fun hb => nomatch hb)
      exact s_ret (v := .bl true) (ev_cal (vs := [.ref e]) (by one_place) fun H6 e6 Q k E => ⟨e, rfl, e6 _ _ (e5 _ _ (e4 _ _ he)), k⟩) fun H6 e6 => q _ (((e13.trans e4).trans e5).trans e6)
end

/- _law_mix: slots 0 _law_cell, 1 _law_k, 2 _law_turn, 3 _law_number; calls  -/
abbrev s__law_mix : Stmt := topS 20
theorem sc__law_mix : FnScope ["_law_cell", "_law_k", "_law_turn", "_law_number"] ["_law_cell", "_law_k"] (defScope s__law_mix) := ⟨rfl, rfl, rfl, by decide +kernel, rfl, by decide +kernel, by decide +kernel⟩

/-- the law's own mixing of a cell -/
def divs : Nat → Int → Int
  | 0, c => c
  | n + 1, c => divs n c / 1000000
def mix0 (c k : Int) : Int := (c % 1000003 + k * k * 7919 + k) * 48271 % 2147483629
def mix1 (c k : Int) : Int := mix0 c k * mix0 c k % 2147483587
def mix (c k : Int) : Int := if 1000000000000000000 ≤ c then divs k.toNat (c % (1000000000000000000000000000000000000000000000000000000000000 : Int) ^ 20) % 1000000 else mix1 c k * (mix1 c k + 2) % 2147483579 / 7
theorem mix_nn (c k : Int) : 0 ≤ mix c k := by
  unfold mix
  split
  · omega
  · omega
theorem mix_le (c k : Int) : mix c k ≤ 306783369 := by
  unfold mix
  split
  · omega
  · omega
def spMix : Sp := fun vs H Q _ => ∃ c k : Int, vs = [.int c, .int k] ∧ 0 ≤ k ∧ k ≤ 100 ∧ RetV (.int (mix c k)) H Q
section
variable {P : Program} {w : World} {K : PySem.W.Frag} {mg : Str → Option Value} {base : Heap}
theorem cal_mix (nb : Nb mg) (d : Dfn K mg "_law_mix" ["_law_cell", "_law_k"] s__law_mix) : Cal P w K mg base CX0 "_law_mix" 1 ["_law_cell", "_law_k"] spMix := by
  refine d.cal sc__law_mix (fun vs H Q E h => ?_) (fun f cdv A outer s H vs Q E hr h => ?_)
  · obtain ⟨c, k, rfl, _⟩ := h
    rfl
  · obtain ⟨c, k, rfl, h0, h1, q⟩ := h
    refine ⟨_, (pss_cons (ps_if (pt_cmpR op_ge (pv 0) (pe_op op_powW pe_int pe_int) (nomark _)) (pss_cons (ps_set (i := 0) sc__law_mix.nd rfl (.inl rfl) (pe_op op_mod (pv 0) (pe_op op_powW (pe_op op_powW pe_int pe_int) pe_int)))
      (pss_cons (ps_for PassesOwn.never rfl (pi_range1 (by rfl) nb.range (pa_cons (pv 1) pa_nil)) (pg_name (i := 2) sc__law_mix.nd rfl (.inl rfl)) (pss_one (ps_set (i := 0) sc__law_mix.nd rfl (.inl rfl) (pe_op op_fdivW (pv 0) (pe_op op_powW pe_int pe_int)))))
      (pss_one (ps_ret (pe_op op_mod (pv 0) (pe_op op_powW pe_int pe_int)))))) pss_nil)
      (pss_cons (ps_set (i := 3) sc__law_mix.nd rfl (.inl rfl) (pe_op op_mod (pe_op op_mulW (pe_op op_add (pe_op op_add (pe_op op_mod (pv 0) pe_int) (pe_op op_mulW (pe_op op_mulW (pv 1) (pv 1)) pe_int)) (pv 1)) pe_int) pe_int))
      (pss_cons (ps_set (i := 3) sc__law_mix.nd rfl (.inl rfl) (pe_op op_mod (pe_op op_mulW (pv 3) (pv 3)) pe_int))
      (pss_one (ps_ret (pe_op op_fdivW (pe_op op_mod (pe_op op_mulW (pv 3) (pe_op op_add (pv 3) pe_int)) pe_int) pe_int)))))), ?_⟩
    refine q_when (b := decide (1000000000000000000 ≤ c)) (by one_place) (fun hb H1 e1 => ?_) (fun hb H1 e1 => ?_)
    · refine q_asg (v := .int (c % (1000000000000000000000000000000000000000000000000000000000000 : Int) ^ 20)) (ev_mod (by one_place) (ev_pow (i := 1000000000000000000000000000000000000000000000000000000000000) (ev_pow (i := 10) (by one_place) (by one_place) ⟨by decide, by decide +kernel⟩ (by rfl)) (by one_place) ⟨by decide, by decide +kernel⟩ rfl) (Int.pow_pos (by decide))) fun H2 e2 => ?_
      refine q_forR1 (n := k) (by one_place) (by omega) (fun i σ' H' => ∃ x, σ' = [some (.int (divs i (c % (1000000000000000000000000000000000000000000000000000000000000 : Int) ^ 20))), some (.int k), x, none] ∧ Ex H H') (fun H3 e3 => ⟨none, rfl, (e1.trans e2).trans e3⟩) (fun i σ' H' hi hp => ?_) (fun σ' H' hp => ?_)
      · obtain ⟨x, rfl, e4⟩ := hp
        refine s_asg (v := .int (divs (i + 1) (c % (1000000000000000000000000000000000000000000000000000000000000 : Int) ^ 20))) (ev_is (by one_place) rfl) fun H5 e5 => ⟨_, rfl, e4.trans e5⟩
      · obtain ⟨x, rfl, e4⟩ := hp
        refine s_ret (v := .int (mix c k)) (ev_is (by one_place) ?_) fun H5 e5 => q _ (e4.trans e5)
        unfold mix
        rw [if_pos (of_decide_eq_true hb)]
    · have b0 : 0 ≤ mix0 c k := by
        unfold mix0
        omega
      have b1 : mix0 c k < 2147483629 := by
        unfold mix0
        omega
      have b2 : 0 ≤ mix1 c k := by
        unfold mix1
        omega
      have b3 : mix1 c k < 2147483587 := by
        unfold mix1
        omega
      have b4 : 0 ≤ k * k := Int.mul_nonneg h0 h0
      have b5 : k * k ≤ 100 * 100 := Int.mul_le_mul h1 h1 h0 (by decide)
      refine q_asg (v := .int (mix0 c k)) (by one_place) fun H2 e2 => ?_
      refine q_asg (v := .int (mix1 c k)) (by one_place) fun H3 e3 => ?_
      refine s_ret (v := .int (mix c k)) (ev_is (by one_place) ?_) fun H5 e5 => q _ (((e1.trans e2).trans e3).trans e5)
      unfold mix
      rw [if_neg (of_decide_eq_false hb)]
end

/- _law_count: slots 0 _law_pick, 1 _law_great; calls  -/
abbrev s__law_count : Stmt := topS 22
theorem sc__law_count : FnScope ["_law_pick", "_law_great"] ["_law_pick"] (defScope s__law_count) := ⟨rfl, rfl, rfl, by decide +kernel, rfl, by decide +kernel, by decide +kernel⟩

def cnt (k : Int) : Int := ([1 + k / 5 % 60, 1 + k / 5 % 12, ([30, 36, 60, 45, 12, 24, 42, 50] : List Int).getD (k / 5 % 8).toNat 0, 1 + k / 5 % 30] : List Int).getD (k % 4).toNat 0
theorem getD_bd {l : List Int} {lo hi : Int} {i : Nat} (h : ∀ x ∈ l, lo ≤ x ∧ x ≤ hi) (hi' : i < l.length) : lo ≤ l.getD i 0 ∧ l.getD i 0 ≤ hi := by
  rw [List.getD_eq_getElem?_getD, List.getElem?_eq_getElem hi']
  exact h _ (List.getElem_mem hi')
theorem cnt_bd (k : Int) : 1 ≤ cnt k ∧ cnt k ≤ 60 := by
  unfold cnt
  have g : 1 ≤ ([30, 36, 60, 45, 12, 24, 42, 50] : List Int).getD (k / 5 % 8).toNat 0 ∧ ([30, 36, 60, 45, 12, 24, 42, 50] : List Int).getD (k / 5 % 8).toNat 0 ≤ 60 := getD_bd (by decide) (by simp; omega)
  refine getD_bd ?_ (by simp; omega)
  intro x hx
  simp only [List.mem_cons, List.not_mem_nil, or_false] at hx
  omega
def spCount : Sp := fun vs H Q _ => ∃ k : Int, vs = [.int k] ∧ 0 ≤ k ∧ RetV (.int (cnt k)) H Q
section
variable {P : Program} {w : World} {K : PySem.W.Frag} {mg : Str → Option Value} {base : Heap}
theorem cal_count (nb : Nb mg) (d : Dfn K mg "_law_count" ["_law_pick"] s__law_count) : Cal P w K mg base CX0 "_law_count" 1 ["_law_pick"] spCount := by
  refine d.cal sc__law_count (fun vs H Q E h => ?_) (fun f cdv A outer s H vs Q E hr h => ?_)
  · obtain ⟨a, rfl, _⟩ := h
    rfl
  · obtain ⟨k, rfl, k0, q⟩ := h
    refine ⟨_, (pss_cons (ps_set (i := 1) sc__law_count.nd rfl (.inl rfl) (pe_ix ix_list (pe_lst (pa_cons pe_int (pa_cons pe_int (pa_cons pe_int (pa_cons pe_int (pa_cons pe_int (pa_cons pe_int (pa_cons pe_int (pa_cons pe_int pa_nil))))))))) (pe_op op_mod (pe_op op_fdivW (pv 0) pe_int) pe_int) (fun _ _ => rfl)))
      (pss_one (ps_ret (pe_ix ix_list (pe_lst (pa_cons (pe_op op_add pe_int (pe_op op_mod (pe_op op_fdivW (pv 0) pe_int) pe_int)) (pa_cons (pe_op op_add pe_int (pe_op op_mod (pe_op op_fdivW (pv 0) pe_int) pe_int)) (pa_cons (pv 1) (pa_cons (pe_op op_add pe_int (pe_op op_mod (pe_op op_fdivW (pv 0) pe_int) pe_int)) pa_nil))))) (pe_op op_mod (pv 0) pe_int) (fun _ _ => rfl))))), ?_⟩
    refine q_asg (v := .int (([30, 36, 60, 45, 12, 24, 42, 50] : List Int).getD (k / 5 % 8).toNat 0)) (ev_ixN (ns := [30, 36, 60, 45, 12, 24, 42, 50]) (el_lst (by one_place) (by decide)) (fun _ _ => by one_place) (by omega) (by simp; omega)) fun H1 e1 => ?_
    refine s_ret (v := .int (cnt k)) (ev_ixN (ns := [1 + k / 5 % 60, 1 + k / 5 % 12, ([30, 36, 60, 45, 12, 24, 42, 50] : List Int).getD (k / 5 % 8).toNat 0, 1 + k / 5 % 30]) (el_lst (by one_place) (by show 4 ≤ 100000; decide)) (fun _ _ => by one_place) (by omega) (by simp; omega)) fun H2 e2 => q _ (e1.trans e2)
end

def moreF (c : Int) : Int := mix c 2 + 1000000 * mix c 3 + 1000000000000 * mix c 4
def n0F (k : Int) : Int := ([cnt k, 1 + k / 3 % 211] : List Int).getD (k / 64 % 2).toNat 0
def nF (k far more : Int) : Int := if decide (far / 600 % 8 = 0) then 1 + more % 999 else n0F k
def aF (far more last : Int) : Int := ([far / 5 % 101 - 50, far / 5 % 101 - 50, more, 1000000000000000000000000000000 - far, 0 - 1000000000 * more - last] : List Int).getD (far % 5).toNat 0
theorem n0F_bd (k : Int) : 1 ≤ n0F k ∧ n0F k ≤ 999 := by
  unfold n0F
  have := cnt_bd k
  refine getD_bd ?_ (by simp; omega)
  intro x hx
  simp only [List.mem_cons, List.not_mem_nil, or_false] at hx
  omega
theorem nF_bd (k far more : Int) : 1 ≤ nF k far more ∧ nF k far more ≤ 999 := by
  unfold nF
  have := n0F_bd k
  split
  · omega
  · exact this
theorem aF_bd {far more last : Int} (f0 : 0 ≤ far) (f1 : far ≤ 306783369) (m0 : 0 ≤ more) (m1 : more ≤ 306783369000306783369306783369) (l0 : 0 ≤ last) (l1 : last ≤ 306783369) : (aF far more last).natAbs < 2 ^ 200 := by
  have h : (-10000000000000000000000000000000000000000 : Int) ≤ aF far more last ∧ aF far more last ≤ 10000000000000000000000000000000000000000 := by
    unfold aF
    refine getD_bd ?_ (by simp; omega)
    intro x hx
    simp only [List.mem_cons, List.not_mem_nil, or_false] at hx
    omega
  omega
/- law: slots 0 _law_script, 1 _law_cell, 2 _law_pick, 3 _law_n, 4 _law_far, 5 _law_more, 6 _law_small, 7 _law_a; calls _law_mix, _law_count, _law_right -/
abbrev s_law : Stmt := topS 28
theorem sc_law : FnScope ["_law_script", "_law_cell", "_law_pick", "_law_n", "_law_far", "_law_more", "_law_small", "_law_a"] ["_law_script"] (defScope s_law) := ⟨rfl, rfl, rfl, by decide +kernel, rfl, by decide +kernel, by decide +kernel⟩

def spLaw (K : PySem.W.Frag) : Sp := fun vs H Q _ => ∃ (a : Addr) (ns : List Int), vs = [.ref a] ∧ SqL K H a (ns.map V.int) ∧ ns.length ≤ 63 ∧ ∀ H', Q (.bl true) H'
section
variable {P : Program} {w : World} {K : PySem.W.Frag} {mg : Str → Option Value} {base : Heap} {C Wc D1 D2 D3 D4 D5 D6 D7 D8 D9 D10 D11 D12 : Addr}
theorem law_ok {f : Addr} {fd : FuncData} (F : Fun K "law" "law" s_law f fd) (nb : Nb mg) (nb_gcd : mg "gcd" = some (.builtin "math.gcd")) (z_ValueError : mg "ValueError" = none) (hv : PySem.W.kitOne K (.ref C) (.type "ValueError") = some true) (x_NoOrder : OwnX K mg "NoOrder" C) (x_WheelError : GlX mg "WheelError" Wc) (hex : PySem.W.exmOne K (.ref C) (.ref Wc) = some true)
    (x_NoCosine : OthX K mg "NoCosine" C D1) (x_NoCrowds : OthX K mg "NoCrowds" C D2) (x_NoDeed : OthX K mg "NoDeed" C D3) (x_NoFold : OthX K mg "NoFold" C D4) (x_NoName : OthX K mg "NoName" C D5) (x_NoPart : OthX K mg "NoPart" C D6) (x_NoPlain : OthX K mg "NoPlain" C D7)
    (x_NoPrime : OthX K mg "NoPrime" C D8) (x_NoRow : OthX K mg "NoRow" C D9) (x_NoSize : OthX K mg "NoSize" C D10) (x_NoText : OthX K mg "NoText" C D11) (x_NoUnit : OthX K mg "NoUnit" C D12)
    (d_order : Dfn K mg "order" ["a", "n"] s_order) (d__law_mix : Dfn K mg "_law_mix" ["_law_cell", "_law_k"] s__law_mix) (d__law_count : Dfn K mg "_law_count" ["_law_pick"] s__law_count) (d__law_parted : Dfn K mg "_law_parted" ["_law_n"] s__law_parted) (d__law_is : Dfn K mg "_law_is" ["_law_found", "_law_due_here"] s__law_is) (d__law_due : Dfn K mg "_law_due" ["_law_a", "_law_n"] s__law_due) (d__law_kind : Dfn K mg "_law_kind" ["_law_caught"] s__law_kind) (d__law_right : Dfn K mg "_law_right" ["_law_a", "_law_n"] s__law_right) :
    FnOk P w K mg base CX0 5 f fd ["_law_script"] (spLaw K) := by
  have c_order : Cal P w K mg base (L2.CX P w) "order" 2 ["a", "n"] (spOrder C) := cal_order nb nb_gcd x_NoOrder d_order
  have c__law_mix : Cal P w K mg base CX0 "_law_mix" 1 ["_law_cell", "_law_k"] spMix := cal_mix nb d__law_mix
  have c__law_count : Cal P w K mg base CX0 "_law_count" 1 ["_law_pick"] spCount := cal_count nb d__law_count
  have c__law_due : Cal P w K mg base CX0 "_law_due" 2 ["_law_a", "_law_n"] spDue := cal_due nb (cal_lparted nb d__law_parted) d__law_due
  have c__law_kind : Cal P w K mg base CX0 "_law_kind" 1 ["_law_caught"] (spKind C) := cal_kind nb z_ValueError hv x_NoOrder x_NoCosine x_NoCrowds x_NoDeed x_NoFold x_NoName x_NoPart x_NoPlain x_NoPrime x_NoRow x_NoSize x_NoText x_NoUnit d__law_kind
  have c__law_right : Cal P w K mg base CX0 "_law_right" 4 ["_law_a", "_law_n"] spRight := cal_right nb x_WheelError hex c_order c__law_due c__law_kind (cal_is nb d__law_is) d__law_right
  refine F.ok sc_law (fun vs H Q E h => ?_) (fun cdv A outer s H vs Q E hr h => ?_)
  · obtain ⟨a, ns, rfl, _⟩ := h
    rfl
  · obtain ⟨a, ns, rfl, hS, hlen, q⟩ := h
    refine ⟨_, (pss_cons (ps_for PassesOwn.never rfl (pi_list (pe_op op_cat (pe_slice sl_list (pv 0) po_none (po_some pe_int)) (pe_lst (pa_cons pe_int pa_nil)))) (pg_name (i := 1) sc_law.nd rfl (.inl rfl)) (pss_cons (ps_set (i := 2) sc_law.nd rfl (.inl rfl) (pe_cal c__law_mix (hr.mono (by first | decide | omega)) (by rfl) pass0 (pa_cons (pv 1) (pa_cons pe_int pa_nil))))
      (pss_cons (ps_set (i := 3) sc_law.nd rfl (.inl rfl) (pe_ix ix_list (pe_lst (pa_cons (pe_cal c__law_count (hr.mono (by first | decide | omega)) (by rfl) pass0 (pa_cons (pv 2) pa_nil)) (pa_cons (pe_op op_add pe_int (pe_op op_mod (pe_op op_fdivW (pv 2) pe_int) pe_int)) pa_nil))) (pe_op op_mod (pe_op op_fdivW (pv 2) pe_int) pe_int) (fun _ _ => rfl)))
      (pss_cons (ps_set (i := 4) sc_law.nd rfl (.inl rfl) (pe_cal c__law_mix (hr.mono (by first | decide | omega)) (by rfl) pass0 (pa_cons (pv 1) (pa_cons pe_int pa_nil))))
      (pss_cons (ps_set (i := 5) sc_law.nd rfl (.inl rfl) (pe_op op_add (pe_op op_add (pe_cal c__law_mix (hr.mono (by first | decide | omega)) (by rfl) pass0 (pa_cons (pv 1) (pa_cons pe_int pa_nil))) (pe_op op_mulW (pe_op op_powW pe_int pe_int) (pe_cal c__law_mix (hr.mono (by first | decide | omega)) (by rfl) pass0 (pa_cons (pv 1) (pa_cons pe_int pa_nil))))) (pe_op op_mulW (pe_op op_powW pe_int pe_int) (pe_cal c__law_mix (hr.mono (by first | decide | omega)) (by rfl) pass0 (pa_cons (pv 1) (pa_cons pe_int pa_nil))))))
      (pss_cons (ps_if (pt_cmpR op_eq (pe_op op_mod (pe_op op_fdivW (pv 4) pe_int) pe_int) pe_int (nomark _)) (pss_one (ps_set (i := 3) sc_law.nd rfl (.inl rfl) (pe_op op_add pe_int (pe_op op_mod (pv 5) pe_int)))) pss_nil)
      (pss_cons (ps_set (i := 6) sc_law.nd rfl (.inl rfl) (pe_op op_sub (pe_op op_mod (pe_op op_fdivW (pv 4) pe_int) pe_int) pe_int))
      (pss_cons (ps_set (i := 7) sc_law.nd rfl (.inl rfl) (pe_ix ix_list (pe_lst (pa_cons (pv 6) (pa_cons (pv 6) (pa_cons (pv 5) (pa_cons (pe_op op_sub (pe_op op_powW pe_int pe_int) (pv 4)) (pa_cons (pe_op op_sub (pe_op op_sub pe_int (pe_op op_mulW (pe_op op_powW pe_int pe_int) (pv 5))) (pe_cal c__law_mix (hr.mono (by first | decide | omega)) (by rfl) pass0 (pa_cons (pv 1) (pa_cons pe_int pa_nil)))) pa_nil)))))) (pe_op op_mod (pv 4) pe_int) (fun _ _ => rfl)))
      (pss_one (ps_if (PW.pt (pw_or (pt_not (pt_val (pe_cal c__law_right (hr.mono (by first | decide | omega)) (by rfl) pass0 (pa_cons (pv 7) (pa_cons (pv 3) pa_nil))))) (pw_or (pt_not (pt_val (pe_cal c__law_right (hr.mono (by first | decide | omega)) (by rfl) pass0 (pa_cons pe_int (pa_cons (pv 3) pa_nil))))) (pw_or1 (pt_not (pt_val (pe_cal c__law_right (hr.mono (by first | decide | omega)) (by rfl) pass0 (pa_cons (pv 3) (pa_cons (pv 3) pa_nil))))))))) (pss_one (ps_ret pe_bl)) pss_nil))))))))))
      (pss_one (ps_ret pe_bl))), ?_⟩
    have hz : (cutV (ns.map V.int) none (some 40) ++ [V.int 0]).length ≤ 64 := by
      have := cutV_length (ns.map V.int) none (some 40)
      rw [List.length_map] at this
      rw [List.length_append, List.length_singleton]
      omega
    refine q_forNLn (xs := cutV (ns.map V.int) none (some 40) ++ [V.int 0]) (el_cat (el_sl (by one_place) eo_none (eo_some ev_c) hS) (el_lst (by one_place) (by decide)) (by rw [List.length_append] at hz; omega))
      (fun p i σ' H' => ∃ x1 x2 x3 x4 x5 x6 x7, σ' = [some (.ref a), x1, x2, x3, x4, x5, x6, x7] ∧ H' p = some (.lst (cutV (ns.map V.int) none (some 40) ++ [V.int 0])))
      (fun p H1 np e1 hp => ⟨none, none, none, none, none, none, none, rfl, hp⟩) (fun p i σ' H' _ hp => ?_) (fun p i x σ' H' hx hp => ?_) (fun p σ' H' hp => ?_)
    · obtain ⟨_, _, _, _, _, _, _, _, hp⟩ := hp
      exact SqL.of hp
    · obtain ⟨_, x2, x3, x4, x5, x6, x7, rfl, hp⟩ := hp
      obtain ⟨c, rfl⟩ : ∃ c, x = V.int c := by
        rcases List.mem_append.mp (List.mem_of_getElem? hx) with h | h
        · exact int_of_mem (cut_mem h)
        · exact ⟨0, List.mem_singleton.mp h⟩
      have m0 := mix_nn c 0
      have m1 := mix_le c 0
      have f0 := mix_nn c 1
      have f1 := mix_le c 1
      have g0 := mix_nn c 2
      have g1 := mix_le c 2
      have g2 := mix_nn c 3
      have g3 := mix_le c 3
      have g4 := mix_nn c 4
      have g5 := mix_le c 4
      have g6 := mix_nn c 5
      have g7 := mix_le c 5
      have w0 : 0 ≤ moreF c := by
        unfold moreF
        omega
      have w1 : moreF c ≤ 306783369000306783369306783369 := by
        unfold moreF
        omega
      have hm : ∀ {σ : L2.St} {H : Hp} {E : XK} {k : Nat}, k ≤ 5 → σ[1]? = some (some (.int c)) → Ev (tCall spMix [] E (tCons (tVar 1) (tCons (tC (.int (k : Nat))) tNil))) σ H (.int (mix c k)) := fun {σ H E k} hk hs => ev_cal (vs := [.int c, .int (k : Nat)]) (ea_cons (ev_var hs) (ea_cons ev_c ea_nil)) fun H1 e1 Q kk E => ⟨c, k, rfl, by omega, by omega, kk⟩
      refine q_asg (v := .int (mix c 0)) (hm (k := 0) (by decide) rfl) fun H1 e1 => ?_
      refine q_asg (v := .int (n0F (mix c 0))) (ev_ixN (ns := [cnt (mix c 0), 1 + mix c 0 / 3 % 211]) (el_lst (ea_cons (ev_cal (by one_place) fun H1 e1 Q k E => ⟨mix c 0, rfl, m0, k⟩) (ea_cons (by one_place) ea_nil)) (by show 2 ≤ 100000; decide)) (fun _ _ => by one_place) (by omega) (by simp; omega)) fun H2 e2 => ?_
      refine q_asg (v := .int (mix c 1)) (hm (k := 1) (by decide) rfl) fun H3 e3 => ?_
      refine q_asg (v := .int (moreF c)) (ev_add (ev_add (hm (k := 2) (by decide) rfl) (ev_mul (by one_place) (hm (k := 3) (by decide) rfl) (mulW (by omega) (by omega)))) (ev_mul (by one_place) (hm (k := 4) (by decide) rfl) (mulW (by omega) (by omega)))) fun H4 e4 => ?_
      have nb1 := nF_bd (mix c 0) (mix c 1) (moreF c)
      have ab := aF_bd f0 f1 w0 w1 g6 g7
      refine q_ifAsg (i := 3) (v := .int (nF (mix c 0) (mix c 1) (moreF c))) (b := decide (mix c 1 / 600 % 8 = 0)) (by one_place) (fun hb => ?_) (fun hb => ?_) fun H5 e5 => ?_
      · unfold nF
        rw [if_pos hb]
        one_place
      · unfold nF
        rw [if_neg (by rw [hb]; decide)]
        rfl
      refine q_asg (v := .int (mix c 1 / 5 % 101 - 50)) (by one_place) fun H6 e6 => ?_
      refine q_asg (v := .int (aF (mix c 1) (moreF c) (mix c 5))) (ev_ixN (ns := [mix c 1 / 5 % 101 - 50, mix c 1 / 5 % 101 - 50, moreF c, 1000000000000000000000000000000 - mix c 1, 0 - 1000000000 * moreF c - mix c 5]) (el_lst (ea_cons (by one_place) (ea_cons (by one_place) (ea_cons (by one_place) (ea_cons (ev_sub (ev_pow (i := 10) (j := 30) ev_c ev_c ⟨by decide, by decide +kernel⟩ (by rfl)) (ev_var rfl)) (ea_cons (ev_sub (ev_sub ev_c (ev_mul (by one_place) (ev_var rfl) (mulW (by omega) (by omega)))) (hm (k := 5) (by decide) rfl)) ea_nil))))) (by show 5 ≤ 100000; decide)) (fun _ _ => by one_place) (by omega) (by simp; omega)) fun H7 e7 => ?_
      generalize aF (mix c 1) (moreF c) (mix c 5) = b at *
      generalize nF (mix c 0) (mix c 1) (moreF c) = n at *
      refine s_when (b := false) (et_is (et_or (et_not (et_B (ev_cal (vs := [.int b, .int n]) (z := .bl true) (by one_place) fun H8 e8 Q k E => ⟨b, n, rfl, nb1.1, by omega, ab, k⟩))) fun _ =>
        et_or (et_not (et_B (ev_cal (vs := [.int 1, .int n]) (z := .bl true) (by one_place) fun H8 e8 Q k E => ⟨1, n, rfl, nb1.1, by omega, by decide, k⟩))) fun _ =>
        et_not (et_B (ev_cal (vs := [.int n, .int n]) (z := .bl true) (by one_place) fun H8 e8 Q k E => ⟨n, n, rfl, nb1.1, by omega, by omega, k⟩))) rfl) (fun hb => nomatch hb) (fun _ H8 e8 => ?_)
      exact ⟨_, _, _, _, _, _, _, rfl, e8 _ _ (e7 _ _ (e6 _ _ (e5 _ _ (e4 _ _ (e3 _ _ (e2 _ _ (e1 _ _ hp)))))))⟩
    · obtain ⟨_, _, _, _, _, _, _, rfl, hp⟩ := hp
      exact s_ret (v := .bl true) ev_c fun H1 e1 => q _
end

theorem all_mk {l : PySem.W.OpenLaw} {w : World} {K : PySem.W.Frag} {h : Heap} {mg : Str → Option Value} {fa : Addr} (X : K.In h) (G : h.Ns mainGlobals mg) (hfa : mg "law" = some (.ref fa))
    {C_NoOrder C_WheelError C_NoCosine C_NoCrowds C_NoDeed C_NoFold C_NoName C_NoPart C_NoPlain C_NoPrime C_NoRow C_NoSize C_NoText C_NoUnit : Addr}
    {f0 f1 f2 f3 f4 f5 f6 f7 f8 : Addr} {od0 an0 od1 an1 od2 an2 od3 an3 od4 an4 od5 an5 od6 an6 od7 an7 od8 an8 : Option Addr} {sl0 sl1 sl2 sl3 sl4 sl5 sl6 sl7 sl8 : Array (Option Value)} {oc0 kV0 dc0 pm0 cd0 ct0 oc1 kV1 dc1 pm1 cd1 ct1 oc2 kV2 dc2 pm2 cd2 ct2 oc3 kV3 dc3 pm3 cd3 ct3 oc4 kV4 dc4 pm4 cd4 ct4 oc5 kV5 dc5 pm5 cd5 ct5 oc6 kV6 dc6 pm6 cd6 ct6 oc7 kV7 dc7 pm7 cd7 ct7 oc8 kV8 dc8 pm8 cd8 ct8 : Value}
    (a0 : PySem.W.nsIn K mainGlobals "order" = some (some (.ref f0))) (l0 : K.lookup f0 = some ⟨oc0, od0, .func (PySem.W.fnOf "order" "order" (defArgs s_order) (defBody s_order) (defScope s_order) .none kV0 dc0 pm0 an0 cd0 ct0), sl0⟩) (c0 : PySem.W.codeIn K cd0 "order" = true) (k0 : PySem.W.keepIn K (.ref f0) = true)
    (a1 : PySem.W.nsIn K mainGlobals "_law_mix" = some (some (.ref f1))) (l1 : K.lookup f1 = some ⟨oc1, od1, .func (PySem.W.fnOf "_law_mix" "_law_mix" (defArgs s__law_mix) (defBody s__law_mix) (defScope s__law_mix) .none kV1 dc1 pm1 an1 cd1 ct1), sl1⟩) (c1 : PySem.W.codeIn K cd1 "_law_mix" = true) (k1 : PySem.W.keepIn K (.ref f1) = true)
    (a2 : PySem.W.nsIn K mainGlobals "_law_count" = some (some (.ref f2))) (l2 : K.lookup f2 = some ⟨oc2, od2, .func (PySem.W.fnOf "_law_count" "_law_count" (defArgs s__law_count) (defBody s__law_count) (defScope s__law_count) .none kV2 dc2 pm2 an2 cd2 ct2), sl2⟩) (c2 : PySem.W.codeIn K cd2 "_law_count" = true) (k2 : PySem.W.keepIn K (.ref f2) = true)
    (a3 : PySem.W.nsIn K mainGlobals "_law_parted" = some (some (.ref f3))) (l3 : K.lookup f3 = some ⟨oc3, od3, .func (PySem.W.fnOf "_law_parted" "_law_parted" (defArgs s__law_parted) (defBody s__law_parted) (defScope s__law_parted) .none kV3 dc3 pm3 an3 cd3 ct3), sl3⟩) (c3 : PySem.W.codeIn K cd3 "_law_parted" = true) (k3 : PySem.W.keepIn K (.ref f3) = true)
    (a4 : PySem.W.nsIn K mainGlobals "_law_is" = some (some (.ref f4))) (l4 : K.lookup f4 = some ⟨oc4, od4, .func (PySem.W.fnOf "_law_is" "_law_is" (defArgs s__law_is) (defBody s__law_is) (defScope s__law_is) .none kV4 dc4 pm4 an4 cd4 ct4), sl4⟩) (c4 : PySem.W.codeIn K cd4 "_law_is" = true) (k4 : PySem.W.keepIn K (.ref f4) = true)
    (a5 : PySem.W.nsIn K mainGlobals "_law_due" = some (some (.ref f5))) (l5 : K.lookup f5 = some ⟨oc5, od5, .func (PySem.W.fnOf "_law_due" "_law_due" (defArgs s__law_due) (defBody s__law_due) (defScope s__law_due) .none kV5 dc5 pm5 an5 cd5 ct5), sl5⟩) (c5 : PySem.W.codeIn K cd5 "_law_due" = true) (k5 : PySem.W.keepIn K (.ref f5) = true)
    (a6 : PySem.W.nsIn K mainGlobals "_law_kind" = some (some (.ref f6))) (l6 : K.lookup f6 = some ⟨oc6, od6, .func (PySem.W.fnOf "_law_kind" "_law_kind" (defArgs s__law_kind) (defBody s__law_kind) (defScope s__law_kind) .none kV6 dc6 pm6 an6 cd6 ct6), sl6⟩) (c6 : PySem.W.codeIn K cd6 "_law_kind" = true) (k6 : PySem.W.keepIn K (.ref f6) = true)
    (a7 : PySem.W.nsIn K mainGlobals "_law_right" = some (some (.ref f7))) (l7 : K.lookup f7 = some ⟨oc7, od7, .func (PySem.W.fnOf "_law_right" "_law_right" (defArgs s__law_right) (defBody s__law_right) (defScope s__law_right) .none kV7 dc7 pm7 an7 cd7 ct7), sl7⟩) (c7 : PySem.W.codeIn K cd7 "_law_right" = true) (k7 : PySem.W.keepIn K (.ref f7) = true)
    (a8 : PySem.W.nsIn K mainGlobals "law" = some (some (.ref f8))) (l8 : K.lookup f8 = some ⟨oc8, od8, .func (PySem.W.fnOf "law" "law" (defArgs s_law) (defBody s_law) (defScope s_law) .none kV8 dc8 pm8 an8 cd8 ct8), sl8⟩) (c8 : PySem.W.codeIn K cd8 "law" = true) (k8 : PySem.W.keepIn K (.ref f8) = true)
    (z_len : PySem.W.nsIn K mainGlobals "len" = some none)    (z_range : PySem.W.nsIn K mainGlobals "range" = some none)    (z_max : PySem.W.nsIn K mainGlobals "max" = some none)    (z_list : PySem.W.nsIn K mainGlobals "list" = some none)    (z_int : PySem.W.nsIn K mainGlobals "int" = some none)    (z_bool : PySem.W.nsIn K mainGlobals "bool" = some none)    (z_tuple : PySem.W.nsIn K mainGlobals "tuple" = some none)    (z_isinstance : PySem.W.nsIn K mainGlobals "isinstance" = some none)    (z_enumerate : PySem.W.nsIn K mainGlobals "enumerate" = some none)    (z_reversed : PySem.W.nsIn K mainGlobals "reversed" = some none)    (z_sorted : PySem.W.nsIn K mainGlobals "sorted" = some none)    (z_zip : PySem.W.nsIn K mainGlobals "zip" = some none)    (z_all : PySem.W.nsIn K mainGlobals "all" = some none)    (z_str : PySem.W.nsIn K mainGlobals "str" = some none)
    (i_gcd : PySem.W.nsIn K mainGlobals "gcd" = some (some (.builtin "math.gcd")))
    (q1_NoOrder : PySem.W.nsIn K mainGlobals "NoOrder" = some (some (.ref C_NoOrder)))
    (q2_NoOrder : PySem.W.keepIn K (.ref C_NoOrder) = true)
    (q3_NoOrder : PySem.W.excIn K C_NoOrder [.type "ValueError", .type "Exception", .type "BaseException", .type "object"] "ValueError.__new__" = true)
    (q4_NoOrder : PySem.W.typeIn K (.ref C_NoOrder) = some (.type "type"))
    (q5_NoOrder : PySem.W.findIn K (.ref C_NoOrder) "__getattribute__" = some (some (.builtin "BaseException.__getattribute__")))
    (q6_NoOrder : PySem.W.findIn K (.ref C_NoOrder) "__getattr__" = some none)
    (q7_NoOrder : PySem.W.subIn K (.ref C_NoOrder) (.type "BaseException") = some true)
    (q8_NoOrder : PySem.W.hasDictIn K C_NoOrder = true)
    (q9_NoOrder : PySem.W.findIn K (.ref C_NoOrder) "__class__" = some (some (.builtin "object.__class__")))
    (qa_NoOrder : PySem.W.specialIn K (.builtin "object.__class__") "__get__" = some (some (.builtin "getset_descriptor.__get__")))
    (qb_NoOrder : PySem.W.takesIn K (.builtin "object.__class__") = some true)
    (qc_NoOrder : PySem.W.mroIn K C_NoOrder (.type "object") = some true)
    (qd_NoOrder : PySem.W.subIn K (.ref C_NoOrder) (.ref C_NoOrder) = some true)
    (qe_NoOrder : PySem.W.subIn K (.ref C_NoOrder) (.type "ValueError") = some true)
    (z_ValueError : PySem.W.nsIn K mainGlobals "ValueError" = some none)
    (q1_WheelError : PySem.W.nsIn K mainGlobals "WheelError" = some (some (.ref C_WheelError)))
    (q4_WheelError : PySem.W.typeIn K (.ref C_WheelError) = some (.type "type"))
    (q7_WheelError : PySem.W.subIn K (.ref C_WheelError) (.type "BaseException") = some true)
    (q8_WheelError : PySem.W.hasDictIn K C_WheelError = true)
    (qs_WheelError : PySem.W.subIn K (.ref C_NoOrder) (.ref C_WheelError) = some true)
    (q1_NoCosine : PySem.W.nsIn K mainGlobals "NoCosine" = some (some (.ref C_NoCosine)))
    (q4_NoCosine : PySem.W.typeIn K (.ref C_NoCosine) = some (.type "type"))
    (q8_NoCosine : PySem.W.hasDictIn K C_NoCosine = true)
    (qs_NoCosine : PySem.W.subIn K (.ref C_NoOrder) (.ref C_NoCosine) = some false)
    (q1_NoCrowds : PySem.W.nsIn K mainGlobals "NoCrowds" = some (some (.ref C_NoCrowds)))
    (q4_NoCrowds : PySem.W.typeIn K (.ref C_NoCrowds) = some (.type "type"))
    (q8_NoCrowds : PySem.W.hasDictIn K C_NoCrowds = true)
    (qs_NoCrowds : PySem.W.subIn K (.ref C_NoOrder) (.ref C_NoCrowds) = some false)
    (q1_NoDeed : PySem.W.nsIn K mainGlobals "NoDeed" = some (some (.ref C_NoDeed)))
    (q4_NoDeed : PySem.W.typeIn K (.ref C_NoDeed) = some (.type "type"))
    (q8_NoDeed : PySem.W.hasDictIn K C_NoDeed = true)
    (qs_NoDeed : PySem.W.subIn K (.ref C_NoOrder) (.ref C_NoDeed) = some false)
    (q1_NoFold : PySem.W.nsIn K mainGlobals "NoFold" = some (some (.ref C_NoFold)))
    (q4_NoFold : PySem.W.typeIn K (.ref C_NoFold) = some (.type "type"))
    (q8_NoFold : PySem.W.hasDictIn K C_NoFold = true)
    (qs_NoFold : PySem.W.subIn K (.ref C_NoOrder) (.ref C_NoFold) = some false)
    (q1_NoName : PySem.W.nsIn K mainGlobals "NoName" = some (some (.ref C_NoName)))
    (q4_NoName : PySem.W.typeIn K (.ref C_NoName) = some (.type "type"))
    (q8_NoName : PySem.W.hasDictIn K C_NoName = true)
    (qs_NoName : PySem.W.subIn K (.ref C_NoOrder) (.ref C_NoName) = some false)
    (q1_NoPart : PySem.W.nsIn K mainGlobals "NoPart" = some (some (.ref C_NoPart)))
    (q4_NoPart : PySem.W.typeIn K (.ref C_NoPart) = some (.type "type"))
    (q8_NoPart : PySem.W.hasDictIn K C_NoPart = true)
    (qs_NoPart : PySem.W.subIn K (.ref C_NoOrder) (.ref C_NoPart) = some false)
    (q1_NoPlain : PySem.W.nsIn K mainGlobals "NoPlain" = some (some (.ref C_NoPlain)))
    (q4_NoPlain : PySem.W.typeIn K (.ref C_NoPlain) = some (.type "type"))
    (q8_NoPlain : PySem.W.hasDictIn K C_NoPlain = true)
    (qs_NoPlain : PySem.W.subIn K (.ref C_NoOrder) (.ref C_NoPlain) = some false)
    (q1_NoPrime : PySem.W.nsIn K mainGlobals "NoPrime" = some (some (.ref C_NoPrime)))
    (q4_NoPrime : PySem.W.typeIn K (.ref C_NoPrime) = some (.type "type"))
    (q8_NoPrime : PySem.W.hasDictIn K C_NoPrime = true)
    (qs_NoPrime : PySem.W.subIn K (.ref C_NoOrder) (.ref C_NoPrime) = some false)
    (q1_NoRow : PySem.W.nsIn K mainGlobals "NoRow" = some (some (.ref C_NoRow)))
    (q4_NoRow : PySem.W.typeIn K (.ref C_NoRow) = some (.type "type"))
    (q8_NoRow : PySem.W.hasDictIn K C_NoRow = true)
    (qs_NoRow : PySem.W.subIn K (.ref C_NoOrder) (.ref C_NoRow) = some false)
    (q1_NoSize : PySem.W.nsIn K mainGlobals "NoSize" = some (some (.ref C_NoSize)))
    (q4_NoSize : PySem.W.typeIn K (.ref C_NoSize) = some (.type "type"))
    (q8_NoSize : PySem.W.hasDictIn K C_NoSize = true)
    (qs_NoSize : PySem.W.subIn K (.ref C_NoOrder) (.ref C_NoSize) = some false)
    (q1_NoText : PySem.W.nsIn K mainGlobals "NoText" = some (some (.ref C_NoText)))
    (q4_NoText : PySem.W.typeIn K (.ref C_NoText) = some (.type "type"))
    (q8_NoText : PySem.W.hasDictIn K C_NoText = true)
    (qs_NoText : PySem.W.subIn K (.ref C_NoOrder) (.ref C_NoText) = some false)
    (q1_NoUnit : PySem.W.nsIn K mainGlobals "NoUnit" = some (some (.ref C_NoUnit)))
    (q4_NoUnit : PySem.W.typeIn K (.ref C_NoUnit) = some (.type "type"))
    (q8_NoUnit : PySem.W.hasDictIn K C_NoUnit = true)
    (qs_NoUnit : PySem.W.subIn K (.ref C_NoOrder) (.ref C_NoUnit) = some false) :
    ∃ fd : FuncData, (∀ (s : Shared) (v : Value), BindsTo s fd ⟨[v], []⟩ [("_law_script", v)]) ∧ ∀ base : Heap, K.In base → base.Ns mainGlobals mg → FnOk l.prog w K mg base CX0 5 fa fd ["_law_script"] (spLaw K) := by
  have e := hfa.symm.trans (PySem.W.mg_of X G a8)
  cases e
  have nb : Nb mg := ⟨PySem.W.mg_none_of X G z_len, PySem.W.mg_none_of X G z_range, PySem.W.mg_none_of X G z_max, PySem.W.mg_none_of X G z_list, PySem.W.mg_none_of X G z_int, PySem.W.mg_none_of X G z_bool, PySem.W.mg_none_of X G z_tuple, PySem.W.mg_none_of X G z_isinstance, PySem.W.mg_none_of X G z_enumerate, PySem.W.mg_none_of X G z_reversed, PySem.W.mg_none_of X G z_sorted, PySem.W.mg_none_of X G z_zip, PySem.W.mg_none_of X G z_all, PySem.W.mg_none_of X G z_str⟩
  have nb_gcd := PySem.W.mg_of X G i_gcd
  have x_NoOrder : OwnX K mg "NoOrder" C_NoOrder := ⟨PySem.W.mg_of X G q1_NoOrder, q2_NoOrder, q3_NoOrder, q4_NoOrder, ⟨q5_NoOrder, q6_NoOrder, q7_NoOrder, q8_NoOrder, q9_NoOrder, qa_NoOrder, qb_NoOrder, qc_NoOrder⟩⟩
  have x_WheelError : GlX mg "WheelError" C_WheelError := ⟨PySem.W.mg_of X G q1_WheelError⟩
  have hex := PySem.W.exm_ref q7_WheelError q8_WheelError q4_WheelError qs_WheelError
  have x_NoCosine : OthX K mg "NoCosine" C_NoOrder C_NoCosine := ⟨PySem.W.mg_of X G q1_NoCosine, kit_ref q8_NoCosine q4_NoCosine (cls_ne qd_NoOrder qs_NoCosine) qs_NoCosine⟩
  have x_NoCrowds : OthX K mg "NoCrowds" C_NoOrder C_NoCrowds := ⟨PySem.W.mg_of X G q1_NoCrowds, kit_ref q8_NoCrowds q4_NoCrowds (cls_ne qd_NoOrder qs_NoCrowds) qs_NoCrowds⟩
  have x_NoDeed : OthX K mg "NoDeed" C_NoOrder C_NoDeed := ⟨PySem.W.mg_of X G q1_NoDeed, kit_ref q8_NoDeed q4_NoDeed (cls_ne qd_NoOrder qs_NoDeed) qs_NoDeed⟩
  have x_NoFold : OthX K mg "NoFold" C_NoOrder C_NoFold := ⟨PySem.W.mg_of X G q1_NoFold, kit_ref q8_NoFold q4_NoFold (cls_ne qd_NoOrder qs_NoFold) qs_NoFold⟩
  have x_NoName : OthX K mg "NoName" C_NoOrder C_NoName := ⟨PySem.W.mg_of X G q1_NoName, kit_ref q8_NoName q4_NoName (cls_ne qd_NoOrder qs_NoName) qs_NoName⟩
  have x_NoPart : OthX K mg "NoPart" C_NoOrder C_NoPart := ⟨PySem.W.mg_of X G q1_NoPart, kit_ref q8_NoPart q4_NoPart (cls_ne qd_NoOrder qs_NoPart) qs_NoPart⟩
  have x_NoPlain : OthX K mg "NoPlain" C_NoOrder C_NoPlain := ⟨PySem.W.mg_of X G q1_NoPlain, kit_ref q8_NoPlain q4_NoPlain (cls_ne qd_NoOrder qs_NoPlain) qs_NoPlain⟩
  have x_NoPrime : OthX K mg "NoPrime" C_NoOrder C_NoPrime := ⟨PySem.W.mg_of X G q1_NoPrime, kit_ref q8_NoPrime q4_NoPrime (cls_ne qd_NoOrder qs_NoPrime) qs_NoPrime⟩
  have x_NoRow : OthX K mg "NoRow" C_NoOrder C_NoRow := ⟨PySem.W.mg_of X G q1_NoRow, kit_ref q8_NoRow q4_NoRow (cls_ne qd_NoOrder qs_NoRow) qs_NoRow⟩
  have x_NoSize : OthX K mg "NoSize" C_NoOrder C_NoSize := ⟨PySem.W.mg_of X G q1_NoSize, kit_ref q8_NoSize q4_NoSize (cls_ne qd_NoOrder qs_NoSize) qs_NoSize⟩
  have x_NoText : OthX K mg "NoText" C_NoOrder C_NoText := ⟨PySem.W.mg_of X G q1_NoText, kit_ref q8_NoText q4_NoText (cls_ne qd_NoOrder qs_NoText) qs_NoText⟩
  have x_NoUnit : OthX K mg "NoUnit" C_NoOrder C_NoUnit := ⟨PySem.W.mg_of X G q1_NoUnit, kit_ref q8_NoUnit q4_NoUnit (cls_ne qd_NoOrder qs_NoUnit) qs_NoUnit⟩
  have d_order : Dfn K mg "order" ["a", "n"] s_order := by
    have F := fun_mk (st := s_order) l0 c0 k0
    exact ⟨_, _, F, PySem.W.mg_of X G a0, F.binds (ps := ["a", "n"]) fun _ _ _ _ _ _ us hl => match us, hl with | [_, _], _ => rfl⟩
  have d__law_mix : Dfn K mg "_law_mix" ["_law_cell", "_law_k"] s__law_mix := by
    have F := fun_mk (st := s__law_mix) l1 c1 k1
    exact ⟨_, _, F, PySem.W.mg_of X G a1, F.binds (ps := ["_law_cell", "_law_k"]) fun _ _ _ _ _ _ us hl => match us, hl with | [_, _], _ => rfl⟩
  have d__law_count : Dfn K mg "_law_count" ["_law_pick"] s__law_count := by
    have F := fun_mk (st := s__law_count) l2 c2 k2
    exact ⟨_, _, F, PySem.W.mg_of X G a2, F.binds (ps := ["_law_pick"]) fun _ _ _ _ _ _ us hl => match us, hl with | [_], _ => rfl⟩
  have d__law_parted : Dfn K mg "_law_parted" ["_law_n"] s__law_parted := by
    have F := fun_mk (st := s__law_parted) l3 c3 k3
    exact ⟨_, _, F, PySem.W.mg_of X G a3, F.binds (ps := ["_law_n"]) fun _ _ _ _ _ _ us hl => match us, hl with | [_], _ => rfl⟩
  have d__law_is : Dfn K mg "_law_is" ["_law_found", "_law_due_here"] s__law_is := by
    have F := fun_mk (st := s__law_is) l4 c4 k4
    exact ⟨_, _, F, PySem.W.mg_of X G a4, F.binds (ps := ["_law_found", "_law_due_here"]) fun _ _ _ _ _ _ us hl => match us, hl with | [_, _], _ => rfl⟩
  have d__law_due : Dfn K mg "_law_due" ["_law_a", "_law_n"] s__law_due := by
    have F := fun_mk (st := s__law_due) l5 c5 k5
    exact ⟨_, _, F, PySem.W.mg_of X G a5, F.binds (ps := ["_law_a", "_law_n"]) fun _ _ _ _ _ _ us hl => match us, hl with | [_, _], _ => rfl⟩
  have d__law_kind : Dfn K mg "_law_kind" ["_law_caught"] s__law_kind := by
    have F := fun_mk (st := s__law_kind) l6 c6 k6
    exact ⟨_, _, F, PySem.W.mg_of X G a6, F.binds (ps := ["_law_caught"]) fun _ _ _ _ _ _ us hl => match us, hl with | [_], _ => rfl⟩
  have d__law_right : Dfn K mg "_law_right" ["_law_a", "_law_n"] s__law_right := by
    have F := fun_mk (st := s__law_right) l7 c7 k7
    exact ⟨_, _, F, PySem.W.mg_of X G a7, F.binds (ps := ["_law_a", "_law_n"]) fun _ _ _ _ _ _ us hl => match us, hl with | [_, _], _ => rfl⟩
  have F := fun_mk (st := s_law) l8 c8 k8
  exact ⟨PySem.W.fnOf "law" "law" (defArgs s_law) (defBody s_law) (defScope s_law) .none kV8 dc8 pm8 an8 cd8 ct8, fun s v => .of_eq rfl, fun base _ _ => law_ok F nb nb_gcd (PySem.W.mg_none_of X G z_ValueError) (kit_VE qe_NoOrder) x_NoOrder x_WheelError hex x_NoCosine x_NoCrowds x_NoDeed x_NoFold x_NoName x_NoPart x_NoPlain x_NoPrime x_NoRow x_NoSize x_NoText x_NoUnit d_order d__law_mix d__law_count d__law_parted d__law_is d__law_due d__law_kind d__law_right⟩
end Own
open PySem PySem.W PyProof.Rows
set_option maxHeartbeats 0 in
theorem PySem.Challenge.cw_rootwheel_k03_orders_holds : PySem.Challenge.rw_rootwheel_k03_orders.Holds := by
  w_on; o_law; k_head; (case hw => w_witness2)
  k_fill
  refine L2.walk_of (l := PySem.Challenge.rw_rootwheel_k03_orders) (n := 63) (k := 5) (x := "_law_script") (CX := fun _ => L2.CX0) (sp := fun w => Own.spLaw _) rfl (by decide) rfl ⟨rfl, by decide, by decide⟩ (fun w h Y => PySem.W.kIn_of Y) ?F (fun _ _ a ns hl _ hS => ⟨a, ns, rfl, hS, hl, fun _ => rfl⟩) (fun _ _ _ _ _ h => h)
  case F =>
    intro w mg fa h KX G hmg
    refine' Own.all_mk KX G hmg ?a0 ?l0 ?c0 ?k0 ?a1 ?l1 ?c1 ?k1 ?a2 ?l2 ?c2 ?k2 ?a3 ?l3 ?c3 ?k3 ?a4 ?l4 ?c4 ?k4 ?a5 ?l5 ?c5 ?k5 ?a6 ?l6 ?c6 ?k6 ?a7 ?l7 ?c7 ?k7 ?a8 ?l8 ?c8 ?k8 ?z_len ?z_range ?z_max ?z_list ?z_int ?z_bool ?z_tuple ?z_isinstance ?z_enumerate ?z_reversed ?z_sorted ?z_zip ?z_all ?z_str ?i_gcd ?q1_NoOrder ?q2_NoOrder ?q3_NoOrder ?q4_NoOrder ?q5_NoOrder ?q6_NoOrder ?q7_NoOrder ?q8_NoOrder ?q9_NoOrder ?qa_NoOrder ?qb_NoOrder ?qc_NoOrder ?qd_NoOrder ?qe_NoOrder ?z_ValueError ?q1_WheelError ?q4_WheelError ?q7_WheelError ?q8_WheelError ?qs_WheelError ?q1_NoCosine ?q4_NoCosine ?q8_NoCosine ?qs_NoCosine ?q1_NoCrowds ?q4_NoCrowds ?q8_NoCrowds ?qs_NoCrowds ?q1_NoDeed ?q4_NoDeed ?q8_NoDeed ?qs_NoDeed ?q1_NoFold ?q4_NoFold ?q8_NoFold ?qs_NoFold ?q1_NoName ?q4_NoName ?q8_NoName ?qs_NoName ?q1_NoPart ?q4_NoPart ?q8_NoPart ?qs_NoPart ?q1_NoPlain ?q4_NoPlain ?q8_NoPlain ?qs_NoPlain ?q1_NoPrime ?q4_NoPrime ?q8_NoPrime ?qs_NoPrime ?q1_NoRow ?q4_NoRow ?q8_NoRow ?qs_NoRow ?q1_NoSize ?q4_NoSize ?q8_NoSize ?qs_NoSize ?q1_NoText ?q4_NoText ?q8_NoText ?qs_NoText ?q1_NoUnit ?q4_NoUnit ?q8_NoUnit ?qs_NoUnit
    (case a0 => k_is)
    (case l0 => k_is)
    (case c0 => k_is)
    (case k0 => k_is)
    (case a1 => k_is)
    (case l1 => k_is)
    (case c1 => k_is)
    (case k1 => k_is)
    (case a2 => k_is)
    (case l2 => k_is)
    (case c2 => k_is)
    (case k2 => k_is)
    (case a3 => k_is)
    (case l3 => k_is)
    (case c3 => k_is)
    (case k3 => k_is)
    (case a4 => k_is)
    (case l4 => k_is)
    (case c4 => k_is)
    (case k4 => k_is)
    (case a5 => k_is)
    (case l5 => k_is)
    (case c5 => k_is)
    (case k5 => k_is)
    (case a6 => k_is)
    (case l6 => k_is)
    (case c6 => k_is)
    (case k6 => k_is)
    (case a7 => k_is)
    (case l7 => k_is)
    (case c7 => k_is)
    (case k7 => k_is)
    (case a8 => k_is)
    (case l8 => k_is)
    (case c8 => k_is)
    (case k8 => k_is)
    (case z_len => k_is)
    (case z_range => k_is)
    (case z_max => k_is)
    (case z_list => k_is)
    (case z_int => k_is)
    (case z_bool => k_is)
    (case z_tuple => k_is)
    (case z_isinstance => k_is)
    (case z_enumerate => k_is)
    (case z_reversed => k_is)
    (case z_sorted => k_is)
    (case z_zip => k_is)
    (case z_all => k_is)
    (case z_str => k_is)
    (case i_gcd => k_is)
    (case q1_NoOrder => k_is)
    (case q2_NoOrder => k_is)
    (case q3_NoOrder => k_exc)
    (case q4_NoOrder => k_is)
    (case q5_NoOrder => k_is)
    (case q6_NoOrder => k_is)
    (case q7_NoOrder => k_is)
    (case q8_NoOrder => k_is)
    (case q9_NoOrder => k_is)
    (case qa_NoOrder => k_is)
    (case qb_NoOrder => k_is)
    (case qc_NoOrder => k_is)
    (case qd_NoOrder => k_is)
    (case qe_NoOrder => k_is)
    (case z_ValueError => k_is)
    (case q1_WheelError => k_is)
    (case q4_WheelError => k_is)
    (case q7_WheelError => k_is)
    (case q8_WheelError => k_is)
    (case qs_WheelError => k_is)
    (case q1_NoCosine => k_is)
    (case q4_NoCosine => k_is)
    (case q8_NoCosine => k_is)
    (case qs_NoCosine => k_is)
    (case q1_NoCrowds => k_is)
    (case q4_NoCrowds => k_is)
    (case q8_NoCrowds => k_is)
    (case qs_NoCrowds => k_is)
    (case q1_NoDeed => k_is)
    (case q4_NoDeed => k_is)
    (case q8_NoDeed => k_is)
    (case qs_NoDeed => k_is)
    (case q1_NoFold => k_is)
    (case q4_NoFold => k_is)
    (case q8_NoFold => k_is)
    (case qs_NoFold => k_is)
    (case q1_NoName => k_is)
    (case q4_NoName => k_is)
    (case q8_NoName => k_is)
    (case qs_NoName => k_is)
    (case q1_NoPart => k_is)
    (case q4_NoPart => k_is)
    (case q8_NoPart => k_is)
    (case qs_NoPart => k_is)
    (case q1_NoPlain => k_is)
    (case q4_NoPlain => k_is)
    (case q8_NoPlain => k_is)
    (case qs_NoPlain => k_is)
    (case q1_NoPrime => k_is)
    (case q4_NoPrime => k_is)
    (case q8_NoPrime => k_is)
    (case qs_NoPrime => k_is)
    (case q1_NoRow => k_is)
    (case q4_NoRow => k_is)
    (case q8_NoRow => k_is)
    (case qs_NoRow => k_is)
    (case q1_NoSize => k_is)
    (case q4_NoSize => k_is)
    (case q8_NoSize => k_is)
    (case qs_NoSize => k_is)
    (case q1_NoText => k_is)
    (case q4_NoText => k_is)
    (case q8_NoText => k_is)
    (case qs_NoText => k_is)
    (case q1_NoUnit => k_is)
    (case q4_NoUnit => k_is)
    (case q8_NoUnit => k_is)
    (case qs_NoUnit => k_is)


