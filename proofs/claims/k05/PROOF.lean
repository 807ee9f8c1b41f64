import PyProof.Rows.All
import Wide.All
import OpenK.AllK
import Wide.FinOn
import HandS.ForMost
import HandS.Evl
import HandS.Wide
import HandS.WideMore
import HandS.Gcd
import HandS.IsInst
import HandS.SortInts
import HandS.Rev
import HandS.ForExc
import HandS.ExcIs
import HandS.ExcValue
import PySem.Challenge.RW_rootwheel_k05_parted_polynomials
set_option Elab.async false
set_option linter.all false
set_option maxRecDepth 100000
set_option maxHeartbeats 4000000
/-! What every proof of ours leans on: calls by a promise that stands for a name, rules of ours, words for the readings. -/
namespace Kp
open PySem PySem.Spec PyProof.Rows L2 Evl

/-! ### the names of Python that a text leaves as they are -/
structure Nb (mg : Str → Option Value) : Prop where
  len : mg "len" = none
  range : mg "range" = none
  max : mg "max" = none
  list : mg "list" = none
  int : mg "int" = none
  bool : mg "bool" = none
  tuple : mg "tuple" = none
  isinstance : mg "isinstance" = none
  enumerate : mg "enumerate" = none
  reversed : mg "reversed" = none
  sorted : mg "sorted" = none
  zip : mg "zip" = none
  all : mg "all" = none
  str : mg "str" = none

/-! ### a def by its name -/
/-- by the name x the module holds a def that keeps the promise sp, at the level k -/
def Cal (P : Program) (w : World) (K : PySem.W.Frag) (mg : Str → Option Value) (base : Heap) (CX : CXT) (x : Str) (k : Nat) (ps : List Str) (sp : Sp) : Prop :=
  ∃ (f : Addr) (fd : FuncData), FnOk P w K mg base CX k f fd ps sp ∧ mg x = some (.ref f) ∧ PySem.W.keepIn K (.ref f) = true ∧ Binds K fd ps []
/-- by the name x the module holds the def that st writes -/
def Dfn (K : PySem.W.Frag) (mg : Str → Option Value) (x : Str) (ps : List Str) (st : Stmt) : Prop :=
  ∃ (f : Addr) (fd : FuncData), Fun K x x st f fd ∧ mg x = some (.ref f) ∧ Binds K fd ps []
section
variable {P : Program} {w : World} {K : PySem.W.Frag} {mg : Str → Option Value} {base : Heap} {CX : CXT} {x : Str} {k : Nat} {ps N : List Str} {sp : Sp} {st : Stmt}
theorem Dfn.cal (d : Dfn K mg x ps st) (S : FnScope N ps (defScope st)) (len : ∀ vs H Q E, sp vs H Q E → vs.length = ps.length)
    (hbody : ∀ (f : Addr) (cdv : Value) (A : Around) (outer : List Env) (s : Shared) (H : Hp) (vs : List V) (Q : VK) (E : XK), Room k (A.deeper (envOfC x (defScope st) s.heap.objs.size f cdv)) → sp vs H Q E →
      ∃ t, PSs (cxOf CX0 P w K mg base N x (defScope st) f cdv A outer s H E).nox (defBody st) t ∧ t { nx := fun _ H' => Q .non H', rt := Q } (start N vs) H) : Cal P w K mg base CX0 x (k + 1) ps sp := by
  obtain ⟨f, fd, F, g, b⟩ := d
  exact ⟨f, fd, F.ok S len (hbody f), g, F.kp, b⟩
end
section
variable {X : Cx} {CX : CXT} {k : Nat} {ps : List Str} {sp : Sp} {E : XK} {x : Str} {p pos : Pos} {e : Expr} {es : List Expr} {t : TA}
theorem pe_cal (c : Cal X.prog X.w X.K X.mg X.base CX x k ps sp) (hr : Room k X.A) (hg : Gl X x) (hx : Passes CX X E)
    (ha : PA X (e :: es) t) (hdb : (x == ("__debug__" : Str)) = false := by decide) (he : starEach (e :: es) X.env = (false, eval e X.env) :: starEach es X.env := by rfl) (hpl : (backTo pos (starEach es X.env)).any (·.1) = false := by rfl) :
    PE X (.Call (.Name x p) (e :: es) [] pos) (tCall sp [] E t) := by
  obtain ⟨f, fd, F, g, kp, b⟩ := c
  exact pe_call F hr hg g kp b .nil hx ha hdb he hpl
end

/-! ### rules of ours -/
def CPowW (i j : Int) : Prop := 0 ≤ j ∧ (Builtin.Int.intBits i : Int) * j ≤ 2 ^ 27
section
variable {X : Cx}
theorem op_powW : OpR X (binaryOp .Pow) (rI CPowW fun i j => .int (i ^ j.toNat)) := opI fun _ _ _ _ _ _ _ hc q => pow_int hc.1 hc.2 q
/-- what stands at a place of a list, for o[i] op= e -/
def rGetL (K : PySem.W.Frag) : V → V → Hp → VK → Prop := fun o i H Q => ∃ p xs j v, o = .ref p ∧ i = .int ((j : Nat) : Int) ∧ SqL K H p xs ∧ xs[j]? = some v ∧ Q v H
theorem get_list : PGet X (rGetL X.K) := by
  intro pins s σ H o i ov iv Q I ro ri h
  obtain ⟨p, xs, j, z, rfl, rfl, hq, he, q⟩ := h
  cases ro
  obtain ⟨t, rfl⟩ := ri
  obtain ⟨its, r, pl, hz⟩ := I.list hq
  obtain ⟨w, ew, rw'⟩ := r.get he
  have hj : j < xs.length := (List.getElem?_eq_some_iff.mp he).1
  have hn := line63
  have hl := r.length
  exact wpAny_getItem_list pl.isList (by omega) (by omega) (by simpa using ew) ⟨z, H, I, rw', q⟩
theorem pip_of {op : Operator} {r : R2} (ho : OpR X (inplaceOp op) r) : PIp X op r := fun pins s σ H x y v u Q I rx ry h => ho pins s σ H x y v u Q I rx ry h
/-- math.isqrt -/
def rIsqrt : List V → Hp → VK → Prop := fun vs H Q => ∃ a : Int, vs = [.int a] ∧ 0 ≤ a ∧ a < 2 ^ 64 ∧ Q (.int ((Float64.isqrt a.toNat : Nat) : Int)) H
theorem cr_isqrt : CallR X (.builtin "math.isqrt") rIsqrt := by
  intro pins s σ H vs us Q I r h
  obtain ⟨a, rfl, h0, h1, q⟩ := h
  obtain ⟨u, rfl, t, rfl⟩ := vals1 r
  exact PySem.W.mg_isqrt h0 h1 ⟨.int _, H, I.tok _, ⟨_, rfl⟩, q⟩
end

/-! ### what evaluates to what, by operators -/
section
variable {K : PySem.W.Frag} {σ : L2.St} {H : Hp} {ta tb te : TE} {i j : Int}
theorem ev_add (ha : Ev ta σ H (.int i)) (hb : Ev tb σ H (.int j)) : Ev (tOp (rI0 fun i j => .int (i + j)) ta tb) σ H (.int (i + j)) := ev_op ha hb rv_I0
theorem ev_sub (ha : Ev ta σ H (.int i)) (hb : Ev tb σ H (.int j)) : Ev (tOp (rI0 fun i j => .int (i - j)) ta tb) σ H (.int (i - j)) := ev_op ha hb rv_I0
theorem ev_mul (ha : Ev ta σ H (.int i)) (hb : Ev tb σ H (.int j)) (h : CMulW i j) : Ev (tOp (rI CMulW fun i j => .int (i * j)) ta tb) σ H (.int (i * j)) := ev_op ha hb (rv_I h)
theorem ev_div (ha : Ev ta σ H (.int i)) (hb : Ev tb σ H (.int j)) (h : CDivW i j) : Ev (tOp (rI CDivW fun i j => .int (i / j)) ta tb) σ H (.int (i / j)) := ev_op ha hb (rv_I h)
theorem ev_mod (ha : Ev ta σ H (.int i)) (hb : Ev tb σ H (.int j)) (h : 0 < j) : Ev (tOp (rI (fun _ j => 0 < j) fun i j => .int (i % j)) ta tb) σ H (.int (i % j)) := ev_op ha hb (rv_I (C := fun _ j => 0 < j) h)
theorem ev_pow {c : Int} (ha : Ev ta σ H (.int i)) (hb : Ev tb σ H (.int j)) (h : CPowW i j) (hc : i ^ j.toNat = c) : Ev (tOp (rI CPowW fun i j => .int (i ^ j.toNat)) ta tb) σ H (.int c) := by
  rw [← hc]
  exact ev_op ha hb (rv_I h)
theorem ev_neg (ha : Ev ta σ H (.int i)) : Ev (tUn (rU fun i => .int (-i)) ta) σ H (.int (-i)) := ev_un ha ru_neg
theorem ev_lt (ha : Ev ta σ H (.int i)) (hb : Ev tb σ H (.int j)) : Ev (tOp (rI0 fun i j => .bl (decide (i < j))) ta tb) σ H (.bl (decide (i < j))) := ev_op ha hb rv_I0
theorem ev_le (ha : Ev ta σ H (.int i)) (hb : Ev tb σ H (.int j)) : Ev (tOp (rI0 fun i j => .bl (decide (i ≤ j))) ta tb) σ H (.bl (decide (i ≤ j))) := ev_op ha hb rv_I0
theorem ev_gt (ha : Ev ta σ H (.int i)) (hb : Ev tb σ H (.int j)) : Ev (tOp (rI0 fun i j => .bl (decide (j < i))) ta tb) σ H (.bl (decide (j < i))) := ev_op ha hb rv_I0
theorem ev_ge (ha : Ev ta σ H (.int i)) (hb : Ev tb σ H (.int j)) : Ev (tOp (rI0 fun i j => .bl (decide (j ≤ i))) ta tb) σ H (.bl (decide (j ≤ i))) := ev_op ha hb rv_I0
theorem dec_int (i j : Int) : decide (V.int i = V.int j) = decide (i = j) := decide_eq_decide.mpr ⟨V.int.inj, fun e => by rw [e]⟩
theorem ev_eqI (ha : Ev ta σ H (.int i)) (hb : Ev tb σ H (.int j)) : Ev (tOp rEq ta tb) σ H (.bl (decide (i = j))) := by
  rw [← dec_int]
  exact ev_op ha hb (rv_eq rfl)
theorem ev_neI (ha : Ev ta σ H (.int i)) (hb : Ev tb σ H (.int j)) : Ev (tOp rNe ta tb) σ H (.bl (!decide (i = j))) := by
  rw [← dec_int]
  exact ev_op ha hb (rv_ne rfl)
theorem ev_isN {v : V} (ha : Ev ta σ H v) : Ev (tOp (fun x y H Q => y = .non ∧ Q (.bl (decide (x = .non))) H) ta (tC .non)) σ H (.bl (decide (v = .non))) := ev_op ha ev_c fun H1 _ _ q => ⟨rfl, q H1 (Ex.refl H1)⟩
theorem ev_notN {v : V} (ha : Ev ta σ H v) : Ev (tOp (fun x y H Q => y = .non ∧ Q (.bl (!decide (x = .non))) H) ta (tC .non)) σ H (.bl (!decide (v = .non))) := ev_op ha ev_c fun H1 _ _ q => ⟨rfl, q H1 (Ex.refl H1)⟩
/-- numbers of some hundred bits -/
theorem mulW {i j : Int} (hi : i.natAbs < 2 ^ 300) (hj : j.natAbs < 2 ^ 300) : CMulW i j := wide_mul hi hj (by decide) (by decide) (by decide)
theorem divW {i j : Int} (h : 0 < j) (hj : j < 2 ^ 300) : CDivW i j := wide_div (b := 300) h (by omega) (by decide) (by decide)
/-- no reading is this: a goal that takes it has not been told yet which reading it speaks of -/
def tProbe : TE := fun _ _ _ => False
def tProbeT : TT := fun _ _ _ => False
def tProbeA : TA := fun _ _ _ => False
theorem probe {v : V} (h : False) : Ev tProbe σ H v := h.elim
theorem probeT {b : Bool} (h : False) : EvT tProbeT σ H b := h.elim
theorem probeA {vs : List V} (h : False) : EvA tProbeA σ H vs := h.elim
/-- a call's promise: one value -/
theorem ev_cal {sp : Sp} {vs : List V} {E : XK} {ta : TA} {z : V} (h : EvA ta σ H vs) (hs : ∀ H1, Ex H H1 → ∀ Q : VK, RetV z H1 Q → ∀ E : XK, sp vs H1 Q E) : Ev (tCall sp [] E ta) σ H z := fun H1 e Q q =>
  h H1 e _ fun H2 e2 => by
    show sp (vs ++ []) H2 Q E
    rw [List.append_nil]
    exact hs H2 (e.trans e2) Q (fun H3 e3 => q H3 (e2.trans e3)) E
/-- one new list -/
theorem el_cal {sp : Sp} {vs xs : List V} {E : XK} {ta : TA} (h : EvA ta σ H vs) (hs : ∀ H1, Ex H H1 → ∀ Q : VK, RetL xs H1 Q → ∀ E : XK, sp vs H1 Q E) : EvL (tCall sp [] E ta) σ H xs := fun H1 e Q q =>
  h H1 e _ fun H2 e2 => by
    show sp (vs ++ []) H2 Q E
    rw [List.append_nil]
    exact hs H2 (e.trans e2) Q (fun p H3 hp e3 h3 => q p H3 (fresh_back e2 hp) (e2.trans e3) h3) E
end
end Kp

/-! Data as a whole; lists of pairs; comprehensions; new lists. -/
namespace Kp
open PySem PySem.Spec PyProof.Rows L2 Evl

/-! ### == of data without truths, texts and dicts -/
mutual
def okD : PyData → Bool
  | .none => true
  | .int _ => true
  | .list xs => okA xs
  | .tuple xs => okA xs
  | .bool _ => false
  | .str _ => false
  | .dict _ => false
def okA : List PyData → Bool
  | [] => true
  | x :: xs => okD x && okA xs
end
mutual
theorem eqv_ok : ∀ d e : PyData, okD d = true → okD e = true → (PyData.eqv d e = true ↔ d = e)
  | .none, e, _, h => by cases e <;> simp_all [okD, PyData.eqv]
  | .int i, e, _, h => by cases e <;> simp_all [okD, PyData.eqv]
  | .list xs, e, h1, h => by
    cases e with
    | list ys =>
      unfold okD at h1 h
      unfold PyData.eqv
      rw [eqvA_ok xs ys h1 h]
      exact ⟨fun e => by rw [e], PyData.list.inj⟩
    | _ => simp_all [okD, PyData.eqv]
  | .tuple xs, e, h1, h => by
    cases e with
    | tuple ys =>
      unfold okD at h1 h
      unfold PyData.eqv
      rw [eqvA_ok xs ys h1 h]
      exact ⟨fun e => by rw [e], PyData.tuple.inj⟩
    | _ => simp_all [okD, PyData.eqv]
  | .bool _, _, h, _ => by simp [okD] at h
  | .str _, _, h, _ => by simp [okD] at h
  | .dict _, _, h, _ => by simp [okD] at h
theorem eqvA_ok : ∀ ds es : List PyData, okA ds = true → okA es = true → (PyData.eqvAll ds es = true ↔ ds = es)
  | [], [], _, _ => by simp [PyData.eqvAll]
  | [], _ :: _, _, _ => by simp [PyData.eqvAll]
  | _ :: _, [], _, _ => by simp [PyData.eqvAll]
  | d :: ds, e :: es, h1, h2 => by
    unfold okA at h1 h2
    rw [Bool.and_eq_true] at h1 h2
    unfold PyData.eqvAll
    rw [Bool.and_eq_true, eqv_ok d e h1.1 h2.1, eqvA_ok ds es h1.2 h2.2]
    simp
end
theorem eqv_dec {α : Type} [DecidableEq α] (enc : α → PyData) (ok : ∀ a, okD (enc a) = true) (inj : ∀ a b, enc a = enc b → a = b) (a b : α) : PyData.eqv (enc a) (enc b) = decide (a = b) := by
  have h := eqv_ok (enc a) (enc b) (ok a) (ok b)
  by_cases e : a = b
  · subst e
    rw [decide_eq_true rfl]
    exact h.mpr rfl
  · rw [decide_eq_false e]
    cases q : PyData.eqv (enc a) (enc b) with
    | false => rfl
    | true => exact absurd (inj _ _ (h.mp q)) e
theorem okA_map {α : Type} (f : α → PyData) (h : ∀ a, okD (f a) = true) : ∀ l : List α, okA (l.map f) = true
  | [] => rfl
  | a :: l => by
    rw [List.map_cons]
    unfold okA
    rw [h a, okA_map f h l]
    rfl
theorem lay_map {α : Type} (f : α → PyData) (h : ∀ a, PyData.canLay0 (f a) = true) : ∀ l : List α, PyData.canLayAll0 (l.map f) = true
  | [] => rfl
  | a :: l => by
    rw [List.map_cons]
    unfold PyData.canLayAll0
    rw [h a, lay_map f h l]
    rfl
theorem dep_map {α : Type} (f : α → PyData) (k : Nat) (h : ∀ a, PyData.depth (f a) ≤ k) : ∀ l : List α, PyData.depthAll (l.map f) ≤ k
  | [] => Nat.zero_le _
  | a :: l => by
    rw [List.map_cons]
    unfold PyData.depthAll
    exact Nat.max_le.mpr ⟨h a, dep_map f k h l⟩
theorem shaped_of {d : PyData} (h : PyData.canLay0 d = true) (k : PyData.depth d ≤ 64) : SeqAt.shaped d = true := by
  unfold SeqAt.shaped
  rw [h, decide_eq_true k]
  rfl
/-- a list of ints, a pair of ints, a list of such -/
def dI (ns : List Int) : PyData := .list (ns.map .int)
def dP (r : Int × Int) : PyData := .tuple [.int r.1, .int r.2]
def dR (rows : List (Int × Int)) : PyData := .list (rows.map dP)
theorem map_inj {α β : Type} {f : α → β} (h : ∀ a b, f a = f b → a = b) : ∀ l m : List α, l.map f = m.map f → l = m
  | [], [], _ => rfl
  | [], _ :: _, e => by simp at e
  | _ :: _, [], e => by simp at e
  | a :: l, b :: m, e => by
    rw [List.map_cons, List.map_cons] at e
    injection e with e1 e2
    rw [h _ _ e1, map_inj h l m e2]
theorem dI_sh (ns : List Int) : SeqAt.shaped (dI ns) = true := shaped_of (lay_map _ (fun _ => rfl) ns) (Nat.le_trans (Nat.succ_le_succ (dep_map PyData.int 0 (fun _ => Nat.le_refl 0) ns)) (by decide))
theorem dR_sh (rows : List (Int × Int)) : SeqAt.shaped (dR rows) = true := shaped_of (lay_map _ (fun _ => rfl) rows) (Nat.le_trans (Nat.succ_le_succ (dep_map dP 1 (fun _ => Nat.le_refl 1) rows)) (by decide))
theorem dI_eqv (ns ms : List Int) : PyData.eqv (dI ns) (dI ms) = decide (ns = ms) := eqv_dec dI (fun l => by unfold dI okD; exact okA_map _ (fun _ => rfl) l) (fun a b e => map_inj (fun _ _ q => PyData.int.inj q) a b (PyData.list.inj e)) ns ms
theorem dP_inj (a b : Int × Int) (e : dP a = dP b) : a = b := by
  obtain ⟨a1, a2⟩ := a
  obtain ⟨b1, b2⟩ := b
  simp [dP] at e
  rw [e.1, e.2]
theorem dR_eqv (rs qs : List (Int × Int)) : PyData.eqv (dR rs) (dR qs) = decide (rs = qs) := eqv_dec dR (fun l => by unfold dR okD; exact okA_map _ (fun _ => rfl) l) (fun a b e => map_inj dP_inj a b (PyData.list.inj e)) rs qs

section
variable {K : PySem.W.Frag} {σ : L2.St} {H H' : Hp} {ta tb te tl : TE} {t : TT} {x y z v : V} {D : Ends} {tz : TS} {vs : List Nat}
theorem dpa_ints (K : PySem.W.Frag) (H : Hp) : ∀ ns : List Int, DpAll K H (ns.map V.int) (ns.map PyData.int)
  | [] => .nil
  | n :: ns => .cons (.int n) (dpa_ints K H ns)
theorem dp_ints {a : Addr} {ns : List Int} (h : SqL K H a (ns.map V.int)) : Dp K H (.ref a) (dI ns) := .lst h (dpa_ints K H ns)

/-! ### lists of pairs -/
/-- each item a tuple of the pair's two ints -/
def Prs (K : PySem.W.Frag) (H : Hp) : List V → List (Int × Int) → Prop := Paired fun v r => ∃ t, v = .ref t ∧ SqT K H t [.int r.1, .int r.2]
theorem Prs.mono {xs : List V} {rows : List (Int × Int)} (e : Ex H H') (h : Prs K H xs rows) : Prs K H' xs rows := Paired.mapP h fun v r ⟨t, q, s⟩ => ⟨t, q, ex_t e s⟩
theorem sqt_upd {l t : Addr} {xs ys ts : List V} (hl : H l = some (.lst xs)) (h : SqT K H t ts) : SqT K (upd H l (.lst ys)) t ts := by
  rcases h with h | h
  · refine .inl ?_
    rcases h with h | ⟨o, h⟩
    · refine .inl ?_
      rw [upd_ne (ne_of h hl (by intro z; cases z))]
      exact h
    · refine .inr ⟨o, ?_⟩
      rw [upd_ne (ne_of h hl (by intro z; cases z))]
      exact h
  · exact .inr h
theorem Prs.upd {l : Addr} {us ys xs : List V} {rows : List (Int × Int)} (hl : H l = some (.lst us)) (h : Prs K H xs rows) : Prs K (upd H l (.lst ys)) xs rows := Paired.mapP h fun v r ⟨t, q, s⟩ => ⟨t, q, sqt_upd hl s⟩
theorem Prs.snoc {xs : List V} {rows : List (Int × Int)} {t : Addr} {a b : Int} (h : Prs K H xs rows) (ht : SqT K H t [.int a, .int b]) : Prs K H (xs ++ [.ref t]) (rows ++ [(a, b)]) := Paired.snoc h ⟨t, rfl, ht⟩
theorem prs_get : ∀ {xs : List V} {rows : List (Int × Int)} {i : Nat} {x : V}, Prs K H xs rows → xs[i]? = some x → ∃ r t, rows[i]? = some r ∧ x = .ref t ∧ SqT K H t [.int r.1, .int r.2]
  | _, _, _, _, .nil, h => by simp at h
  | _, _, 0, _, .cons (b := r) q _, h => by
    obtain ⟨t, q1, q2⟩ := q
    have e := Option.some.inj h
    exact ⟨r, t, rfl, e ▸ q1, q2⟩
  | _, _, i + 1, _, .cons _ q, h => prs_get (i := i) q h
theorem dpa_prs : ∀ {xs : List V} {rows : List (Int × Int)}, Prs K H xs rows → DpAll K H xs (rows.map dP)
  | _, _, .nil => .nil
  | _, _, .cons q r => by
    obtain ⟨t, rfl, q2⟩ := q
    exact .cons (.tup q2 (.cons (.int _) (.cons (.int _) .nil))) (dpa_prs r)
theorem dp_prs {a : Addr} {xs : List V} {rows : List (Int × Int)} (h : SqL K H a xs) (p : Prs K H xs rows) : Dp K H (.ref a) (dR rows) := .lst h (dpa_prs p)

/-! ### == and != -/
theorem rv_eqD {d e : PyData} {b : Bool} (h1 : Dp K H x d) (h2 : Dp K H y e) (m1 : ∀ H1, Ex H H1 → Dp K H1 x d) (m2 : ∀ H1, Ex H H1 → Dp K H1 y e) (s1 : SeqAt.shaped d = true) (s2 : SeqAt.shaped e = true) (hb : PyData.eqv d e = b) : RV (rEqD K) x y H (.bl b) := by
  subst hb
  exact fun H1 e1 Q q => ⟨d, e, m1 H1 e1, m2 H1 e1, s1, s2, q H1 (Ex.refl H1)⟩
theorem rv_neD {d e : PyData} {b : Bool} (m1 : ∀ H1, Ex H H1 → Dp K H1 x d) (m2 : ∀ H1, Ex H H1 → Dp K H1 y e) (s1 : SeqAt.shaped d = true) (s2 : SeqAt.shaped e = true) (hb : (!PyData.eqv d e) = b) : RV (rNeD K) x y H (.bl b) := by
  subst hb
  exact fun H1 e1 Q q => ⟨d, e, m1 H1 e1, m2 H1 e1, s1, s2, q H1 (Ex.refl H1)⟩
theorem rv_eqI {p q : Addr} {ns ms : List Int} (h1 : SqL K H p (ns.map V.int)) (h2 : SqL K H q (ms.map V.int)) : RV (rEqD K) (.ref p) (.ref q) H (.bl (decide (ns = ms))) :=
  rv_eqD (dp_ints h1) (dp_ints h2) (fun _ e => dp_ints (ex_l e h1)) (fun _ e => dp_ints (ex_l e h2)) (dI_sh _) (dI_sh _) (dI_eqv _ _)
theorem rv_neI {p q : Addr} {ns ms : List Int} (h1 : SqL K H p (ns.map V.int)) (h2 : SqL K H q (ms.map V.int)) : RV (rNeD K) (.ref p) (.ref q) H (.bl (!decide (ns = ms))) :=
  rv_neD (fun _ e => dp_ints (ex_l e h1)) (fun _ e => dp_ints (ex_l e h2)) (dI_sh _) (dI_sh _) (by rw [dI_eqv])
theorem rv_neR {p q : Addr} {xs ys : List V} {rs qs : List (Int × Int)} (h1 : SqL K H p xs) (p1 : Prs K H xs rs) (h2 : SqL K H q ys) (p2 : Prs K H ys qs) : RV (rNeD K) (.ref p) (.ref q) H (.bl (!decide (rs = qs))) :=
  rv_neD (fun _ e => dp_prs (ex_l e h1) (p1.mono e)) (fun _ e => dp_prs (ex_l e h2) (p2.mono e)) (dR_sh _) (dR_sh _) (by rw [dR_eqv])

/-! ### new lists -/
theorem el_is {xs ys : List V} (h : EvL te σ H xs) (e : xs = ys) : EvL te σ H ys := by
  rw [← e]
  exact h
theorem el_cat {xs ys : List V} (ha : EvL ta σ H xs) (hb : EvL tb σ H ys) (hz : xs.length + ys.length ≤ 100000) : EvL (tOp rCat ta tb) σ H (xs ++ ys) := fun H1 e Q q =>
  ha H1 e _ fun p H2 np e2 hp => hb H2 (e.trans e2) _ fun r H3 nr e3 hr => ⟨p, r, xs, ys, rfl, rfl, e3 p _ hp, hr, sz_of hz, fun l hl => q l _ (fresh_back (e2.trans e3) hl) ((e2.trans e3).trans (Ex.new hl)) upd_same⟩
theorem el_rep {k : Int} (ha : EvL ta σ H [x]) (hb : Ev tb σ H (.int k)) (h0 : 0 ≤ k) (hz : k ≤ 100000) : EvL (tOp rRep ta tb) σ H (List.replicate k.toNat x) := fun H1 e Q q =>
  ha H1 e _ fun p H2 np e2 hp => hb H2 (e.trans e2) _ fun H3 e3 => ⟨p, k, [x], rfl, rfl, e3 p _ hp, by omega, by omega, sz_of (by rw [List.length_singleton]; omega), fun l hl => q l _ (fresh_back (e2.trans e3) hl) ((e2.trans e3).trans (Ex.new hl)) (by
    rw [upd_same]
    congr 2
    generalize k.toNat = n
    induction n with
    | zero => rfl
    | succ n ih => rw [List.replicate_succ, List.flatten_cons, ih, List.replicate_succ]; rfl)⟩
/-- an item of a new list of ints -/
theorem ev_ixN {ns : List Int} {i : Int} (ha : EvL ta σ H (ns.map V.int)) (hb : ∀ H1, Ex H H1 → Ev tb σ H1 (.int i)) (h0 : 0 ≤ i) (h1 : i < (ns.length : Int)) : Ev (tOp (rIxL K) ta tb) σ H (.int (ns.getD i.toNat 0)) :=
  ev_opL1 ha hb fun p H1 hp _ => rv_ixL (sq_of hp) (by
    obtain ⟨j, rfl⟩ := Int.eq_ofNat_of_zero_le h0
    refine atI_nat ?_
    have hj : j < ns.length := by omega
    rw [List.getElem?_map, List.getElem?_eq_getElem hj, Int.toNat_natCast, List.getD_eq_getElem?_getD, List.getElem?_eq_getElem hj]
    rfl)
/-- an append to a new list that is thrown away -/
theorem s_appN {xs : List V} (h : EvL ta σ H xs) (hv : ∀ H1, Ex H H1 → Ev te σ H1 v) (hz : xs.length < 100000) (k : ∀ H1, Ex H H1 → D.nx σ H1) : tDrop (tBM K "list" rAppend ta (tCons te tNil)) D σ H := h H (Ex.refl H) _ fun p H1 np e1 hp =>
  ⟨Or.inl ⟨rfl, xs, sq_of hp⟩, hv H1 e1 H1 (Ex.refl _) _ fun H2 e2 => ⟨p, xs, v, rfl, rfl, e2 p _ hp, sz_lt hz, k _ (Ex.mut (e1.trans e2) np)⟩⟩
theorem q_appN {xs : List V} (h : EvL ta σ H xs) (hv : ∀ H1, Ex H H1 → Ev te σ H1 v) (hz : xs.length < 100000) (k : ∀ H1, Ex H H1 → tz D σ H1) : tSeq (tDrop (tBM K "list" rAppend ta (tCons te tNil))) tz D σ H := s_appN (D := { D with nx := tz D }) h hv hz k
theorem cut_mem {xs : List V} {lo hi : Option Int} {x : V} (h : x ∈ cutV xs lo hi) : x ∈ xs := List.mem_of_mem_drop (List.mem_of_mem_take h)
theorem int_of_mem {ns : List Int} {x : V} (h : x ∈ ns.map V.int) : ∃ i, x = .int i := by
  obtain ⟨i, _, rfl⟩ := List.mem_map.mp h
  exact ⟨i, rfl⟩

/-! ### a new list of pairs -/
def RetP (K : PySem.W.Frag) (rows : List (Int × Int)) (H : Hp) (Q : VK) : Prop := ∀ p xs H2, H p = none → Ex H H2 → H2 p = some (.lst xs) → Prs K H2 xs rows → Q (.ref p) H2
def EvP (K : PySem.W.Frag) (te : TE) (σ : L2.St) (H : Hp) (rows : List (Int × Int)) : Prop := ∀ H1, Ex H H1 → ∀ Q : VK, (∀ p xs H2, H1 p = none → Ex H1 H2 → H2 p = some (.lst xs) → Prs K H2 xs rows → Q (.ref p) H2) → te σ H1 Q
theorem ep_cal {sp : Sp} {vs : List V} {E : XK} {ta : TA} {rows : List (Int × Int)} (h : EvA ta σ H vs) (hs : ∀ H1, Ex H H1 → ∀ Q : VK, RetP K rows H1 Q → ∀ E : XK, sp vs H1 Q E) : EvP K (tCall sp [] E ta) σ H rows := fun H1 e Q q =>
  h H1 e _ fun H2 e2 => by
    show sp (vs ++ []) H2 Q E
    rw [List.append_nil]
    exact hs H2 (e.trans e2) Q (fun p xs H3 hp e3 h3 p3 => q p xs H3 (fresh_back e2 hp) (e2.trans e3) h3 p3) E
theorem q_asgP {i : Nat} {rows : List (Int × Int)} (h : EvP K te σ H rows) (k : ∀ p xs H1, H p = none → Ex H H1 → H1 p = some (.lst xs) → Prs K H1 xs rows → tz D (σ.set i (some (.ref p))) H1) : tSeq (tAsg te (gName i)) tz D σ H :=
  h H (Ex.refl H) _ fun p xs H1 hp e h1 p1 => k p xs H1 hp e h1 p1
theorem s_appNP {rows : List (Int × Int)} (h : EvP K ta σ H rows) (hv : ∀ H1, Ex H H1 → Ev te σ H1 v) (hz : rows.length < 100000) (k : ∀ H1, Ex H H1 → D.nx σ H1) : tDrop (tBM K "list" rAppend ta (tCons te tNil)) D σ H := h H (Ex.refl H) _ fun p xs H1 np e1 hp pp =>
  ⟨Or.inl ⟨rfl, xs, sq_of hp⟩, hv H1 e1 H1 (Ex.refl _) _ fun H2 e2 => ⟨p, xs, v, rfl, rfl, e2 p _ hp, sz_lt (by rw [Paired.length pp]; exact hz), k _ (Ex.mut (e1.trans e2) np)⟩⟩
theorem q_appNP {rows : List (Int × Int)} (h : EvP K ta σ H rows) (hv : ∀ H1, Ex H H1 → Ev te σ H1 v) (hz : rows.length < 100000) (k : ∀ H1, Ex H H1 → tz D σ H1) : tSeq (tDrop (tBM K "list" rAppend ta (tCons te tNil))) tz D σ H := s_appNP (D := { D with nx := tz D }) h hv hz k

/-! ### isinstance -/
theorem ev_isi {n s : String} {b : Bool} (ha : Ev ta σ H x) (ty : ∀ H1, Ex H H1 → TyX K H1 x (.type s)) (hk : kitB s n = some b) : Ev (tCB (rIsi K) (tCons ta (tCons (tC (.ty n)) tNil))) σ H (.bl b) := fun H1 e Q q =>
  ha H1 e _ fun H2 e2 => ⟨x, .ty n, .type s, .type n, b, rfl, .ty n, ty H2 (e.trans e2), kit_ty hk, q H2 e2⟩
theorem tx_int {i : Int} : ∀ H1, Ex H H1 → TyX K H1 (.int i) (.type "int") := fun _ _ => .base (.int i)
theorem tx_lst {p : Addr} {xs : List V} (h : H p = some (.lst xs)) : ∀ H1, Ex H H1 → TyX K H1 (.ref p) (.type "list") := fun _ e => .base (.lst (e p _ h))
theorem tx_tup {p : Addr} {xs : List V} (h : H p = some (.tup xs)) : ∀ H1, Ex H H1 → TyX K H1 (.ref p) (.type "tuple") := fun _ e => .base (.tup (e p _ h))

/-! ### comprehensions -/
/-- over a list of pairs, its target a pair of names -/
theorem el_lcP {a : Addr} {xs : List V} {rows : List (Int × Int)} {i j : Nat} (f : Int × Int → Bool) (w : Int × Int → V) (h : Ev tl σ H (.ref a)) (hx : SqL K H a xs) (hp : Prs K H xs rows) (hz : rows.length ≤ 40000)
    (hw : ∀ x y, wipe (((wipe σ vs).set i (some x)).set j (some y)) vs = wipe σ vs)
    (ht : ∀ r H1, Ex H H1 → r ∈ rows → EvT t (((wipe σ vs).set i (some (.int r.1))).set j (some (.int r.2))) H1 (f r)) (he : ∀ r H1, Ex H H1 → r ∈ rows → f r = true → Ev te (((wipe σ vs).set i (some (.int r.1))).set j (some (.int r.2))) H1 (w r)) :
    EvL (tLc (iList K tl) (gTup K 2 (gCons (gName i) (gCons (gName j) gNil))) t te vs) σ H ((rows.filter f).map w) := fun H0 e Q q => h H0 e _ fun H1 e1 => ⟨a, rfl, ⟨xs, ex_l (e.trans e1) hx⟩, fun Dl hD =>
  lc_list (xs := xs) (fun n H' => H1 Dl = none ∧ Ex H1 H' ∧ H' Dl = some (.lst (((rows.take n).filter f).map w))) ⟨hD, Ex.new hD, upd_same⟩ (fun n H' _ p => ex_l ((e.trans e1).trans p.2.1) hx) (fun n x H' hn p => by
    obtain ⟨p1, p2, p3⟩ := p
    obtain ⟨r, u, hr, rfl, hu⟩ := prs_get (hp.mono ((e.trans e1).trans p2)) hn
    have hm : r ∈ rows := List.mem_of_getElem? hr
    have hlen : (((rows.take n).filter f).map w).length < 100000 := by
      rw [List.length_map]
      have h1 := List.length_filter_le f (rows.take n)
      rw [List.length_take] at h1
      omega
    refine ⟨u, _, rfl, hu, rfl, .int r.1, [.int r.2], rfl, .int r.2, [], rfl, rfl, hw _ _, ?_⟩
    refine ht r H1 (e.trans e1) hm H' p2 _ fun H3 e3 => ?_
    have et : rows.take (n + 1) = rows.take n ++ [r] := by rw [List.take_add_one, hr]; rfl
    cases hf : f r with
    | true =>
      show te _ H3 _
      refine he r H1 (e.trans e1) hm hf H3 (p2.trans e3) _ fun H4 e4 => ⟨_, e4 Dl _ (e3 Dl _ p3), sz_lt hlen, p1, Ex.mut ((p2.trans e3).trans e4) p1, ?_⟩
      rw [upd_same, et, List.filter_append, List.map_append, List.filter_cons, if_pos hf]
      rfl
    | false =>
      refine ⟨p1, p2.trans e3, ?_⟩
      rw [et, List.filter_append, List.map_append, List.filter_cons, if_neg (by rw [hf]; decide)]
      show _ = some (HO.lst (_ ++ []))
      rw [List.append_nil]
      exact e3 Dl _ p3) (fun H' p => by
    have q1 := p.2.2
    rw [Paired.length hp, List.take_length] at q1
    exact q Dl H' (fresh_back e1 p.1) (e1.trans p.2.1) q1)⟩
/-- over a list of ints -/
theorem el_lcI {a : Addr} {ns : List Int} {j : Nat} (f : Int → Bool) (w : Int → V) (h : Ev tl σ H (.ref a)) (hx : SqL K H a (ns.map V.int)) (hz : ns.length ≤ 40000)
    (hw : ∀ x, wipe ((wipe σ vs).set j (some x)) vs = wipe σ vs)
    (ht : ∀ r H1, Ex H H1 → r ∈ ns → EvT t ((wipe σ vs).set j (some (.int r))) H1 (f r)) (he : ∀ r H1, Ex H H1 → r ∈ ns → f r = true → Ev te ((wipe σ vs).set j (some (.int r))) H1 (w r)) :
    EvL (tLc (iList K tl) (gName j) t te vs) σ H ((ns.filter f).map w) := fun H0 e Q q => h H0 e _ fun H1 e1 => ⟨a, rfl, ⟨_, ex_l (e.trans e1) hx⟩, fun Dl hD =>
  lc_list (xs := ns.map V.int) (fun n H' => H1 Dl = none ∧ Ex H1 H' ∧ H' Dl = some (.lst (((ns.take n).filter f).map w))) ⟨hD, Ex.new hD, upd_same⟩ (fun n H' _ p => ex_l ((e.trans e1).trans p.2.1) hx) (fun n x H' hn p => by
    obtain ⟨p1, p2, p3⟩ := p
    rw [List.getElem?_map] at hn
    obtain ⟨r, hr, rfl⟩ := Option.map_eq_some_iff.mp hn
    have hm : r ∈ ns := List.mem_of_getElem? hr
    have hlen : (((ns.take n).filter f).map w).length < 100000 := by
      rw [List.length_map]
      have h1 := List.length_filter_le f (ns.take n)
      rw [List.length_take] at h1
      omega
    refine ⟨hw _, ?_⟩
    refine ht r H1 (e.trans e1) hm H' p2 _ fun H3 e3 => ?_
    have et : ns.take (n + 1) = ns.take n ++ [r] := by rw [List.take_add_one, hr]; rfl
    cases hf : f r with
    | true =>
      show te _ H3 _
      refine he r H1 (e.trans e1) hm hf H3 (p2.trans e3) _ fun H4 e4 => ⟨_, e4 Dl _ (e3 Dl _ p3), sz_lt hlen, p1, Ex.mut ((p2.trans e3).trans e4) p1, ?_⟩
      rw [upd_same, et, List.filter_append, List.map_append, List.filter_cons, if_pos hf]
      rfl
    | false =>
      refine ⟨p1, p2.trans e3, ?_⟩
      rw [et, List.filter_append, List.map_append, List.filter_cons, if_neg (by rw [hf]; decide)]
      show _ = some (HO.lst (_ ++ []))
      rw [List.append_nil]
      exact e3 Dl _ p3) (fun H' p => by
    have q1 := p.2.2
    rw [List.length_map, List.take_length] at q1
    exact q Dl H' (fresh_back e1 p.1) (e1.trans p.2.1) q1)⟩
theorem et_yes : EvT tYes σ H true := fun H1 _ _ q => q H1 (Ex.refl H1)
theorem ev_gcd {a b : Int} (ha : Ev ta σ H (.int a)) (hb : Ev tb σ H (.int b)) : Ev (tCB rGcd (tCons ta (tCons tb tNil))) σ H (.int ((Nat.gcd a.natAbs b.natAbs : Nat) : Int)) :=
  ev_cb (ea_cons ha (ea_cons hb ea_nil)) fun H1 _ _ q => ⟨a, b, rfl, q H1 (Ex.refl H1)⟩
end
end Kp

/-! Loops over enumerate and reversed; what stands at a place of a list, changed; many new lists at once. -/
namespace Kp
open PySem PySem.Spec PyProof.Rows L2 Evl
section
variable {K : PySem.W.Frag} {σ : L2.St} {H H' : Hp} {ta tb te tl to ti : TE} {t : TT} {x y z v : V} {D : Ends} {tu tz : TS} {vs : List Nat}
/-- for i, x in enumerate(xs) -/
theorem s_forE {a : Addr} {xs : List V} {tl : TA} {j1 j2 : Nat} (h : EvA tl σ H [.ref a]) (hx : SqL K H a xs) (Pv : Nat → L2.St → Hp → Prop) (h0 : ∀ H1, Ex H H1 → Pv 0 σ H1) (hl : ∀ i σ' H', i ≤ xs.length → Pv i σ' H' → SqL K H' a xs)
    (hs : ∀ i x σ' H', xs[i]? = some x → Pv i σ' H' → ∀ H2, Ex H' H2 → tu { D with nx := Pv (i + 1), ct := Pv (i + 1), bk := D.nx } ((σ'.set j1 (some (.int (i : Nat)))).set j2 (some x)) H2) (hd : ∀ σ' H', Pv xs.length σ' H' → D.nx σ' H') :
    tFor (iEnum K tl) (gTup K 2 (gCons (gName j1) (gCons (gName j2) gNil))) tu D σ H :=
  h H (Ex.refl H) _ fun H1 e => ⟨a, xs, rfl, ex_l e hx, fun i m σ' H' => m = xs.length - i ∧ i ≤ xs.length ∧ Pv i σ' H', ⟨xs.length, rfl, Nat.zero_le _, h0 H1 e⟩, fun i m σ' H' hW => by
    obtain ⟨rfl, hi, p⟩ := hW
    have q := hl i σ' H' hi p
    by_cases hlt : i < xs.length
    · refine .inr ⟨⟨xs, xs[i], q, List.getElem?_eq_getElem hlt⟩, Pv (i + 1), fun σ2 H2 p' => ⟨xs.length - (i + 1), by omega, rfl, hlt, p'⟩, fun w H2 hy => ?_⟩
      obtain ⟨T, x, rfl, hT, rfl, fx⟩ := hy
      exact ⟨T, _, rfl, .inl (.inl upd_same), rfl, .int (i : Nat), [x], rfl, x, [], rfl, rfl, hs i x σ' H' (fx xs q) p _ (Ex.new hT)⟩
    · have e : i = xs.length := by omega
      subst e
      exact .inl ⟨⟨xs, q, Nat.le_refl _⟩, hd σ' H' p⟩⟩
theorem q_forE {a : Addr} {xs : List V} {tl : TA} {j1 j2 : Nat} (h : EvA tl σ H [.ref a]) (hx : SqL K H a xs) (Pv : Nat → L2.St → Hp → Prop) (h0 : ∀ H1, Ex H H1 → Pv 0 σ H1) (hl : ∀ i σ' H', i ≤ xs.length → Pv i σ' H' → SqL K H' a xs)
    (hs : ∀ i x σ' H', xs[i]? = some x → Pv i σ' H' → ∀ H2, Ex H' H2 → tu { D with nx := Pv (i + 1), ct := Pv (i + 1), bk := tz D } ((σ'.set j1 (some (.int (i : Nat)))).set j2 (some x)) H2) (hd : ∀ σ' H', Pv xs.length σ' H' → tz D σ' H') :
    tSeq (tFor (iEnum K tl) (gTup K 2 (gCons (gName j1) (gCons (gName j2) gNil))) tu) tz D σ H := s_forE (D := { D with nx := tz D }) h hx Pv h0 hl hs hd
/-- for x in reversed(xs) -/
theorem s_forV {a : Addr} {xs : List V} {tl : TA} {j : Nat} (h : EvA tl σ H [.ref a]) (hx : SqL K H a xs) (Pv : Nat → L2.St → Hp → Prop) (h0 : ∀ H1, Ex H H1 → Pv 0 σ H1) (hl : ∀ i σ' H', i ≤ xs.length → Pv i σ' H' → SqL K H' a xs)
    (hs : ∀ i x σ' H', i < xs.length → xs[xs.length - 1 - i]? = some x → Pv i σ' H' → tu { D with nx := Pv (i + 1), ct := Pv (i + 1), bk := D.nx } (σ'.set j (some x)) H') (hd : ∀ σ' H', Pv xs.length σ' H' → D.nx σ' H') :
    tFor (iRev K tl) (gName j) tu D σ H :=
  h H (Ex.refl H) _ fun H1 e => ⟨a, xs, rfl, ex_l e hx, fun i m σ' H' => m = xs.length - i ∧ i ≤ xs.length ∧ Pv i σ' H', ⟨xs.length, rfl, Nat.zero_le _, h0 H1 e⟩, fun i m σ' H' hW => by
    obtain ⟨rfl, hi, p⟩ := hW
    have q := hl i σ' H' hi p
    by_cases hlt : i < xs.length
    · have hlt2 : xs.length - 1 - i < xs.length := by omega
      refine .inr ⟨⟨hlt, xs, xs[xs.length - 1 - i], q, List.getElem?_eq_getElem hlt2⟩, Pv (i + 1), fun σ2 H2 p' => ⟨xs.length - (i + 1), by omega, rfl, hlt, p'⟩, fun w H2 hy => ?_⟩
      obtain ⟨rfl, fx⟩ := hy
      exact hs i w σ' H2 hlt (fx xs q) p
    · have e : i = xs.length := by omega
      subst e
      exact .inl ⟨Nat.le_refl _, hd σ' H' p⟩⟩
theorem q_forV {a : Addr} {xs : List V} {tl : TA} {j : Nat} (h : EvA tl σ H [.ref a]) (hx : SqL K H a xs) (Pv : Nat → L2.St → Hp → Prop) (h0 : ∀ H1, Ex H H1 → Pv 0 σ H1) (hl : ∀ i σ' H', i ≤ xs.length → Pv i σ' H' → SqL K H' a xs)
    (hs : ∀ i x σ' H', i < xs.length → xs[xs.length - 1 - i]? = some x → Pv i σ' H' → tu { D with nx := Pv (i + 1), ct := Pv (i + 1), bk := tz D } (σ'.set j (some x)) H') (hd : ∀ σ' H', Pv xs.length σ' H' → tz D σ' H') :
    tSeq (tFor (iRev K tl) (gName j) tu) tz D σ H := s_forV (D := { D with nx := tz D }) h hx Pv h0 hl hs hd
/-- o[i] += e, of a list of ints -/
theorem s_augL {l : Addr} {ns : List Int} {j : Nat} {f : Int → Int → Int} {a b : Int} (hl : H l = some (.lst (ns.map V.int))) (ho : Ev to σ H (.ref l)) (hi : Ev ti σ H (.int (j : Nat))) (hj : ns[j]? = some a) (he : Ev te σ H (.int b))
    (k : ∀ H1, Ex H H1 → D.nx σ (upd H1 l (.lst ((ns.set j (f a b)).map V.int)))) : tAugS to ti te (rGetL K) (ipI f) rSetL D σ H := ho H (Ex.refl H) _ fun H1 e1 => hi H1 e1 _ fun H2 e2 =>
  ⟨l, ns.map V.int, j, .int a, rfl, rfl, sq_of ((e1.trans e2) l _ hl), by rw [List.getElem?_map, hj]; rfl, he H2 (e1.trans e2) _ fun H3 e3 => ⟨a, b, rfl, rfl, l, ns.map V.int, (j : Nat), j, rfl, rfl, ((e1.trans e2).trans e3) l _ hl,
    ixN_nat (by rw [List.length_map]; exact (List.getElem?_eq_some_iff.mp hj).1), by
      have q := k H3 ((e1.trans e2).trans e3)
      rw [List.map_set] at q
      exact q⟩⟩
/-- the same with an operator that asks something of its two ints -/
theorem s_augLC {l : Addr} {ns : List Int} {j : Nat} {C : Int → Int → Prop} {f : Int → Int → Int} {a b : Int} (hl : H l = some (.lst (ns.map V.int))) (ho : Ev to σ H (.ref l)) (hi : Ev ti σ H (.int (j : Nat))) (hj : ns[j]? = some a) (he : Ev te σ H (.int b))
    (k : ∀ H1, Ex H H1 → D.nx σ (upd H1 l (.lst ((ns.set j (f a b)).map V.int)))) : tAugS to ti te (rGetL K) (rI0 fun i j => .int (f i j)) rSetL D σ H := s_augL hl ho hi hj he k
/-- o[i] = e, of a list of ints -/
theorem s_setI {l : Addr} {ns : List Int} {j : Nat} {b : Int} (hl : H l = some (.lst (ns.map V.int))) (ho : Ev to σ H (.ref l)) (hi : Ev ti σ H (.int (j : Nat))) (hj : j < ns.length) (he : Ev te σ H (.int b))
    (k : ∀ H1, Ex H H1 → D.nx σ (upd H1 l (.lst ((ns.set j b).map V.int)))) : tAsg te (gSub to ti rSetL) D σ H :=
  s_setL hl he ho hi (by rw [List.length_map]; exact hj) fun H1 e1 => by
    have q := k H1 e1
    rw [List.map_set] at q
    exact q
/-- xs[i], of a list of ints -/
theorem ev_ixI {a : Addr} {ns : List Int} {j : Nat} {b : Int} (hl : SqL K H a (ns.map V.int)) (ho : Ev ta σ H (.ref a)) (hi : Ev tb σ H (.int (j : Nat))) (hj : ns[j]? = some b) : Ev (tOp (rIxL K) ta tb) σ H (.int b) :=
  ev_op ho hi (rv_ixL hl (atI_nat (by rw [List.getElem?_map, hj]; rfl)))
/-- t[i], of a tuple -/
theorem ev_ixT {a : Addr} {xs : List V} {j : Nat} (hl : SqT K H a xs) (ho : Ev ta σ H (.ref a)) (hi : Ev tb σ H (.int (j : Nat))) (hj : xs[j]? = some v) : Ev (tOp (rIxT K) ta tb) σ H v :=
  ev_op ho hi (rv_ixT hl (atI_nat hj))
/-- xs.pop() as a statement -/
theorem s_pop {l : Addr} {xs : List V} {y : V} (hl : H l = some (.lst (xs ++ [y]))) (ha : Ev ta σ H (.ref l)) (k : ∀ H1, Ex H H1 → D.nx σ (upd H1 l (.lst xs))) : tDrop (tBM0 K "list" rPop ta) D σ H := ha H (Ex.refl H) _ fun H1 e1 =>
  ⟨Or.inl ⟨rfl, _, sq_of (e1 l _ hl)⟩, l, xs ++ [y], y, rfl, rfl, e1 l _ hl, by simp, by
    rw [List.dropLast_concat]
    exact k H1 e1⟩

/-! ### many new lists -/
def EvNs (n : Nat) (ta : TA) (σ : L2.St) (H : Hp) : Prop := ∀ H1, Ex H H1 → ∀ Q : List V → Hp → Prop, (∀ (ps : List Addr) H2, ps.length = n → Ex H1 H2 → (∀ p ∈ ps, H1 p = none ∧ ∃ xs, H2 p = some (.lst xs) ∧ xs.length < 50000) → Q (ps.map V.ref) H2) → ta σ H1 Q
theorem en_nil : EvNs 0 tNil σ H := fun H1 _ Q q => q [] H1 rfl (Ex.refl H1) fun _ h => nomatch h
theorem en_cons {tr : TA} {xs : List V} {n : Nat} (h : EvL te σ H xs) (hz : xs.length < 50000) (hr : EvNs n tr σ H) : EvNs (n + 1) (tCons te tr) σ H := fun H1 e Q q =>
  h H1 e _ fun p H2 np e2 hp => hr H2 (e.trans e2) _ fun ps H3 hl e3 hps => q (p :: ps) H3 (by rw [List.length_cons, hl]) (e2.trans e3) fun r hr' => by
    rcases List.mem_cons.mp hr' with rfl | hm
    · exact ⟨np, xs, e3 _ _ hp, hz⟩
    · obtain ⟨n1, n2⟩ := hps r hm
      exact ⟨fresh_back e2 n1, n2⟩
/-- for x in [new, new, ..]: x.append(e) -/
theorem s_forNs {tr : TA} {n j : Nat} {u : V} (h : EvNs n tr σ H) (hn : n ≤ 1000) (hj : j < σ.length) (k : ∀ σ' H1, (∃ x, σ' = σ.set j x) → Ex H H1 → D.nx σ' H1) :
    tFor (iList K (tLst tr)) (gName j) (tDrop (tBM K "list" rAppend (tVar j) (tCons (tC u) tNil))) D σ H :=
  h H (Ex.refl H) _ fun ps H2 hl e2 hps => ⟨sz_of (by rw [List.length_map]; omega), fun L nL => ⟨L, rfl, ⟨_, SqL.of upd_same⟩, for_list (xs := ps.map V.ref)
    (fun i σ' H' => (∃ x, σ' = σ.set j x) ∧ Ex H H' ∧ H' L = some (.lst (ps.map V.ref)) ∧ ∀ p ∈ ps, ∃ xs, H' p = some (.lst xs) ∧ xs.length < 50000 + i)
    ⟨⟨σ[j], (List.set_getElem_self hj).symm⟩, e2.trans (Ex.new nL), upd_same, fun p hp => by
      obtain ⟨xs, q1, q2⟩ := (hps p hp).2
      exact ⟨xs, by rw [upd_ne (ne_of_none q1 nL)]; exact q1, by omega⟩⟩
    (fun i σ' H' _ p => SqL.of p.2.2.1) (fun i x σ' H' hx p => by
      obtain ⟨⟨y, rfl⟩, p2, p3, p4⟩ := p
      rw [List.getElem?_map] at hx
      obtain ⟨r, hr, rfl⟩ := Option.map_eq_some_iff.mp hx
      have hm := List.mem_of_getElem? hr
      have hi : i < ps.length := (List.getElem?_eq_some_iff.mp hr).1
      obtain ⟨xs, q1, q2⟩ := p4 r hm
      have nLr : L ≠ r := fun e => by
        obtain ⟨zs, z1, _⟩ := (hps r hm).2
        rw [← e, nL] at z1
        cases z1
      refine s_app q1 (ev_var (by rw [List.getElem?_set_self (by rw [List.length_set]; exact hj)])) ev_c (by omega) fun H3 e3 => ⟨⟨_, List.set_set ..⟩, Ex.mut (p2.trans e3) (hps r hm).1, ?_, fun p hp => ?_⟩
      · rw [upd_ne nLr]
        exact e3 _ _ p3
      · by_cases e : p = r
        · subst e
          exact ⟨_, upd_same, by rw [List.length_append, List.length_singleton]; omega⟩
        · obtain ⟨ys, z1, z2⟩ := p4 p hp
          exact ⟨ys, by rw [upd_ne e]; exact e3 _ _ z1, by omega⟩) (fun σ' H' p => k σ' H' p.1 p.2.1)⟩⟩
theorem q_forNs {tr : TA} {n j : Nat} {u : V} (h : EvNs n tr σ H) (hn : n ≤ 1000) (hj : j < σ.length) (k : ∀ σ' H1, (∃ x, σ' = σ.set j x) → Ex H H1 → tz D σ' H1) :
    tSeq (tFor (iList K (tLst tr)) (gName j) (tDrop (tBM K "list" rAppend (tVar j) (tCons (tC u) tNil)))) tz D σ H := s_forNs (D := { D with nx := tz D }) h hn hj k
end
end Kp
namespace Kp
open PySem PySem.Spec PyProof.Rows L2 Evl
section
variable {K : PySem.W.Frag} {σ : L2.St} {H H' : Hp} {ta tb te tl to ti : TE} {t : TT} {x y z v : V} {D : Ends} {tu tz : TS} {vs : List Nat}
/-- (a new list, a new list) -/
theorem q_asgT2 {i : Nat} {xs ys : List V} (h1 : EvL ta σ H xs) (h2 : EvL tb σ H ys) (k : ∀ t p q H1, Ex H H1 → H1 t = some (.tup [.ref p, .ref q]) → H1 p = some (.lst xs) → H1 q = some (.lst ys) → tz D (σ.set i (some (.ref t))) H1) :
    tSeq (tAsg (tTup (tCons ta (tCons tb tNil))) (gName i)) tz D σ H :=
  h1 H (Ex.refl H) _ fun p H1 np e1 hp => h2 H1 e1 _ fun q H2 nq e2 hq => ⟨sz_of (show 2 ≤ 100000 by decide), fun t nt =>
    k t p q _ ((e1.trans e2).trans (Ex.new nt)) upd_same (by rw [upd_ne (ne_of_none (e2 _ _ hp) nt)]; exact e2 _ _ hp) (by rw [upd_ne (ne_of_none hq nt)]; exact hq)⟩
/-- a call upon one new list, one value back -/
theorem ev_calL1 {sp : Sp} {xs : List V} {E : XK} (h : EvL ta σ H xs) (hs : ∀ p H1, Ex H H1 → H1 p = some (.lst xs) → ∀ Q : VK, RetV z H1 Q → ∀ E : XK, sp [.ref p] H1 Q E) : Ev (tCall sp [] E (tCons ta tNil)) σ H z := fun H1 e Q q =>
  h H1 e _ fun p H2 np e2 hp => hs p H2 (e.trans e2) hp Q (fun H3 e3 => q H3 (e2.trans e3)) E
/-- a list by its name and a new one, glued -/
theorem el_cat1 {l : Addr} {xs ys : List V} (ha : Ev ta σ H (.ref l)) (hl : H l = some (.lst xs)) (hb : EvL tb σ H ys) (hz : xs.length + ys.length ≤ 100000) : EvL (tOp rCat ta tb) σ H (xs ++ ys) := fun H1 e Q q =>
  ha H1 e _ fun H2 e2 => hb H2 (e.trans e2) _ fun r H3 nr e3 hr => ⟨l, r, xs, ys, rfl, rfl, (e.trans (e2.trans e3)) _ _ hl, hr, sz_of hz, fun l hl => q l _ (fresh_back (e2.trans e3) hl) ((e2.trans e3).trans (Ex.new hl)) upd_same⟩
theorem cut_take (xs : List V) (m : Nat) : cutV xs none (some (m : Int)) = xs.take m := by
  unfold cutV
  rw [HT.sIx_none, HT.sIx_nat, Nat.sub_zero, List.drop_zero]
  by_cases h : m ≤ xs.length
  · rw [Nat.min_eq_left h]
  · rw [Nat.min_eq_right (by omega), List.take_of_length_le (Nat.le_refl _), List.take_of_length_le (by omega)]
theorem map_get {ns : List Int} {i : Nat} {x : V} (h : (ns.map V.int)[i]? = some x) : ∃ a, ns[i]? = some a ∧ x = .int a := by
  rw [List.getElem?_map] at h
  obtain ⟨a, h1, h2⟩ := Option.map_eq_some_iff.mp h
  exact ⟨a, h1, h2.symm⟩
end
end Kp

/-! More of loops, comprehensions and lists. -/
namespace Kp
open PySem PySem.Spec PyProof.Rows L2 Evl
theorem filter_yes {α : Type} (l : List α) : l.filter (fun _ => true) = l := List.filter_eq_self.mpr fun _ _ => rfl
section
variable {K : PySem.W.Frag} {σ : L2.St} {H H' : Hp} {ta tb te tl to ti : TE} {t : TT} {x y z v : V} {D : Ends} {tu tz : TS} {vs : List Nat}
/-- [e for x in range(a, b) if t] -/
theorem el_lcR2 {tg : TA} {j : Nat} {lo hi : Int} (f : Nat → Bool) (w : Nat → V) (h : EvA tg σ H [.int lo, .int hi]) (hb : 0 ≤ lo ∧ lo ≤ 40000 ∧ -40000 ≤ hi ∧ hi ≤ 40000) (hw : ∀ x, wipe ((wipe σ vs).set j (some x)) vs = wipe σ vs)
    (ht : ∀ (i : Nat) H1, Ex H H1 → lo + (i : Int) < hi → EvT t ((wipe σ vs).set j (some (.int (lo + (i : Int))))) H1 (f i)) (he : ∀ (i : Nat) H1, Ex H H1 → lo + (i : Int) < hi → f i = true → Ev te ((wipe σ vs).set j (some (.int (lo + (i : Int))))) H1 (w i)) :
    EvL (tLc (iRng2 tg) (gName j) t te vs) σ H (((List.range (hi - lo).toNat).filter f).map w) := fun H0 e Q q => h H0 e _ fun H1 e1 => ⟨lo, hi, rfl, ⟨by omega, by omega, by omega, by omega⟩, fun Dl hD =>
  lc_range (lo := lo) (n := (hi - lo).toNat) (Cw H1 f w Dl) ⟨hD, Ex.new hD, upd_same⟩ (fun i H' hi p => ⟨hw _, cw_turn p (by omega) (ht i H1 (e.trans e1) (by omega)) (fun hf => he i H1 (e.trans e1) (by omega) hf)⟩) (fun H' p => q Dl H' (fresh_back e1 p.1) (e1.trans p.2.1) p.2.2)⟩
/-- [e for x in reversed(xs) if t], xs ints -/
theorem el_lcV {tg : TA} {a : Addr} {ns : List Int} {j : Nat} (f : Int → Bool) (w : Int → V) (h : EvA tg σ H [.ref a]) (hx : SqL K H a (ns.map V.int)) (hz : ns.length ≤ 40000)
    (hw : ∀ x, wipe ((wipe σ vs).set j (some x)) vs = wipe σ vs)
    (ht : ∀ r H1, Ex H H1 → r ∈ ns → EvT t ((wipe σ vs).set j (some (.int r))) H1 (f r)) (he : ∀ r H1, Ex H H1 → r ∈ ns → f r = true → Ev te ((wipe σ vs).set j (some (.int r))) H1 (w r)) :
    EvL (tLc (iRev K tg) (gName j) t te vs) σ H ((ns.reverse.filter f).map w) := fun H0 e Q q => h H0 e _ fun H1 e1 => ⟨a, _, rfl, ex_l (e.trans e1) hx, fun Dl hD =>
  ⟨fun n m H' => m = ns.length - n ∧ n ≤ ns.length ∧ H1 Dl = none ∧ Ex H1 H' ∧ H' Dl = some (.lst (((ns.reverse.take n).filter f).map w)), ⟨ns.length, rfl, Nat.zero_le _, hD, Ex.new hD, upd_same⟩, fun n m H' hW => by
    obtain ⟨rfl, hn, p1, p2, p3⟩ := hW
    by_cases hlt : n < ns.length
    · have hlt2 : ns.length - 1 - n < ns.length := by omega
      have hlm : (ns.map V.int).length = ns.length := List.length_map _
      refine .inr ⟨⟨by rw [hlm]; exact hlt, ns.map V.int, _, ex_l ((e.trans e1).trans p2) hx, List.getElem?_eq_getElem (by rw [hlm]; omega)⟩, fun H2 => n + 1 ≤ ns.length ∧ H1 Dl = none ∧ Ex H1 H2 ∧ H2 Dl = some (.lst (((ns.reverse.take (n + 1)).filter f).map w)), fun H2 ⟨q1, q2, q3, q4⟩ => ⟨ns.length - (n + 1), by omega, rfl, q1, q2, q3, q4⟩, fun x H2 hy => ?_⟩
      obtain ⟨rfl, fx⟩ := hy
      have gx := fx _ (ex_l ((e.trans e1).trans p2) hx)
      rw [hlm] at gx
      rw [List.getElem?_map] at gx
      obtain ⟨r, hr, rfl⟩ := Option.map_eq_some_iff.mp gx
      have hm : r ∈ ns := List.mem_of_getElem? hr
      have hlen : (((ns.reverse.take n).filter f).map w).length < 100000 := by
        rw [List.length_map]
        have h1 := List.length_filter_le f (ns.reverse.take n)
        rw [List.length_take, List.length_reverse] at h1
        omega
      have et : ns.reverse.take (n + 1) = ns.reverse.take n ++ [r] := by
        rw [List.take_add_one, List.getElem?_reverse hlt, hr]
        rfl
      refine ⟨hw _, ?_⟩
      refine ht r H1 (e.trans e1) hm H2 p2 _ fun H3 e3 => ?_
      cases hf : f r with
      | true =>
        show te _ H3 _
        refine he r H1 (e.trans e1) hm hf H3 (p2.trans e3) _ fun H4 e4 => ⟨_, e4 Dl _ (e3 Dl _ p3), sz_lt hlen, hlt, p1, Ex.mut ((p2.trans e3).trans e4) p1, ?_⟩
        rw [upd_same, et, List.filter_append, List.map_append, List.filter_cons, if_pos hf]
        rfl
      | false =>
        refine ⟨hlt, p1, p2.trans e3, ?_⟩
        rw [et, List.filter_append, List.map_append, List.filter_cons, if_neg (by rw [hf]; decide)]
        show _ = some (HO.lst (_ ++ []))
        rw [List.append_nil]
        exact e3 Dl _ p3
    · have en : n = ns.length := by omega
      subst en
      rw [List.take_of_length_le (by rw [List.length_reverse]; exact Nat.le_refl _)] at p3
      exact .inl ⟨by show (ns.map V.int).length ≤ _; rw [List.length_map]; exact Nat.le_refl _, q Dl H' (fresh_back e1 p1) (e1.trans p2) p3⟩⟩⟩
/-- two lists by their names, glued -/
theorem el_cat2 {l b : Addr} {xs ys : List V} (ha : Ev ta σ H (.ref l)) (hl : H l = some (.lst xs)) (hb : Ev tb σ H (.ref b)) (hlb : H b = some (.lst ys)) (hz : xs.length + ys.length ≤ 100000) : EvL (tOp rCat ta tb) σ H (xs ++ ys) := fun H1 e Q q =>
  ha H1 e _ fun H2 e2 => hb H2 (e.trans e2) _ fun H3 e3 => ⟨l, b, xs, ys, rfl, rfl, (e.trans (e2.trans e3)) _ _ hl, (e.trans (e2.trans e3)) _ _ hlb, sz_of hz, fun l hl => q l _ (fresh_back (e2.trans e3) hl) ((e2.trans e3).trans (Ex.new hl)) upd_same⟩
/-- for i, x in enumerate(a new list) -/
theorem s_forEN {xs : List V} {j1 j2 : Nat} (h : EvL te σ H xs) (Pv : Addr → Nat → L2.St → Hp → Prop) (h0 : ∀ a H1, H a = none → Ex H H1 → H1 a = some (.lst xs) → Pv a 0 σ H1) (hl : ∀ a i σ' H', i ≤ xs.length → Pv a i σ' H' → SqL K H' a xs)
    (hs : ∀ a i x σ' H', xs[i]? = some x → Pv a i σ' H' → ∀ H2, Ex H' H2 → tu { D with nx := Pv a (i + 1), ct := Pv a (i + 1), bk := D.nx } ((σ'.set j1 (some (.int (i : Nat)))).set j2 (some x)) H2) (hd : ∀ a σ' H', Pv a xs.length σ' H' → D.nx σ' H') :
    tFor (iEnum K (tCons te tNil)) (gTup K 2 (gCons (gName j1) (gCons (gName j2) gNil))) tu D σ H :=
  h H (Ex.refl H) _ fun a H1 na e ha => ⟨a, xs, rfl, sq_of ha, fun i m σ' H' => m = xs.length - i ∧ i ≤ xs.length ∧ Pv a i σ' H', ⟨xs.length, rfl, Nat.zero_le _, h0 a H1 na e ha⟩, fun i m σ' H' hW => by
    obtain ⟨rfl, hi, p⟩ := hW
    have q := hl a i σ' H' hi p
    by_cases hlt : i < xs.length
    · refine .inr ⟨⟨xs, xs[i], q, List.getElem?_eq_getElem hlt⟩, Pv a (i + 1), fun σ2 H2 p' => ⟨xs.length - (i + 1), by omega, rfl, hlt, p'⟩, fun w H2 hy => ?_⟩
      obtain ⟨T, x, rfl, hT, rfl, fx⟩ := hy
      exact ⟨T, _, rfl, .inl (.inl upd_same), rfl, .int (i : Nat), [x], rfl, x, [], rfl, rfl, hs a i x σ' H' (fx xs q) p _ (Ex.new hT)⟩
    · have e : i = xs.length := by omega
      subst e
      exact .inl ⟨⟨xs, q, Nat.le_refl _⟩, hd a σ' H' p⟩⟩
theorem q_forEN {xs : List V} {j1 j2 : Nat} (h : EvL te σ H xs) (Pv : Addr → Nat → L2.St → Hp → Prop) (h0 : ∀ a H1, H a = none → Ex H H1 → H1 a = some (.lst xs) → Pv a 0 σ H1) (hl : ∀ a i σ' H', i ≤ xs.length → Pv a i σ' H' → SqL K H' a xs)
    (hs : ∀ a i x σ' H', xs[i]? = some x → Pv a i σ' H' → ∀ H2, Ex H' H2 → tu { D with nx := Pv a (i + 1), ct := Pv a (i + 1), bk := tz D } ((σ'.set j1 (some (.int (i : Nat)))).set j2 (some x)) H2) (hd : ∀ a σ' H', Pv a xs.length σ' H' → tz D σ' H') :
    tSeq (tFor (iEnum K (tCons te tNil)) (gTup K 2 (gCons (gName j1) (gCons (gName j2) gNil))) tu) tz D σ H := s_forEN (D := { D with nx := tz D }) h Pv h0 hl hs hd
/-- for a, b in a new list of pairs -/
theorem q_forP {rows : List (Int × Int)} {j1 j2 : Nat} (h : EvP K te σ H rows) (Pv : Hp → Nat → L2.St → Hp → Prop) (h0 : ∀ H1, Ex H H1 → Pv H1 0 σ H1) (hl : ∀ H1 i σ' H', Pv H1 i σ' H' → Ex H1 H')
    (hs : ∀ H1 i r σ' H', Ex H H1 → rows[i]? = some r → Pv H1 i σ' H' → tu { D with nx := Pv H1 (i + 1), ct := Pv H1 (i + 1), bk := tz D } ((σ'.set j1 (some (.int r.1))).set j2 (some (.int r.2))) H') (hd : ∀ H1 σ' H', Ex H H1 → Pv H1 rows.length σ' H' → tz D σ' H') :
    tSeq (tFor (iList K te) (gTup K 2 (gCons (gName j1) (gCons (gName j2) gNil))) tu) tz D σ H :=
  h H (Ex.refl H) _ fun p xs H1 np e hp pr => ⟨p, rfl, ⟨xs, sq_of hp⟩, for_list (xs := xs) (Pv H1) (h0 H1 e) (fun i σ' H' _ q => sq_of (hl _ _ _ _ q _ _ hp)) (fun i x σ' H' hx q => by
    obtain ⟨r, t, hr, rfl, ht⟩ := prs_get (pr.mono (hl _ _ _ _ q)) hx
    exact ⟨t, _, rfl, ht, rfl, .int r.1, [.int r.2], rfl, .int r.2, [], rfl, rfl, hs H1 i r σ' H' e hr q⟩) (fun σ' H' q => by
    rw [Paired.length pr] at q
    exact hd H1 σ' H' e q)⟩
/-- a list by its name, beside a new list of pairs -/
theorem ev_opLP {r : R2} {rows : List (Int × Int)} (ha : Ev ta σ H x) (hb : EvP K tb σ H rows) (hr : ∀ p xs H1, H1 p = some (.lst xs) → Prs K H1 xs rows → Ex H H1 → RV r x (.ref p) H1 z) : Ev (tOp r ta tb) σ H z := fun H1 e Q q =>
  ha H1 e _ fun H2 e2 => hb H2 (e.trans e2) _ fun p xs H3 np e3 hp pr => hr p xs H3 hp pr ((e.trans e2).trans e3) H3 (Ex.refl H3) Q fun H4 e4 => q H4 ((e2.trans e3).trans e4)
theorem inV_int (x : Int) : ∀ ns : List Int, inV (.int x) (ns.map V.int) = decide (x ∈ ns)
  | [] => rfl
  | n :: ns => by
    have ih := inV_int x ns
    show ((n == x) || inV (.int x) (ns.map V.int)) = _
    rw [ih, Bool.eq_iff_iff, Bool.or_eq_true, beq_iff_eq, decide_eq_true_iff, decide_eq_true_iff, List.mem_cons]
    constructor
    · rintro (h | h)
      · exact .inl h.symm
      · exact .inr h
    · rintro (h | h)
      · exact .inl h.symm
      · exact .inr h
theorem flat_ints : ∀ ns : List Int, (ns.map V.int).all flatV = true
  | [] => rfl
  | n :: ns => by
    rw [List.map_cons, List.all_cons, flat_ints ns]
    rfl
theorem ev_notIn {a : Addr} {x : Int} {ns : List Int} (ha : Ev ta σ H (.int x)) (hb : Ev tb σ H (.ref a)) (hl : SqL K H a (ns.map V.int)) : Ev (tOp (rIn K true) ta tb) σ H (.bl (!decide (x ∈ ns))) := by
  have := rv_niL (K := K) (x := .int x) hl rfl (flat_ints ns)
  rw [inV_int] at this
  exact ev_op ha hb this
/-- sorted(xs), ints -/
theorem el_sorted {a : Addr} {ns ms : List Int} (ha : Ev ta σ H (.ref a)) (hl : SqL K H a (ns.map V.int)) (hu : ∀ ns' : List Int, ns'.Perm ns → ns'.Pairwise (· ≤ ·) → ns' = ms) : EvL (tCB (rSortedI K) (tCons ta tNil)) σ H (ms.map V.int) := fun H1 e Q q =>
  ha H1 e _ fun H2 e2 => ⟨a, ns, rfl, ex_l (e.trans e2) hl, fun ns' p hp hs np => by
    rw [hu ns' hp hs]
    exact q p _ (fresh_back e2 np) (e2.trans (Ex.new np)) upd_same⟩
/-- list(t), t a tuple -/
theorem el_listT {p : Addr} {xs : List V} (ha : Ev ta σ H (.ref p)) (h : SqT K H p xs) : EvL (tCB (rListS K) (tCons ta tNil)) σ H xs := fun H1 e Q q =>
  ha H1 e _ fun H2 e2 => ⟨p, xs, rfl, Or.inr (ex_t (e.trans e2) h), fun l hl => q l _ (fresh_back e2 hl) (e2.trans (Ex.new hl)) upd_same⟩
theorem ev_int1b {b : Bool} (ha : Ev ta σ H (.bl b)) : Ev (tCB (fun xs H Q => (∃ i, xs = [.int i] ∧ Q (.int i) H) ∨ ∃ k, xs = [.bl k] ∧ Q (.int (if k then 1 else 0)) H) (tCons ta tNil)) σ H (.int (if b then 1 else 0)) := fun H1 e Q q =>
  ha H1 e _ fun H2 e2 => .inr ⟨b, rfl, q H2 e2⟩
theorem ev_isqrt {n : Nat} (ha : Ev ta σ H (.int (n : Nat))) (hn : n < 2 ^ 64) : Ev (tCB rIsqrt (tCons ta tNil)) σ H (.int ((Float64.isqrt n : Nat) : Int)) := fun H1 e Q q =>
  ha H1 e _ fun H2 e2 => ⟨(n : Nat), rfl, by omega, by omega, by rw [Int.toNat_natCast]; exact q H2 e2⟩
theorem tx_sqt {p : Addr} {xs : List V} (h : SqT K H p xs) : ∀ H1, Ex H H1 → TyX K H1 (.ref p) (.type "tuple") := fun H1 e => by
  rcases ex_t e h with (h | ⟨o, h⟩) | h
  · exact .base (.tup h)
  · exact .fTuple h
  · obtain ⟨o, its, n, h1, h2, _⟩ := h
    exact .kTuple h1 h2
end
end Kp

/-! Polynomials as lists: the number of each power, noughts cut off at the end, products, other powers of x, values. -/
namespace Kp
/-- the number of the m-th power -/
def coef (l : List Int) (m : Nat) : Int := l.getD m 0
theorem coef_lt {l : List Int} {m : Nat} (h : m < l.length) : coef l m = l[m] := by
  unfold coef
  rw [List.getD_eq_getElem?_getD, List.getElem?_eq_getElem h]
  rfl
theorem coef_ge {l : List Int} {m : Nat} (h : l.length ≤ m) : coef l m = 0 := by
  unfold coef
  rw [List.getD_eq_getElem?_getD, List.getElem?_eq_none h]
  rfl
theorem coef_get {l : List Int} {m : Nat} (h : m < l.length) : l[m]? = some (coef l m) := by
  rw [coef_lt h, List.getElem?_eq_getElem h]
theorem coef_of {l : List Int} {m : Nat} {x : Int} (h : l[m]? = some x) : coef l m = x := by
  unfold coef
  rw [List.getD_eq_getElem?_getD, h]
  rfl
theorem coef_nil (m : Nat) : coef [] m = 0 := coef_ge (Nat.zero_le _)
theorem ext_of {a b : List Int} (hl : a.length = b.length) (h : ∀ m, m < a.length → coef a m = coef b m) : a = b := by
  refine List.ext_getElem hl fun i h1 h2 => ?_
  have := h i h1
  rwa [coef_lt h1, coef_lt h2] at this
theorem coef_set {l : List Int} {j m : Nat} {x : Int} (hj : j < l.length) : coef (l.set j x) m = if m = j then x else coef l m := by
  unfold coef
  rw [List.getD_eq_getElem?_getD, List.getD_eq_getElem?_getD, List.getElem?_set]
  by_cases e : j = m
  · subst e
    rw [if_pos rfl, if_pos hj, if_pos rfl]
    rfl
  · rw [if_neg e, if_neg (fun q => e q.symm)]
theorem coef_app {a b : List Int} {m : Nat} : coef (a ++ b) m = if m < a.length then coef a m else coef b (m - a.length) := by
  unfold coef
  rw [List.getD_eq_getElem?_getD, List.getElem?_append]
  split <;> rw [List.getD_eq_getElem?_getD]
theorem coef_rep {n m : Nat} : coef (List.replicate n 0) m = 0 := by
  by_cases h : m < n
  · rw [coef_lt (by rw [List.length_replicate]; exact h), List.getElem_replicate]
  · exact coef_ge (by rw [List.length_replicate]; omega)
theorem coef_take {l : List Int} {n m : Nat} : coef (l.take n) m = if m < n then coef l m else 0 := by
  unfold coef
  rw [List.getD_eq_getElem?_getD, List.getElem?_take]
  split
  · rw [List.getD_eq_getElem?_getD]
  · rfl
def mkL (n : Nat) (h : Nat → Int) : List Int := (List.range n).map h
theorem mkL_len (n : Nat) (h : Nat → Int) : (mkL n h).length = n := by
  unfold mkL
  rw [List.length_map, List.length_range]
theorem coef_mkL {n m : Nat} {h : Nat → Int} : coef (mkL n h) m = if m < n then h m else 0 := by
  split
  · rename_i q
    rw [coef_lt (by rw [mkL_len]; exact q)]
    unfold mkL
    rw [List.getElem_map, List.getElem_range]
  · rename_i q
    exact coef_ge (by rw [mkL_len]; omega)
theorem mkL_of {l : List Int} {n : Nat} {h : Nat → Int} (hl : l.length = n) (e : ∀ m, m < n → coef l m = h m) : l = mkL n h := by
  refine ext_of (by rw [mkL_len, hl]) fun m hm => ?_
  rw [hl] at hm
  rw [e m hm, coef_mkL, if_pos hm]

/-! ### without a nought at the end -/
def Tr (l : List Int) : Prop := l ≠ [] → coef l (l.length - 1) ≠ 0
theorem Tr.nil : Tr [] := fun h => absurd rfl h
theorem tr_uniq {a b : List Int} (ha : Tr a) (hb : Tr b) (h : ∀ m, coef a m = coef b m) : a = b := by
  have key : ∀ {a b : List Int}, Tr b → (∀ m, coef a m = coef b m) → ¬ a.length < b.length := fun {a b} hb h q => by
    refine hb (fun e => by rw [e] at q; exact absurd q (Nat.not_lt_zero _)) ?_
    rw [← h]
    exact coef_ge (by omega)
  have h1 := key hb h
  have h2 := key ha (fun m => (h m).symm)
  exact ext_of (by omega) fun m _ => h m
/-- how many of the first n numbers stay -/
def tlen (l : List Int) : Nat → Nat
  | 0 => 0
  | n + 1 => if coef l n = 0 then tlen l n else n + 1
def trim (l : List Int) : List Int := l.take (tlen l l.length)
theorem tlen_le (l : List Int) : ∀ n, tlen l n ≤ n
  | 0 => Nat.le_refl _
  | n + 1 => by
    unfold tlen
    have := tlen_le l n
    split <;> omega
theorem tlen_zero (l : List Int) : ∀ n m, tlen l n ≤ m → m < n → coef l m = 0
  | 0, m, _, h => absurd h (Nat.not_lt_zero _)
  | n + 1, m, h1, h2 => by
    unfold tlen at h1
    split at h1
    · rename_i q
      by_cases e : m = n
      · rw [e]; exact q
      · exact tlen_zero l n m h1 (by omega)
    · omega
theorem tlen_last (l : List Int) : ∀ n, tlen l n ≠ 0 → coef l (tlen l n - 1) ≠ 0
  | 0, h => absurd rfl h
  | n + 1, h => by
    unfold tlen at h ⊢
    split
    · rename_i q
      rw [if_pos q] at h
      exact tlen_last l n h
    · rename_i q
      rw [Nat.add_sub_cancel]
      exact q
theorem trim_len (l : List Int) : (trim l).length = tlen l l.length := by
  unfold trim
  rw [List.length_take]
  have := tlen_le l l.length
  omega
theorem coef_trim (l : List Int) (m : Nat) : coef (trim l) m = coef l m := by
  unfold trim
  rw [coef_take]
  split
  · rfl
  · rename_i h
    by_cases q : m < l.length
    · exact (tlen_zero l _ m (by omega) q).symm
    · exact (coef_ge (by omega)).symm
theorem tr_trim (l : List Int) : Tr (trim l) := fun h => by
  have e := trim_len l
  have n0 : tlen l l.length ≠ 0 := fun q => h (List.eq_nil_of_length_eq_zero (by omega))
  rw [coef_trim, e]
  exact tlen_last l _ n0
theorem trim_of_tr {l : List Int} (h : Tr l) : trim l = l := tr_uniq (tr_trim l) h (coef_trim l)
theorem trim_ext {a b : List Int} (h : ∀ m, coef a m = coef b m) : trim a = trim b := tr_uniq (tr_trim a) (tr_trim b) fun m => by rw [coef_trim, coef_trim, h]
theorem trim_eq {a b : List Int} (hb : Tr b) (h : ∀ m, coef a m = coef b m) : trim a = b := tr_uniq (tr_trim a) hb fun m => by rw [coef_trim, h]

/-! ### sums -/
def addL (c : Int) (f g : List Int) : List Int := mkL (max f.length g.length) fun m => coef f m + c * coef g m
theorem coef_addL (c : Int) (f g : List Int) (m : Nat) : coef (addL c f g) m = coef f m + c * coef g m := by
  unfold addL
  rw [coef_mkL]
  split
  · rfl
  · rename_i h
    rw [coef_ge (show f.length ≤ m by omega), coef_ge (show g.length ≤ m by omega)]
    simp
def addP (c : Int) (f g : List Int) : List Int := trim (addL c f g)
theorem coef_addP (c : Int) (f g : List Int) (m : Nat) : coef (addP c f g) m = coef f m + c * coef g m := by
  unfold addP
  rw [coef_trim, coef_addL]
theorem coef_neg (g : List Int) (m : Nat) : coef (g.map fun x => -x) m = -coef g m := by
  by_cases h : m < g.length
  · rw [coef_lt (by rw [List.length_map]; exact h), coef_lt h, List.getElem_map]
  · rw [coef_ge (by rw [List.length_map]; omega), coef_ge (by omega)]
    rfl
theorem addP_neg (f g : List Int) : addP 1 f (g.map fun x => -x) = addP (0 - 1) f g := trim_ext fun m => by
  rw [coef_addL, coef_addL, coef_neg]
  omega

/-! ### products -/
/-- the number of the m-th power in the product of the first i numbers of f, and g -/
def cv (f g : List Int) : Nat → Nat → Int
  | 0, _ => 0
  | i + 1, m => cv f g i m + if i ≤ m then coef f i * coef g (m - i) else 0
theorem cv_far (f g : List Int) (m : Nat) : ∀ i, i + g.length ≤ m + 1 → cv f g i m = 0
  | 0, _ => rfl
  | i + 1, h => by
    unfold cv
    rw [cv_far f g m i (by omega), if_pos (by omega), coef_ge (show g.length ≤ m - i by omega)]
    simp
theorem cv_last {f g : List Int} (hf : f ≠ []) (hg : g ≠ []) : cv f g f.length (f.length + g.length - 2) = coef f (f.length - 1) * coef g (g.length - 1) := by
  have l1 := List.length_pos_iff.mpr hf
  have l2 := List.length_pos_iff.mpr hg
  obtain ⟨n, e⟩ : ∃ n, f.length = n + 1 := ⟨f.length - 1, by omega⟩
  rw [e]
  unfold cv
  rw [cv_far f g _ n (by omega), if_pos (by omega), Nat.add_sub_cancel, show n + 1 + g.length - 2 - n = g.length - 1 by omega]
  simp
/-- as the program multiplies, as the law does -/
def mulP (f g : List Int) : List Int := if f = [] ∨ g = [] then [] else mkL (f.length + g.length - 1) (cv f g f.length)
def mulL (f g : List Int) : List Int := trim (mkL (f.length + g.length) (cv f g f.length))
theorem coef_mulP (f g : List Int) (m : Nat) : coef (mulP f g) m = cv f g f.length m := by
  unfold mulP
  split
  · rename_i h
    rw [coef_nil]
    rcases h with h | h
    · rw [h]
      rfl
    · subst h
      symm
      have : ∀ i, cv f [] i m = 0 := fun i => by
        induction i with
        | zero => rfl
        | succ i ih =>
          unfold cv
          rw [ih, coef_nil]
          simp
      exact this _
  · rename_i h
    rw [coef_mkL]
    split
    · rfl
    · rename_i q
      exact (cv_far f g m _ (by omega)).symm
theorem coef_mulL (f g : List Int) (m : Nat) : coef (mulL f g) m = cv f g f.length m := by
  unfold mulL
  rw [coef_trim, coef_mkL]
  split
  · rfl
  · rename_i q
    exact (cv_far f g m _ (by omega)).symm
theorem tr_mulP {f g : List Int} (hf : Tr f) (hg : Tr g) : Tr (mulP f g) := by
  intro h
  unfold mulP at h ⊢
  split
  · rename_i q
    rw [if_pos q] at h
    exact absurd rfl h
  · rename_i q
    have q1 : f ≠ [] := fun e => q (.inl e)
    have q2 : g ≠ [] := fun e => q (.inr e)
    have l1 := List.length_pos_iff.mpr q1
    have l2 := List.length_pos_iff.mpr q2
    rw [mkL_len, coef_mkL, if_pos (by omega), show f.length + g.length - 1 - 1 = f.length + g.length - 2 by omega, cv_last q1 q2]
    exact Int.mul_ne_zero (hf q1) (hg q2)
theorem mul_eq {f g : List Int} (hf : Tr f) (hg : Tr g) : mulL f g = mulP f g := by
  unfold mulL
  refine trim_eq (tr_mulP hf hg) fun m => ?_
  rw [coef_mulP, ← coef_mulL]
  unfold mulL
  rw [coef_trim]

/-! ### at a power -/
def pw (f : List Int) (k m : Nat) : Int := if m % k = 0 then coef f (m / k) else 0
def atP (f : List Int) (k : Nat) : List Int := if f = [] then [] else mkL ((f.length - 1) * k + 1) (pw f k)
def wideL (k : Nat) : List Int → List Int
  | [] => []
  | x :: f => x :: List.replicate (k - 1) 0 ++ wideL k f
theorem pw_far {f : List Int} {k m : Nat} (hk : 1 ≤ k) (h : (f.length - 1) * k < m) : pw f k m = 0 := by
  unfold pw
  split
  · rename_i q
    refine coef_ge (Nat.le_of_not_lt fun r => ?_)
    have e := Nat.div_add_mod m k
    rw [q, Nat.add_zero] at e
    have : k * (m / k) ≤ k * (f.length - 1) := Nat.mul_le_mul_left k (by omega)
    rw [e, Nat.mul_comm] at this
    omega
  · rfl
theorem coef_atP {f : List Int} {k : Nat} (hk : 1 ≤ k) (m : Nat) : coef (atP f k) m = pw f k m := by
  unfold atP
  split
  · rename_i h
    subst h
    rw [coef_nil]
    unfold pw
    rw [coef_nil]
    split <;> rfl
  · rw [coef_mkL]
    split
    · rfl
    · exact (pw_far hk (by omega)).symm
theorem tr_atP {f : List Int} {k : Nat} (hk : 1 ≤ k) (hf : Tr f) : Tr (atP f k) := by
  intro h
  unfold atP at h ⊢
  split
  · rename_i q
    rw [if_pos q] at h
    exact absurd rfl h
  · rename_i q
    rw [mkL_len, Nat.add_sub_cancel, coef_mkL, if_pos (by omega)]
    unfold pw
    rw [Nat.mul_mod_left, if_pos rfl, Nat.mul_div_cancel _ (by omega)]
    exact hf q
theorem coef_wide {k : Nat} (hk : 1 ≤ k) : ∀ (f : List Int) (m : Nat), coef (wideL k f) m = pw f k m
  | [], m => by
    unfold pw
    rw [coef_nil]
    show coef [] m = _
    rw [coef_nil]
    split <;> rfl
  | x :: f, m => by
    have hl : (x :: List.replicate (k - 1) (0 : Int)).length = k := by
      rw [List.length_cons, List.length_replicate]
      omega
    show coef ((x :: List.replicate (k - 1) 0) ++ wideL k f) m = _
    rw [coef_app, hl]
    split
    · rename_i h
      unfold pw
      cases m with
      | zero =>
        rw [Nat.zero_mod, if_pos rfl, Nat.zero_div]
        rfl
      | succ m =>
        rw [Nat.mod_eq_of_lt h, if_neg (by omega)]
        show coef (List.replicate (k - 1) 0) m = 0
        exact coef_rep
    · rename_i h
      rw [coef_wide hk f (m - k)]
      unfold pw
      obtain ⟨d, rfl⟩ : ∃ d, m = k + d := ⟨m - k, by omega⟩
      rw [Nat.add_sub_cancel_left, Nat.add_mod_left, Nat.add_div_left _ (by omega)]
      rfl
theorem wide_eq {f : List Int} {k : Nat} (hk : 1 ≤ k) (hf : Tr f) : trim (wideL k f) = atP f k := trim_eq (tr_atP hk hf) fun m => by rw [coef_wide hk, coef_atP hk]
theorem wide_snoc (k : Nat) : ∀ (f : List Int) (x : Int), wideL k (f ++ [x]) = wideL k f ++ (x :: List.replicate (k - 1) 0)
  | [], x => by
    show x :: List.replicate (k - 1) 0 ++ [] = [] ++ _
    rw [List.append_nil, List.nil_append]
  | y :: f, x => by
    show y :: List.replicate (k - 1) 0 ++ wideL k (f ++ [x]) = (y :: List.replicate (k - 1) 0 ++ wideL k f) ++ _
    rw [wide_snoc k f x, List.append_assoc]
theorem wide_len {k : Nat} (hk : 1 ≤ k) : ∀ f : List Int, (wideL k f).length = f.length * k
  | [] => by
    show 0 = 0 * k
    omega
  | x :: f => by
    show (x :: List.replicate (k - 1) 0 ++ wideL k f).length = (f.length + 1) * k
    rw [List.length_append, List.length_cons, List.length_replicate, wide_len hk f, Nat.add_mul]
    omega

/-! ### values -/
def valP (x : Int) : List Int → Int
  | [] => 0
  | a :: f => a + x * valP x f
theorem val_drop {x : Int} {f : List Int} {i : Nat} {a : Int} (h : f[i]? = some a) : valP x (f.drop i) = a + x * valP x (f.drop (i + 1)) := by
  have hi := (List.getElem?_eq_some_iff.mp h).1
  rw [List.drop_eq_getElem_cons hi]
  have e : f[i] = a := (List.getElem?_eq_some_iff.mp h).2
  rw [e]
  rfl
end Kp

/-! An error of the text's own that an except suite keeps by a name, to be asked of behind the try. -/
namespace Kp
open PySem PySem.Spec PyProof.Rows L2 Evl

/-- at a stands an error of the class cls that has no dict of its own -/
def ExV (cls : Value) (a : Addr) : HO := .ext fun h => ∃ (o : Obj) (fs : Array Value), h.get? a = some o ∧ o.cls = cls ∧ o.dict = none ∧ o.data = .fields fs
section
variable {X : Cx} {pins : List (Addr × Obj)} {σ : L2.St} {H : Hp} {s : Shared}
/-- an object of ours that was pinned and not tracked is tracked from here on -/
theorem track {a : Addr} {o : Obj} {fs : Array Value} {cls : Value} (I : Inv X ((a, o) :: pins) σ H s) (n0 : X.s_0.heap.get? a = none) (nP : ∀ p ∈ X.pn ++ pins, p.1 ≠ a) (h1 : o.cls = cls) (h2 : o.dict = none) (h3 : o.data = .fields fs) :
    Inv X pins σ (upd H a (ExV cls a)) s := by
  obtain ⟨pa, pn, pl, pf, pc⟩ := I.pin (a, o) (List.mem_append_right _ (List.mem_cons_self ..))
  have old : ∀ {b : Addr} {u : Obj}, X.s_0.heap.get? b = some u → b ≠ a := fun {b u} e z => by
    subst z
    rw [n0] at e
    cases e
  have tr : ∀ {b : Addr} {u : HO}, H b = some u → b ≠ a := fun {b u} e => ne_of_none e pn
  exact {
    ok := I.ok
    os := I.os
    bare := I.bare
    base := {
      keep := I.base.keep
      slot := I.base.slot
      free := fun b u e n x => (upd_ne (old e)).trans (I.base.free b u e n x)
      there := I.base.there
      tups := fun b xs e => (upd_ne (tr (I.base.tups b xs e))).trans (I.base.tups b xs e)
      frzs := fun b u xs e => (upd_ne (tr (I.base.frzs b u xs e))).trans (I.base.frzs b u xs e)
      tbls := fun b ps e => by
        obtain ⟨m, q⟩ := I.base.tbls b ps e
        exact ⟨m, (upd_ne (tr q)).trans q⟩ }
    loc := I.loc
    cell := I.cell
    free := (upd_ne (Ne.symm pl)).trans I.free
    freeC := fun y c e => by
      have nc : c ≠ a := fun z => by
        obtain ⟨v, ⟨u, hu, du⟩⟩ := I.cell y c e
        rw [z] at hu
        have q : some u = some o := hu.symm.trans pa
        cases q
        exact pc _ du
      exact (upd_ne nc).trans (I.freeC y c e)
    pin := fun p hp => by
      have q := I.pin p (by
        rcases List.mem_append.mp hp with z | z
        · exact List.mem_append_left _ z
        · exact List.mem_append_right _ (List.mem_cons_of_mem _ z))
      exact ⟨q.1, (upd_ne (nP p hp)).trans q.2.1, q.2.2⟩
    hok := I.hok.laidN (fun _ _ e => e) pn ⟨⟨o, fs, pa, h1, h2, h3⟩, ⟨o, pa⟩, fun g g' ⟨u, us, q, r⟩ k => ⟨u, us, k u q, r⟩⟩
    len := I.len }
end

/-- what is wished of an error of the body where the suite is «y = n»: slot i is n's, slot j is y's; the clause always meets -/
def wKeep (K : PySem.W.Frag) (c : Value) (i j : Nat) (D : Ends) : WX := fun cls d σ H => PySem.W.exmOne K cls c = some true ∧ d = none ∧
  ∀ a, H a = none → D.nx (((σ.set i (some (.ref a))).set j (some (.ref a))).set i none) (upd H a (ExV cls a))
section
variable {X : Cx} {x n : Str} {c : Value} {i j : Nat} {body : List Stmt} {st : Stmt} {np pos pos' : Pos} {tb : WX → TS}
theorem keep_caught {pins : List (Addr × Obj)} {D : Ends} {u : Value} {s' : Shared} {xe : Value → Shared → Prop} (ok : X.Ok) (hs : X.stack = X.env :: X.outer) (hf : X.env.frame = some X.env.locals) (hex : X.ex = []) (hN : X.N.Nodup) (hi : X.N[i]? = some n) (hln : X.env.kindOf n = some .local) (hc : Names X x c)
    (hsu : ∀ (a : Addr) (o : Obj) (pn : List (Addr × Obj)), PSs (X.suite a ((a, o) :: pn)) [st] (tAsg (tVar i) (gName j))) (hij : i < X.N.length)
    (xx : XE (X.tr (X.pn ++ pins) xe) (wKeep X.K c i j D) u s') :
    wpAny (model X.prog X.w) X.A (noteFrame u X.env) (fun _ s₂ => wpAny (model X.prog X.w) X.A (setFlight u none) (fun _ s₃ => wpAny (model X.prog X.w) X.A (handleBy u X.env [.ExceptHandler (some (.Name x np)) (some n) [st] pos']) (SP X pins D) X.xe s₃) X.xe s₂) X.xe s' := by
  obtain ⟨a, B, sI, pins', σ', H', cls, d, rfl, JJ, nb, up, sky, na, os, ag, meets, rfl, wish⟩ := xx
  have J : Inv X pins σ' H' sI := Inv.ofTry JJ ok
  have frames : X.A.frames = some (X.env :: X.outer) := ok.frames.trans (congrArg some hs)
  have ground : B.get? a = none := by
    rcases sky with q | q | q
    · exact q.2.1
    · exact q.2.1
    · exact q.2.1
  have sky2 : Sky B (X.env :: X.outer) a (Zc cls none) X.env.locals s'.heap := hs ▸ sky
  refine Sky.land Zc.steady frames hf sky2 fun g fl upg => ?_
  -- the error is no frame's object
  obtain ⟨o, fs, ho, hz, hd⟩ := fl.there
  have noFrame : a ∉ frs (X.env :: X.outer) := fun m => by
    obtain ⟨_, o2, e2, no⟩ := fl.2.2.1.mem m
    have q := Option.some.inj (e2.symm.trans ho)
    exact no fs (q ▸ hd)
  have nL : a ≠ X.env.locals := fun z => noFrame (List.mem_filterMap.mpr ⟨X.env, List.mem_cons_self .., by rw [hf, z]⟩)
  have nF : a ∉ X.fs := fun m => by
    obtain ⟨e, he, q⟩ := List.mem_filterMap.mp m
    exact noFrame (List.mem_filterMap.mpr ⟨e, List.mem_cons_of_mem _ he, q⟩)
  have newI : sI.heap.get? a = none := by
    cases q : sI.heap.get? a with
    | none => rfl
    | some w =>
      have z := nb a w q (by
        show a ∉ frs X.stack
        rw [hs]
        exact noFrame)
      rw [ground] at z
      cases z
  have new0 : X.s_0.heap.get? a = none := by
    cases q : X.s_0.heap.get? a with
    | none => rfl
    | some w =>
      obtain ⟨w2, q2⟩ := J.base.there a w q (by
        rw [hex]
        exact fun z => nomatch z)
      rw [newI] at q2
      cases q2
  have newP : ∀ p ∈ X.pn ++ pins, p.1 ≠ a := fun p hp z => by
    have q := (J.pin p hp).1
    rw [z, newI] at q
    cases q
  have JG : Inv X pins σ' H' { s' with heap := g } := J.landed nb fl.1 (up.trans upg) os ag
  have SG := JG.suite ho hd na nL nF
  -- the clause's class is asked
  refine wpAny_handleBy_cons (codeAny_handlers_test ?_) (fun z => nomatch z)
  have kind : PySem.W.Looks (model X.prog X.w) g (typeOf (.ref a)) cls := fun A Q E t k q => wpAny_typeOf_ref (k _ _ ho) (by
    rw [hz.1]
    exact q)
  have ask := PySem.W.exm_one (M := model X.prog X.w) JG.kIn kind meets
  have named : ∀ {Q E : Value → Shared → Prop}, Q c { s' with heap := g } → wpAny (model X.prog X.w) (X.A.mark (some (.ref a))) (eval (.Name x np) X.env) Q E { s' with heap := g } := fun {Q E} q => by
    obtain ⟨g1, g2, g3⟩ := hc
    rcases g3 with m | ⟨m1, m2, m3⟩
    · exact ld_glob (X := X.suite a ((a, o) :: (X.pn ++ pins))) SG g1 m q g2
    · exact ld_blt (X := X.suite a ((a, o) :: (X.pn ++ pins))) SG g1 m1 m2 q m3 g2
  refine named (ask.here ?_)
  -- the suite
  refine codeAny_handlers_suite_as (HandSPX.lands_againZ fl fun g2 fl2 up2 => ?_)
  have J2 : Inv X pins σ' H' { s' with heap := g2 } := J.landed nb fl2.1 ((up.trans upg).trans up2) os ag
  obtain ⟨o2, fs2, ho2, hz2, hd2⟩ := fl2.there
  have S2 := J2.suite ho2 hd2 na nL nF
  refine store_ok (X := X.suite a ((a, o2) :: (X.pn ++ pins))) (v := .ref a) S2 hN hi (.inl hln) rfl (fun s5 S5 => ?_) (.inr hln)
  have len : i < σ'.length := by
    rw [J.len]
    exact hij
  have reads : tAsg (tVar i) (gName j) { nx := fun σ2 H2 => σ2 = (σ'.set i (some (.ref a))).set j (some (.ref a)) ∧ H2 = H', rt := fun _ _ => False } (σ'.set i (some (.ref a))) H' :=
    ⟨.ref a, List.getElem?_set_self len, rfl, rfl⟩
  refine wpAny_mono ((hsu a o2 (X.pn ++ pins)).run [] s5 _ H' _ S5 reads) (fun f s6 q => ?_) (fun _ _ z => z.elim)
  cases f with
  | next =>
    obtain ⟨σ6, H6, S6, rfl, rfl⟩ := q
    obtain ⟨t1, t2, t3, t4, t5⟩ := S6.pin (a, o2) (List.mem_append_left _ (List.mem_cons_self ..))
    have U6 : Inv X pins _ _ s6 := S6.unsuite ok
    have P6 : Inv X ((a, o2) :: pins) _ _ s6 := U6.pins_of fun p hp => by
      rcases List.mem_cons.mp hp with rfl | m
      · exact ⟨t1, t2, t3, t4, t5⟩
      · exact U6.pin p (List.mem_append_right _ m)
    exact gone_ok P6 hN hi hln fun s7 J7 => ⟨_, _, track J7 new0 newP hz2.1 hz2.2 hd2, wish a na⟩
  | brk =>
    obtain ⟨_, _, _, z⟩ := q
    exact z.elim
  | cont =>
    obtain ⟨_, _, _, z⟩ := q
    exact z.elim
  | ret v =>
    obtain ⟨_, _, _, _, _, z⟩ := q
    exact z.elim
theorem ps_try_keep (hs : X.stack = X.env :: X.outer) (hf : X.env.frame = some X.env.locals) (hex : X.ex = []) (hN : X.N.Nodup) (hi : X.N[i]? = some n) (hln : X.env.kindOf n = some .local) (hc : Names X x c) (hij : i < X.N.length)
    (hb : ∀ (W : WX) (pn : List (Addr × Obj)) (xe : Value → Shared → Prop), Takes (X.tr pn xe) W → PassesOwn (model X.prog X.w) X.A X.env xe → PSs (X.tr pn xe) body (tb W))
    (hsu : ∀ (a : Addr) (o : Obj) (pn : List (Addr × Obj)), PSs (X.suite a ((a, o) :: pn)) [st] (tAsg (tVar i) (gName j))) :
    PS X (.Try body [.ExceptHandler (some (.Name x np)) (some n) [st] pos'] [] [] pos) (fun D σ H => tb (wKeep X.K c i j D) D σ H) := by
  refine ⟨fun pins s σ H D I h => wpAny_Try_except ?_⟩
  have ok := I.ok
  have run := (hb (wKeep X.K c i j D) (X.pn ++ pins) _ (fun u s' xx => keep_caught (np := np) (pos' := pos') ok hs hf hex hN hi hln hc hsu hij xx) PassesOwn.looking).run [] s σ H D (I.toTry _) h
  refine wpAny_mono run (fun f s1 q => ?_) (fun _ _ z => z)
  cases f with
  | next =>
    obtain ⟨σ1, H1, J, z⟩ := q
    exact wpAny_execs_nil ⟨σ1, H1, J.ofTry ok, z⟩
  | brk =>
    obtain ⟨σ1, H1, J, z⟩ := q
    exact ⟨σ1, H1, J.ofTry ok, z⟩
  | cont =>
    obtain ⟨σ1, H1, J, z⟩ := q
    exact ⟨σ1, H1, J.ofTry ok, z⟩
  | ret v =>
    obtain ⟨v1, σ1, H1, J, r, z⟩ := q
    exact ⟨v1, σ1, H1, J.ofTry ok, r, z⟩
end

/-! ### isinstance of such an error -/
section
variable {X : Cx}
/-- isinstance(e, c); isinstance(e, (c1, c2, ..)) -/
def rIsX (K : PySem.W.Frag) (C : Addr) : List V → Hp → VK → Prop := fun xs H Q => ∃ (a : Addr) (c : V) (u : Value) (b : Bool), xs = [.ref a, c] ∧ H a = some (ExV (.ref C) a) ∧ ClsV c u ∧ PySem.W.kitOne K (.ref C) u = some b ∧ Q (.bl b) H
def rIsXT (K : PySem.W.Frag) (C : Addr) : List V → Hp → VK → Prop := fun xs H Q => ∃ (a tp : Addr) (cs : List V) (us : List Value) (b : Bool), xs = [.ref a, .ref tp] ∧ H a = some (ExV (.ref C) a) ∧ H tp = some (.tup cs) ∧ Paired ClsV cs us ∧ PySem.W.kitAny K (.ref C) us = some b ∧ Q (.bl b) H
theorem inst_of {pins : List (Addr × Obj)} {σ : L2.St} {H : Hp} {s : Shared} {a C : Addr} (I : Inv X pins σ H s) (h : H a = some (ExV (.ref C) a)) : ∃ o, PySem.W.InstAt s.heap a o C none := by
  obtain ⟨⟨o, fs, h1, h2, h3, h4⟩, _⟩ := I.hok a _ h
  obtain ⟨oc, od, dt, sl⟩ := o
  dsimp only at h2 h3 h4
  subst h2 h3 h4
  exact ⟨_, h1, rfl, rfl, trivial⟩
theorem call_isX {C : Addr} (T : ExcC X.K C) : CallR X (.builtin "isinstance") (rIsX X.K C) := by
  intro pins s σ H xs us Q I r h
  obtain ⟨a, c, u, b, rfl, ha, k, e, q⟩ := h
  obtain ⟨u1, u2, rfl, r1, r2⟩ := vals2 r
  obtain rfl := k.eq r2
  cases (show u1 = Value.ref a from r1)
  obtain ⟨o, J⟩ := inst_of I ha
  exact PySem.W.kia_one (PySem.W.handS_kitx_exc T.hg T.hk T.hs T.hd T.ha T.hn T.ht T.hm) I.kIn J e (fun z => nomatch z) fun tk => ⟨.bl b, H, I.tok tk, rfl, q⟩
theorem call_isXT {C : Addr} (T : ExcC X.K C) : CallR X (.builtin "isinstance") (rIsXT X.K C) := by
  intro pins s σ H xs us Q I r h
  obtain ⟨a, tp, cs, ws, b, rfl, ha, hT, k, e, q⟩ := h
  obtain ⟨u1, u2, rfl, r1, r2⟩ := vals2 r
  cases (show u1 = Value.ref a from r1)
  cases (show u2 = Value.ref tp from r2)
  obtain ⟨o, J⟩ := inst_of I ha
  obtain ⟨_, its, rv, ot, h1, h2, n, h3⟩ := I.hok tp _ hT
  obtain rfl := ClsV.all k rv
  obtain ⟨oc, od, dt, sl⟩ := ot
  dsimp only at h2 h3
  subst h2 h3
  exact PySem.W.kia_tup (PySem.W.handS_kitx_exc T.hg T.hk T.hs T.hd T.ha T.hn T.ht T.hm) I.kIn J h1 e (fun z => nomatch z) fun tk => ⟨.bl b, H, I.tok tk, rfl, q⟩
variable {K : PySem.W.Frag} {σ : L2.St} {H : Hp} {ta tb : TE} {C a : Addr}
theorem ev_isX {c : V} {u : Value} {b : Bool} (ha : Ev ta σ H (.ref a)) (hb : Ev tb σ H c) (h : H a = some (ExV (.ref C) a)) (k : ClsV c u) (e : PySem.W.kitOne K (.ref C) u = some b) : Ev (tCB (rIsX K C) (tCons ta (tCons tb tNil))) σ H (.bl b) := fun H1 e1 Q q =>
  ha H1 e1 _ fun H2 e2 => hb H2 (e1.trans e2) _ fun H3 e3 => ⟨a, c, u, b, rfl, (e1.trans (e2.trans e3)) _ _ h, k, e, q H3 (e2.trans e3)⟩
theorem ev_isXT {cs : List V} {us : List Value} {b : Bool} (ha : Ev ta σ H (.ref a)) (hb : EvU tb σ H cs) (h : H a = some (ExV (.ref C) a)) (k : Paired ClsV cs us) (e : PySem.W.kitAny K (.ref C) us = some b) : Ev (tCB (rIsXT K C) (tCons ta (tCons tb tNil))) σ H (.bl b) := fun H1 e1 Q q =>
  ha H1 e1 _ fun H2 e2 => hb H2 (e1.trans e2) _ fun p H3 np e3 hp => ⟨a, p, cs, us, b, rfl, (e1.trans (e2.trans e3)) _ _ h, hp, k, e, q H3 (e2.trans e3)⟩
end
end Kp

/-! Defs that raise; calls to them in a try; more of lists; one polynomial parted by another. -/
namespace Kp
open PySem PySem.Spec PyProof.Rows L2 Evl
/-- the class C, by the name x, straight under WheelError -/
structure OwnX (K : PySem.W.Frag) (mg : Str → Option Value) (x : Str) (C : Addr) : Prop where
  g : mg x = some (.ref C)
  kp : PySem.W.keepIn K (.ref C) = true
  xi : PySem.W.excIn K C [.type "ValueError", .type "Exception", .type "BaseException", .type "object"] "ValueError.__new__" = true
  ty : PySem.W.typeIn K (.ref C) = some (.type "type")
  e : ExcC K C
section
variable {P : Program} {w : World} {K : PySem.W.Frag} {mg : Str → Option Value} {base : Heap} {x : Str} {k : Nat} {ps N : List Str} {sp : Sp} {st : Stmt}
theorem Dfn.calX (d : Dfn K mg x ps st) (S : FnScope N ps (defScope st)) (len : ∀ vs H Q E, sp vs H Q E → vs.length = ps.length)
    (hbody : ∀ (f : Addr) (cdv : Value) (A : Around) (outer : List Env) (s : Shared) (H : Hp) (vs : List V) (Q : VK) (E : XK), Room k (A.deeper (envOfC x (defScope st) s.heap.objs.size f cdv)) → sp vs H Q E →
      ∃ t, PSs (cxOf (L2.CX P w) P w K mg base N x (defScope st) f cdv A outer s H E) (defBody st) t ∧ t { nx := fun _ H' => Q .non H', rt := Q } (start N vs) H) : Cal P w K mg base (L2.CX P w) x (k + 1) ps sp := by
  obtain ⟨f, fd, F, g, b⟩ := d
  exact ⟨f, fd, F.okX S len (hbody f), g, F.kp, b⟩
end
section
variable {X : Cx} {k : Nat} {ps : List Str} {sp : Sp} {W : WX} {x : Str} {p pos : Pos} {e : Expr} {es : List Expr} {t : TA}
theorem pe_calS (c : Cal X.prog X.w X.K X.mg X.base (L2.CX X.prog X.w) x k ps sp) (hr : Room k X.A) (hg : Gl X x) (tk : Takes X W)
    (ha : PA X (e :: es) t) (hdb : (x == ("__debug__" : Str)) = false := by decide) (he : starEach (e :: es) X.env = (false, eval e X.env) :: starEach es X.env := by rfl) (hpl : (backTo pos (starEach es X.env)).any (·.1) = false := by rfl) :
    PE X (.Call (.Name x p) (e :: es) [] pos) (tCallS sp (WE W) t) := by
  obtain ⟨f, fd, F, g, kp, b⟩ := c
  exact pe_callS F hr hg g kp b (fun σ => passAt tk σ) ha hdb he hpl
theorem pe_cls {C : Addr} (hg : Gl X x) (hm : X.mg x = some (.ref C)) (hd : (x == ("__debug__" : Str)) = false := by decide) : PE X (.Name x pos) (tC (.ref C)) := pe_glob hg hm rfl hd
theorem pmk_of {C : Addr} {m : Str} {j : Nat} {p2 : Pos} (T : OwnX X.K X.mg x C) (hg : Gl X x) (hdb : (x == ("__debug__" : Str)) = false := by decide) : PMk X (.Call (.Name x p) [.Constant (.str m) j p2] [] pos) (fun _ H Q => Q (.ref C) none H) :=
  pmk_own PySem.F.excBase_ValueError T.xi T.g T.kp (raises_own T.e.hs T.ty) hg hdb
end

/-! ### the class is asked -/
theorem exm_own {K : PySem.W.Frag} {mg : Str → Option Value} {x : Str} {B C : Addr} {b : Bool} (T : OwnX K mg x B) (h : PySem.W.subIn K (.ref C) (.ref B) = some b) : PySem.W.exmOne K (.ref C) (.ref B) = some b := PySem.W.exm_ref T.e.hs T.e.hd T.ty h

/-- by the name x the class D -/
structure GlX (mg : Str → Option Value) (x : Str) (D : Addr) : Prop where
  g : mg x = some (.ref D)
theorem kit_ref {K : PySem.W.Frag} {C D : Addr} {b : Bool} (hd : PySem.W.hasDictIn K D = true) (ht : PySem.W.typeIn K (.ref D) = some (.type "type")) (ne : C ≠ D) (h : PySem.W.subIn K (.ref C) (.ref D) = some b) : PySem.W.kitOne K (.ref C) (.ref D) = some b := by
  obtain ⟨cd, hc, _⟩ := PySem.W.any_some hd
  have e2 : ((PySem.W.clsIn K D).isSome && PySem.W.typeIn K (.ref D) == some (.type "type")) = true := by rw [hc, ht] <;> rfl
  unfold PySem.W.kitOne
  rw [if_neg (by simpa using ne)]
  show (if ((PySem.W.clsIn K D).isSome && PySem.W.typeIn K (.ref D) == some (.type "type")) = true then PySem.W.subIn K (.ref C) (.ref D) else none) = some b
  rw [if_pos e2]
  exact h
theorem kit_VE {K : PySem.W.Frag} {C : Addr} {b : Bool} (h : PySem.W.subIn K (.ref C) (.type "ValueError") = some b) : PySem.W.kitOne K (.ref C) (.type "ValueError") = some b := by
  unfold PySem.W.kitOne
  rw [if_neg (by simp)]
  show (if PySem.W.kitMeta "ValueError" = true then PySem.W.subIn K (.ref C) (.type "ValueError") else none) = some b
  rw [if_pos (by decide +kernel)]
  exact h
theorem cls_ne {K : PySem.W.Frag} {C D : Addr} (h1 : PySem.W.subIn K (.ref C) (.ref C) = some true) (h2 : PySem.W.subIn K (.ref C) (.ref D) = some false) : C ≠ D := fun e => by
  subst e
  rw [h1] at h2
  exact nomatch h2

/-! ### lists once more -/
section
variable {K : PySem.W.Frag} {D : Ends} {σ : L2.St} {H : Hp} {ta : TA} {tz : TS} {i : Nat}
theorem q_asgPop {te : TE} {l : Addr} {xs : List V} {y : V} (hl : H l = some (.lst (xs ++ [y]))) (ha : Ev te σ H (.ref l)) (k : ∀ H1, Ex H H1 → tz D (σ.set i (some y)) (upd H1 l (.lst xs))) :
    tSeq (tAsg (tBM0 K "list" rPop te) (gName i)) tz D σ H := ha H (Ex.refl H) _ fun H1 e1 =>
  ⟨Or.inl ⟨rfl, _, sq_of (e1 l _ hl)⟩, l, xs ++ [y], y, rfl, rfl, e1 l _ hl, by simp, by
    rw [List.dropLast_concat]
    exact k H1 e1⟩
theorem q_rev {te : TE} {l : Addr} {xs : List V} (hl : H l = some (.lst xs)) (ha : Ev te σ H (.ref l)) (k : ∀ H1, Ex H H1 → tz D σ (upd H1 l (.lst xs.reverse))) :
    tSeq (tDrop (tBM0 K "list" rReverse te)) tz D σ H := ha H (Ex.refl H) _ fun H1 e1 =>
  ⟨Or.inl ⟨rfl, _, sq_of (e1 l _ hl)⟩, l, xs, rfl, rfl, e1 l _ hl, k H1 e1⟩
theorem atI_last {α : Type} {xs : List α} {v : α} (h : xs[xs.length - 1]? = some v) : atI xs (-1) = some v := by
  have hj := (List.getElem?_eq_some_iff.mp h).1
  unfold atI ixN
  rw [if_neg (by omega), if_pos (by omega)]
  show xs[((-1 : Int) + (xs.length : Int)).toNat]? = some v
  rw [show ((-1 : Int) + (xs.length : Int)).toNat = xs.length - 1 by omega]
  exact h
theorem cut_init (xs : List V) : cutV xs none (some (-1)) = xs.take (xs.length - 1) := by
  unfold cutV
  rw [HT.sIx_none]
  show List.take ((if (-1 : Int) < 0 then ((-1 : Int) + (xs.length : Int)).toNat else min (-1 : Int).toNat xs.length) - 0) (xs.drop 0) = _
  rw [if_pos (by decide), Nat.sub_zero, List.drop_zero, show ((-1 : Int) + (xs.length : Int)).toNat = xs.length - 1 by omega]
end


section
variable {K : PySem.W.Frag} {D : Ends} {σ : L2.St} {H : Hp}
theorem ev_lenT {te : TE} {p : Addr} {xs : List V} (ha : Ev te σ H (.ref p)) (h : SqT K H p xs) : Ev (tCB (rLenS K) (tCons te tNil)) σ H (.int (xs.length : Int)) := fun H1 e Q q =>
  ha H1 e _ fun H2 e2 => ⟨p, xs, rfl, Or.inr (ex_t (e.trans e2) h), q H2 e2⟩
/-- a call whose first argument is a new list -/
theorem el_calL {sp : Sp} {t1 : TE} {ta : TA} {xs ys vs : List V} {E : XK} (h : EvL t1 σ H xs) (h2 : EvA ta σ H vs) (hs : ∀ p H1, Ex H H1 → H1 p = some (.lst xs) → ∀ Q : VK, RetL ys H1 Q → ∀ E : XK, sp (.ref p :: vs) H1 Q E) : EvL (tCall sp [] E (tCons t1 ta)) σ H ys := fun H1 e Q q =>
  h H1 e _ fun p H2 np e2 hp => h2 H2 (e.trans e2) _ fun H3 e3 => by
    show sp ((.ref p :: vs) ++ []) H3 Q E
    rw [List.append_nil]
    exact hs p H3 ((e.trans e2).trans e3) (e3 _ _ hp) Q (fun p' H4 hp' e4 h4 => q p' H4 (fresh_back (e2.trans e3) hp') ((e2.trans e3).trans e4) h4) E
theorem s_retVL {ta tb : TE} {v : V} {ys : List V} (h1 : Ev ta σ H v) (h2 : EvL tb σ H ys) (k : ∀ t q H1, H t = none → H q = none → Ex H H1 → H1 t = some (.tup [v, .ref q]) → H1 q = some (.lst ys) → D.rt (.ref t) H1) : tRet (tTup (tCons ta (tCons tb tNil))) D σ H :=
  h1 H (Ex.refl H) _ fun H1 e1 => h2 H1 e1 _ fun q H2 nq e2 hq => ⟨sz_of (show 2 ≤ 100000 by decide), fun t nt =>
    k t q _ (fresh_back (e1.trans e2) nt) (fresh_back e1 nq) ((e1.trans e2).trans (Ex.new nt)) upd_same (by rw [upd_ne (ne_of_none hq nt)]; exact hq)⟩
end

/-! ### parting -/
theorem cv_congr {a b g : List Int} {m : Nat} : ∀ i, (∀ j, j < i → coef a j = coef b j) → cv a g i m = cv b g i m
  | 0, _ => rfl
  | i + 1, h => by
    unfold cv
    rw [cv_congr i fun j hj => h j (by omega), h i (by omega)]
theorem cv_set {a b g : List Int} {m s : Nat} {x : Int} (h0 : coef a s = 0) (hs : coef b s = x) (h : ∀ j, j ≠ s → coef b j = coef a j) : ∀ i, s < i → cv b g i m = cv a g i m + if s ≤ m then x * coef g (m - s) else 0
  | 0, q => absurd q (Nat.not_lt_zero _)
  | i + 1, q => by
    unfold cv
    by_cases e : s = i
    · subst e
      rw [cv_congr s fun j hj => h j (by omega), hs, h0]
      split <;> simp
    · rw [cv_set h0 hs h i (by omega), h i (by omega)]
      omega
theorem cv_none {a g : List Int} {m : Nat} : ∀ i, (∀ j, j < i → coef a j = 0) → cv a g i m = 0
  | 0, _ => rfl
  | i + 1, h => by
    unfold cv
    rw [cv_none i fun j hj => h j (by omega), h i (by omega)]
    split <;> simp
end Kp

namespace Own
open PySem PySem.Spec PyProof.Rows L2 Evl Kp
def topS (i : Nat) : Stmt := PySem.Challenge.pw_rootwheel_k05_parted_polynomials.main.body.getD i (.Pass ⟨0, 0, 0, 0⟩)
/-! ### words of ours for the walk over readings -/
local macro_rules | `(tactic| one_place) => `(tactic| (fail_if_success (with_reducible first | refine probe ?_ | refine probeT ?_ | refine probeA ?_)); first
  | exact ev_c
  | exact ev_var rfl
  | exact ea_nil
  | (apply ea_cons <;> one_place)
  | (apply et_test; one_place)
  | (apply et_B; one_place)
  | (apply et_not; one_place)
  | (apply ev_add <;> one_place)
  | (apply ev_sub <;> one_place)
  | (apply ev_mul <;> first | one_place | (exact mulW (by omega) (by omega)))
  | (apply ev_div <;> first | one_place | (exact divW (by omega) (by omega)))
  | (apply ev_mod <;> first | one_place | omega)
  | (refine ev_pow (i := 10) (j := 6) (c := 1000000) ?_ ?_ ⟨by decide, by decide +kernel⟩ (by rfl) <;> one_place)
  | (refine ev_pow (i := 10) (j := 9) (c := 1000000000) ?_ ?_ ⟨by decide, by decide +kernel⟩ (by rfl) <;> one_place)
  | (refine ev_pow (i := 10) (j := 12) (c := 1000000000000) ?_ ?_ ⟨by decide, by decide +kernel⟩ (by rfl) <;> one_place)
  | (refine ev_pow (i := 10) (j := 18) (c := 1000000000000000000) ?_ ?_ ⟨by decide, by decide +kernel⟩ (by rfl) <;> one_place)
  | (apply ev_lt <;> one_place)
  | (apply ev_le <;> one_place)
  | (apply ev_gt <;> one_place)
  | (apply ev_ge <;> one_place)
  | (apply ev_eqI <;> one_place)
  | (apply ev_neI <;> one_place)
  | (apply ev_neg; one_place)
  | assumption)
/-! ### numbers of bounded size -/
def Bd (b : Nat) (l : List Int) : Prop := ∀ m, (coef l m).natAbs < 2 ^ b
theorem mulB {i j : Int} {a b : Nat} (hi : i.natAbs < 2 ^ a) (hj : j.natAbs < 2 ^ b) (h : a + b ≤ 900000) : CMulW i j :=
  wide_mul (a := a + 1) (b := b + 1) (Nat.lt_of_lt_of_le hi (Nat.pow_le_pow_right (by decide) (Nat.le_succ a))) (Nat.lt_of_lt_of_le hj (Nat.pow_le_pow_right (by decide) (Nat.le_succ b))) (Nat.succ_pos _) (Nat.succ_pos _) (by omega)
theorem Bd.at {b : Nat} {l : List Int} {i : Nat} {x : Int} (h : Bd b l) (hi : l[i]? = some x) : x.natAbs < 2 ^ b := by
  have := h i
  rwa [coef_of hi] at this
theorem Bd.of {b : Nat} {l : List Int} (h : ∀ x ∈ l, x.natAbs < 2 ^ b) : Bd b l := fun m => by
  by_cases q : m < l.length
  · rw [coef_lt q]
    exact h _ (List.getElem_mem q)
  · rw [coef_ge (by omega)]
    exact Nat.two_pow_pos b

/- trimmed: slots 0 numbers, 1 many; calls  -/
abbrev s_trimmed : Stmt := topS 16
theorem sc_trimmed : FnScope ["numbers", "many"] ["numbers"] (defScope s_trimmed) := ⟨rfl, rfl, rfl, by decide +kernel, rfl, by decide +kernel, by decide +kernel⟩

def spTrim (K : PySem.W.Frag) : Sp := fun vs H Q _ => ∃ (a : Addr) (ns : List Int), vs = [.ref a] ∧ SqL K H a (ns.map V.int) ∧ ns.length ≤ 50000 ∧ RetL ((trim ns).map V.int) H Q
section
variable {P : Program} {w : World} {K : PySem.W.Frag} {mg : Str → Option Value} {base : Heap}
theorem cal_trimmed (nb : Nb mg) (d : Dfn K mg "trimmed" ["numbers"] s_trimmed) : Cal P w K mg base CX0 "trimmed" 1 ["numbers"] (spTrim K) := by
  refine d.cal sc_trimmed (fun vs H Q E h => ?_) (fun f cdv A outer s H vs Q E hr h => ?_)
  · obtain ⟨a, ns, rfl, _⟩ := h
    rfl
  · obtain ⟨a, ns, rfl, hS, hz, q⟩ := h
    refine ⟨_, (pss_cons (ps_set (i := 1) sc_trimmed.nd rfl (.inl rfl) (pe_callB call_len_seq (by rfl) nb.len PySem.boot_len (pa_cons (pv 0) pa_nil)))
      (pss_cons (ps_while PassesOwn.never (PW.pt (pw_and (pt_cmpR op_gt (pv 1) pe_int (nomark _)) (pw_and1 (pt_cmpR op_eq (pe_ix ix_list (pv 0) (pe_op op_sub (pv 1) pe_int) (fun _ _ => rfl)) pe_int (nomark _))))) (pss_one (ps_aug (i := 1) sc_trimmed.nd rfl (.inl rfl) pe_int ip_sub)))
      (pss_one (ps_ret (pe_slice sl_list (pv 0) po_none (po_some (pv 1))))))), ?_⟩
    refine q_asg (v := .int ((ns.length : Nat) : Int)) (ev_is (ev_len (ev_var rfl) hS) (by rw [List.length_map])) fun H1 e1 => ?_
    refine q_while (fun m σ' H' => ∃ x : Int, σ' = [some (.ref a), some (.int x)] ∧ x = (m : Int) ∧ m ≤ ns.length ∧ tlen ns m = tlen ns ns.length ∧ Ex H H') ns.length ⟨_, rfl, rfl, Nat.le_refl _, rfl, e1⟩ fun m σ' H' hW => ?_
    obtain ⟨x, rfl, rfl, hm, ht, e2⟩ := hW
    refine ⟨decide ((0 : Int) < (m : Int)) && decide (coef ns (m - 1) = 0), et_and (by one_place) fun hb => et_test (ev_eqI (ev_ixI (j := m - 1) (ex_l e2 hS) (ev_var rfl) (ev_is (by one_place) ?_) (coef_get ?_)) ev_c), fun hb H3 e3 => ?_, fun hb H3 e3 => ?_⟩
    · have := of_decide_eq_true hb
      congr 1
      omega
    · have := of_decide_eq_true hb
      omega
    · rw [Bool.and_eq_true, decide_eq_true_iff, decide_eq_true_iff] at hb
      obtain ⟨m', rfl⟩ : ∃ m', m = m' + 1 := ⟨m - 1, by omega⟩
      refine ⟨_, fun σ2 H2 hN => ⟨m', Nat.lt_succ_self _, hN⟩, ?_⟩
      refine s_aug (a := ((m' + 1 : Nat) : Int)) (b := 1) rfl (by one_place) fun H4 e4 => ⟨_, rfl, by omega, by omega, ?_, (e2.trans e3).trans e4⟩
      rw [← ht]
      show _ = (if coef ns m' = 0 then tlen ns m' else m' + 1)
      rw [Nat.add_sub_cancel] at hb
      rw [if_pos hb.2]
    · have hst : tlen ns ns.length = m := by
        rw [← ht]
        cases m with
        | zero => rfl
        | succ m' =>
          rw [Bool.and_eq_false_iff, decide_eq_false_iff_not, decide_eq_false_iff_not] at hb
          rcases hb with hb | hb
          · omega
          · show (if coef ns m' = 0 then tlen ns m' else m' + 1) = m' + 1
            rw [Nat.add_sub_cancel] at hb
            rw [if_neg hb]
      refine s_retL (xs := (trim ns).map V.int) (el_is (el_sl (by one_place) eo_none (eo_some (by one_place)) (ex_l (e2.trans e3) hS)) ?_) fun p H4 np e4 hp => q.go (e2.trans e3) np e4 hp
      rw [cut_take, ← List.map_take]
      unfold trim
      rw [hst]
end

/-! ### one polynomial parted by another -/
def Good (g : List Int) : Prop := g ≠ [] ∧ coef g (g.length - 1) = 1
/-- q and r are what is told of f by g -/
structure Ovr (b : Nat) (f g q r : List Int) : Prop where
  tq : Tr q
  tr : Tr r
  lr : r.length < g.length
  lq : q.length ≤ f.length
  bq : Bd b q
  br : Bd b r
  is : ∀ m, coef f m = coef r m + cv q g q.length m
theorem Bd.mono {a b : Nat} {l : List Int} (h : Bd a l) (e : a ≤ b) : Bd b l := fun m => Nat.lt_of_lt_of_le (h m) (Nat.pow_le_pow_right (by decide) e)
/-- behind k turns of T: R is left, h the heads -/
structure OvT (n b T k : Nat) (f g R h : List Int) : Prop where
  lR : R.length = f.length - k
  lh : h.length = k
  kT : k ≤ T
  bR : Bd (n + k * (b + 1)) R
  bh : Bd (n + T * (b + 1)) h
  k0 : k = 0 → R = f
  k1 : 0 < k → coef h 0 = coef f (f.length - 1)
  is : ∀ m, coef f m = coef R m + cv (List.replicate (T - k) 0 ++ h.reverse) g T m
theorem coef_rev {h : List Int} {j : Nat} (hj : j < h.length) : coef h.reverse j = coef h (h.length - 1 - j) := by
  rw [coef_lt (by rw [List.length_reverse]; exact hj), List.getElem_reverse, coef_lt (by omega)]
theorem ovT_zero {n b T : Nat} {f g : List Int} (bf : Bd n f) : OvT n b T 0 f g f [] where
  lR := rfl
  lh := rfl
  kT := Nat.zero_le _
  bR := bf.mono (by omega)
  bh := fun m => by
    rw [coef_nil]
    exact Nat.two_pow_pos _
  k0 := fun _ => rfl
  k1 := fun h => absurd h (Nat.lt_irrefl _)
  is := fun m => by
    rw [cv_none T fun j _ => ?_]
    · omega
    · rw [List.reverse_nil, List.append_nil, coef_rep]
theorem natAbs_sub_lt {x y z : Int} {a b : Nat} (hx : x.natAbs < 2 ^ a) (hy : y.natAbs < 2 ^ a) (hz : z.natAbs < 2 ^ b) : (x - y * z).natAbs < 2 ^ (a + (b + 1)) := by
  have h1 : (x - y * z).natAbs ≤ x.natAbs + y.natAbs * z.natAbs := by
    have := Int.natAbs_sub_le x (y * z)
    rw [Int.natAbs_mul] at this
    exact this
  have h2 : y.natAbs * z.natAbs ≤ 2 ^ a * 2 ^ b := Nat.mul_le_mul (by omega) (by omega)
  have h3 : 2 ^ a * 2 ^ b = 2 ^ (a + b) := (Nat.pow_add 2 a b).symm
  have h4 : 2 ^ (a + (b + 1)) = 2 ^ (a + b) * 2 := by rw [← Nat.add_assoc, Nat.pow_succ]
  have h5 : 2 ^ a ≤ 2 ^ (a + b) := Nat.pow_le_pow_right (by decide) (by omega)
  omega
/-- one turn -/
theorem ovT_step {n b k : Nat} {f g R h R2 : List Int} {x : Int} (bg : Bd b g) (g1 : coef g (g.length - 1) = 1) (g0 : g ≠ []) (hg : g.length ≤ R.length) (o : OvT n b (f.length + 1 - g.length) k f g R h) (hx : coef R (R.length - 1) = x) (l2 : R2.length = R.length - 1)
    (h2 : ∀ m, m < R.length - 1 → coef R2 m = coef R m - if R.length - g.length ≤ m then x * coef g (m - (R.length - g.length)) else 0) : OvT n b (f.length + 1 - g.length) (k + 1) f g R2 (h ++ [x]) := by
  have lg := List.length_pos_iff.mpr g0
  have hR := o.lR
  have hk := o.kT
  have hl := o.lh
  have bx : x.natAbs < 2 ^ (n + k * (b + 1)) := by rw [← hx]; exact o.bR _
  have hs : R.length - g.length = f.length + 1 - g.length - (k + 1) := by omega
  refine ⟨by omega, by rw [List.length_append, List.length_singleton, hl], by omega, fun m => ?_, fun m => ?_, fun q => absurd q (Nat.succ_ne_zero _), fun _ => ?_, fun m => ?_⟩
  · by_cases q : m < R.length - 1
    · rw [h2 m q, Nat.add_mul, Nat.one_mul, ← Nat.add_assoc]
      split
      · exact natAbs_sub_lt (o.bR m) bx (bg _)
      · rw [Int.sub_zero]
        exact Nat.lt_of_lt_of_le (o.bR m) (Nat.pow_le_pow_right (by decide) (by omega))
    · rw [coef_ge (by omega)]
      exact Nat.two_pow_pos _
  · rw [coef_app]
    split
    · exact o.bh m
    · by_cases q : m - h.length = 0
      · rw [q]
        show x.natAbs < _
        refine Nat.lt_of_lt_of_le bx (Nat.pow_le_pow_right (by decide) ?_)
        have : k * (b + 1) ≤ (f.length + 1 - g.length) * (b + 1) := Nat.mul_le_mul_right _ hk
        omega
      · rw [coef_ge (by rw [List.length_singleton]; omega)]
        exact Nat.two_pow_pos _
  · rw [coef_app]
    by_cases q : 0 < k
    · rw [if_pos (by omega)]
      exact o.k1 q
    · rw [if_neg (by omega), hl, show 0 - k = 0 by omega]
      have e := o.k0 (by omega)
      rw [e] at hx
      show x = _
      exact hx.symm
  · -- the new head stands at its place
    have hc := cv_set (a := List.replicate (f.length + 1 - g.length - k) 0 ++ h.reverse) (b := List.replicate (f.length + 1 - g.length - (k + 1)) 0 ++ (h ++ [x]).reverse) (g := g) (m := m) (s := f.length + 1 - g.length - (k + 1)) (x := x)
      (by rw [coef_app, List.length_replicate, if_pos (by omega), coef_rep]) (by rw [coef_app, List.length_replicate, if_neg (Nat.lt_irrefl _), Nat.sub_self, List.reverse_append]; rfl)
      (fun j hj => by
        rw [coef_app, coef_app, List.length_replicate, List.length_replicate, coef_rep, coef_rep]
        by_cases q : j < f.length + 1 - g.length - (k + 1)
        · rw [if_pos q, if_pos (by omega)]
        · rw [if_neg q, if_neg (by omega), List.reverse_append]
          show coef ([x] ++ h.reverse) _ = _
          rw [coef_app, if_neg (by rw [List.length_singleton]; omega), List.length_singleton]
          congr 1
          omega)
      (f.length + 1 - g.length) (by omega)
    rw [hc, o.is m, ← hs]
    by_cases q : m < R.length - 1
    · rw [h2 m q]
      omega
    · rw [coef_ge (show R2.length ≤ m by omega), if_pos (by omega)]
      by_cases e : m = R.length - 1
      · subst e
        rw [hx, show R.length - 1 - (R.length - g.length) = g.length - 1 by omega, g1]
        omega
      · rw [coef_ge (show R.length ≤ m by omega), coef_ge (show g.length ≤ m - (R.length - g.length) by omega)]
        omega
/-- the end -/
theorem ovT_end {n b k : Nat} {f g R h : List Int} (tf : Tr f) (g0 : g ≠ []) (hg : R.length < g.length) (o : OvT n b (f.length + 1 - g.length) k f g R h) : Ovr (n + (f.length + 1 - g.length) * (b + 1)) f g h.reverse (trim R) := by
  have hR := o.lR
  have hk := o.kT
  have hl := o.lh
  have lg := List.length_pos_iff.mpr g0
  have kT : k = f.length + 1 - g.length := by omega
  refine ⟨fun hn => ?_, tr_trim R, ?_, by rw [List.length_reverse]; omega, fun m => ?_, fun m => ?_, fun m => ?_⟩
  · have hp : 0 < h.length := by
      have := List.length_pos_iff.mpr hn
      rw [List.length_reverse] at this
      exact this
    rw [List.length_reverse, coef_rev (by omega), show h.length - 1 - (h.length - 1) = 0 by omega, o.k1 (by omega)]
    exact tf fun e => by
      rw [e, List.length_nil] at kT
      omega
  · rw [trim_len]
    have := tlen_le R R.length
    omega
  · by_cases q : m < h.length
    · rw [coef_rev q]
      exact o.bh _
    · rw [coef_ge (by rw [List.length_reverse]; omega)]
      exact Nat.two_pow_pos _
  · rw [coef_trim]
    have := o.bR m
    rw [kT] at this
    exact this
  · have e := o.is m
    rw [coef_trim, List.length_reverse, hl, kT]
    rw [kT, Nat.sub_self] at e
    exact e

def RetU2 (q r : List Int) (H : Hp) (Q : VK) : Prop := ∀ t a b H1, H t = none → H a = none → H b = none → a ≠ b → Ex H H1 → H1 t = some (.tup [.ref a, .ref b]) → H1 a = some (.lst (q.map V.int)) → H1 b = some (.lst (r.map V.int)) → Q (.ref t) H1
/- over: slots 0 f, 1 g, 2 low, 3 rest, 4 heads, 5 head, 6 start, 7 at, 8 number; calls trimmed -/
abbrev s_over : Stmt := topS 17
theorem sc_over : FnScope ["f", "g", "low", "rest", "heads", "head", "start", "at", "number"] ["f", "g"] (defScope s_over) := ⟨rfl, rfl, rfl, by decide +kernel, rfl, by decide +kernel, by decide +kernel⟩

def spOver (K : PySem.W.Frag) (C : Addr) : Sp := fun vs H Q E => ∃ (a b : Addr) (f g : List Int), vs = [.ref a, .ref b] ∧ SqL K H a (f.map V.int) ∧ SqL K H b (g.map V.int) ∧ f.length ≤ 40 ∧ g.length ≤ 40 ∧ Tr f ∧ Bd 1000 f ∧ Bd 1000 g ∧
  (Good g → ∀ q r, Ovr 50000 f g q r → RetU2 q r H Q) ∧ (¬ Good g → ∀ H1, Ex H H1 → E (.ref C) none H1)
section
variable {P : Program} {w : World} {K : PySem.W.Frag} {mg : Str → Option Value} {base : Heap} {C : Addr}
theorem cal_over (nb : Nb mg) (x_NoPart : OwnX K mg "NoPart" C) (c_trimmed : Cal P w K mg base CX0 "trimmed" 1 ["numbers"] (spTrim K)) (d : Dfn K mg "over" ["f", "g"] s_over) : Cal P w K mg base (L2.CX P w) "over" 2 ["f", "g"] (spOver K C) := by
  refine d.calX sc_over (fun vs H Q E h => ?_) (fun fa cdv A outer s H vs Q E hr h => ?_)
  · obtain ⟨a, b, f, g, rfl, _⟩ := h
    rfl
  · obtain ⟨a, b, f, g, rfl, hF, hG, zf, zg, tf, bf, bg, kG, kB⟩ := h
    refine ⟨_, (pss_cons (ps_if (PW.pt (pw_or (pt_cmpR op_eq (pe_callB call_len_seq (by rfl) nb.len PySem.boot_len (pa_cons (pv 1) pa_nil)) pe_int (nomark _)) (pw_or1 (pt_cmpR op_ne (pe_ix ix_list (pv 1) (pe_un un_neg pe_int) (fun _ _ => rfl)) pe_int (nomark _))))) (pss_one (ps_raise rfl (takes_of rfl rfl rfl rfl) (pmk_of x_NoPart rfl))) pss_nil)
      (pss_cons (ps_set (i := 2) sc_over.nd rfl (.inl rfl) (pe_slice sl_list (pv 1) po_none (po_some (pe_un un_neg pe_int))))
      (pss_cons (ps_set (i := 3) sc_over.nd rfl (.inl rfl) (pe_callTy call_list_of (by rfl) nb.list (by decide +kernel) (pa_cons (pv 0) pa_nil)))
      (pss_cons (ps_set (i := 4) sc_over.nd rfl (.inl rfl) (pe_lst pa_nil))
      (pss_cons (ps_while (passes_of rfl) (pt_cmpR op_ge (pe_callB call_len_seq (by rfl) nb.len PySem.boot_len (pa_cons (pv 3) pa_nil)) (pe_callB call_len_seq (by rfl) nb.len PySem.boot_len (pa_cons (pv 1) pa_nil)) (nomark _)) (pss_cons (ps_set (i := 5) sc_over.nd rfl (.inl rfl) (pe_bm0 PySem.F.plainAttrs_list PySem.F.slot_list_pop PySem.F.type_list_pop mt_pop (pv 3)))
      (pss_cons (ps_expr (pe_bm PySem.F.plainAttrs_list PySem.F.slot_list_append PySem.F.type_list_append mt_append (pv 4) (pa_cons (pv 5) pa_nil)))
      (pss_cons (ps_set (i := 6) sc_over.nd rfl (.inl rfl) (pe_op op_sub (pe_callB call_len_seq (by rfl) nb.len PySem.boot_len (pa_cons (pv 3) pa_nil)) (pe_callB call_len_seq (by rfl) nb.len PySem.boot_len (pa_cons (pv 2) pa_nil))))
      (pss_one (ps_for (passes_of rfl) rfl (pi_enum (by rfl) nb.enumerate (pa_cons (pv 2) pa_nil)) (pg_tup (by rfl) (pgs_cons (pg_name (i := 7) sc_over.nd rfl (.inl rfl)) (pgs_cons (pg_name (i := 8) sc_over.nd rfl (.inl rfl)) pgs_nil))) (pss_one (ps_augS (pv 3) (pe_op op_add (pv 6) (pv 7)) get_list (pe_op op_mulW (pv 5) (pv 8)) ip_sub set_list))))))))
      (pss_cons (ps_expr (pe_bm0 PySem.F.plainAttrs_list PySem.F.slot_list_reverse PySem.F.type_list_reverse mt_reverse (pv 4)))
      (pss_one (ps_ret (pe_tup (pa_cons (pv 4) (pa_cons (pe_cal c_trimmed (hr.mono (by first | decide | omega)) (by rfl) pass0 (pa_cons (pv 3) pa_nil)) pa_nil))))))))))), ?_⟩
    refine q_when (b := decide (((g.length : Nat) : Int) = 0) || !decide (coef g (g.length - 1) = 1)) (et_or (et_test (ev_eqI (ev_is (ev_len (ev_var rfl) hG) (by rw [List.length_map])) ev_c)) fun hb => et_test (ev_neI (ev_op (ev_var rfl) (ev_neg ev_c) (rv_ixL hG (atI_last ?_))) ev_c)) (fun hb H1 e1 => ?_) (fun hb H1 e1 => ?_)
    · have hb := of_decide_eq_false hb
      rw [List.length_map, List.getElem?_map, coef_get (by omega)]
      rfl
    · refine kB (fun hg => ?_) H1 e1
      have lg := List.length_pos_iff.mpr hg.1
      rw [Bool.or_eq_true] at hb
      rcases hb with hb | hb
      · have := of_decide_eq_true hb
        omega
      · rw [decide_eq_true hg.2] at hb
        exact nomatch hb
    · rw [Bool.or_eq_false_iff] at hb
      obtain ⟨hb1, hb2⟩ := hb
      have hb1 := of_decide_eq_false hb1
      have g0 : g ≠ [] := fun e => by
        rw [e] at hb1
        exact hb1 rfl
      have g1 : coef g (g.length - 1) = 1 := by
        rw [Bool.not_eq_false'] at hb2
        exact of_decide_eq_true hb2
      have lg := List.length_pos_iff.mpr g0
      have kG := kG ⟨g0, g1⟩
      clear kB hb1 hb2
      refine q_asgL (xs := (g.take (g.length - 1)).map V.int) (el_is (el_sl (ev_var rfl) eo_none (eo_some (ev_neg ev_c)) (ex_l e1 hG)) ?_) fun pl H2 nl e2 h2 => ?_
      · show cutV _ none (some (-1)) = _
        rw [cut_init, List.length_map, List.map_take]
      refine q_asgL (xs := f.map V.int) (el_list (ev_var rfl) (ex_l (e1.trans e2) hF)) fun pr H3 nr e3 h3 => ?_
      refine q_asgL (xs := ([] : List Int).map V.int) (el_lst ea_nil (by decide)) fun ph H4 nh e4 h4 => ?_
      have a2 := e1.trans e2
      have a3 := a2.trans e3
      have fr : H pr = none := fresh_back a2 nr
      have fh : H ph = none := fresh_back a3 nh
      have fr2 : H2 pr = none := nr
      have fh2 : H2 ph = none := fresh_back e3 nh
      have nrh : pr ≠ ph := ne_of_none h3 nh
      -- the loop: what stands of H2 stands; rest and heads are new
      refine q_while (fun m σ' H' => ∃ (k : Nat) (R h : List Int) (x5 x6 x7 x8 : Option V), σ' = [some (.ref a), some (.ref b), some (.ref pl), some (.ref pr), some (.ref ph), x5, x6, x7, x8] ∧ Ex H2 H' ∧ H' pr = some (.lst (R.map V.int)) ∧ H' ph = some (.lst (h.map V.int)) ∧ OvT 1000 1000 (f.length + 1 - g.length) k f g R h ∧ m = R.length)
        f.length ⟨0, f, [], none, none, none, none, rfl, e3.trans e4, e4 _ _ h3, h4, ovT_zero bf, rfl⟩ fun m σ' H' hW => ?_
      obtain ⟨k, R, h, x5, x6, x7, x8, rfl, e5, hr5, hh5, o, rfl⟩ := hW
      refine ⟨decide (((g.length : Nat) : Int) ≤ ((R.length : Nat) : Int)), et_test (ev_ge (ev_is (ev_len (ev_var rfl) (SqL.of hr5)) (by rw [List.length_map])) (ev_is (ev_len (ev_var rfl) (ex_l (a2.trans e5) hG)) (by rw [List.length_map]))), fun hb H6 e6 => ?_, fun hb H6 e6 => ?_⟩
      · have hgR : g.length ≤ R.length := by
          have := of_decide_eq_true hb
          omega
        have lRf : R.length ≤ f.length := by
          have := o.lR
          omega
        have lh := o.lh
        have kT := o.kT
        refine ⟨_, fun σ2 H2' hN => ⟨R.length - 1, by omega, hN⟩, ?_⟩
        obtain ⟨x, hx⟩ : ∃ x, coef R (R.length - 1) = x := ⟨_, rfl⟩
        have hR : R = R.take (R.length - 1) ++ [x] := by
          refine ext_of (by rw [List.length_append, List.length_take, List.length_singleton]; omega) fun m hm => ?_
          rw [coef_app, List.length_take, coef_take]
          by_cases q : m < R.length - 1
          · rw [if_pos (by omega), if_pos q]
          · rw [if_neg (by omega), show m = R.length - 1 by omega, hx, show R.length - 1 - min (R.length - 1) R.length = 0 by omega]
            rfl
        have hp : H6 pr = some (.lst ((R.take (R.length - 1)).map V.int ++ [V.int x])) := by
          rw [e6 _ _ hr5, ← List.map_singleton, ← List.map_append, ← hR]
        refine q_asgPop hp (ev_var rfl) fun H7 e7 => ?_
        have e57 : Ex H2 (upd H7 pr (.lst ((R.take (R.length - 1)).map V.int))) := Ex.mut ((e5.trans e6).trans e7) fr2
        have h7 : upd H7 pr (.lst ((R.take (R.length - 1)).map V.int)) ph = some (.lst (h.map V.int)) := by
          rw [upd_ne nrh.symm]
          exact e7 _ _ (e6 _ _ hh5)
        have r7 : upd H7 pr (.lst ((R.take (R.length - 1)).map V.int)) pr = some (.lst ((R.take (R.length - 1)).map V.int)) := upd_same
        generalize upd H7 pr (.lst ((R.take (R.length - 1)).map V.int)) = G7 at *
        refine q_app h7 (ev_var rfl) (ev_var rfl) (by rw [List.length_map]; omega) fun H8 e8 => ?_
        have e58 : Ex H2 (upd H8 ph (.lst (h.map V.int ++ [V.int x]))) := Ex.mut (e57.trans e8) fh2
        have r8 : upd H8 ph (.lst (h.map V.int ++ [V.int x])) pr = some (.lst ((R.take (R.length - 1)).map V.int)) := by
          rw [upd_ne nrh]
          exact e8 _ _ r7
        have h8 : upd H8 ph (.lst (h.map V.int ++ [V.int x])) ph = some (.lst ((h ++ [x]).map V.int)) := by
          rw [upd_same, List.map_append]
          rfl
        generalize upd H8 ph (.lst (h.map V.int ++ [V.int x])) = G8 at *
        clear h7 r7 e57
        refine q_asg (v := .int ((R.length - g.length : Nat) : Int)) (ev_is (ev_sub (ev_len (ev_var rfl) (SqL.of r8)) (ev_len (ev_var rfl) (SqL.of (e58 _ _ h2)))) ?_) fun H9 e9 => ?_
        · rw [List.length_map, List.length_map, List.length_take, List.length_take]
          congr 1
          omega
        refine s_forE (xs := (g.take (g.length - 1)).map V.int) (by one_place) (SqL.of ((e58.trans e9) _ _ h2)) (fun i σ' H' => ∃ (R2 : List Int) (y7 y8 : Option V), σ' = [some (.ref a), some (.ref b), some (.ref pl), some (.ref pr), some (.ref ph), some (.int x), some (.int ((R.length - g.length : Nat) : Int)), y7, y8] ∧ Ex H2 H' ∧ H' pr = some (.lst (R2.map V.int)) ∧ H' ph = some (.lst ((h ++ [x]).map V.int)) ∧ R2.length = R.length - 1 ∧ ∀ m, m < R.length - 1 → coef R2 m = coef R m - if R.length - g.length ≤ m ∧ m < R.length - g.length + i then x * coef g (m - (R.length - g.length)) else 0)
          (fun H10 e10 => ⟨R.take (R.length - 1), _, _, rfl, (e58.trans e9).trans e10, (e9.trans e10) _ _ r8, (e9.trans e10) _ _ h8, by rw [List.length_take]; omega, fun m hm => ?_⟩) (fun i σ' H' _ hp => ?_) (fun i z σ' H' hz hp H10 e10 => ?_) (fun σ' H' hp => ?_)
        · rw [coef_take, if_pos hm, if_neg (by omega), Int.sub_zero]
        · obtain ⟨_, _, _, _, e10, _⟩ := hp
          exact SqL.of (e10 _ _ h2)
        · obtain ⟨R2, y7, y8, rfl, e11, r11, h11, l11, c11⟩ := hp
          obtain ⟨z, hy, rfl⟩ := map_get hz
          have hi := (List.getElem?_eq_some_iff.mp hy).1
          rw [List.length_take] at hi
          have hzg : coef g i = z := by
            rw [← coef_of hy, coef_take, if_pos (by omega)]
          have bx : x.natAbs < 2 ^ (1000 + k * (1000 + 1)) := by rw [← hx]; exact o.bR _
          have kb : k * (1000 + 1) ≤ 41 * (1000 + 1) := Nat.mul_le_mul_right _ (by omega)
          refine s_augL (j := R.length - g.length + i) (f := fun i j => i - j) (a := coef R2 (R.length - g.length + i)) (b := x * z) (e10 _ _ r11) (by one_place) (ev_is (by one_place) (by rfl)) (coef_get (by omega)) (ev_mul (ev_var rfl) (ev_var rfl) (mulB bx (by rw [← hzg]; exact bg i) (by omega))) fun H12 e12 => ?_
          refine ⟨R2.set (R.length - g.length + i) (coef R2 (R.length - g.length + i) - x * z), _, _, rfl, Ex.mut ((e11.trans e10).trans e12) fr2, upd_same, ?_, by rw [List.length_set]; exact l11, fun m hm => ?_⟩
          · rw [upd_ne nrh.symm]
            exact e12 _ _ (e10 _ _ h11)
          · rw [coef_set (by omega), c11 m hm, c11 (R.length - g.length + i) (by omega)]
            by_cases e : m = R.length - g.length + i
            · subst e
              rw [if_pos rfl, if_neg (by omega), if_pos (by omega), Nat.add_sub_cancel_left, hzg]
              omega
            · rw [if_neg e]
              split <;> split <;> first | rfl | omega
        · obtain ⟨R2, y7, y8, rfl, e11, r11, h11, l11, c11⟩ := hp
          rw [List.length_map, List.length_take] at c11
          refine ⟨k + 1, R2, h ++ [x], _, _, _, _, rfl, e11, r11, h11, ovT_step bg g1 g0 hgR o hx l11 fun m hm => ?_, l11.symm⟩
          rw [c11 m hm]
          congr 1
          by_cases q : R.length - g.length ≤ m
          · rw [if_pos q, if_pos (by omega)]
          · rw [if_neg q, if_neg (by omega)]
      · have hgR : R.length < g.length := by
          have := of_decide_eq_false hb
          omega
        have lRf : R.length ≤ f.length := by
          have := o.lR
          omega
        refine q_rev (e6 _ _ hh5) (ev_var rfl) fun H7 e7 => ?_
        have e57 : Ex H2 (upd H7 ph (.lst (h.map V.int).reverse)) := Ex.mut ((e5.trans e6).trans e7) fh2
        have r7 : upd H7 ph (.lst (h.map V.int).reverse) pr = some (.lst (R.map V.int)) := by
          rw [upd_ne nrh]
          exact e7 _ _ (e6 _ _ hr5)
        have h7 : upd H7 ph (.lst (h.map V.int).reverse) ph = some (.lst (h.reverse.map V.int)) := by
          rw [upd_same, List.map_reverse]
        generalize upd H7 ph (.lst (h.map V.int).reverse) = G7 at *
        refine s_retVL (ys := (trim R).map V.int) (ev_var rfl) (el_cal (by one_place) fun H8 e8 Q k' E => ⟨pr, R, rfl, SqL.of (e8 _ _ r7), by omega, k'⟩) fun t q H8 nt nq e8 ht hq => ?_
        have ov := ovT_end tf g0 hgR o
        have hT : (f.length + 1 - g.length) * (1000 + 1) ≤ 41 * (1000 + 1) := Nat.mul_le_mul_right _ (by omega)
        exact kG h.reverse (trim R) { ov with bq := ov.bq.mono (by omega), br := ov.br.mono (by omega) } t ph q H8 (fresh_back (a2.trans e57) nt) fh (fresh_back (a2.trans e57) nq) (ne_of_none h7 nq) ((a2.trans e57).trans e8) ht (e8 _ _ h7) hq
end

/- _law_mix: slots 0 _law_cell, 1 _law_k, 2 _law_turn, 3 _law_number; calls  -/
abbrev s__law_mix : Stmt := topS 20
theorem sc__law_mix : FnScope ["_law_cell", "_law_k", "_law_turn", "_law_number"] ["_law_cell", "_law_k"] (defScope s__law_mix) := ⟨rfl, rfl, rfl, by decide +kernel, rfl, by decide +kernel, by decide +kernel⟩

/-- the law's own mixing of a cell -/
def divs : Nat → Int → Int
  | 0, c => c
  | n + 1, c => divs n c / 1000000
def mix0 (c k : Int) : Int := (c % 1000003 + k * k * 7919 + k) * 48271 % 2147483629
def mix1 (c k : Int) : Int := mix0 c k * mix0 c k % 2147483587
def mix (c k : Int) : Int := if 1000000000000000000 ≤ c then divs k.toNat (c % (1000000000000000000000000000000000000000000000000000000000000 : Int) ^ 20) % 1000000 else mix1 c k * (mix1 c k + 2) % 2147483579 / 7
theorem mix_nn (c k : Int) : 0 ≤ mix c k := by
  unfold mix
  split
  · omega
  · omega
theorem mix_le (c k : Int) : mix c k ≤ 306783369 := by
  unfold mix
  split
  · omega
  · omega
def spMix : Sp := fun vs H Q _ => ∃ c k : Int, vs = [.int c, .int k] ∧ 0 ≤ k ∧ k ≤ 100 ∧ RetV (.int (mix c k)) H Q
section
variable {P : Program} {w : World} {K : PySem.W.Frag} {mg : Str → Option Value} {base : Heap}
theorem cal_mix (nb : Nb mg) (d : Dfn K mg "_law_mix" ["_law_cell", "_law_k"] s__law_mix) : Cal P w K mg base CX0 "_law_mix" 1 ["_law_cell", "_law_k"] spMix := by
  refine d.cal sc__law_mix (fun vs H Q E h => ?_) (fun f cdv A outer s H vs Q E hr h => ?_)
  · obtain ⟨c, k, rfl, _⟩ := h
    rfl
  · obtain ⟨c, k, rfl, h0, h1, q⟩ := h
    refine ⟨_, (pss_cons (ps_if (pt_cmpR op_ge (pv 0) (pe_op op_powW pe_int pe_int) (nomark _)) (pss_cons (ps_set (i := 0) sc__law_mix.nd rfl (.inl rfl) (pe_op op_mod (pv 0) (pe_op op_powW (pe_op op_powW pe_int pe_int) pe_int)))
      (pss_cons (ps_for PassesOwn.never rfl (pi_range1 (by rfl) nb.range (pa_cons (pv 1) pa_nil)) (pg_name (i := 2) sc__law_mix.nd rfl (.inl rfl)) (pss_one (ps_set (i := 0) sc__law_mix.nd rfl (.inl rfl) (pe_op op_fdivW (pv 0) (pe_op op_powW pe_int pe_int)))))
      (pss_one (ps_ret (pe_op op_mod (pv 0) (pe_op op_powW pe_int pe_int)))))) pss_nil)
      (pss_cons (ps_set (i := 3) sc__law_mix.nd rfl (.inl rfl) (pe_op op_mod (pe_op op_mulW (pe_op op_add (pe_op op_add (pe_op op_mod (pv 0) pe_int) (pe_op op_mulW (pe_op op_mulW (pv 1) (pv 1)) pe_int)) (pv 1)) pe_int) pe_int))
      (pss_cons (ps_set (i := 3) sc__law_mix.nd rfl (.inl rfl) (pe_op op_mod (pe_op op_mulW (pv 3) (pv 3)) pe_int))
      (pss_one (ps_ret (pe_op op_fdivW (pe_op op_mod (pe_op op_mulW (pv 3) (pe_op op_add (pv 3) pe_int)) pe_int) pe_int)))))), ?_⟩
    refine q_when (b := decide (1000000000000000000 ≤ c)) (by one_place) (fun hb H1 e1 => ?_) (fun hb H1 e1 => ?_)
    · refine q_asg (v := .int (c % (1000000000000000000000000000000000000000000000000000000000000 : Int) ^ 20)) (ev_mod (by one_place) (ev_pow (i := 1000000000000000000000000000000000000000000000000000000000000) (ev_pow (i := 10) (by one_place) (by one_place) ⟨by decide, by decide +kernel⟩ (by rfl)) (by one_place) ⟨by decide, by decide +kernel⟩ rfl) (Int.pow_pos (by decide))) fun H2 e2 => ?_
      refine q_forR1 (n := k) (by one_place) (by omega) (fun i σ' H' => ∃ x, σ' = [some (.int (divs i (c % (1000000000000000000000000000000000000000000000000000000000000 : Int) ^ 20))), some (.int k), x, none] ∧ Ex H H') (fun H3 e3 => ⟨none, rfl, (e1.trans e2).trans e3⟩) (fun i σ' H' hi hp => ?_) (fun σ' H' hp => ?_)
      · obtain ⟨x, rfl, e4⟩ := hp
        refine s_asg (v := .int (divs (i + 1) (c % (1000000000000000000000000000000000000000000000000000000000000 : Int) ^ 20))) (ev_is (by one_place) rfl) fun H5 e5 => ⟨_, rfl, e4.trans e5⟩
      · obtain ⟨x, rfl, e4⟩ := hp
        refine s_ret (v := .int (mix c k)) (ev_is (by one_place) ?_) fun H5 e5 => q _ (e4.trans e5)
        unfold mix
        rw [if_pos (of_decide_eq_true hb)]
    · have b0 : 0 ≤ mix0 c k := by
        unfold mix0
        omega
      have b1 : mix0 c k < 2147483629 := by
        unfold mix0
        omega
      have b2 : 0 ≤ mix1 c k := by
        unfold mix1
        omega
      have b3 : mix1 c k < 2147483587 := by
        unfold mix1
        omega
      have b4 : 0 ≤ k * k := Int.mul_nonneg h0 h0
      have b5 : k * k ≤ 100 * 100 := Int.mul_le_mul h1 h1 h0 (by decide)
      refine q_asg (v := .int (mix0 c k)) (by one_place) fun H2 e2 => ?_
      refine q_asg (v := .int (mix1 c k)) (by one_place) fun H3 e3 => ?_
      refine s_ret (v := .int (mix c k)) (ev_is (by one_place) ?_) fun H5 e5 => q _ (((e1.trans e2).trans e3).trans e5)
      unfold mix
      rw [if_neg (of_decide_eq_false hb)]
end

/- _law_poly: slots 0 _law_cell, 1 _law_place, 2 _law_most, 3 _law_pick, 4 _law_told, 5 _law_k, 6 _law_some, 7 _law_far; calls _law_mix -/
abbrev s__law_poly : Stmt := topS 22
theorem sc__law_poly : FnScope ["_law_cell", "_law_place", "_law_most", "_law_pick", "_law_told", "_law_k", "_law_some", "_law_far"] ["_law_cell", "_law_place", "_law_most"] (defScope s__law_poly) := ⟨rfl, rfl, rfl, by decide +kernel, rfl, by decide +kernel, by decide +kernel⟩

/-- the law's drawn polynomials -/
def someN (c p : Int) (k : Nat) : Int := mix c (p + 1 + (k : Int) % 9) / ([1, 1000] : List Int).getD ((k : Int) / 9).toNat 0
def farN (c p : Int) (k : Nat) : Int := someN c p k / 5
def itemN (c p : Int) (k : Nat) : Int := ([farN c p k % 7 - 3, 0, farN c p k % 201 - 100, (farN c p k % 19 - 9) * 1000000000000000000000000000000, (farN c p k % 2001 - 1000) ^ 5] : List Int).getD (someN c p k % 5).toNat 0
def rawN (c p most : Int) : List Int := mkL (mix c p % (most + 1)).toNat (itemN c p)
def lpoly (c p most : Int) : List Int := trim (rawN c p most)
theorem someN_nn (c p : Int) (k : Nat) (hk : k ≤ 17) : 0 ≤ someN c p k := by
  unfold someN
  have h := mix_nn c (p + 1 + (k : Int) % 9)
  have h2 : 1 ≤ ([1, 1000] : List Int).getD ((k : Int) / 9).toNat 0 ∧ ([1, 1000] : List Int).getD ((k : Int) / 9).toNat 0 ≤ 1000 := by
    have e : ((k : Int) / 9).toNat = 0 ∨ ((k : Int) / 9).toNat = 1 := by omega
    rcases e with e | e <;> rw [e] <;> decide
  exact Int.ediv_nonneg h (by omega)
theorem pow5_bd {x : Int} (h : x.natAbs ≤ 1000) : (x ^ 5).natAbs < 2 ^ 300 := by
  rw [Int.natAbs_pow]
  exact Nat.lt_of_le_of_lt (Nat.pow_le_pow_left h 5) (by decide)
theorem itemN_bd (c p : Int) (k : Nat) (hk : k ≤ 17) : (itemN c p k).natAbs < 2 ^ 300 := by
  have h0 := someN_nn c p k hk
  unfold itemN
  have hl : (someN c p k % 5).toNat < 5 := by omega
  generalize farN c p k = z
  have h5 := pow5_bd (x := z % 2001 - 1000) (by omega)
  have hb : ∀ i, i < 5 → (([z % 7 - 3, 0, z % 201 - 100, (z % 19 - 9) * 1000000000000000000000000000000, (z % 2001 - 1000) ^ 5] : List Int).getD i 0).natAbs < 2 ^ 300 := fun i hi => by
    rcases i with _ | _ | _ | _ | _ | i
    · show (z % 7 - 3).natAbs < _
      omega
    · show (0 : Int).natAbs < _
      omega
    · show (z % 201 - 100).natAbs < _
      omega
    · show ((z % 19 - 9) * 1000000000000000000000000000000).natAbs < _
      omega
    · exact h5
    · omega
  exact hb _ hl
theorem rawN_len (c p most : Int) (h : 0 ≤ most) : ((rawN c p most).length : Int) ≤ most := by
  unfold rawN
  rw [mkL_len]
  have h1 := mix_nn c p
  have h2 := Int.emod_lt_of_pos (mix c p) (show 0 < most + 1 by omega)
  have h3 := Int.emod_nonneg (mix c p) (show most + 1 ≠ 0 by omega)
  omega
theorem lpoly_len (c p most : Int) (h : 0 ≤ most) : ((lpoly c p most).length : Int) ≤ most := by
  have h1 := rawN_len c p most h
  have h2 := tlen_le (rawN c p most) (rawN c p most).length
  unfold lpoly
  rw [trim_len]
  omega
theorem lpoly_bd (c p most : Int) (h : 0 ≤ most) (h2 : most ≤ 18) : Bd 300 (lpoly c p most) := fun m => by
  unfold lpoly
  rw [coef_trim]
  have h1 := rawN_len c p most h
  unfold rawN at h1 ⊢
  rw [mkL_len] at h1
  rw [coef_mkL]
  split
  · exact itemN_bd c p m (by omega)
  · exact Nat.two_pow_pos 300
theorem lpoly_tr (c p most : Int) : Tr (lpoly c p most) := tr_trim _
theorem cpow5 {i : Int} (h : i.natAbs ≤ 1000) : CPowW i 5 := by
  have b : Builtin.Int.intBits i ≤ i.natAbs.log2 + 1 := by
    unfold Builtin.Int.intBits
    split <;> omega
  have l : i.natAbs.log2 < 10 := by
    by_cases h0 : i.natAbs = 0
    · rw [h0]
      decide
    · exact (Nat.log2_lt h0).mpr (by omega)
  exact ⟨by decide, by omega⟩
def spLPoly : Sp := fun vs H Q _ => ∃ c p most : Int, vs = [.int c, .int p, .int most] ∧ 0 ≤ p ∧ p ≤ 80 ∧ 0 ≤ most ∧ most ≤ 18 ∧ RetL ((lpoly c p most).map V.int) H Q
/- _law_cut: slots 0 _law_numbers, 1 _law_told; calls  -/
abbrev s__law_cut : Stmt := topS 23
theorem sc__law_cut : FnScope ["_law_numbers", "_law_told"] ["_law_numbers"] (defScope s__law_cut) := ⟨rfl, rfl, rfl, by decide +kernel, rfl, by decide +kernel, by decide +kernel⟩

def spCut (K : PySem.W.Frag) : Sp := fun vs H Q _ => ∃ (a : Addr) (ns : List Int), vs = [.ref a] ∧ SqL K H a (ns.map V.int) ∧ ns.length ≤ 50000 ∧ RetL ((trim ns).map V.int) H Q
section
variable {P : Program} {w : World} {K : PySem.W.Frag} {mg : Str → Option Value} {base : Heap} {σ : L2.St} {H H' : Hp} {ta tb : TE} {t : TT} {tz : TS} {D : Ends}
/-- while xs != [] and xs[len(xs) - 1] == 0: xs.pop() -/
theorem q_popW {l i : Nat} {a : Addr} {ns : List Int} (hi : σ[i]? = some (some (.ref a))) (hl : H a = some (.lst (ns.map V.int))) (k : ∀ H1, (∀ H0, H0 a = none → Ex H0 H → Ex H0 H1) → H1 a = some (.lst ((trim ns).map V.int)) → tz D σ H1) :
    tSeq (tWhile (tAnd (tTest (tOp (rNeD K) (tVar i) (tLst tNil))) (tTest (tOp rEq (tOp (rIxL K) (tVar i) (tOp (rI0 fun i j => .int (i - j)) (tCB (rLenS K) (tCons (tVar i) tNil)) (tC (.int 1)))) (tC (.int 0))))) (tDrop (tBM0 K "list" rPop (tVar i)))) tz D σ H := by
  refine q_while (fun m σ' H' => σ' = σ ∧ m ≤ ns.length ∧ tlen ns m = tlen ns ns.length ∧ (∀ H0, H0 a = none → Ex H0 H → Ex H0 H') ∧ H' a = some (.lst ((ns.take m).map V.int))) ns.length
    ⟨rfl, Nat.le_refl _, rfl, fun _ _ h => h, by rw [List.take_length]; exact hl⟩ fun m σ' H' hW => ?_
  obtain ⟨rfl, hm, ht, e2, h2⟩ := hW
  have hlen : ((ns.take m).map V.int).length = m := by
    rw [List.length_map, List.length_take]
    omega
  refine ⟨!decide (ns.take m = []) && decide (coef ns (m - 1) = 0), et_and (et_test (ev_opL (ev_var hi) (el_lst ea_nil (by decide)) fun p H3 hp e3 => rv_neI (ms := []) (SqL.of (e3 _ _ h2)) (SqL.of hp))) fun hb => et_test (ev_eqI (ev_ixI (ns := ns.take m) (j := m - 1) (SqL.of h2) (ev_var hi) (ev_is (ev_sub (ev_len (ev_var hi) (SqL.of h2)) ev_c) ?_) ?_) ev_c), fun hb H3 e3 => ?_, fun hb H3 e3 => ?_⟩
  · have h0 : m ≠ 0 := fun e => by
      rw [e, List.take_zero] at hb
      exact absurd hb (by decide)
    rw [hlen]
    congr 1
    omega
  · have h0 : m ≠ 0 := fun e => by
      rw [e, List.take_zero] at hb
      exact absurd hb (by decide)
    rw [List.getElem?_take, if_pos (by omega)]
    exact coef_get (by omega)
  · rw [Bool.and_eq_true, decide_eq_true_iff] at hb
    obtain ⟨m', rfl⟩ : ∃ m', m = m' + 1 := ⟨m - 1, by
      have h0 : m ≠ 0 := fun e => by
        rw [e, List.take_zero] at hb
        exact absurd hb.1 (by decide)
      omega⟩
    rw [Nat.add_sub_cancel] at hb
    refine ⟨_, fun σ2 H2 hN => ⟨m', Nat.lt_succ_self _, hN⟩, ?_⟩
    have hs : (ns.take (m' + 1)).map V.int = (ns.take m').map V.int ++ [.int (coef ns m')] := by
      rw [List.take_add_one, coef_get (by omega), List.map_append]
      rfl
    rw [hs] at h2
    refine s_pop (e3 _ _ h2) (ev_var hi) fun H4 e4 => ⟨rfl, by omega, ?_, fun H0 n0 e0 => Ex.mut (((e2 H0 n0 e0).trans e3).trans e4) n0, upd_same⟩
    rw [← ht]
    show _ = (if coef ns m' = 0 then tlen ns m' else m' + 1)
    rw [if_pos hb.2]
  · have hst : tlen ns ns.length = m := by
      rw [← ht]
      cases m with
      | zero => rfl
      | succ m' =>
        rw [Nat.add_sub_cancel, Bool.and_eq_false_iff, decide_eq_false_iff_not, Bool.not_eq_false', decide_eq_true_iff] at hb
        rcases hb with hb | hb
        · have := congrArg List.length hb
          rw [List.length_take, List.length_nil] at this
          omega
        · show (if coef ns m' = 0 then tlen ns m' else m' + 1) = m' + 1
          rw [if_neg hb]
    refine k H3 (fun H0 n0 e0 => (e2 H0 n0 e0).trans e3) ?_
    rw [e3 _ _ h2]
    unfold trim
    rw [hst]
theorem cal_cut (nb : Nb mg) (d : Dfn K mg "_law_cut" ["_law_numbers"] s__law_cut) : Cal P w K mg base CX0 "_law_cut" 1 ["_law_numbers"] (spCut K) := by
  refine d.cal sc__law_cut (fun vs H Q E h => ?_) (fun f cdv A outer s H vs Q E hr h => ?_)
  · obtain ⟨a, ns, rfl, _⟩ := h
    rfl
  · obtain ⟨a, ns, rfl, hS, hz, q⟩ := h
    refine ⟨_, (pss_cons (ps_set (i := 1) sc__law_cut.nd rfl (.inl rfl) (pe_callTy call_list_of (by rfl) nb.list (by decide +kernel) (pa_cons (pv 0) pa_nil)))
      (pss_cons (ps_while PassesOwn.never (PW.pt (pw_and (pt_cmpR (op_neD hr.units) (pv 1) (pe_lst pa_nil) (nomark _)) (pw_and1 (pt_cmpR op_eq (pe_ix ix_list (pv 1) (pe_op op_sub (pe_callB call_len_seq (by rfl) nb.len PySem.boot_len (pa_cons (pv 1) pa_nil)) pe_int) (fun _ _ => rfl)) pe_int (nomark _))))) (pss_one (ps_expr (pe_bm0 PySem.F.plainAttrs_list PySem.F.slot_list_pop PySem.F.type_list_pop mt_pop (pv 1)))))
      (pss_one (ps_ret (pv 1))))), ?_⟩
    refine q_asgL (xs := ns.map V.int) (el_list (ev_var rfl) hS) fun t H1 nt e1 h1 => ?_
    refine q_popW (l := 0) (i := 1) rfl h1 fun H2 e2 h2 => ?_
    exact s_ret (v := .ref t) (ev_var rfl) fun H3 e3 => q t H3 nt ((e2 H nt e1).trans e3) (e3 _ _ h2)
theorem cal_lpoly (nb : Nb mg) (c__law_mix : Cal P w K mg base CX0 "_law_mix" 1 ["_law_cell", "_law_k"] spMix) (d : Dfn K mg "_law_poly" ["_law_cell", "_law_place", "_law_most"] s__law_poly) : Cal P w K mg base CX0 "_law_poly" 2 ["_law_cell", "_law_place", "_law_most"] spLPoly := by
  refine d.cal sc__law_poly (fun vs H Q E h => ?_) (fun f cdv A outer s H vs Q E hr h => ?_)
  · obtain ⟨a, b, c, rfl, _⟩ := h
    rfl
  · obtain ⟨c, p, most, rfl, p0, p1, m0, m1, q⟩ := h
    refine ⟨_, (pss_cons (ps_set (i := 3) sc__law_poly.nd rfl (.inl rfl) (pe_cal c__law_mix (hr.mono (by first | decide | omega)) (by rfl) pass0 (pa_cons (pv 0) (pa_cons (pv 1) pa_nil))))
      (pss_cons (ps_set (i := 4) sc__law_poly.nd rfl (.inl rfl) (pe_lst pa_nil))
      (pss_cons (ps_for PassesOwn.never rfl (pi_range1 (by rfl) nb.range (pa_cons (pe_op op_mod (pv 3) (pe_op op_add (pv 2) pe_int)) pa_nil)) (pg_name (i := 5) sc__law_poly.nd rfl (.inl rfl)) (pss_cons (ps_set (i := 6) sc__law_poly.nd rfl (.inl rfl) (pe_op op_fdivW (pe_cal c__law_mix (hr.mono (by first | decide | omega)) (by rfl) pass0 (pa_cons (pv 0) (pa_cons (pe_op op_add (pe_op op_add (pv 1) pe_int) (pe_op op_mod (pv 5) pe_int)) pa_nil))) (pe_ix ix_list (pe_lst (pa_cons pe_int (pa_cons pe_int pa_nil))) (pe_op op_fdivW (pv 5) pe_int) (fun _ _ => rfl))))
      (pss_cons (ps_set (i := 7) sc__law_poly.nd rfl (.inl rfl) (pe_op op_fdivW (pv 6) pe_int))
      (pss_one (ps_expr (pe_bm PySem.F.plainAttrs_list PySem.F.slot_list_append PySem.F.type_list_append mt_append (pv 4) (pa_cons (pe_ix ix_list (pe_lst (pa_cons (pe_op op_sub (pe_op op_mod (pv 7) pe_int) pe_int) (pa_cons pe_int (pa_cons (pe_op op_sub (pe_op op_mod (pv 7) pe_int) pe_int) (pa_cons (pe_op op_mulW (pe_op op_sub (pe_op op_mod (pv 7) pe_int) pe_int) (pe_op op_powW pe_int pe_int)) (pa_cons (pe_op op_powW (pe_op op_sub (pe_op op_mod (pv 7) pe_int) pe_int) pe_int) pa_nil)))))) (pe_op op_mod (pv 6) pe_int) (fun _ _ => rfl)) pa_nil)))))))
      (pss_cons (ps_while PassesOwn.never (PW.pt (pw_and (pt_cmpR (op_neD hr.units) (pv 4) (pe_lst pa_nil) (nomark _)) (pw_and1 (pt_cmpR op_eq (pe_ix ix_list (pv 4) (pe_op op_sub (pe_callB call_len_seq (by rfl) nb.len PySem.boot_len (pa_cons (pv 4) pa_nil)) pe_int) (fun _ _ => rfl)) pe_int (nomark _))))) (pss_one (ps_expr (pe_bm0 PySem.F.plainAttrs_list PySem.F.slot_list_pop PySem.F.type_list_pop mt_pop (pv 4)))))
      (pss_one (ps_ret (pv 4))))))), ?_⟩
    refine q_asg (v := .int (mix c p)) (ev_cal (by one_place) fun H1 e1 Q k E => ⟨c, p, rfl, by omega, by omega, k⟩) fun H1 e1 => ?_
    refine q_asgL (xs := []) (el_lst ea_nil (by decide)) fun t H2 nt e2 h2 => ?_
    have hn0 := Int.emod_nonneg (mix c p) (show most + 1 ≠ 0 by omega)
    have hn1 := Int.emod_lt_of_pos (mix c p) (show 0 < most + 1 by omega)
    refine q_forR1 (n := mix c p % (most + 1)) (by one_place) (by omega) (fun i σ' H' => ∃ x y z, σ' = [some (.int c), some (.int p), some (.int most), some (.int (mix c p)), some (.ref t), x, y, z] ∧ Ex H H' ∧ H' t = some (.lst ((mkL i (itemN c p)).map V.int)))
      (fun H3 e3 => ⟨none, none, none, rfl, (e1.trans e2).trans e3, e3 _ _ h2⟩) (fun i σ' H' hi hp => ?_) (fun σ' H' hp => ?_)
    · obtain ⟨x, y, z, rfl, e3, h3⟩ := hp
      have hs0 := someN_nn c p i (by omega)
      refine q_asg (v := .int (someN c p i)) (ev_div (ev_cal (vs := [.int c, .int (p + 1 + (i : Int) % 9)]) (by one_place) fun H1 e1 Q k E => ⟨_, _, rfl, by omega, by omega, k⟩) (ev_ixN (ns := [1, 1000]) (el_lst (by one_place) (by decide)) (fun _ _ => by one_place) (by omega) (by simp; omega)) (divW ?_ ?_)) fun H4 e4 => ?_
      · have e : ((i : Int) / 9).toNat = 0 ∨ ((i : Int) / 9).toNat = 1 := by omega
        rcases e with e | e <;> rw [e] <;> decide
      · have e : ((i : Int) / 9).toNat = 0 ∨ ((i : Int) / 9).toNat = 1 := by omega
        have e2 : ([1, 1000] : List Int).getD ((i : Int) / 9).toNat 0 ≤ 1000 := by rcases e with e | e <;> rw [e] <;> decide
        omega
      refine q_asg (v := .int (farN c p i)) (by one_place) fun H5 e5 => ?_
      refine s_app (v := .int (itemN c p i)) (e5 _ _ (e4 _ _ h3)) (by one_place) (ev_ixN (ns := [farN c p i % 7 - 3, 0, farN c p i % 201 - 100, (farN c p i % 19 - 9) * 1000000000000000000000000000000, (farN c p i % 2001 - 1000) ^ 5]) (el_lst (ea_cons (by one_place) (ea_cons (by one_place) (ea_cons (by one_place) (ea_cons (ev_mul (by one_place) (ev_pow (i := 10) (j := 30) ev_c ev_c ⟨by decide, by decide +kernel⟩ (by rfl)) (mulW (by omega) (by omega))) (ea_cons (ev_pow (i := farN c p i % 2001 - 1000) (j := 5) (by one_place) ev_c (cpow5 (by omega)) rfl) ea_nil))))) (by show 5 ≤ 100000; decide)) (fun _ _ => by one_place) (by omega) (by simp; omega)) (by rw [List.length_map, mkL_len]; omega) fun H6 e6 => ?_
      refine ⟨_, _, _, rfl, Ex.mut (((e3.trans e4).trans e5).trans e6) (fresh_back e1 nt), ?_⟩
      rw [upd_same]
      unfold mkL
      rw [List.range_succ, List.map_append, List.map_append]
      rfl
    · obtain ⟨x, y, z, rfl, e3, h3⟩ := hp
      refine q_popW (l := 0) (i := 4) rfl h3 fun H4 e4 h4 => ?_
      exact s_ret (v := .ref t) (ev_var rfl) fun H5 e5 => q t H5 (fresh_back e1 nt) ((e4 H (fresh_back e1 nt) e3).trans e5) (e5 _ _ h4)
end

/- _law_times: slots 0 _law_f, 1 _law_g, 2 _law_told, 3 _law_i, 4 _law_x, 5 _law_j, 6 _law_y; calls _law_cut -/
abbrev s__law_times : Stmt := topS 24
theorem sc__law_times : FnScope ["_law_f", "_law_g", "_law_told", "_law_i", "_law_x", "_law_j", "_law_y"] ["_law_f", "_law_g"] (defScope s__law_times) := ⟨rfl, rfl, rfl, by decide +kernel, rfl, by decide +kernel, by decide +kernel⟩

def spLTimes (K : PySem.W.Frag) : Sp := fun vs H Q _ => ∃ (a b : Addr) (f g : List Int) (n m : Nat), vs = [.ref a, .ref b] ∧ SqL K H a (f.map V.int) ∧ SqL K H b (g.map V.int) ∧ f.length ≤ 2000 ∧ g.length ≤ 2000 ∧ Bd n f ∧ Bd m g ∧ n + m ≤ 900000 ∧ RetL ((mulL f g).map V.int) H Q
/- _law_plus: slots 0 _law_f, 1 _law_g, 2 _law_by, 3 _law_told, 4 _law_i, 5 _law_x, 6 _law_y; calls _law_cut -/
abbrev s__law_plus : Stmt := topS 25
theorem sc__law_plus : FnScope ["_law_f", "_law_g", "_law_by", "_law_told", "_law_i", "_law_x", "_law_y"] ["_law_f", "_law_g", "_law_by"] (defScope s__law_plus) := ⟨rfl, rfl, rfl, by decide +kernel, rfl, by decide +kernel, by decide +kernel⟩

def spLPlus (K : PySem.W.Frag) : Sp := fun vs H Q _ => ∃ (a b : Addr) (f g : List Int) (y : Int) (n : Nat), vs = [.ref a, .ref b, .int y] ∧ SqL K H a (f.map V.int) ∧ SqL K H b (g.map V.int) ∧ f.length ≤ 2000 ∧ g.length ≤ 2000 ∧ y.natAbs < 2 ∧ Bd n g ∧ n ≤ 800000 ∧ RetL ((addP y f g).map V.int) H Q
section
variable {P : Program} {w : World} {K : PySem.W.Frag} {mg : Str → Option Value} {base : Heap}
theorem cal_ltimes (nb : Nb mg) (c__law_cut : Cal P w K mg base CX0 "_law_cut" 1 ["_law_numbers"] (spCut K)) (d : Dfn K mg "_law_times" ["_law_f", "_law_g"] s__law_times) : Cal P w K mg base CX0 "_law_times" 2 ["_law_f", "_law_g"] (spLTimes K) := by
  refine d.cal sc__law_times (fun vs H Q E h => ?_) (fun fa cdv A outer s H vs Q E hr h => ?_)
  · obtain ⟨a, b, f, g, n, m, rfl, _⟩ := h
    rfl
  · obtain ⟨a, b, f, g, bn, bm, rfl, hF, hG, zf, zg, bf, bg, hnm, q⟩ := h
    refine ⟨_, (pss_cons (ps_set (i := 2) sc__law_times.nd rfl (.inl rfl) (pe_op op_rep (pe_lst (pa_cons pe_int pa_nil)) (pe_op op_add (pe_callB call_len_seq (by rfl) nb.len PySem.boot_len (pa_cons (pv 0) pa_nil)) (pe_callB call_len_seq (by rfl) nb.len PySem.boot_len (pa_cons (pv 1) pa_nil)))))
      (pss_cons (ps_for PassesOwn.never rfl (pi_enum (by rfl) nb.enumerate (pa_cons (pv 0) pa_nil)) (pg_tup (by rfl) (pgs_cons (pg_name (i := 3) sc__law_times.nd rfl (.inl rfl)) (pgs_cons (pg_name (i := 4) sc__law_times.nd rfl (.inl rfl)) pgs_nil))) (pss_one (ps_for PassesOwn.never rfl (pi_enum (by rfl) nb.enumerate (pa_cons (pv 1) pa_nil)) (pg_tup (by rfl) (pgs_cons (pg_name (i := 5) sc__law_times.nd rfl (.inl rfl)) (pgs_cons (pg_name (i := 6) sc__law_times.nd rfl (.inl rfl)) pgs_nil))) (pss_one (ps_asg (pe_op op_add (pe_ix ix_list (pv 2) (pe_op op_add (pv 3) (pv 5)) (fun _ _ => rfl)) (pe_op op_mulW (pv 4) (pv 6))) (pg_sub (pv 2) (pe_op op_add (pv 3) (pv 5)) set_list))))))
      (pss_one (ps_ret (pe_cal c__law_cut (hr.mono (by first | decide | omega)) (by rfl) pass0 (pa_cons (pv 2) pa_nil)))))), ?_⟩
    refine q_asgL (xs := (List.replicate (f.length + g.length) (0 : Int)).map V.int) (el_is (el_rep (k := ((f.length + g.length : Nat) : Int)) (el_lst (by one_place) (by decide)) (ev_is (ev_add (ev_len (ev_var rfl) hF) (ev_len (ev_var rfl) hG)) ?_) (by omega) (by omega)) (by rw [List.map_replicate, Int.toNat_natCast])) fun t H2 nt e2 h2 => ?_
    · rw [List.length_map, List.length_map]
      rfl
    refine q_forE (xs := f.map V.int) (by one_place) (ex_l e2 hF) (fun i σ' H' => ∃ (T : List Int) (x y z u : Option V), σ' = [some (.ref a), some (.ref b), some (.ref t), x, y, z, u] ∧ Ex H H' ∧ H' t = some (.lst (T.map V.int)) ∧ T.length = f.length + g.length ∧ ∀ m, m < T.length → coef T m = cv f g i m)
      (fun H3 e3 => ⟨_, none, none, none, none, rfl, e2.trans e3, e3 _ _ h2, List.length_replicate, fun m _ => coef_rep⟩) (fun i σ' H' _ hp => ?_) (fun i x σ' H' hx hp H3 e3 => ?_) (fun σ' H' hp => ?_)
    · obtain ⟨_, _, _, _, _, _, e3, _⟩ := hp
      exact ex_l e3 hF
    · obtain ⟨T, x1, x2, x3, x4, rfl, e4, h4, hT, hc⟩ := hp
      obtain ⟨z, hz, rfl⟩ := map_get hx
      have hi := (List.getElem?_eq_some_iff.mp hz).1
      refine s_forE (xs := g.map V.int) (by one_place) (ex_l (e4.trans e3) hG) (fun j σ' H' => ∃ (T : List Int) (x y : Option V), σ' = [some (.ref a), some (.ref b), some (.ref t), some (.int (i : Nat)), some (.int z), x, y] ∧ Ex H H' ∧ H' t = some (.lst (T.map V.int)) ∧ T.length = f.length + g.length ∧ ∀ m, m < T.length → coef T m = cv f g i m + if i ≤ m ∧ m - i < j then coef f i * coef g (m - i) else 0)
        (fun H5 e5 => ⟨T, _, _, rfl, (e4.trans e3).trans e5, e5 _ _ (e3 _ _ h4), hT, fun m hm => ?_⟩) (fun j σ' H' _ hp => ?_) (fun j x σ' H' hx hp H5 e5 => ?_) (fun σ' H' hp => ?_)
      · rw [hc m hm, if_neg (by omega)]
        omega
      · obtain ⟨_, _, _, _, e5, _⟩ := hp
        exact ex_l e5 hG
      · obtain ⟨T, y1, y2, rfl, e6, h6, hT, hc⟩ := hp
        obtain ⟨y, hy, rfl⟩ := map_get hx
        have hj := (List.getElem?_eq_some_iff.mp hy).1
        refine s_setI (j := i + j) (b := coef T (i + j) + z * y) (e5 _ _ h6) (by one_place) (ev_is (by one_place) (by rfl)) (by omega) (ev_add (ev_ixI (j := i + j) (SqL.of (e5 _ _ h6)) (ev_var rfl) (ev_is (by one_place) (by rfl)) (coef_get (by omega))) (ev_mul (ev_var rfl) (ev_var rfl) (mulB (bf.at hz) (bg.at hy) hnm))) fun H7 e7 => ⟨_, _, _, rfl, Ex.mut ((e6.trans e5).trans e7) nt, upd_same, by rw [List.length_set]; exact hT, fun m hm => ?_⟩
        rw [List.length_set] at hm
        rw [coef_set (by omega), hc m hm, hc (i + j) (by omega)]
        by_cases e : m = i + j
        · subst e
          rw [if_pos rfl, if_neg (by omega), if_pos (by omega), Nat.add_sub_cancel_left, coef_of hz, coef_of hy]
          omega
        · rw [if_neg e]
          split <;> split <;> first | rfl | omega
      · obtain ⟨T, y1, y2, rfl, e6, h6, hT, hc⟩ := hp
        refine ⟨T, _, _, _, _, rfl, e6, h6, hT, fun m hm => ?_⟩
        rw [List.length_map] at hc
        rw [hc m hm, cv]
        by_cases e : i ≤ m
        · rw [if_pos e]
          split
          · rfl
          · rw [coef_ge (show g.length ≤ m - i by omega)]
            simp
        · rw [if_neg (by omega), if_neg e]
    · obtain ⟨T, x1, x2, x3, x4, rfl, e4, h4, hT, hc⟩ := hp
      rw [List.length_map] at hc
      have eT : T = mkL (f.length + g.length) (cv f g f.length) := mkL_of hT fun m hm => hc m (by omega)
      exact s_retL (xs := (mulL f g).map V.int) (el_cal (by one_place) fun H1 e1 Q k E => ⟨t, T, rfl, SqL.of (e1 _ _ h4), by omega, by rw [eT]; exact k⟩) fun p H5 np e5 hp => q.go e4 np e5 hp
theorem cal_lplus (nb : Nb mg) (c__law_cut : Cal P w K mg base CX0 "_law_cut" 1 ["_law_numbers"] (spCut K)) (d : Dfn K mg "_law_plus" ["_law_f", "_law_g", "_law_by"] s__law_plus) : Cal P w K mg base CX0 "_law_plus" 2 ["_law_f", "_law_g", "_law_by"] (spLPlus K) := by
  refine d.cal sc__law_plus (fun vs H Q E h => ?_) (fun fa cdv A outer s H vs Q E hr h => ?_)
  · obtain ⟨a, b, f, g, y, n, rfl, _⟩ := h
    rfl
  · obtain ⟨a, b, f, g, y, bn, rfl, hF, hG, zf, zg, hy, bg, hn, q⟩ := h
    refine ⟨_, (pss_cons (ps_set (i := 3) sc__law_plus.nd rfl (.inl rfl) (pe_op op_rep (pe_lst (pa_cons pe_int pa_nil)) (pe_callB (call_max2 rfl) (by rfl) nb.max (by decide +kernel) (pa_cons (pe_callB call_len_seq (by rfl) nb.len PySem.boot_len (pa_cons (pv 0) pa_nil)) (pa_cons (pe_callB call_len_seq (by rfl) nb.len PySem.boot_len (pa_cons (pv 1) pa_nil)) pa_nil)))))
      (pss_cons (ps_for PassesOwn.never rfl (pi_enum (by rfl) nb.enumerate (pa_cons (pv 0) pa_nil)) (pg_tup (by rfl) (pgs_cons (pg_name (i := 4) sc__law_plus.nd rfl (.inl rfl)) (pgs_cons (pg_name (i := 5) sc__law_plus.nd rfl (.inl rfl)) pgs_nil))) (pss_one (ps_asg (pe_op op_add (pe_ix ix_list (pv 3) (pv 4) (fun _ _ => rfl)) (pv 5)) (pg_sub (pv 3) (pv 4) set_list))))
      (pss_cons (ps_for PassesOwn.never rfl (pi_enum (by rfl) nb.enumerate (pa_cons (pv 1) pa_nil)) (pg_tup (by rfl) (pgs_cons (pg_name (i := 4) sc__law_plus.nd rfl (.inl rfl)) (pgs_cons (pg_name (i := 6) sc__law_plus.nd rfl (.inl rfl)) pgs_nil))) (pss_one (ps_asg (pe_op op_add (pe_ix ix_list (pv 3) (pv 4) (fun _ _ => rfl)) (pe_op op_mulW (pv 2) (pv 6))) (pg_sub (pv 3) (pv 4) set_list))))
      (pss_one (ps_ret (pe_cal c__law_cut (hr.mono (by first | decide | omega)) (by rfl) pass0 (pa_cons (pv 3) pa_nil))))))), ?_⟩
    have hmax : (if ((g.map V.int).length : Int) > ((f.map V.int).length : Int) then ((g.map V.int).length : Int) else ((f.map V.int).length : Int)) = ((max f.length g.length : Nat) : Int) := by
      rw [List.length_map, List.length_map]
      split <;> omega
    refine q_asgL (xs := (List.replicate (max f.length g.length) (0 : Int)).map V.int) (el_is (el_rep (k := ((max f.length g.length : Nat) : Int)) (el_lst (by one_place) (by decide)) (ev_is (ev_max2 (ev_len (ev_var rfl) hF) (ev_len (ev_var rfl) hG)) (by rw [hmax])) (by omega) (by omega)) (by rw [List.map_replicate, Int.toNat_natCast])) fun t H1 nt e1 h1 => ?_
    refine q_forE (xs := f.map V.int) (by one_place) (ex_l e1 hF) (fun i σ' H' => ∃ (T : List Int) (x z u : Option V), σ' = [some (.ref a), some (.ref b), some (.int y), some (.ref t), x, z, u] ∧ Ex H H' ∧ H' t = some (.lst (T.map V.int)) ∧ T.length = max f.length g.length ∧ ∀ m, m < T.length → coef T m = if m < i then coef f m else 0)
      (fun H2 e2 => ⟨_, none, none, none, rfl, e1.trans e2, e2 _ _ h1, List.length_replicate, fun m _ => coef_rep⟩) (fun i σ' H' _ hp => ?_) (fun i x σ' H' hx hp H2 e2 => ?_) (fun σ' H' hp => ?_)
    · obtain ⟨_, _, _, _, _, e3, _⟩ := hp
      exact ex_l e3 hF
    · obtain ⟨T, x', y', u', rfl, e3, h3, hT, hc⟩ := hp
      obtain ⟨z, hz, rfl⟩ := map_get hx
      have hi := (List.getElem?_eq_some_iff.mp hz).1
      refine s_setI (j := i) (b := coef T i + z) (e2 _ _ h3) (by one_place) (by one_place) (by omega) (ev_add (ev_ixI (j := i) (SqL.of (e2 _ _ h3)) (ev_var rfl) (ev_var rfl) (coef_get (by omega))) (ev_var rfl)) fun H4 e4 => ⟨_, _, _, _, rfl, Ex.mut ((e3.trans e2).trans e4) nt, upd_same, by rw [List.length_set]; exact hT, fun m hm => ?_⟩
      rw [List.length_set] at hm
      rw [coef_set (by omega), hc m hm, hc i (by omega), if_neg (Nat.lt_irrefl i)]
      by_cases e : m = i
      · subst e
        rw [if_pos rfl, if_pos (by omega), coef_of hz]
        omega
      · rw [if_neg e]
        split <;> split <;> first | rfl | omega
    · obtain ⟨T, x', y', u', rfl, e3, h3, hT, hc⟩ := hp
      rw [List.length_map] at hc
      refine q_forE (xs := g.map V.int) (by one_place) (ex_l e3 hG) (fun i σ' H' => ∃ (T : List Int) (x z u : Option V), σ' = [some (.ref a), some (.ref b), some (.int y), some (.ref t), x, z, u] ∧ Ex H H' ∧ H' t = some (.lst (T.map V.int)) ∧ T.length = max f.length g.length ∧ ∀ m, m < T.length → coef T m = coef f m + if m < i then y * coef g m else 0)
        (fun H2 e2 => ⟨_, _, _, _, rfl, e3.trans e2, e2 _ _ h3, hT, fun m hm => ?_⟩) (fun i σ' H' _ hp => ?_) (fun i x σ' H' hx hp H2 e2 => ?_) (fun σ' H' hp => ?_)
      · rw [hc m hm, if_neg (Nat.not_lt_zero m)]
        split
        · omega
        · rw [coef_ge (by omega)]
          rfl
      · obtain ⟨_, _, _, _, _, e3, _⟩ := hp
        exact ex_l e3 hG
      · obtain ⟨T, x', y', u', rfl, e3, h3, hT, hc⟩ := hp
        obtain ⟨z, hz, rfl⟩ := map_get hx
        have hi := (List.getElem?_eq_some_iff.mp hz).1
        refine s_setI (j := i) (b := coef T i + y * z) (e2 _ _ h3) (by one_place) (by one_place) (by omega) (ev_add (ev_ixI (j := i) (SqL.of (e2 _ _ h3)) (ev_var rfl) (ev_var rfl) (coef_get (by omega))) (ev_mul (ev_var rfl) (ev_var rfl) (mulB (a := 1) (by omega) (bg.at hz) (by omega)))) fun H4 e4 => ⟨_, _, _, _, rfl, Ex.mut ((e3.trans e2).trans e4) nt, upd_same, by rw [List.length_set]; exact hT, fun m hm => ?_⟩
        rw [List.length_set] at hm
        rw [coef_set (by omega), hc m hm, hc i (by omega), if_neg (Nat.lt_irrefl i)]
        by_cases e : m = i
        · subst e
          rw [if_pos rfl, if_pos (by omega), coef_of hz]
          omega
        · rw [if_neg e]
          split <;> split <;> first | rfl | omega
      · obtain ⟨T, x', y', u', rfl, e3, h3, hT, hc⟩ := hp
        rw [List.length_map] at hc
        have eT : T = addL y f g := mkL_of hT fun m hm => by
          rw [hc m (by omega)]
          split
          · rfl
          · rw [coef_ge (show g.length ≤ m by omega), Int.mul_zero]
        exact s_retL (xs := (addP y f g).map V.int) (el_cal (by one_place) fun H1 e1 Q k E => ⟨t, T, rfl, SqL.of (e1 _ _ h3), by omega, by rw [eT]; exact k⟩) fun p H4 np e4 hp => q.go e3 np e4 hp
end

/- _law_whole: slots 0 _law_got, 1 _law_one; calls  -/
abbrev s__law_whole : Stmt := topS 26
theorem sc__law_whole : FnScope ["_law_got", "_law_one"] ["_law_got"] (defScope s__law_whole) := ⟨rfl, rfl, rfl, by decide +kernel, rfl, by decide +kernel, by decide +kernel⟩

def spWhole : Sp := fun vs H Q _ => ∃ (a : Addr) (ns : List Int), vs = [.ref a] ∧ H a = some (.lst (ns.map V.int)) ∧ RetV (.bl true) H Q
section
variable {P : Program} {w : World} {K : PySem.W.Frag} {mg : Str → Option Value} {base : Heap}
theorem cal_whole (nb : Nb mg) (d : Dfn K mg "_law_whole" ["_law_got"] s__law_whole) : Cal P w K mg base CX0 "_law_whole" 1 ["_law_got"] spWhole := by
  refine d.cal sc__law_whole (fun vs H Q E h => ?_) (fun f cdv A outer s H vs Q E hr h => ?_)
  · obtain ⟨a, ns, rfl, _⟩ := h
    rfl
  · obtain ⟨a, ns, rfl, ha, q⟩ := h
    refine ⟨_, (pss_cons (ps_if (pt_not (pt_val (pe_callB call_isi (by rfl) nb.isinstance (by decide +kernel) (pa_cons (pv 0) (pa_cons (pe_bltn (v := .ty "list") (by rfl) nb.list (by decide +kernel) rfl) pa_nil))))) (pss_one (ps_ret pe_bl)) pss_nil)
      (pss_cons (ps_for PassesOwn.never rfl (pi_list (pv 0)) (pg_name (i := 1) sc__law_whole.nd rfl (.inl rfl)) (pss_one (ps_if (PW.pt (pw_or (pt_not (pt_val (pe_callB call_isi (by rfl) nb.isinstance (by decide +kernel) (pa_cons (pv 1) (pa_cons (pe_bltn (v := .ty "int") (by rfl) nb.int (by decide +kernel) rfl) pa_nil))))) (pw_or1 (pt_val (pe_callB call_isi (by rfl) nb.isinstance (by decide +kernel) (pa_cons (pv 1) (pa_cons (pe_bltn (v := .ty "bool") (by rfl) nb.bool (by decide +kernel) rfl) pa_nil))))))) (pss_one (ps_ret pe_bl)) pss_nil)))
      (pss_one (ps_ret pe_bl)))), ?_⟩
    refine q_when (b := false) (et_is (et_not (et_B (ev_isi (b := true) (by one_place) (tx_lst ha) (by decide +kernel)))) rfl) (fun hb => nomatch hb) (fun _ H1 e1 => ?_)
    refine q_forLn (xs := ns.map V.int) (by one_place) (SqL.of (e1 _ _ ha)) (fun i σ' H' => ∃ x, σ' = [some (.ref a), x] ∧ Ex H H') (fun H2 e2 => ⟨none, rfl, e1.trans e2⟩) (fun i σ' H' _ hp => ?_) (fun i x σ' H' hx hp => ?_) (fun σ' H' hp => ?_)
    · obtain ⟨y, rfl, e3⟩ := hp
      exact SqL.of (e3 _ _ ha)
    · obtain ⟨y, rfl, e3⟩ := hp
      obtain ⟨z, rfl⟩ := int_of_mem (List.mem_of_getElem? hx)
      exact s_when (b := false) (et_is (et_or (et_not (et_B (ev_isi (b := true) (by one_place) tx_int (by decide +kernel)))) fun _ => et_B (ev_isi (b := false) (by one_place) tx_int (by decide +kernel))) rfl) (fun hb => nomatch hb) (fun _ H4 e4 => ⟨_, rfl, e3.trans e4⟩)
    · obtain ⟨y, rfl, e3⟩ := hp
      exact s_ret (v := .bl true) (by one_place) fun H4 e4 => q _ (e3.trans e4)
end

/-- by the name x another class, whose errors those of C are not -/
structure OthX (K : PySem.W.Frag) (mg : Str → Option Value) (x : Str) (C D : Addr) : Prop where
  g : mg x = some (.ref D)
  n : PySem.W.kitOne K (.ref C) (.ref D) = some false
theorem any_no {K : PySem.W.Frag} {mg : Str → Option Value} {x : Str} {C D : Addr} {us : List Value} (h : OthX K mg x C D) (r : PySem.W.kitAny K (.ref C) us = some false) : PySem.W.kitAny K (.ref C) (.ref D :: us) = some false := kitAny_cons h.n (fun _ => r) (fun z => nomatch z)
theorem kit_self {K : PySem.W.Frag} {C : Addr} : PySem.W.kitOne K (.ref C) (.ref C) = some true := by
  unfold PySem.W.kitOne
  rw [if_pos (beq_self_eq_true _)]

/- _law_kind: slots 0 _law_caught, 1 _law_others, 2 _law_more; calls  -/
abbrev s__law_kind : Stmt := topS 27
theorem sc__law_kind : FnScope ["_law_caught", "_law_others", "_law_more"] ["_law_caught"] (defScope s__law_kind) := ⟨rfl, rfl, rfl, by decide +kernel, rfl, by decide +kernel, by decide +kernel⟩

def spKind (C : Addr) : Sp := fun vs H Q _ => ∃ (a : Addr), vs = [.ref a] ∧ H a = some (ExV (.ref C) a) ∧ RetV (.bl true) H Q
section
variable {P : Program} {w : World} {K : PySem.W.Frag} {mg : Str → Option Value} {base : Heap} {C D1 D2 D3 D4 D5 D6 D7 D8 D9 D10 D11 D12 : Addr}
theorem cal_kind (nb : Nb mg) (z_ValueError : mg "ValueError" = none) (hv : PySem.W.kitOne K (.ref C) (.type "ValueError") = some true) (x_OWN : OwnX K mg "NoPart" C) (x_NoCosine : OthX K mg "NoCosine" C D1) (x_NoCrowds : OthX K mg "NoCrowds" C D2) (x_NoDeed : OthX K mg "NoDeed" C D3) (x_NoFold : OthX K mg "NoFold" C D4) (x_NoName : OthX K mg "NoName" C D5) (x_NoOrder : OthX K mg "NoOrder" C D6) (x_NoPlain : OthX K mg "NoPlain" C D7)
    (x_NoPrime : OthX K mg "NoPrime" C D8) (x_NoRow : OthX K mg "NoRow" C D9) (x_NoSize : OthX K mg "NoSize" C D10) (x_NoText : OthX K mg "NoText" C D11) (x_NoUnit : OthX K mg "NoUnit" C D12) (d : Dfn K mg "_law_kind" ["_law_caught"] s__law_kind) : Cal P w K mg base CX0 "_law_kind" 1 ["_law_caught"] (spKind C) := by
  have x_NoPart := x_OWN
  refine d.cal sc__law_kind (fun vs H Q E h => ?_) (fun fa cdv A outer s H vs Q E hr h => ?_)
  · obtain ⟨a, rfl, _⟩ := h
    rfl
  · obtain ⟨a, rfl, ha, q⟩ := h
    refine ⟨_, (pss_cons (ps_set (i := 1) sc__law_kind.nd rfl (.inl rfl) (pe_callB (call_isXT x_OWN.e) (by rfl) nb.isinstance (by decide +kernel) (pa_cons (pv 0) (pa_cons (pe_tup (pa_cons (pe_cls (x := "NoCosine") rfl x_NoCosine.g) (pa_cons (pe_cls (x := "NoCrowds") rfl x_NoCrowds.g) (pa_cons (pe_cls (x := "NoDeed") rfl x_NoDeed.g) (pa_cons (pe_cls (x := "NoFold") rfl x_NoFold.g) (pa_cons (pe_cls (x := "NoName") rfl x_NoName.g) (pa_cons (pe_cls (x := "NoOrder") rfl x_NoOrder.g) (pa_cons (pe_cls (x := "NoPlain") rfl x_NoPlain.g) pa_nil)))))))) pa_nil))))
      (pss_cons (ps_set (i := 2) sc__law_kind.nd rfl (.inl rfl) (pe_callB (call_isXT x_OWN.e) (by rfl) nb.isinstance (by decide +kernel) (pa_cons (pv 0) (pa_cons (pe_tup (pa_cons (pe_cls (x := "NoPrime") rfl x_NoPrime.g) (pa_cons (pe_cls (x := "NoRow") rfl x_NoRow.g) (pa_cons (pe_cls (x := "NoSize") rfl x_NoSize.g) (pa_cons (pe_cls (x := "NoText") rfl x_NoText.g) (pa_cons (pe_cls (x := "NoUnit") rfl x_NoUnit.g) pa_nil)))))) pa_nil))))
      (pss_one (ps_ret (pe_and (pe_callB (call_isX x_OWN.e) (by rfl) nb.isinstance (by decide +kernel) (pa_cons (pv 0) (pa_cons (pe_cls (x := "NoPart") rfl x_NoPart.g) pa_nil))) (pe_and (pe_callB (call_isX x_OWN.e) (by rfl) nb.isinstance (by decide +kernel) (pa_cons (pv 0) (pa_cons (pe_bltn (v := .ty "ValueError") (by rfl) z_ValueError (by decide +kernel) rfl) pa_nil))) (pe_and (pe_not (pv 1)) (pe_one (pe_not (pv 2)))))))))), ?_⟩
    refine q_asg (v := .bl false) (ev_isXT (ev_var rfl) (eu_tup (ea_cons ev_c (ea_cons ev_c (ea_cons ev_c (ea_cons ev_c (ea_cons ev_c (ea_cons ev_c (ea_cons ev_c ea_nil))))))) (by show 7 ≤ 100000; decide)) ha (.cons (.own _) (.cons (.own _) (.cons (.own _) (.cons (.own _) (.cons (.own _) (.cons (.own _) (.cons (.own _) .nil)))))))
      (any_no x_NoCosine (any_no x_NoCrowds (any_no x_NoDeed (any_no x_NoFold (any_no x_NoName (any_no x_NoOrder (any_no x_NoPlain kitAny_nil)))))))) fun H1 e1 => ?_
    refine q_asg (v := .bl false) (ev_isXT (ev_var rfl) (eu_tup (ea_cons ev_c (ea_cons ev_c (ea_cons ev_c (ea_cons ev_c (ea_cons ev_c ea_nil))))) (by show 5 ≤ 100000; decide)) (e1 _ _ ha) (.cons (.own _) (.cons (.own _) (.cons (.own _) (.cons (.own _) (.cons (.own _) .nil)))))
      (any_no x_NoPrime (any_no x_NoRow (any_no x_NoSize (any_no x_NoText (any_no x_NoUnit kitAny_nil)))))) fun H2 e2 => ?_
    have h2 := e2 _ _ (e1 _ _ ha)
    exact s_ret (v := .bl true) (ev_is (ev_andV (a := true) (b := true) (ev_isX (ev_var rfl) ev_c h2 (.own _) kit_self) fun _ => ev_is (ev_andV (a := true) (b := true) (ev_isX (ev_var rfl) ev_c h2 (.ty _) hv) fun _ => ev_is (ev_andV (a := true) (b := true) (ev_is (ev_notV (ev_var rfl)) rfl) fun _ => ev_is (ev_notV (ev_var rfl)) rfl) rfl) rfl) rfl) fun H3 e3 => q _ ((e1.trans e2).trans e3)
end

/- _law_right: slots 0 _law_f, 1 _law_g, 2 _law_handed, 3 _law_caught, 4 _law_got, 5 _law_row, 6 e; calls over, _law_kind, _law_whole, _law_cut, _law_plus, _law_times -/
abbrev s__law_right : Stmt := topS 28
theorem sc__law_right : FnScope ["_law_f", "_law_g", "_law_handed", "_law_caught", "_law_got", "_law_row", "e"] ["_law_f", "_law_g"] (defScope s__law_right) := ⟨rfl, rfl, rfl, by decide +kernel, rfl, by decide +kernel, by decide +kernel⟩

def spRight (K : PySem.W.Frag) : Sp := fun vs H Q _ => ∃ (a b : Addr) (f g : List Int), vs = [.ref a, .ref b] ∧ SqL K H a (f.map V.int) ∧ SqL K H b (g.map V.int) ∧ Tr f ∧ Bd 1000 f ∧ Bd 1000 g ∧ f.length ≤ 40 ∧ g.length ≤ 40 ∧ RetV (.bl true) H Q
/-- a call that tells (q, r) -/
def EvR2 (te : TE) (σ : L2.St) (H : Hp) (f g : List Int) : Prop := ∀ H1, Ex H H1 → ∀ Q : VK, (∀ q r, Ovr 50000 f g q r → RetU2 q r H1 Q) → te σ H1 Q
section
variable {P : Program} {w : World} {K : PySem.W.Frag} {mg : Str → Option Value} {base : Heap} {C Wc : Addr}
theorem dec_not {p : Prop} [Decidable p] (h : p) : (!decide p) = false := by
  rw [decide_eq_true h]
  rfl
theorem shaped2 (f g : List Int) : SeqAt.shaped (.tuple [dI f, dI g]) = true := by
  have e1 := dI_sh f
  have e2 := dI_sh g
  unfold SeqAt.shaped at e1 e2 ⊢
  rw [Bool.and_eq_true, decide_eq_true_iff] at e1 e2 ⊢
  have d1 : (dI f).depth ≤ 1 := Nat.succ_le_succ (dep_map PyData.int 0 (fun _ => Nat.le_refl 0) f)
  have d2 : (dI g).depth ≤ 1 := Nat.succ_le_succ (dep_map PyData.int 0 (fun _ => Nat.le_refl 0) g)
  refine ⟨?_, ?_⟩
  · simp only [PyData.canLay0, PyData.canLayAll0, Bool.and_true, Bool.and_eq_true]
    exact ⟨e1.1, e2.1⟩
  · simp only [PyData.depth, PyData.depthAll]
    omega
theorem eqv2 (f g : List Int) : PyData.eqv (.tuple [dI f, dI g]) (.tuple [dI f, dI g]) = true := by
  have ok : okD (.tuple [dI f, dI g]) = true := by
    have o1 : okD (dI f) = true := by unfold dI okD; exact okA_map _ (fun _ => rfl) f
    have o2 : okD (dI g) = true := by unfold dI okD; exact okA_map _ (fun _ => rfl) g
    simp only [okD, okA, o1, o2, Bool.and_true]
  exact (eqv_ok _ _ ok ok).mpr rfl
/-- where over is asked rightly -/
theorem er_over {σ : L2.St} {H : Hp} {ta : TA} {E : L2.St → XK} {p1 p2 : Addr} {f g : List Int} (h : EvA ta σ H [.ref p1, .ref p2]) (h1 : SqL K H p1 (f.map V.int)) (h2 : SqL K H p2 (g.map V.int)) (zf : f.length ≤ 40) (zg : g.length ≤ 40) (tf : Tr f) (bf : Bd 1000 f) (bg : Bd 1000 g) (hg : Good g) :
    EvR2 (tCallS (spOver K C) E ta) σ H f g := fun H1 e Q k => h H1 e _ fun H2 e2 => ⟨p1, p2, f, g, rfl, ex_l (e.trans e2) h1, ex_l (e.trans e2) h2, zf, zg, tf, bf, bg, fun _ q r o t a b H3 nt na nb nab e3 ht ha hb =>
      k q r o t a b H3 (fresh_back e2 nt) (fresh_back e2 na) (fresh_back e2 nb) nab (e2.trans e3) ht ha hb, fun n => absurd hg n⟩
/-- where over is asked wrongly -/
theorem er_no {σ : L2.St} {H : Hp} {ta : TA} {E : L2.St → XK} {p1 p2 : Addr} {f g : List Int} (h : EvA ta σ H [.ref p1, .ref p2]) (h1 : SqL K H p1 (f.map V.int)) (h2 : SqL K H p2 (g.map V.int)) (zf : f.length ≤ 40) (zg : g.length ≤ 40) (tf : Tr f) (bf : Bd 1000 f) (bg : Bd 1000 g) (hg : ¬ Good g) :
    ∀ H1, Ex H H1 → ∀ Q : VK, (∀ H2, Ex H1 H2 → E σ (.ref C) none H2) → tCallS (spOver K C) E ta σ H1 Q := fun H1 e Q k => h H1 e _ fun H2 e2 => ⟨p1, p2, f, g, rfl, ex_l (e.trans e2) h1, ex_l (e.trans e2) h2, zf, zg, tf, bf, bg, fun x => absurd x hg, fun _ H3 e3 => k H3 (e2.trans e3)⟩
/-- the end of the way where over tells (q, r) -/
theorem ovr_back {f g q r : List Int} (tf : Tr f) (o : Ovr 50000 f g q r) : addP 1 (mulL q g) r = f := by
  unfold addP
  refine trim_eq tf fun m => ?_
  rw [coef_addL, coef_mulL, o.is m]
  omega
theorem cal_right (nb : Nb mg) (x_WheelError : GlX mg "WheelError" Wc) (hex : PySem.W.exmOne K (.ref C) (.ref Wc) = some true) (c_over : Cal P w K mg base (L2.CX P w) "over" 2 ["f", "g"] (spOver K C)) (c__law_kind : Cal P w K mg base CX0 "_law_kind" 1 ["_law_caught"] (spKind C))
    (c__law_cut : Cal P w K mg base CX0 "_law_cut" 1 ["_law_numbers"] (spCut K)) (c__law_times : Cal P w K mg base CX0 "_law_times" 2 ["_law_f", "_law_g"] (spLTimes K)) (c__law_plus : Cal P w K mg base CX0 "_law_plus" 2 ["_law_f", "_law_g", "_law_by"] (spLPlus K)) (c__law_whole : Cal P w K mg base CX0 "_law_whole" 1 ["_law_got"] spWhole)
    (d : Dfn K mg "_law_right" ["_law_f", "_law_g"] s__law_right) : Cal P w K mg base CX0 "_law_right" 4 ["_law_f", "_law_g"] (spRight K) := by
  refine d.cal sc__law_right (fun vs H Q E h => ?_) (fun fa cdv A outer s H vs Q E hr h => ?_)
  · obtain ⟨a, b, f, g, rfl, _⟩ := h
    rfl
  · obtain ⟨a, b, f, g, rfl, hF, hG, tf, bf, bg, zf, zg, q⟩ := h
    refine ⟨_, (pss_cons (ps_set (i := 2) sc__law_right.nd rfl (.inl rfl) (pe_tup (pa_cons (pe_callTy call_list_of (by rfl) nb.list (by decide +kernel) (pa_cons (pv 0) pa_nil)) (pa_cons (pe_callTy call_list_of (by rfl) nb.list (by decide +kernel) (pa_cons (pv 1) pa_nil)) pa_nil))))
      (Evl.pss_cut (ps_if (pt_cmpR (op_eqD hr.units) (pv 0) (pv 1) (nomark _)) (pss_one (ps_set (i := 2) sc__law_right.nd rfl (.inl rfl) (pe_tup (pa_cons (pe_ix ix_tup (pv 2) pe_int (fun _ _ => rfl)) (pa_cons (pe_ix ix_tup (pv 2) pe_int (fun _ _ => rfl)) pa_nil))))) pss_nil)
      (pss_cons (ps_set (i := 3) sc__law_right.nd rfl (.inl rfl) pe_non)
      (pss_cons (ps_set (i := 4) sc__law_right.nd rfl (.inl rfl) pe_non)
      (pss_cons (ps_try_keep (i := 6) (j := 3) (tb := fun W => tSeq (tFor (iTup K (tCallS (spOver K C) (WE W) (tCons (tOp (rIxT K) (tVar 2) (tC (.int 0))) (tCons (tOp (rIxT K) (tVar 2) (tC (.int 1))) tNil)))) (gName 5) (tDrop (tBM K "list" rAppend (tVar 5) (tCons (tC (.int 7)) tNil)))) (tAsg (tCallS (spOver K C) (WE W) (tCons (tOp (rIxT K) (tVar 2) (tC (.int 0))) (tCons (tOp (rIxT K) (tVar 2) (tC (.int 1))) tNil))) (gName 4))) rfl rfl rfl sc__law_right.nd rfl rfl ⟨rfl, by decide, .inl x_WheelError.g⟩ (by show 6 < 7; decide) (fun W pn xe tk po => (pss_cons (by exact (ps_for po rfl (pi_tup (pe_calS c_over (hr.mono (by first | decide | omega)) (by rfl) tk (pa_cons (pe_ix ix_tup (pv 2) pe_int (fun _ _ => rfl)) (pa_cons (pe_ix ix_tup (pv 2) pe_int (fun _ _ => rfl)) pa_nil)))) (pg_name (i := 5) sc__law_right.nd rfl (.inl rfl)) (pss_one (by exact (ps_expr (pe_bm PySem.F.plainAttrs_list PySem.F.slot_list_append PySem.F.type_list_append mt_append (pv 5) (pa_cons pe_int pa_nil)))))))
      (pss_one (by exact (ps_set (i := 4) sc__law_right.nd rfl (.inl rfl) (pe_calS c_over (hr.mono (by first | decide | omega)) (by rfl) tk (pa_cons (pe_ix ix_tup (pv 2) pe_int (fun _ _ => rfl)) (pa_cons (pe_ix ix_tup (pv 2) pe_int (fun _ _ => rfl)) pa_nil)))))))) (fun a o pn => pss_one (ps_set (i := 3) sc__law_right.nd rfl (.inl rfl) (pv 6))))
      (pss_cons (ps_if (pt_cmpR (op_neD hr.units) (pv 2) (pe_tup (pa_cons (pv 0) (pa_cons (pv 1) pa_nil))) (nomark _)) (pss_one (ps_ret pe_bl)) pss_nil)
      (pss_cons (ps_if (PW.pt (pw_or (pt_cmpR (op_eqD hr.units) (pv 1) (pe_lst pa_nil) (nomark _)) (pw_or1 (pt_cmpR op_ne (pe_ix ix_list (pv 1) (pe_op op_sub (pe_callB call_len_seq (by rfl) nb.len PySem.boot_len (pa_cons (pv 1) pa_nil)) pe_int) (fun _ _ => rfl)) pe_int (nomark _))))) (pss_one (ps_ret (pe_cal c__law_kind (hr.mono (by first | decide | omega)) (by rfl) pass0 (pa_cons (pv 3) pa_nil)))) pss_nil)
      (pss_cons (ps_if (PW.pt (pw_or (pt_cmpR op_notN (pv 3) pe_non (nomark _)) (pw_or (pt_not (pt_val (pe_callB call_isi (by rfl) nb.isinstance (by decide +kernel) (pa_cons (pv 4) (pa_cons (pe_bltn (v := .ty "tuple") (by rfl) nb.tuple (by decide +kernel) rfl) pa_nil))))) (pw_or1 (pt_cmpR op_ne (pe_callB call_len_seq (by rfl) nb.len PySem.boot_len (pa_cons (pv 4) pa_nil)) pe_int (nomark _)))))) (pss_one (ps_ret pe_bl)) pss_nil)
      (pss_cons (ps_if (PW.pt (pw_or (pt_not (pt_val (pe_cal c__law_whole (hr.mono (by first | decide | omega)) (by rfl) pass0 (pa_cons (pe_ix ix_tup (pv 4) pe_int (fun _ _ => rfl)) pa_nil)))) (pw_or (pt_not (pt_val (pe_cal c__law_whole (hr.mono (by first | decide | omega)) (by rfl) pass0 (pa_cons (pe_ix ix_tup (pv 4) pe_int (fun _ _ => rfl)) pa_nil)))) (pw_or1 (pt_cmpR op_ge (pe_callB call_len_seq (by rfl) nb.len PySem.boot_len (pa_cons (pe_ix ix_tup (pv 4) pe_int (fun _ _ => rfl)) pa_nil)) (pe_callB call_len_seq (by rfl) nb.len PySem.boot_len (pa_cons (pv 1) pa_nil)) (nomark _)))))) (pss_one (ps_ret pe_bl)) pss_nil)
      (pss_cons (ps_if (PW.pt (pw_or (pt_cmpR (op_neD hr.units) (pe_cal c__law_cut (hr.mono (by first | decide | omega)) (by rfl) pass0 (pa_cons (pe_ix ix_tup (pv 4) pe_int (fun _ _ => rfl)) pa_nil)) (pe_ix ix_tup (pv 4) pe_int (fun _ _ => rfl)) (nomark _)) (pw_or1 (pt_cmpR (op_neD hr.units) (pe_cal c__law_cut (hr.mono (by first | decide | omega)) (by rfl) pass0 (pa_cons (pe_ix ix_tup (pv 4) pe_int (fun _ _ => rfl)) pa_nil)) (pe_ix ix_tup (pv 4) pe_int (fun _ _ => rfl)) (nomark _))))) (pss_one (ps_ret pe_bl)) pss_nil)
      (pss_one (ps_ret (pe_cmpR (op_eqD hr.units) (pe_cal c__law_plus (hr.mono (by first | decide | omega)) (by rfl) pass0 (pa_cons (pe_cal c__law_times (hr.mono (by first | decide | omega)) (by rfl) pass0 (pa_cons (pe_ix ix_tup (pv 4) pe_int (fun _ _ => rfl)) (pa_cons (pv 1) pa_nil))) (pa_cons (pe_ix ix_tup (pv 4) pe_int (fun _ _ => rfl)) (pa_cons pe_int pa_nil)))) (pv 0) (nomark _)))))))))))))), ?_⟩
    refine q_asgT2 (xs := f.map V.int) (ys := g.map V.int) (el_list (ev_var rfl) hF) (el_list (ev_var rfl) hG) fun t p1 p2 H1 e1 ht hp1 hp2 => ?_
    refine q_cut (M := fun σ' H' => ∃ (t p1 p2 : Addr), σ' = [some (.ref a), some (.ref b), some (.ref t), none, none, none, none] ∧ Ex H H' ∧ H' t = some (.tup [.ref p1, .ref p2]) ∧ H' p1 = some (.lst (f.map V.int)) ∧ H' p2 = some (.lst (g.map V.int))) ?_ ?_
    · refine s_when (b := decide (f = g)) (et_test (ev_op (ev_var rfl) (ev_var rfl) (rv_eqI (ex_l e1 hF) (ex_l e1 hG)))) (fun hb H2 e2 => ?_) (fun hb H2 e2 => ⟨t, p1, p2, rfl, e1.trans e2, e2 _ _ ht, e2 _ _ hp1, e2 _ _ hp2⟩)
      rw [decide_eq_true_iff] at hb
      subst hb
      refine s_asgU (xs := [.ref p1, .ref p1]) (eu_tup (ea_cons (ev_ixT (j := 0) (SqT.of (e2 _ _ ht)) (ev_var rfl) ev_c rfl) (ea_cons (ev_ixT (j := 0) (SqT.of (e2 _ _ ht)) (ev_var rfl) ev_c rfl) ea_nil)) (by show 2 ≤ 100000; decide)) fun u H3 nu e3 h3 => ⟨u, p1, p1, rfl, (e1.trans e2).trans e3, h3, e3 _ _ (e2 _ _ hp1), e3 _ _ (e2 _ _ hp1)⟩
    · rintro σ' H2 ⟨t, p1, p2, rfl, e2, ht, hp1, hp2⟩
      clear e1
      have z0 : ∀ {σ : L2.St} {H3 : Hp}, σ[2]? = some (some (.ref t)) → Ex H2 H3 → Ev (tOp (rIxT K) (tVar 2) (tC (.int 0))) σ H3 (.ref p1) := fun hs e3 => ev_ixT (j := 0) (SqT.of (e3 _ _ ht)) (ev_var hs) ev_c rfl
      have z1 : ∀ {σ : L2.St} {H3 : Hp}, σ[2]? = some (some (.ref t)) → Ex H2 H3 → Ev (tOp (rIxT K) (tVar 2) (tC (.int 1))) σ H3 (.ref p2) := fun hs e3 => ev_ixT (j := 1) (SqT.of (e3 _ _ ht)) (ev_var hs) ev_c rfl
      have za : ∀ {σ : L2.St} {H3 : Hp}, σ[2]? = some (some (.ref t)) → Ex H2 H3 → EvA (tCons (tOp (rIxT K) (tVar 2) (tC (.int 0))) (tCons (tOp (rIxT K) (tVar 2) (tC (.int 1))) tNil)) σ H3 [.ref p1, .ref p2] := fun hs e3 => ea_cons (z0 hs e3) (ea_cons (z1 hs e3) ea_nil)
      -- what was handed in stands, and is asked
      have kept : ∀ {σ : L2.St} {H3 : Hp}, σ[2]? = some (some (.ref t)) → σ[0]? = some (some (.ref a)) → σ[1]? = some (some (.ref b)) → Ex H2 H3 → EvT (tTest (tOp (rNeD K) (tVar 2) (tTup (tCons (tVar 0) (tCons (tVar 1) tNil))))) σ H3 false := fun hs h0 h1 e3 =>
        et_test (ev_opU (xs := [.ref a, .ref b]) (ev_var hs) (eu_tup (ea_cons (ev_var h0) (ea_cons (ev_var h1) ea_nil)) (by show 2 ≤ 100000; decide)) fun u H5 hu e5 => rv_neD (d := .tuple [dI f, dI g]) (e := .tuple [dI f, dI g])
          (fun H6 e6 => .tup (SqT.of (e6 _ _ (e5 _ _ (e3 _ _ ht)))) (.cons (dp_ints (SqL.of (e6 _ _ (e5 _ _ (e3 _ _ hp1))))) (.cons (dp_ints (SqL.of (e6 _ _ (e5 _ _ (e3 _ _ hp2))))) .nil)))
          (fun H6 e6 => .tup (SqT.of (e6 _ _ hu)) (.cons (dp_ints (ex_l (((e2.trans e3).trans e5).trans e6) hF)) (.cons (dp_ints (ex_l (((e2.trans e3).trans e5).trans e6) hG)) .nil))) (shaped2 f g) (shaped2 f g) (by rw [eqv2]; rfl))
      have bad : ∀ {σ : L2.St} {H3 : Hp}, σ[1]? = some (some (.ref b)) → Ex H2 H3 → EvT (tOr (tTest (tOp (rEqD K) (tVar 1) (tLst tNil))) (tTest (tOp rNe (tOp (rIxL K) (tVar 1) (tOp (rI0 fun i j => .int (i - j)) (tCB (rLenS K) (tCons (tVar 1) tNil)) (tC (.int 1)))) (tC (.int 1))))) σ H3 (decide (g = []) || !decide (coef g (g.length - 1) = 1)) := fun h1 e3 =>
        et_or (et_test (ev_opL (xs := ([] : List Int).map V.int) (ev_var h1) (el_lst ea_nil (by decide)) fun p H5 hp e5 => rv_eqI (ex_l ((e2.trans e3).trans e5) hG) (SqL.of hp))) fun hb => et_test (ev_neI (ev_ixI (j := g.length - 1) (ex_l (e2.trans e3) hG) (ev_var h1) (ev_is (ev_sub (ev_len (ev_var h1) (ex_l (e2.trans e3) hG)) ev_c) (by
          have hb := of_decide_eq_false hb
          have := List.length_pos_iff.mpr hb
          rw [List.length_map]
          congr 1
          omega)) (coef_get (by
          have hb := of_decide_eq_false hb
          have := List.length_pos_iff.mpr hb
          omega))) ev_c)
      refine q_asg (v := .non) ev_c fun H3 e3 => ?_
      refine q_asg (v := .non) ev_c fun H4 e4 => ?_
      have e24 := e3.trans e4
      by_cases hg : Good g
      · -- it is told
        have lg := List.length_pos_iff.mpr hg.1
        have er := fun {σ : L2.St} {H3 : Hp} {E : L2.St → XK} (hs : σ[2]? = some (some (.ref t))) (e3 : Ex H2 H3) => er_over (K := K) (C := C) (E := E) (za hs e3) (SqL.of (e3 _ _ hp1)) (SqL.of (e3 _ _ hp2)) zf zg tf bf bg hg
        refine er rfl e24 H4 (Ex.refl H4) _ fun Z R o u pa pb H5 nu na nb' nab e5 hu ha hb => ⟨u, rfl, ⟨_, SqT.of hu⟩, for_tup (K := K) (xs := [.ref pa, .ref pb]) (fun i σ' H' => ∃ (x : Option V) (xa xb : List V), σ' = [some (.ref a), some (.ref b), some (.ref t), some .non, some .non, x, none] ∧ Ex H4 H' ∧ H' u = some (.tup [.ref pa, .ref pb]) ∧ H' pa = some (.lst xa) ∧ H' pb = some (.lst xb) ∧ xa.length ≤ 100 + i ∧ xb.length ≤ 100 + i)
          ⟨none, _, _, rfl, e5, hu, ha, hb, by rw [List.length_map]; have := o.lq; omega, by rw [List.length_map]; have := o.lr; omega⟩ (fun i σ' H' _ hp => ?_) (fun i x σ' H' hx hp => ?_) (fun σ' H' hp => ?_)⟩
        · obtain ⟨_, _, _, _, _, h1, _⟩ := hp
          exact SqT.of h1
        · obtain ⟨x', xa, xb, rfl, e6, h6, ha6, hb6, la, lb⟩ := hp
          have nua : u ≠ pa := fun z => by
            rw [z, ha6] at h6
            exact nomatch h6
          have nub : u ≠ pb := fun z => by
            rw [z, hb6] at h6
            exact nomatch h6
          rcases i with _ | _ | i
          · obtain rfl : V.ref pa = x := Option.some.inj hx
            show tDrop _ _ _ _
            exact s_app ha6 (ev_var rfl) ev_c (by omega) fun H7 e7 => ⟨_, _, _, rfl, Ex.mut (e6.trans e7) na, (upd_ne nua).trans (e7 _ _ h6), upd_same, (upd_ne nab.symm).trans (e7 _ _ hb6), by rw [List.length_append, List.length_singleton]; omega, by omega⟩
          · obtain rfl : V.ref pb = x := Option.some.inj hx
            show tDrop _ _ _ _
            exact s_app hb6 (ev_var rfl) ev_c (by omega) fun H7 e7 => ⟨_, _, _, rfl, Ex.mut (e6.trans e7) nb', (upd_ne nub).trans (e7 _ _ h6), (upd_ne nab).trans (e7 _ _ ha6), upd_same, by omega, by rw [List.length_append, List.length_singleton]; omega⟩
          · exact nomatch hx
        · obtain ⟨x5, _, _, rfl, e6, _⟩ := hp
          clear hu ha hb
          have e26 := e24.trans e6
          refine er rfl e26 H' (Ex.refl H') _ fun Z R o u pa pb H7 nu na nb' nab e7 hu ha hb => ?_
          have e27 := e26.trans e7
          have aa := e2.trans e27
          clear e6 e26 e7 e5
          refine q_when (b := false) (kept rfl rfl rfl e27) (fun hb => nomatch hb) (fun _ H8 e8 => ?_)
          refine q_when (b := false) (et_is (bad rfl (e27.trans e8)) (by rw [decide_eq_false hg.1, decide_eq_true hg.2]; rfl)) (fun hb => nomatch hb) (fun _ H9 e9 => ?_)
          have e79 := e8.trans e9
          have y0 : ∀ {σ : L2.St} {H3 : Hp}, σ[4]? = some (some (.ref u)) → Ex H9 H3 → Ev (tOp (rIxT K) (tVar 4) (tC (.int 0))) σ H3 (.ref pa) := fun hs e3 => ev_ixT (j := 0) (SqT.of (e3 _ _ (e79 _ _ hu))) (ev_var hs) ev_c rfl
          have y1 : ∀ {σ : L2.St} {H3 : Hp}, σ[4]? = some (some (.ref u)) → Ex H9 H3 → Ev (tOp (rIxT K) (tVar 4) (tC (.int 1))) σ H3 (.ref pb) := fun hs e3 => ev_ixT (j := 1) (SqT.of (e3 _ _ (e79 _ _ hu))) (ev_var hs) ev_c rfl
          refine q_when (b := false) (et_is (et_or (et_test (ev_notN (ev_var rfl))) fun _ => et_or (et_not (et_B (ev_isi (b := true) (ev_var rfl) (tx_sqt (SqT.of (e79 _ _ hu))) (by decide +kernel)))) fun _ => et_test (ev_neI (ev_lenT (ev_var rfl) (SqT.of (e79 _ _ hu))) ev_c)) rfl) (fun hb => nomatch hb) (fun _ H10 e10 => ?_)
          have a10 := e79.trans e10
          refine q_when (b := false) (et_is (et_or (et_not (et_B (ev_cal (vs := [.ref pa]) (z := .bl true) (ea_cons (y0 rfl e10) ea_nil) fun H4 e4 Q k E => ⟨pa, _, rfl, e4 _ _ (a10 _ _ ha), k⟩))) fun _ => et_or (et_not (et_B (ev_cal (vs := [.ref pb]) (z := .bl true) (ea_cons (y1 rfl e10) ea_nil) fun H4 e4 Q k E => ⟨pb, _, rfl, e4 _ _ (a10 _ _ hb), k⟩))) fun _ => et_test (ev_ge (ev_len (y1 rfl e10) (SqL.of (a10 _ _ hb))) (ev_len (ev_var rfl) (ex_l (aa.trans a10) hG)))) (by
            have := o.lr
            rw [List.length_map, List.length_map, decide_eq_false (by omega)]
            rfl)) (fun hb => nomatch hb) (fun _ H11 e11 => ?_)
          have a11 := a10.trans e11
          have b11 := e10.trans e11
          refine q_when (b := false) (et_is (et_or (et_test (ev_opL1 (xs := (trim Z).map V.int) (el_cal (ea_cons (y0 rfl b11) ea_nil) fun H4 e4 Q k E => ⟨pa, Z, rfl, SqL.of (e4 _ _ (a11 _ _ ha)), by have := o.lq; omega, k⟩) (fun H4 e4 => y0 rfl (b11.trans e4)) fun p H5 hp e5 => rv_neI (SqL.of hp) (SqL.of (e5 _ _ (a11 _ _ ha))))) fun _ => et_test (ev_opL1 (xs := (trim R).map V.int) (el_cal (ea_cons (y1 rfl b11) ea_nil) fun H4 e4 Q k E => ⟨pb, R, rfl, SqL.of (e4 _ _ (a11 _ _ hb)), by have := o.lr; omega, k⟩) (fun H4 e4 => y1 rfl (b11.trans e4)) fun p H5 hp e5 => rv_neI (SqL.of hp) (SqL.of (e5 _ _ (a11 _ _ hb))))) (by
            rw [decide_eq_true (trim_of_tr o.tq), decide_eq_true (trim_of_tr o.tr)]
            rfl)) (fun hb => nomatch hb) (fun _ H12 e12 => ?_)
          have a12 := a11.trans e12
          have b12 := b11.trans e12
          have zm : (mulL Z g).length ≤ 100 := by
            unfold mulL
            rw [trim_len]
            have := tlen_le (mkL (Z.length + g.length) (cv Z g Z.length)) (mkL (Z.length + g.length) (cv Z g Z.length)).length
            have := mkL_len (Z.length + g.length) (cv Z g Z.length)
            have := o.lq
            omega
          refine s_ret (v := .bl true) (ev_opL1 (xs := (addP 1 (mulL Z g) R).map V.int) (el_calL (xs := (mulL Z g).map V.int) (vs := [.ref pb, .int 1]) (el_cal (vs := [.ref pa, .ref b]) (ea_cons (y0 rfl b12) (by one_place)) fun H4 e4 Q k E => ⟨pa, b, Z, g, 50000, 1000, rfl, SqL.of (e4 _ _ (a12 _ _ ha)), ex_l (aa.trans (a12.trans e4)) hG, by have := o.lq; omega, by omega, o.bq, bg, by decide, k⟩) (ea_cons (y1 rfl b12) (by one_place)) fun p H4 e4 hp Q k E => ⟨p, pb, mulL Z g, R, 1, 50000, rfl, SqL.of hp, SqL.of (e4 _ _ (a12 _ _ hb)), by omega, by have := o.lr; omega, by decide, o.br, by decide, k⟩) (fun H4 e4 => ev_var rfl) fun p H5 hp e5 => ?_) fun H15 e15 => q _ (aa.trans (a12.trans e15))
          have := rv_eqI (K := K) (SqL.of hp) (ex_l (aa.trans (a12.trans e5)) hF)
          rw [decide_eq_true (ovr_back tf o)] at this
          exact this
      · -- it is refused
        have hb : (decide (g = []) || !decide (coef g (g.length - 1) = 1)) = true := by
          by_cases h0 : g = []
          · rw [decide_eq_true h0]
            rfl
          · rw [decide_eq_false (fun h1 => hg ⟨h0, h1⟩)]
            simp
        refine er_no (K := K) (C := C) (za rfl e24) (SqL.of (e24 _ _ hp1)) (SqL.of (e24 _ _ hp2)) zf zg tf bf bg hg H4 (Ex.refl H4) _ fun H6 e6 => ⟨hex, rfl, fun e ne => ?_⟩
        have e26 : Ex H2 (upd H6 e (ExV (.ref C) e)) := (e24.trans e6).trans (Ex.new ne)
        have he : upd H6 e (ExV (.ref C) e) e = some (ExV (.ref C) e) := upd_same
        refine q_when (b := false) (kept rfl rfl rfl e26) (fun hb => nomatch hb) (fun _ H8 e8 => ?_)
        refine q_when (b := true) (et_is (bad rfl (e26.trans e8)) hb) (fun _ H9 e9 => ?_) (fun hb => nomatch hb)
        exact s_ret (v := .bl true) (ev_cal (vs := [.ref e]) (by one_place) fun H4 e4 Q k E => ⟨e, rfl, e4 _ _ (e9 _ _ (e8 _ _ he)), k⟩) fun H10 e10 => q _ (e2.trans (((e26.trans e8).trans e9).trans e10))
end

theorem cv_bd {a b : Nat} {f g : List Int} (hf : Bd a f) (hg : Bd b g) (m : Nat) : ∀ i, (cv f g i m).natAbs < 2 ^ (a + b + i)
  | 0 => Nat.two_pow_pos _
  | i + 1 => by
    unfold cv
    have h1 := cv_bd hf hg m i
    have h2 : (if i ≤ m then coef f i * coef g (m - i) else 0).natAbs ≤ 2 ^ (a + b + i) := by
      split
      · rw [Int.natAbs_mul]
        have h3 : (coef f i).natAbs * (coef g (m - i)).natAbs ≤ 2 ^ a * 2 ^ b := Nat.mul_le_mul (Nat.le_of_lt (hf i)) (Nat.le_of_lt (hg (m - i)))
        rw [← Nat.pow_add] at h3
        exact Nat.le_trans h3 (Nat.pow_le_pow_right (by decide) (Nat.le_add_right _ _))
      · exact Nat.zero_le _
    have h4 := Int.natAbs_add_le (cv f g i m) (if i ≤ m then coef f i * coef g (m - i) else 0)
    have h5 : 2 ^ (a + b + (i + 1)) = 2 ^ (a + b + i) * 2 := by rw [← Nat.add_assoc, Nat.pow_succ]
    omega
theorem mulL_bd {a b : Nat} {f g : List Int} (hf : Bd a f) (hg : Bd b g) : Bd (a + b + f.length) (mulL f g) := fun m => by
  rw [coef_mulL]
  exact cv_bd hf hg m _
theorem bd_take {b n : Nat} {f : List Int} (h : Bd b f) : Bd b (f.take n) := fun m => by
  rw [coef_take]
  split
  · exact h m
  · exact Nat.two_pow_pos b
theorem mulL_len (f g : List Int) : (mulL f g).length ≤ f.length + g.length := by
  unfold mulL
  rw [trim_len]
  have := tlen_le (mkL (f.length + g.length) (cv f g f.length)) (mkL (f.length + g.length) (cv f g f.length)).length
  have := mkL_len (f.length + g.length) (cv f g f.length)
  omega
theorem tr_one (g : List Int) : Tr (g ++ [1]) := fun _ => by
  rw [List.length_append, List.length_singleton, Nat.add_sub_cancel, coef_app, if_neg (Nat.lt_irrefl _), Nat.sub_self]
  show (1 : Int) ≠ 0
  decide
theorem bd_one {b : Nat} {g : List Int} (hb : 1 ≤ b) (h : Bd b g) : Bd b (g ++ [1]) := fun m => by
  rw [coef_app]
  split
  · exact h m
  · by_cases q : m - g.length = 0
    · rw [q]
      show (1 : Nat) < 2 ^ b
      exact Nat.one_lt_two_pow (by omega)
    · rw [coef_ge (by rw [List.length_singleton]; omega)]
      exact Nat.two_pow_pos b
/- law: slots 0 _law_script, 1 _law_cell, 2 _law_f, 3 _law_g, 4 _law_pick; calls _law_poly, _law_mix, _law_times, _law_right -/
abbrev s_law : Stmt := topS 29
theorem sc_law : FnScope ["_law_script", "_law_cell", "_law_f", "_law_g", "_law_pick"] ["_law_script"] (defScope s_law) := ⟨rfl, rfl, rfl, by decide +kernel, rfl, by decide +kernel, by decide +kernel⟩

def spLaw (K : PySem.W.Frag) : Sp := fun vs H Q _ => ∃ (a : Addr) (ns : List Int), vs = [.ref a] ∧ SqL K H a (ns.map V.int) ∧ ns.length ≤ 63 ∧ ∀ H', Q (.bl true) H'
section
variable {P : Program} {w : World} {K : PySem.W.Frag} {mg : Str → Option Value} {base : Heap} {C Wc D1 D2 D3 D4 D5 D6 D7 D8 D9 D10 D11 D12 : Addr}
theorem ev_calVL {σ : L2.St} {H : Hp} {t1 t2 : TE} {sp : Sp} {xs : List V} {v z : V} {E : XK} (h1 : Ev t1 σ H v) (h : EvL t2 σ H xs) (hs : ∀ p H1, Ex H H1 → H1 p = some (.lst xs) → ∀ Q : VK, RetV z H1 Q → ∀ E : XK, sp [v, .ref p] H1 Q E) : Ev (tCall sp [] E (tCons t1 (tCons t2 tNil))) σ H z := fun H1 e Q q =>
  h1 H1 e _ fun H2 e2 => h H2 (e.trans e2) _ fun p H3 np e3 hp => hs p H3 ((e.trans e2).trans e3) hp Q (fun H4 e4 => q H4 ((e2.trans e3).trans e4)) E
theorem law_ok {f : Addr} {fd : FuncData} (F : Fun K "law" "law" s_law f fd) (nb : Nb mg) (z_ValueError : mg "ValueError" = none) (hv : PySem.W.kitOne K (.ref C) (.type "ValueError") = some true) (x_NoPart : OwnX K mg "NoPart" C) (x_WheelError : GlX mg "WheelError" Wc) (hex : PySem.W.exmOne K (.ref C) (.ref Wc) = some true)
    (x_NoCosine : OthX K mg "NoCosine" C D1) (x_NoCrowds : OthX K mg "NoCrowds" C D2) (x_NoDeed : OthX K mg "NoDeed" C D3) (x_NoFold : OthX K mg "NoFold" C D4) (x_NoName : OthX K mg "NoName" C D5) (x_NoOrder : OthX K mg "NoOrder" C D6) (x_NoPlain : OthX K mg "NoPlain" C D7)
    (x_NoPrime : OthX K mg "NoPrime" C D8) (x_NoRow : OthX K mg "NoRow" C D9) (x_NoSize : OthX K mg "NoSize" C D10) (x_NoText : OthX K mg "NoText" C D11) (x_NoUnit : OthX K mg "NoUnit" C D12)
    (d_trimmed : Dfn K mg "trimmed" ["numbers"] s_trimmed) (d_over : Dfn K mg "over" ["f", "g"] s_over)
    (d__law_mix : Dfn K mg "_law_mix" ["_law_cell", "_law_k"] s__law_mix) (d__law_poly : Dfn K mg "_law_poly" ["_law_cell", "_law_place", "_law_most"] s__law_poly) (d__law_cut : Dfn K mg "_law_cut" ["_law_numbers"] s__law_cut) (d__law_times : Dfn K mg "_law_times" ["_law_f", "_law_g"] s__law_times) (d__law_plus : Dfn K mg "_law_plus" ["_law_f", "_law_g", "_law_by"] s__law_plus) (d__law_whole : Dfn K mg "_law_whole" ["_law_got"] s__law_whole) (d__law_kind : Dfn K mg "_law_kind" ["_law_caught"] s__law_kind) (d__law_right : Dfn K mg "_law_right" ["_law_f", "_law_g"] s__law_right) :
    FnOk P w K mg base CX0 5 f fd ["_law_script"] (spLaw K) := by
  have c_trimmed : Cal P w K mg base CX0 "trimmed" 1 ["numbers"] (spTrim K) := cal_trimmed nb d_trimmed
  have c_over : Cal P w K mg base (L2.CX P w) "over" 2 ["f", "g"] (spOver K C) := cal_over nb x_NoPart c_trimmed d_over
  have c__law_mix : Cal P w K mg base CX0 "_law_mix" 1 ["_law_cell", "_law_k"] spMix := cal_mix nb d__law_mix
  have c__law_poly : Cal P w K mg base CX0 "_law_poly" 2 ["_law_cell", "_law_place", "_law_most"] spLPoly := cal_lpoly nb c__law_mix d__law_poly
  have c__law_cut : Cal P w K mg base CX0 "_law_cut" 1 ["_law_numbers"] (spCut K) := cal_cut nb d__law_cut
  have c__law_times : Cal P w K mg base CX0 "_law_times" 2 ["_law_f", "_law_g"] (spLTimes K) := cal_ltimes nb c__law_cut d__law_times
  have c__law_kind : Cal P w K mg base CX0 "_law_kind" 1 ["_law_caught"] (spKind C) := cal_kind nb z_ValueError hv x_NoPart x_NoCosine x_NoCrowds x_NoDeed x_NoFold x_NoName x_NoOrder x_NoPlain x_NoPrime x_NoRow x_NoSize x_NoText x_NoUnit d__law_kind
  have c__law_right : Cal P w K mg base CX0 "_law_right" 4 ["_law_f", "_law_g"] (spRight K) := cal_right nb x_WheelError hex c_over c__law_kind c__law_cut c__law_times (cal_lplus nb c__law_cut d__law_plus) (cal_whole nb d__law_whole) d__law_right
  refine F.ok sc_law (fun vs H Q E h => ?_) (fun cdv A outer s H vs Q E hr h => ?_)
  · obtain ⟨a, ns, rfl, _⟩ := h
    rfl
  · obtain ⟨a, ns, rfl, hS, hlen, q⟩ := h
    refine ⟨_, (pss_cons (ps_for PassesOwn.never rfl (pi_list (pe_op op_cat (pe_slice sl_list (pv 0) po_none (po_some pe_int)) (pe_lst (pa_cons pe_int pa_nil)))) (pg_name (i := 1) sc_law.nd rfl (.inl rfl)) (pss_cons (ps_set (i := 2) sc_law.nd rfl (.inl rfl) (pe_cal c__law_poly (hr.mono (by first | decide | omega)) (by rfl) pass0 (pa_cons (pv 1) (pa_cons pe_int (pa_cons pe_int pa_nil)))))
      (pss_cons (ps_set (i := 3) sc_law.nd rfl (.inl rfl) (pe_cal c__law_poly (hr.mono (by first | decide | omega)) (by rfl) pass0 (pa_cons (pv 1) (pa_cons pe_int (pa_cons pe_int pa_nil)))))
      (pss_cons (ps_set (i := 4) sc_law.nd rfl (.inl rfl) (pe_cal c__law_mix (hr.mono (by first | decide | omega)) (by rfl) pass0 (pa_cons (pv 1) (pa_cons pe_int pa_nil))))
      (Evl.pss_cut (ps_if (pt_cmpR op_gt (pe_op op_mod (pv 4) pe_int) pe_int (nomark _)) (pss_one (ps_set (i := 3) sc_law.nd rfl (.inl rfl) (pe_op op_cat (pv 3) (pe_lst (pa_cons pe_int pa_nil))))) pss_nil)
      (Evl.pss_cut (ps_if (pt_cmpR op_eq (pe_op op_mod (pe_op op_fdivW (pv 4) pe_int) pe_int) pe_int (nomark _)) (pss_one (ps_set (i := 2) sc_law.nd rfl (.inl rfl) (pe_cal c__law_times (hr.mono (by first | decide | omega)) (by rfl) pass0 (pa_cons (pe_slice sl_list (pv 2) po_none (po_some pe_int)) (pa_cons (pv 3) pa_nil))))) pss_nil)
      (pss_one (ps_if (PW.pt (pw_or (pt_not (pt_val (pe_cal c__law_right (hr.mono (by first | decide | omega)) (by rfl) pass0 (pa_cons (pv 2) (pa_cons (pv 3) pa_nil))))) (pw_or (pt_not (pt_val (pe_cal c__law_right (hr.mono (by first | decide | omega)) (by rfl) pass0 (pa_cons (pv 2) (pa_cons (pe_lst (pa_cons pe_int pa_nil)) pa_nil))))) (pw_or (pt_not (pt_val (pe_cal c__law_right (hr.mono (by first | decide | omega)) (by rfl) pass0 (pa_cons (pv 3) (pa_cons (pv 2) pa_nil))))) (pw_or1 (pt_not (pt_val (pe_cal c__law_right (hr.mono (by first | decide | omega)) (by rfl) pass0 (pa_cons (pv 3) (pa_cons (pv 3) pa_nil)))))))))) (pss_one (ps_ret pe_bl)) pss_nil))))))))
      (pss_one (ps_ret pe_bl))), ?_⟩
    have hz : (cutV (ns.map V.int) none (some 16) ++ [V.int 0]).length ≤ 64 := by
      have := cutV_length (ns.map V.int) none (some 16)
      rw [List.length_map] at this
      rw [List.length_append, List.length_singleton]
      omega
    refine q_forNLn (xs := cutV (ns.map V.int) none (some 16) ++ [V.int 0]) (el_cat (el_sl (by one_place) eo_none (eo_some ev_c) hS) (el_lst (by one_place) (by decide)) (by rw [List.length_append] at hz; omega))
      (fun p i σ' H' => ∃ x1 x2 x3 x4, σ' = [some (.ref a), x1, x2, x3, x4] ∧ H' p = some (.lst (cutV (ns.map V.int) none (some 16) ++ [V.int 0])))
      (fun p H1 np e1 hp => ⟨none, none, none, none, rfl, hp⟩) (fun p i σ' H' _ hp => ?_) (fun p i x σ' H' hx hp => ?_) (fun p σ' H' hp => ?_)
    · obtain ⟨_, _, _, _, _, hp⟩ := hp
      exact SqL.of hp
    · obtain ⟨_, x2, x3, x4, rfl, hp⟩ := hp
      obtain ⟨c, rfl⟩ : ∃ c, x = V.int c := by
        rcases List.mem_append.mp (List.mem_of_getElem? hx) with h | h
        · exact int_of_mem (cut_mem h)
        · exact ⟨0, List.mem_singleton.mp h⟩
      have m0 := mix_nn c 22
      have m1 := mix_le c 22
      refine q_asgL (xs := (lpoly c 0 18).map V.int) (el_cal (by one_place) fun H1 e1 Q k E => ⟨c, 0, 18, rfl, by decide, by decide, by decide, by decide, k⟩) fun pf H1 nf e1 h1 => ?_
      refine q_asgL (xs := (lpoly c 11 9).map V.int) (el_cal (by one_place) fun H1 e1 Q k E => ⟨c, 11, 9, rfl, by decide, by decide, by decide, by decide, k⟩) fun pg H2 ng e2 h2 => ?_
      refine q_asg (v := .int (mix c 22)) (ev_cal (by one_place) fun H1 e1 Q k E => ⟨c, 22, rfl, by decide, by decide, k⟩) fun H3 e3 => ?_
      have tf := lpoly_tr c 0 18
      have bf := lpoly_bd c 0 18 (by decide) (by decide)
      have zf := lpoly_len c 0 18 (by decide)
      have tg := lpoly_tr c 11 9
      have bg := lpoly_bd c 11 9 (by decide) (by decide)
      have zg := lpoly_len c 11 9 (by decide)
      generalize lpoly c 0 18 = f at *
      generalize lpoly c 11 9 = g at *
      generalize mix c 22 = k at *
      have e13 := e2.trans e3
      refine q_cut (M := fun σ' H' => ∃ (b : Addr) (g : List Int), σ' = [some (.ref a), some (.int c), some (.ref pf), some (.ref b), some (.int k)] ∧ Ex H1 H' ∧ H' b = some (.lst (g.map V.int)) ∧ Tr g ∧ Bd 300 g ∧ g.length ≤ 10) ?_ ?_
      · refine s_when (b := decide (0 < k % 4)) (by one_place) (fun hb H4 e4 => ?_) (fun hb H4 e4 => ⟨pg, g, rfl, e13.trans e4, e4 _ _ (e3 _ _ h2), tg, bg, by omega⟩)
        refine s_asgL (xs := (g ++ [1]).map V.int) (el_is (el_cat1 (ev_var rfl) (e4 _ _ (e3 _ _ h2)) (el_lst (vs := [.int 1]) (by one_place) (by decide)) (by rw [List.length_map, List.length_singleton]; omega)) (by rw [List.map_append]; rfl)) fun b H5 nb e5 h5 => ⟨b, _, rfl, (e13.trans e4).trans e5, h5, tr_one g, bd_one (by decide) bg, by rw [List.length_append, List.length_singleton]; omega⟩
      · rintro σ' H4 ⟨b, g2, rfl, e4, h4, tg2, bg2, zg2⟩
        refine q_cut (M := fun σ' H' => ∃ (d : Addr) (f : List Int), σ' = [some (.ref a), some (.int c), some (.ref d), some (.ref b), some (.int k)] ∧ Ex H4 H' ∧ H' d = some (.lst (f.map V.int)) ∧ Tr f ∧ Bd 1000 f ∧ f.length ≤ 40) ?_ ?_
        · refine s_when (b := decide (k / 4 % 4 = 1)) (by one_place) (fun hb H5 e5 => ?_) (fun hb H5 e5 => ⟨pf, f, rfl, e5, e5 _ _ (e4 _ _ h1), tf, bf.mono (by decide), by omega⟩)
          have z9 : (f.take 9).length ≤ 9 := by
            rw [List.length_take]
            omega
          refine s_asgL (xs := (mulL (f.take 9) g2).map V.int) (el_calL (xs := (f.take 9).map V.int) (vs := [.ref b]) (el_is (el_sl (ev_var rfl) eo_none (eo_some ev_c) (SqL.of (e5 _ _ (e4 _ _ h1)))) (by
            rw [List.map_take]
            exact cut_take _ 9)) (by one_place) fun p H6 e6 hp Q k E => ⟨p, b, f.take 9, g2, 300, 300, rfl, SqL.of hp, SqL.of (e6 _ _ (e5 _ _ h4)), by omega, by omega, bd_take bf, bg2, by decide, k⟩) fun d H6 nd e6 h6 => ⟨d, _, rfl, e5.trans e6, h6, tr_trim _, (mulL_bd (bd_take bf) bg2).mono (by omega), by have := mulL_len (f.take 9) g2; omega⟩
        · rintro σ' H5 ⟨d, f2, rfl, e5, h5, tf2, bf2, zf2⟩
          have g5 := e5 _ _ h4
          have bg3 : Bd 1000 g2 := bg2.mono (by decide)
          have b1 : Bd 1000 [1] := bd_one (g := []) (by decide) (fun m => by rw [coef_nil]; exact Nat.two_pow_pos _)
          refine s_when (b := false) (et_is (et_or (et_not (et_B (ev_cal (vs := [.ref d, .ref b]) (z := .bl true) (by one_place) fun H6 e6 Q k E => ⟨d, b, f2, g2, rfl, SqL.of (e6 _ _ h5), SqL.of (e6 _ _ g5), tf2, bf2, bg3, zf2, by omega, k⟩))) fun _ =>
            et_or (et_not (et_B (ev_calVL (z := .bl true) (xs := ([1] : List Int).map V.int) (v := .ref d) (ev_var rfl) (el_lst (vs := [.int 1]) (by one_place) (by decide)) fun p H6 e6 hp Q k E => ⟨d, p, f2, [1], rfl, SqL.of (e6 _ _ h5), SqL.of hp, tf2, bf2, b1, zf2, by decide, k⟩))) fun _ =>
            et_or (et_not (et_B (ev_cal (vs := [.ref b, .ref d]) (z := .bl true) (by one_place) fun H6 e6 Q k E => ⟨b, d, g2, f2, rfl, SqL.of (e6 _ _ g5), SqL.of (e6 _ _ h5), tg2, bg3, bf2, by omega, zf2, k⟩))) fun _ =>
            et_not (et_B (ev_cal (vs := [.ref b, .ref b]) (z := .bl true) (by one_place) fun H6 e6 Q k E => ⟨b, b, g2, g2, rfl, SqL.of (e6 _ _ g5), SqL.of (e6 _ _ g5), tg2, bg3, bg3, by omega, by omega, k⟩))) rfl) (fun hb => nomatch hb) (fun _ H7 e7 => ?_)
          exact ⟨_, _, _, _, rfl, e7 _ _ (e5 _ _ (e4 _ _ (e1 _ _ hp)))⟩
    · obtain ⟨_, _, _, _, rfl, hp⟩ := hp
      exact s_ret (v := .bl true) ev_c fun H1 e1 => q _
end

theorem all_mk {l : PySem.W.OpenLaw} {w : World} {K : PySem.W.Frag} {h : Heap} {mg : Str → Option Value} {fa : Addr} (X : K.In h) (G : h.Ns mainGlobals mg) (hfa : mg "law" = some (.ref fa))
    {C_NoPart C_WheelError C_NoCosine C_NoCrowds C_NoDeed C_NoFold C_NoName C_NoOrder C_NoPlain C_NoPrime C_NoRow C_NoSize C_NoText C_NoUnit : Addr}
    {f0 f1 f2 f3 f4 f5 f6 f7 f8 f9 f10 : Addr} {od0 an0 od1 an1 od2 an2 od3 an3 od4 an4 od5 an5 od6 an6 od7 an7 od8 an8 od9 an9 od10 an10 : Option Addr} {sl0 sl1 sl2 sl3 sl4 sl5 sl6 sl7 sl8 sl9 sl10 : Array (Option Value)} {oc0 kV0 dc0 pm0 cd0 ct0 oc1 kV1 dc1 pm1 cd1 ct1 oc2 kV2 dc2 pm2 cd2 ct2 oc3 kV3 dc3 pm3 cd3 ct3 oc4 kV4 dc4 pm4 cd4 ct4 oc5 kV5 dc5 pm5 cd5 ct5 oc6 kV6 dc6 pm6 cd6 ct6 oc7 kV7 dc7 pm7 cd7 ct7 oc8 kV8 dc8 pm8 cd8 ct8 oc9 kV9 dc9 pm9 cd9 ct9 oc10 kV10 dc10 pm10 cd10 ct10 : Value}
    (a0 : PySem.W.nsIn K mainGlobals "trimmed" = some (some (.ref f0))) (l0 : K.lookup f0 = some ⟨oc0, od0, .func (PySem.W.fnOf "trimmed" "trimmed" (defArgs s_trimmed) (defBody s_trimmed) (defScope s_trimmed) .none kV0 dc0 pm0 an0 cd0 ct0), sl0⟩) (c0 : PySem.W.codeIn K cd0 "trimmed" = true) (k0 : PySem.W.keepIn K (.ref f0) = true)
    (a1 : PySem.W.nsIn K mainGlobals "over" = some (some (.ref f1))) (l1 : K.lookup f1 = some ⟨oc1, od1, .func (PySem.W.fnOf "over" "over" (defArgs s_over) (defBody s_over) (defScope s_over) .none kV1 dc1 pm1 an1 cd1 ct1), sl1⟩) (c1 : PySem.W.codeIn K cd1 "over" = true) (k1 : PySem.W.keepIn K (.ref f1) = true)
    (a2 : PySem.W.nsIn K mainGlobals "_law_mix" = some (some (.ref f2))) (l2 : K.lookup f2 = some ⟨oc2, od2, .func (PySem.W.fnOf "_law_mix" "_law_mix" (defArgs s__law_mix) (defBody s__law_mix) (defScope s__law_mix) .none kV2 dc2 pm2 an2 cd2 ct2), sl2⟩) (c2 : PySem.W.codeIn K cd2 "_law_mix" = true) (k2 : PySem.W.keepIn K (.ref f2) = true)
    (a3 : PySem.W.nsIn K mainGlobals "_law_poly" = some (some (.ref f3))) (l3 : K.lookup f3 = some ⟨oc3, od3, .func (PySem.W.fnOf "_law_poly" "_law_poly" (defArgs s__law_poly) (defBody s__law_poly) (defScope s__law_poly) .none kV3 dc3 pm3 an3 cd3 ct3), sl3⟩) (c3 : PySem.W.codeIn K cd3 "_law_poly" = true) (k3 : PySem.W.keepIn K (.ref f3) = true)
    (a4 : PySem.W.nsIn K mainGlobals "_law_cut" = some (some (.ref f4))) (l4 : K.lookup f4 = some ⟨oc4, od4, .func (PySem.W.fnOf "_law_cut" "_law_cut" (defArgs s__law_cut) (defBody s__law_cut) (defScope s__law_cut) .none kV4 dc4 pm4 an4 cd4 ct4), sl4⟩) (c4 : PySem.W.codeIn K cd4 "_law_cut" = true) (k4 : PySem.W.keepIn K (.ref f4) = true)
    (a5 : PySem.W.nsIn K mainGlobals "_law_times" = some (some (.ref f5))) (l5 : K.lookup f5 = some ⟨oc5, od5, .func (PySem.W.fnOf "_law_times" "_law_times" (defArgs s__law_times) (defBody s__law_times) (defScope s__law_times) .none kV5 dc5 pm5 an5 cd5 ct5), sl5⟩) (c5 : PySem.W.codeIn K cd5 "_law_times" = true) (k5 : PySem.W.keepIn K (.ref f5) = true)
    (a6 : PySem.W.nsIn K mainGlobals "_law_plus" = some (some (.ref f6))) (l6 : K.lookup f6 = some ⟨oc6, od6, .func (PySem.W.fnOf "_law_plus" "_law_plus" (defArgs s__law_plus) (defBody s__law_plus) (defScope s__law_plus) .none kV6 dc6 pm6 an6 cd6 ct6), sl6⟩) (c6 : PySem.W.codeIn K cd6 "_law_plus" = true) (k6 : PySem.W.keepIn K (.ref f6) = true)
    (a7 : PySem.W.nsIn K mainGlobals "_law_whole" = some (some (.ref f7))) (l7 : K.lookup f7 = some ⟨oc7, od7, .func (PySem.W.fnOf "_law_whole" "_law_whole" (defArgs s__law_whole) (defBody s__law_whole) (defScope s__law_whole) .none kV7 dc7 pm7 an7 cd7 ct7), sl7⟩) (c7 : PySem.W.codeIn K cd7 "_law_whole" = true) (k7 : PySem.W.keepIn K (.ref f7) = true)
    (a8 : PySem.W.nsIn K mainGlobals "_law_kind" = some (some (.ref f8))) (l8 : K.lookup f8 = some ⟨oc8, od8, .func (PySem.W.fnOf "_law_kind" "_law_kind" (defArgs s__law_kind) (defBody s__law_kind) (defScope s__law_kind) .none kV8 dc8 pm8 an8 cd8 ct8), sl8⟩) (c8 : PySem.W.codeIn K cd8 "_law_kind" = true) (k8 : PySem.W.keepIn K (.ref f8) = true)
    (a9 : PySem.W.nsIn K mainGlobals "_law_right" = some (some (.ref f9))) (l9 : K.lookup f9 = some ⟨oc9, od9, .func (PySem.W.fnOf "_law_right" "_law_right" (defArgs s__law_right) (defBody s__law_right) (defScope s__law_right) .none kV9 dc9 pm9 an9 cd9 ct9), sl9⟩) (c9 : PySem.W.codeIn K cd9 "_law_right" = true) (k9 : PySem.W.keepIn K (.ref f9) = true)
    (a10 : PySem.W.nsIn K mainGlobals "law" = some (some (.ref f10))) (l10 : K.lookup f10 = some ⟨oc10, od10, .func (PySem.W.fnOf "law" "law" (defArgs s_law) (defBody s_law) (defScope s_law) .none kV10 dc10 pm10 an10 cd10 ct10), sl10⟩) (c10 : PySem.W.codeIn K cd10 "law" = true) (k10 : PySem.W.keepIn K (.ref f10) = true)
    (z_len : PySem.W.nsIn K mainGlobals "len" = some none)    (z_range : PySem.W.nsIn K mainGlobals "range" = some none)    (z_max : PySem.W.nsIn K mainGlobals "max" = some none)    (z_list : PySem.W.nsIn K mainGlobals "list" = some none)    (z_int : PySem.W.nsIn K mainGlobals "int" = some none)    (z_bool : PySem.W.nsIn K mainGlobals "bool" = some none)    (z_tuple : PySem.W.nsIn K mainGlobals "tuple" = some none)    (z_isinstance : PySem.W.nsIn K mainGlobals "isinstance" = some none)    (z_enumerate : PySem.W.nsIn K mainGlobals "enumerate" = some none)    (z_reversed : PySem.W.nsIn K mainGlobals "reversed" = some none)    (z_sorted : PySem.W.nsIn K mainGlobals "sorted" = some none)    (z_zip : PySem.W.nsIn K mainGlobals "zip" = some none)    (z_all : PySem.W.nsIn K mainGlobals "all" = some none)    (z_str : PySem.W.nsIn K mainGlobals "str" = some none)
    (q1_NoPart : PySem.W.nsIn K mainGlobals "NoPart" = some (some (.ref C_NoPart)))
    (q2_NoPart : PySem.W.keepIn K (.ref C_NoPart) = true)
    (q3_NoPart : PySem.W.excIn K C_NoPart [.type "ValueError", .type "Exception", .type "BaseException", .type "object"] "ValueError.__new__" = true)
    (q4_NoPart : PySem.W.typeIn K (.ref C_NoPart) = some (.type "type"))
    (q5_NoPart : PySem.W.findIn K (.ref C_NoPart) "__getattribute__" = some (some (.builtin "BaseException.__getattribute__")))
    (q6_NoPart : PySem.W.findIn K (.ref C_NoPart) "__getattr__" = some none)
    (q7_NoPart : PySem.W.subIn K (.ref C_NoPart) (.type "BaseException") = some true)
    (q8_NoPart : PySem.W.hasDictIn K C_NoPart = true)
    (q9_NoPart : PySem.W.findIn K (.ref C_NoPart) "__class__" = some (some (.builtin "object.__class__")))
    (qa_NoPart : PySem.W.specialIn K (.builtin "object.__class__") "__get__" = some (some (.builtin "getset_descriptor.__get__")))
    (qb_NoPart : PySem.W.takesIn K (.builtin "object.__class__") = some true)
    (qc_NoPart : PySem.W.mroIn K C_NoPart (.type "object") = some true)
    (qd_NoPart : PySem.W.subIn K (.ref C_NoPart) (.ref C_NoPart) = some true)
    (qe_NoPart : PySem.W.subIn K (.ref C_NoPart) (.type "ValueError") = some true)
    (z_ValueError : PySem.W.nsIn K mainGlobals "ValueError" = some none)
    (q1_WheelError : PySem.W.nsIn K mainGlobals "WheelError" = some (some (.ref C_WheelError)))
    (q4_WheelError : PySem.W.typeIn K (.ref C_WheelError) = some (.type "type"))
    (q7_WheelError : PySem.W.subIn K (.ref C_WheelError) (.type "BaseException") = some true)
    (q8_WheelError : PySem.W.hasDictIn K C_WheelError = true)
    (qs_WheelError : PySem.W.subIn K (.ref C_NoPart) (.ref C_WheelError) = some true)
    (q1_NoCosine : PySem.W.nsIn K mainGlobals "NoCosine" = some (some (.ref C_NoCosine)))
    (q4_NoCosine : PySem.W.typeIn K (.ref C_NoCosine) = some (.type "type"))
    (q8_NoCosine : PySem.W.hasDictIn K C_NoCosine = true)
    (qs_NoCosine : PySem.W.subIn K (.ref C_NoPart) (.ref C_NoCosine) = some false)
    (q1_NoCrowds : PySem.W.nsIn K mainGlobals "NoCrowds" = some (some (.ref C_NoCrowds)))
    (q4_NoCrowds : PySem.W.typeIn K (.ref C_NoCrowds) = some (.type "type"))
    (q8_NoCrowds : PySem.W.hasDictIn K C_NoCrowds = true)
    (qs_NoCrowds : PySem.W.subIn K (.ref C_NoPart) (.ref C_NoCrowds) = some false)
    (q1_NoDeed : PySem.W.nsIn K mainGlobals "NoDeed" = some (some (.ref C_NoDeed)))
    (q4_NoDeed : PySem.W.typeIn K (.ref C_NoDeed) = some (.type "type"))
    (q8_NoDeed : PySem.W.hasDictIn K C_NoDeed = true)
    (qs_NoDeed : PySem.W.subIn K (.ref C_NoPart) (.ref C_NoDeed) = some false)
    (q1_NoFold : PySem.W.nsIn K mainGlobals "NoFold" = some (some (.ref C_NoFold)))
    (q4_NoFold : PySem.W.typeIn K (.ref C_NoFold) = some (.type "type"))
    (q8_NoFold : PySem.W.hasDictIn K C_NoFold = true)
    (qs_NoFold : PySem.W.subIn K (.ref C_NoPart) (.ref C_NoFold) = some false)
    (q1_NoName : PySem.W.nsIn K mainGlobals "NoName" = some (some (.ref C_NoName)))
    (q4_NoName : PySem.W.typeIn K (.ref C_NoName) = some (.type "type"))
    (q8_NoName : PySem.W.hasDictIn K C_NoName = true)
    (qs_NoName : PySem.W.subIn K (.ref C_NoPart) (.ref C_NoName) = some false)
    (q1_NoOrder : PySem.W.nsIn K mainGlobals "NoOrder" = some (some (.ref C_NoOrder)))
    (q4_NoOrder : PySem.W.typeIn K (.ref C_NoOrder) = some (.type "type"))
    (q8_NoOrder : PySem.W.hasDictIn K C_NoOrder = true)
    (qs_NoOrder : PySem.W.subIn K (.ref C_NoPart) (.ref C_NoOrder) = some false)
    (q1_NoPlain : PySem.W.nsIn K mainGlobals "NoPlain" = some (some (.ref C_NoPlain)))
    (q4_NoPlain : PySem.W.typeIn K (.ref C_NoPlain) = some (.type "type"))
    (q8_NoPlain : PySem.W.hasDictIn K C_NoPlain = true)
    (qs_NoPlain : PySem.W.subIn K (.ref C_NoPart) (.ref C_NoPlain) = some false)
    (q1_NoPrime : PySem.W.nsIn K mainGlobals "NoPrime" = some (some (.ref C_NoPrime)))
    (q4_NoPrime : PySem.W.typeIn K (.ref C_NoPrime) = some (.type "type"))
    (q8_NoPrime : PySem.W.hasDictIn K C_NoPrime = true)
    (qs_NoPrime : PySem.W.subIn K (.ref C_NoPart) (.ref C_NoPrime) = some false)
    (q1_NoRow : PySem.W.nsIn K mainGlobals "NoRow" = some (some (.ref C_NoRow)))
    (q4_NoRow : PySem.W.typeIn K (.ref C_NoRow) = some (.type "type"))
    (q8_NoRow : PySem.W.hasDictIn K C_NoRow = true)
    (qs_NoRow : PySem.W.subIn K (.ref C_NoPart) (.ref C_NoRow) = some false)
    (q1_NoSize : PySem.W.nsIn K mainGlobals "NoSize" = some (some (.ref C_NoSize)))
    (q4_NoSize : PySem.W.typeIn K (.ref C_NoSize) = some (.type "type"))
    (q8_NoSize : PySem.W.hasDictIn K C_NoSize = true)
    (qs_NoSize : PySem.W.subIn K (.ref C_NoPart) (.ref C_NoSize) = some false)
    (q1_NoText : PySem.W.nsIn K mainGlobals "NoText" = some (some (.ref C_NoText)))
    (q4_NoText : PySem.W.typeIn K (.ref C_NoText) = some (.type "type"))
    (q8_NoText : PySem.W.hasDictIn K C_NoText = true)
    (qs_NoText : PySem.W.subIn K (.ref C_NoPart) (.ref C_NoText) = some false)
    (q1_NoUnit : PySem.W.nsIn K mainGlobals "NoUnit" = some (some (.ref C_NoUnit)))
    (q4_NoUnit : PySem.W.typeIn K (.ref C_NoUnit) = some (.type "type"))
    (q8_NoUnit : PySem.W.hasDictIn K C_NoUnit = true)
    (qs_NoUnit : PySem.W.subIn K (.ref C_NoPart) (.ref C_NoUnit) = some false) :
    ∃ fd : FuncData, (∀ (s : Shared) (v : Value), BindsTo s fd ⟨[v], []⟩ [("_law_script", v)]) ∧ ∀ base : Heap, K.In base → base.Ns mainGlobals mg → FnOk l.prog w K mg base CX0 5 fa fd ["_law_script"] (spLaw K) := by
  have e := hfa.symm.trans (PySem.W.mg_of X G a10)
  cases e
  have nb : Nb mg := ⟨PySem.W.mg_none_of X G z_len, PySem.W.mg_none_of X G z_range, PySem.W.mg_none_of X G z_max, PySem.W.mg_none_of X G z_list, PySem.W.mg_none_of X G z_int, PySem.W.mg_none_of X G z_bool, PySem.W.mg_none_of X G z_tuple, PySem.W.mg_none_of X G z_isinstance, PySem.W.mg_none_of X G z_enumerate, PySem.W.mg_none_of X G z_reversed, PySem.W.mg_none_of X G z_sorted, PySem.W.mg_none_of X G z_zip, PySem.W.mg_none_of X G z_all, PySem.W.mg_none_of X G z_str⟩
  have x_NoPart : OwnX K mg "NoPart" C_NoPart := ⟨PySem.W.mg_of X G q1_NoPart, q2_NoPart, q3_NoPart, q4_NoPart, ⟨q5_NoPart, q6_NoPart, q7_NoPart, q8_NoPart, q9_NoPart, qa_NoPart, qb_NoPart, qc_NoPart⟩⟩
  have x_WheelError : GlX mg "WheelError" C_WheelError := ⟨PySem.W.mg_of X G q1_WheelError⟩
  have hex := PySem.W.exm_ref q7_WheelError q8_WheelError q4_WheelError qs_WheelError
  have x_NoCosine : OthX K mg "NoCosine" C_NoPart C_NoCosine := ⟨PySem.W.mg_of X G q1_NoCosine, kit_ref q8_NoCosine q4_NoCosine (cls_ne qd_NoPart qs_NoCosine) qs_NoCosine⟩
  have x_NoCrowds : OthX K mg "NoCrowds" C_NoPart C_NoCrowds := ⟨PySem.W.mg_of X G q1_NoCrowds, kit_ref q8_NoCrowds q4_NoCrowds (cls_ne qd_NoPart qs_NoCrowds) qs_NoCrowds⟩
  have x_NoDeed : OthX K mg "NoDeed" C_NoPart C_NoDeed := ⟨PySem.W.mg_of X G q1_NoDeed, kit_ref q8_NoDeed q4_NoDeed (cls_ne qd_NoPart qs_NoDeed) qs_NoDeed⟩
  have x_NoFold : OthX K mg "NoFold" C_NoPart C_NoFold := ⟨PySem.W.mg_of X G q1_NoFold, kit_ref q8_NoFold q4_NoFold (cls_ne qd_NoPart qs_NoFold) qs_NoFold⟩
  have x_NoName : OthX K mg "NoName" C_NoPart C_NoName := ⟨PySem.W.mg_of X G q1_NoName, kit_ref q8_NoName q4_NoName (cls_ne qd_NoPart qs_NoName) qs_NoName⟩
  have x_NoOrder : OthX K mg "NoOrder" C_NoPart C_NoOrder := ⟨PySem.W.mg_of X G q1_NoOrder, kit_ref q8_NoOrder q4_NoOrder (cls_ne qd_NoPart qs_NoOrder) qs_NoOrder⟩
  have x_NoPlain : OthX K mg "NoPlain" C_NoPart C_NoPlain := ⟨PySem.W.mg_of X G q1_NoPlain, kit_ref q8_NoPlain q4_NoPlain (cls_ne qd_NoPart qs_NoPlain) qs_NoPlain⟩
  have x_NoPrime : OthX K mg "NoPrime" C_NoPart C_NoPrime := ⟨PySem.W.mg_of X G q1_NoPrime, kit_ref q8_NoPrime q4_NoPrime (cls_ne qd_NoPart qs_NoPrime) qs_NoPrime⟩
  have x_NoRow : OthX K mg "NoRow" C_NoPart C_NoRow := ⟨PySem.W.mg_of X G q1_NoRow, kit_ref q8_NoRow q4_NoRow (cls_ne qd_NoPart qs_NoRow) qs_NoRow⟩
  have x_NoSize : OthX K mg "NoSize" C_NoPart C_NoSize := ⟨PySem.W.mg_of X G q1_NoSize, kit_ref q8_NoSize q4_NoSize (cls_ne qd_NoPart qs_NoSize) qs_NoSize⟩
  have x_NoText : OthX K mg "NoText" C_NoPart C_NoText := ⟨PySem.W.mg_of X G q1_NoText, kit_ref q8_NoText q4_NoText (cls_ne qd_NoPart qs_NoText) qs_NoText⟩
  have x_NoUnit : OthX K mg "NoUnit" C_NoPart C_NoUnit := ⟨PySem.W.mg_of X G q1_NoUnit, kit_ref q8_NoUnit q4_NoUnit (cls_ne qd_NoPart qs_NoUnit) qs_NoUnit⟩
  have d_trimmed : Dfn K mg "trimmed" ["numbers"] s_trimmed := by
    have F := fun_mk (st := s_trimmed) l0 c0 k0
    exact ⟨_, _, F, PySem.W.mg_of X G a0, F.binds (ps := ["numbers"]) fun _ _ _ _ _ _ us hl => match us, hl with | [_], _ => rfl⟩
  have d_over : Dfn K mg "over" ["f", "g"] s_over := by
    have F := fun_mk (st := s_over) l1 c1 k1
    exact ⟨_, _, F, PySem.W.mg_of X G a1, F.binds (ps := ["f", "g"]) fun _ _ _ _ _ _ us hl => match us, hl with | [_, _], _ => rfl⟩
  have d__law_mix : Dfn K mg "_law_mix" ["_law_cell", "_law_k"] s__law_mix := by
    have F := fun_mk (st := s__law_mix) l2 c2 k2
    exact ⟨_, _, F, PySem.W.mg_of X G a2, F.binds (ps := ["_law_cell", "_law_k"]) fun _ _ _ _ _ _ us hl => match us, hl with | [_, _], _ => rfl⟩
  have d__law_poly : Dfn K mg "_law_poly" ["_law_cell", "_law_place", "_law_most"] s__law_poly := by
    have F := fun_mk (st := s__law_poly) l3 c3 k3
    exact ⟨_, _, F, PySem.W.mg_of X G a3, F.binds (ps := ["_law_cell", "_law_place", "_law_most"]) fun _ _ _ _ _ _ us hl => match us, hl with | [_, _, _], _ => rfl⟩
  have d__law_cut : Dfn K mg "_law_cut" ["_law_numbers"] s__law_cut := by
    have F := fun_mk (st := s__law_cut) l4 c4 k4
    exact ⟨_, _, F, PySem.W.mg_of X G a4, F.binds (ps := ["_law_numbers"]) fun _ _ _ _ _ _ us hl => match us, hl with | [_], _ => rfl⟩
  have d__law_times : Dfn K mg "_law_times" ["_law_f", "_law_g"] s__law_times := by
    have F := fun_mk (st := s__law_times) l5 c5 k5
    exact ⟨_, _, F, PySem.W.mg_of X G a5, F.binds (ps := ["_law_f", "_law_g"]) fun _ _ _ _ _ _ us hl => match us, hl with | [_, _], _ => rfl⟩
  have d__law_plus : Dfn K mg "_law_plus" ["_law_f", "_law_g", "_law_by"] s__law_plus := by
    have F := fun_mk (st := s__law_plus) l6 c6 k6
    exact ⟨_, _, F, PySem.W.mg_of X G a6, F.binds (ps := ["_law_f", "_law_g", "_law_by"]) fun _ _ _ _ _ _ us hl => match us, hl with | [_, _, _], _ => rfl⟩
  have d__law_whole : Dfn K mg "_law_whole" ["_law_got"] s__law_whole := by
    have F := fun_mk (st := s__law_whole) l7 c7 k7
    exact ⟨_, _, F, PySem.W.mg_of X G a7, F.binds (ps := ["_law_got"]) fun _ _ _ _ _ _ us hl => match us, hl with | [_], _ => rfl⟩
  have d__law_kind : Dfn K mg "_law_kind" ["_law_caught"] s__law_kind := by
    have F := fun_mk (st := s__law_kind) l8 c8 k8
    exact ⟨_, _, F, PySem.W.mg_of X G a8, F.binds (ps := ["_law_caught"]) fun _ _ _ _ _ _ us hl => match us, hl with | [_], _ => rfl⟩
  have d__law_right : Dfn K mg "_law_right" ["_law_f", "_law_g"] s__law_right := by
    have F := fun_mk (st := s__law_right) l9 c9 k9
    exact ⟨_, _, F, PySem.W.mg_of X G a9, F.binds (ps := ["_law_f", "_law_g"]) fun _ _ _ _ _ _ us hl => match us, hl with | [_, _], _ => rfl⟩
  have F := fun_mk (st := s_law) l10 c10 k10
  exact ⟨PySem.W.fnOf "law" "law" (defArgs s_law) (defBody s_law) (defScope s_law) .none kV10 dc10 pm10 an10 cd10 ct10, fun s v => .of_eq rfl, fun base _ _ => law_ok F nb (PySem.W.mg_none_of X G z_ValueError) (kit_VE qe_NoPart) x_NoPart x_WheelError hex x_NoCosine x_NoCrowds x_NoDeed x_NoFold x_NoName x_NoOrder x_NoPlain x_NoPrime x_NoRow x_NoSize x_NoText x_NoUnit d_trimmed d_over d__law_mix d__law_poly d__law_cut d__law_times d__law_plus d__law_whole d__law_kind d__law_right⟩
end Own
open PySem PySem.W PyProof.Rows
set_option maxHeartbeats 0 in
theorem PySem.Challenge.cw_rootwheel_k05_parted_polynomials_holds : PySem.Challenge.rw_rootwheel_k05_parted_polynomials.Holds := by
  w_on; o_law; k_head; (case hw => w_witness2)
  k_fill
  refine L2.walk_of (l := PySem.Challenge.rw_rootwheel_k05_parted_polynomials) (n := 63) (k := 5) (x := "_law_script") (CX := fun _ => L2.CX0) (sp := fun w => Own.spLaw _) rfl (by decide) rfl ⟨rfl, by decide, by decide⟩ (fun w h Y => PySem.W.kIn_of Y) ?F (fun _ _ a ns hl _ hS => ⟨a, ns, rfl, hS, hl, fun _ => rfl⟩) (fun _ _ _ _ _ h => h)
  case F =>
    intro w mg fa h KX G hmg
    refine' Own.all_mk KX G hmg ?a0 ?l0 ?c0 ?k0 ?a1 ?l1 ?c1 ?k1 ?a2 ?l2 ?c2 ?k2 ?a3 ?l3 ?c3 ?k3 ?a4 ?l4 ?c4 ?k4 ?a5 ?l5 ?c5 ?k5 ?a6 ?l6 ?c6 ?k6 ?a7 ?l7 ?c7 ?k7 ?a8 ?l8 ?c8 ?k8 ?a9 ?l9 ?c9 ?k9 ?a10 ?l10 ?c10 ?k10 ?z_len ?z_range ?z_max ?z_list ?z_int ?z_bool ?z_tuple ?z_isinstance ?z_enumerate ?z_reversed ?z_sorted ?z_zip ?z_all ?z_str ?q1_NoPart ?q2_NoPart ?q3_NoPart ?q4_NoPart ?q5_NoPart ?q6_NoPart ?q7_NoPart ?q8_NoPart ?q9_NoPart ?qa_NoPart ?qb_NoPart ?qc_NoPart ?qd_NoPart ?qe_NoPart ?z_ValueError ?q1_WheelError ?q4_WheelError ?q7_WheelError ?q8_WheelError ?qs_WheelError ?q1_NoCosine ?q4_NoCosine ?q8_NoCosine ?qs_NoCosine ?q1_NoCrowds ?q4_NoCrowds ?q8_NoCrowds ?qs_NoCrowds ?q1_NoDeed ?q4_NoDeed ?q8_NoDeed ?qs_NoDeed ?q1_NoFold ?q4_NoFold ?q8_NoFold ?qs_NoFold ?q1_NoName ?q4_NoName ?q8_NoName ?qs_NoName ?q1_NoOrder ?q4_NoOrder ?q8_NoOrder ?qs_NoOrder ?q1_NoPlain ?q4_NoPlain ?q8_NoPlain ?qs_NoPlain ?q1_NoPrime ?q4_NoPrime ?q8_NoPrime ?qs_NoPrime ?q1_NoRow ?q4_NoRow ?q8_NoRow ?qs_NoRow ?q1_NoSize ?q4_NoSize ?q8_NoSize ?qs_NoSize ?q1_NoText ?q4_NoText ?q8_NoText ?qs_NoText ?q1_NoUnit ?q4_NoUnit ?q8_NoUnit ?qs_NoUnit
    (case a0 => k_is)
    (case l0 => k_is)
    (case c0 => k_is)
    (case k0 => k_is)
    (case a1 => k_is)
    (case l1 => k_is)
    (case c1 => k_is)
    (case k1 => k_is)
    (case a2 => k_is)
    (case l2 => k_is)
    (case c2 => k_is)
    (case k2 => k_is)
    (case a3 => k_is)
    (case l3 => k_is)
    (case c3 => k_is)
    (case k3 => k_is)
    (case a4 => k_is)
    (case l4 => k_is)
    (case c4 => k_is)
    (case k4 => k_is)
    (case a5 => k_is)
    (case l5 => k_is)
    (case c5 => k_is)
    (case k5 => k_is)
    (case a6 => k_is)
    (case l6 => k_is)
    (case c6 => k_is)
    (case k6 => k_is)
    (case a7 => k_is)
    (case l7 => k_is)
    (case c7 => k_is)
    (case k7 => k_is)
    (case a8 => k_is)
    (case l8 => k_is)
    (case c8 => k_is)
    (case k8 => k_is)
    (case a9 => k_is)
    (case l9 => k_is)
    (case c9 => k_is)
    (case k9 => k_is)
    (case a10 => k_is)
    (case l10 => k_is)
    (case c10 => k_is)
    (case k10 => k_is)
    (case z_len => k_is)
    (case z_range => k_is)
    (case z_max => k_is)
    (case z_list => k_is)
    (case z_int => k_is)
    (case z_bool => k_is)
    (case z_tuple => k_is)
    (case z_isinstance => k_is)
    (case z_enumerate => k_is)
    (case z_reversed => k_is)
    (case z_sorted => k_is)
    (case z_zip => k_is)
    (case z_all => k_is)
    (case z_str => k_is)
    (case q1_NoPart => k_is)
    (case q2_NoPart => k_is)
    (case q3_NoPart => k_exc)
    (case q4_NoPart => k_is)
    (case q5_NoPart => k_is)
    (case q6_NoPart => k_is)
    (case q7_NoPart => k_is)
    (case q8_NoPart => k_is)
    (case q9_NoPart => k_is)
    (case qa_NoPart => k_is)
    (case qb_NoPart => k_is)
    (case qc_NoPart => k_is)
    (case qd_NoPart => k_is)
    (case qe_NoPart => k_is)
    (case z_ValueError => k_is)
    (case q1_WheelError => k_is)
    (case q4_WheelError => k_is)
    (case q7_WheelError => k_is)
    (case q8_WheelError => k_is)
    (case qs_WheelError => k_is)
    (case q1_NoCosine => k_is)
    (case q4_NoCosine => k_is)
    (case q8_NoCosine => k_is)
    (case qs_NoCosine => k_is)
    (case q1_NoCrowds => k_is)
    (case q4_NoCrowds => k_is)
    (case q8_NoCrowds => k_is)
    (case qs_NoCrowds => k_is)
    (case q1_NoDeed => k_is)
    (case q4_NoDeed => k_is)
    (case q8_NoDeed => k_is)
    (case qs_NoDeed => k_is)
    (case q1_NoFold => k_is)
    (case q4_NoFold => k_is)
    (case q8_NoFold => k_is)
    (case qs_NoFold => k_is)
    (case q1_NoName => k_is)
    (case q4_NoName => k_is)
    (case q8_NoName => k_is)
    (case qs_NoName => k_is)
    (case q1_NoOrder => k_is)
    (case q4_NoOrder => k_is)
    (case q8_NoOrder => k_is)
    (case qs_NoOrder => k_is)
    (case q1_NoPlain => k_is)
    (case q4_NoPlain => k_is)
    (case q8_NoPlain => k_is)
    (case qs_NoPlain => k_is)
    (case q1_NoPrime => k_is)
    (case q4_NoPrime => k_is)
    (case q8_NoPrime => k_is)
    (case qs_NoPrime => k_is)
    (case q1_NoRow => k_is)
    (case q4_NoRow => k_is)
    (case q8_NoRow => k_is)
    (case qs_NoRow => k_is)
    (case q1_NoSize => k_is)
    (case q4_NoSize => k_is)
    (case q8_NoSize => k_is)
    (case qs_NoSize => k_is)
    (case q1_NoText => k_is)
    (case q4_NoText => k_is)
    (case q8_NoText => k_is)
    (case qs_NoText => k_is)
    (case q1_NoUnit => k_is)
    (case q4_NoUnit => k_is)
    (case q8_NoUnit => k_is)
    (case qs_NoUnit => k_is)


