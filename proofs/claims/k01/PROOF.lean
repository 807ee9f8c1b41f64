import PyProof.Rows.All
import Wide.All
import OpenK.AllK
import Wide.FinOn
import HandS.ForMost
import HandS.Evl
import HandS.Wide
import HandS.WideMore
import HandS.Gcd
import HandS.IsInst
import HandS.SortInts
import HandS.Rev
import PySem.Challenge.RW_rootwheel_k01_divisors_and_parted
set_option Elab.async false
set_option linter.all false
set_option maxRecDepth 100000
set_option maxHeartbeats 4000000
/-! What every proof of ours leans on: calls by a promise that stands for a name, rules of ours, words for the readings. -/
namespace Kp
open PySem PySem.Spec PyProof.Rows L2 Evl

/-! ### the names of Python that a text leaves as they are -/
structure Nb (mg : Str → Option Value) : Prop where
  len : mg "len" = none
  range : mg "range" = none
  max : mg "max" = none
  list : mg "list" = none
  int : mg "int" = none
  bool : mg "bool" = none
  tuple : mg "tuple" = none
  isinstance : mg "isinstance" = none
  enumerate : mg "enumerate" = none
  reversed : mg "reversed" = none
  sorted : mg "sorted" = none
  zip : mg "zip" = none
  all : mg "all" = none
  str : mg "str" = none

/-! ### a def by its name -/
/-- by the name x the module holds a def that keeps the promise sp, at the level k -/
def Cal (P : Program) (w : World) (K : PySem.W.Frag) (mg : Str → Option Value) (base : Heap) (CX : CXT) (x : Str) (k : Nat) (ps : List Str) (sp : Sp) : Prop :=
  ∃ (f : Addr) (fd : FuncData), FnOk P w K mg base CX k f fd ps sp ∧ mg x = some (.ref f) ∧ PySem.W.keepIn K (.ref f) = true ∧ Binds K fd ps []
/-- by the name x the module holds the def that st writes -/
def Dfn (K : PySem.W.Frag) (mg : Str → Option Value) (x : Str) (ps : List Str) (st : Stmt) : Prop :=
  ∃ (f : Addr) (fd : FuncData), Fun K x x st f fd ∧ mg x = some (.ref f) ∧ Binds K fd ps []
section
variable {P : Program} {w : World} {K : PySem.W.Frag} {mg : Str → Option Value} {base : Heap} {CX : CXT} {x : Str} {k : Nat} {ps N : List Str} {sp : Sp} {st : Stmt}
theorem Dfn.cal (d : Dfn K mg x ps st) (S : FnScope N ps (defScope st)) (len : ∀ vs H Q E, sp vs H Q E → vs.length = ps.length)
    (hbody : ∀ (f : Addr) (cdv : Value) (A : Around) (outer : List Env) (s : Shared) (H : Hp) (vs : List V) (Q : VK) (E : XK), Room k (A.deeper (envOfC x (defScope st) s.heap.objs.size f cdv)) → sp vs H Q E →
      ∃ t, PSs (cxOf CX0 P w K mg base N x (defScope st) f cdv A outer s H E).nox (defBody st) t ∧ t { nx := fun _ H' => Q .non H', rt := Q } (start N vs) H) : Cal P w K mg base CX0 x (k + 1) ps sp := by
  obtain ⟨f, fd, F, g, b⟩ := d
  exact ⟨f, fd, F.ok S len (hbody f), g, F.kp, b⟩
end
section
variable {X : Cx} {CX : CXT} {k : Nat} {ps : List Str} {sp : Sp} {E : XK} {x : Str} {p pos : Pos} {e : Expr} {es : List Expr} {t : TA}
theorem pe_cal (c : Cal X.prog X.w X.K X.mg X.base CX x k ps sp) (hr : Room k X.A) (hg : Gl X x) (hx : Passes CX X E)
    (ha : PA X (e :: es) t) (hdb : (x == ("__debug__" : Str)) = false := by decide) (he : starEach (e :: es) X.env = (false, eval e X.env) :: starEach es X.env := by rfl) (hpl : (backTo pos (starEach es X.env)).any (·.1) = false := by rfl) :
    PE X (.Call (.Name x p) (e :: es) [] pos) (tCall sp [] E t) := by
  obtain ⟨f, fd, F, g, kp, b⟩ := c
  exact pe_call F hr hg g kp b .nil hx ha hdb he hpl
end

/-! ### rules of ours -/
def CPowW (i j : Int) : Prop := 0 ≤ j ∧ (Builtin.Int.intBits i : Int) * j ≤ 2 ^ 27
section
variable {X : Cx}
theorem op_powW : OpR X (binaryOp .Pow) (rI CPowW fun i j => .int (i ^ j.toNat)) := opI fun _ _ _ _ _ _ _ hc q => pow_int hc.1 hc.2 q
/-- what stands at a place of a list, for o[i] op= e -/
def rGetL (K : PySem.W.Frag) : V → V → Hp → VK → Prop := fun o i H Q => ∃ p xs j v, o = .ref p ∧ i = .int ((j : Nat) : Int) ∧ SqL K H p xs ∧ xs[j]? = some v ∧ Q v H
theorem get_list : PGet X (rGetL X.K) := by
  intro pins s σ H o i ov iv Q I ro ri h
  obtain ⟨p, xs, j, z, rfl, rfl, hq, he, q⟩ := h
  cases ro
  obtain ⟨t, rfl⟩ := ri
  obtain ⟨its, r, pl, hz⟩ := I.list hq
  obtain ⟨w, ew, rw'⟩ := r.get he
  have hj : j < xs.length := (List.getElem?_eq_some_iff.mp he).1
  have hn := line63
  have hl := r.length
  exact wpAny_getItem_list pl.isList (by omega) (by omega) (by simpa using ew) ⟨z, H, I, rw', q⟩
theorem pip_of {op : Operator} {r : R2} (ho : OpR X (inplaceOp op) r) : PIp X op r := fun pins s σ H x y v u Q I rx ry h => ho pins s σ H x y v u Q I rx ry h
/-- math.isqrt -/
def rIsqrt : List V → Hp → VK → Prop := fun vs H Q => ∃ a : Int, vs = [.int a] ∧ 0 ≤ a ∧ a < 2 ^ 64 ∧ Q (.int ((Float64.isqrt a.toNat : Nat) : Int)) H
theorem cr_isqrt : CallR X (.builtin "math.isqrt") rIsqrt := by
  intro pins s σ H vs us Q I r h
  obtain ⟨a, rfl, h0, h1, q⟩ := h
  obtain ⟨u, rfl, t, rfl⟩ := vals1 r
  exact PySem.W.mg_isqrt h0 h1 ⟨.int _, H, I.tok _, ⟨_, rfl⟩, q⟩
end

/-! ### what evaluates to what, by operators -/
section
variable {K : PySem.W.Frag} {σ : L2.St} {H : Hp} {ta tb te : TE} {i j : Int}
theorem ev_add (ha : Ev ta σ H (.int i)) (hb : Ev tb σ H (.int j)) : Ev (tOp (rI0 fun i j => .int (i + j)) ta tb) σ H (.int (i + j)) := ev_op ha hb rv_I0
theorem ev_sub (ha : Ev ta σ H (.int i)) (hb : Ev tb σ H (.int j)) : Ev (tOp (rI0 fun i j => .int (i - j)) ta tb) σ H (.int (i - j)) := ev_op ha hb rv_I0
theorem ev_mul (ha : Ev ta σ H (.int i)) (hb : Ev tb σ H (.int j)) (h : CMulW i j) : Ev (tOp (rI CMulW fun i j => .int (i * j)) ta tb) σ H (.int (i * j)) := ev_op ha hb (rv_I h)
theorem ev_div (ha : Ev ta σ H (.int i)) (hb : Ev tb σ H (.int j)) (h : CDivW i j) : Ev (tOp (rI CDivW fun i j => .int (i / j)) ta tb) σ H (.int (i / j)) := ev_op ha hb (rv_I h)
theorem ev_mod (ha : Ev ta σ H (.int i)) (hb : Ev tb σ H (.int j)) (h : 0 < j) : Ev (tOp (rI (fun _ j => 0 < j) fun i j => .int (i % j)) ta tb) σ H (.int (i % j)) := ev_op ha hb (rv_I (C := fun _ j => 0 < j) h)
theorem ev_pow {c : Int} (ha : Ev ta σ H (.int i)) (hb : Ev tb σ H (.int j)) (h : CPowW i j) (hc : i ^ j.toNat = c) : Ev (tOp (rI CPowW fun i j => .int (i ^ j.toNat)) ta tb) σ H (.int c) := by
  rw [← hc]
  exact ev_op ha hb (rv_I h)
theorem ev_neg (ha : Ev ta σ H (.int i)) : Ev (tUn (rU fun i => .int (-i)) ta) σ H (.int (-i)) := ev_un ha ru_neg
theorem ev_lt (ha : Ev ta σ H (.int i)) (hb : Ev tb σ H (.int j)) : Ev (tOp (rI0 fun i j => .bl (decide (i < j))) ta tb) σ H (.bl (decide (i < j))) := ev_op ha hb rv_I0
theorem ev_le (ha : Ev ta σ H (.int i)) (hb : Ev tb σ H (.int j)) : Ev (tOp (rI0 fun i j => .bl (decide (i ≤ j))) ta tb) σ H (.bl (decide (i ≤ j))) := ev_op ha hb rv_I0
theorem ev_gt (ha : Ev ta σ H (.int i)) (hb : Ev tb σ H (.int j)) : Ev (tOp (rI0 fun i j => .bl (decide (j < i))) ta tb) σ H (.bl (decide (j < i))) := ev_op ha hb rv_I0
theorem ev_ge (ha : Ev ta σ H (.int i)) (hb : Ev tb σ H (.int j)) : Ev (tOp (rI0 fun i j => .bl (decide (j ≤ i))) ta tb) σ H (.bl (decide (j ≤ i))) := ev_op ha hb rv_I0
theorem dec_int (i j : Int) : decide (V.int i = V.int j) = decide (i = j) := decide_eq_decide.mpr ⟨V.int.inj, fun e => by rw [e]⟩
theorem ev_eqI (ha : Ev ta σ H (.int i)) (hb : Ev tb σ H (.int j)) : Ev (tOp rEq ta tb) σ H (.bl (decide (i = j))) := by
  rw [← dec_int]
  exact ev_op ha hb (rv_eq rfl)
theorem ev_neI (ha : Ev ta σ H (.int i)) (hb : Ev tb σ H (.int j)) : Ev (tOp rNe ta tb) σ H (.bl (!decide (i = j))) := by
  rw [← dec_int]
  exact ev_op ha hb (rv_ne rfl)
theorem ev_isN {v : V} (ha : Ev ta σ H v) : Ev (tOp (fun x y H Q => y = .non ∧ Q (.bl (decide (x = .non))) H) ta (tC .non)) σ H (.bl (decide (v = .non))) := ev_op ha ev_c fun H1 _ _ q => ⟨rfl, q H1 (Ex.refl H1)⟩
theorem ev_notN {v : V} (ha : Ev ta σ H v) : Ev (tOp (fun x y H Q => y = .non ∧ Q (.bl (!decide (x = .non))) H) ta (tC .non)) σ H (.bl (!decide (v = .non))) := ev_op ha ev_c fun H1 _ _ q => ⟨rfl, q H1 (Ex.refl H1)⟩
/-- numbers of some hundred bits -/
theorem mulW {i j : Int} (hi : i.natAbs < 2 ^ 300) (hj : j.natAbs < 2 ^ 300) : CMulW i j := wide_mul hi hj (by decide) (by decide) (by decide)
theorem divW {i j : Int} (h : 0 < j) (hj : j < 2 ^ 300) : CDivW i j := wide_div (b := 300) h (by omega) (by decide) (by decide)
/-- no reading is this: a goal that takes it has not been told yet which reading it speaks of -/
def tProbe : TE := fun _ _ _ => False
def tProbeT : TT := fun _ _ _ => False
def tProbeA : TA := fun _ _ _ => False
theorem probe {v : V} (h : False) : Ev tProbe σ H v := h.elim
theorem probeT {b : Bool} (h : False) : EvT tProbeT σ H b := h.elim
theorem probeA {vs : List V} (h : False) : EvA tProbeA σ H vs := h.elim
/-- a call's promise: one value -/
theorem ev_cal {sp : Sp} {vs : List V} {E : XK} {ta : TA} {z : V} (h : EvA ta σ H vs) (hs : ∀ H1, Ex H H1 → ∀ Q : VK, RetV z H1 Q → ∀ E : XK, sp vs H1 Q E) : Ev (tCall sp [] E ta) σ H z := fun H1 e Q q =>
  h H1 e _ fun H2 e2 => by
    show sp (vs ++ []) H2 Q E
    rw [List.append_nil]
    exact hs H2 (e.trans e2) Q (fun H3 e3 => q H3 (e2.trans e3)) E
/-- one new list -/
theorem el_cal {sp : Sp} {vs xs : List V} {E : XK} {ta : TA} (h : EvA ta σ H vs) (hs : ∀ H1, Ex H H1 → ∀ Q : VK, RetL xs H1 Q → ∀ E : XK, sp vs H1 Q E) : EvL (tCall sp [] E ta) σ H xs := fun H1 e Q q =>
  h H1 e _ fun H2 e2 => by
    show sp (vs ++ []) H2 Q E
    rw [List.append_nil]
    exact hs H2 (e.trans e2) Q (fun p H3 hp e3 h3 => q p H3 (fresh_back e2 hp) (e2.trans e3) h3) E
end
end Kp

/-! Data as a whole; lists of pairs; comprehensions; new lists. -/
namespace Kp
open PySem PySem.Spec PyProof.Rows L2 Evl

/-! ### == of data without truths, texts and dicts -/
mutual
def okD : PyData → Bool
  | .none => true
  | .int _ => true
  | .list xs => okA xs
  | .tuple xs => okA xs
  | .bool _ => false
  | .str _ => false
  | .dict _ => false
def okA : List PyData → Bool
  | [] => true
  | x :: xs => okD x && okA xs
end
mutual
theorem eqv_ok : ∀ d e : PyData, okD d = true → okD e = true → (PyData.eqv d e = true ↔ d = e)
  | .none, e, _, h => by cases e <;> simp_all [okD, PyData.eqv]
  | .int i, e, _, h => by cases e <;> simp_all [okD, PyData.eqv]
  | .list xs, e, h1, h => by
    cases e with
    | list ys =>
      unfold okD at h1 h
      unfold PyData.eqv
      rw [eqvA_ok xs ys h1 h]
      exact ⟨fun e => by rw [e], PyData.list.inj⟩
    | _ => simp_all [okD, PyData.eqv]
  | .tuple xs, e, h1, h => by
    cases e with
    | tuple ys =>
      unfold okD at h1 h
      unfold PyData.eqv
      rw [eqvA_ok xs ys h1 h]
      exact ⟨fun e => by rw [e], PyData.tuple.inj⟩
    | _ => simp_all [okD, PyData.eqv]
  | .bool _, _, h, _ => by simp [okD] at h
  | .str _, _, h, _ => by simp [okD] at h
  | .dict _, _, h, _ => by simp [okD] at h
theorem eqvA_ok : ∀ ds es : List PyData, okA ds = true → okA es = true → (PyData.eqvAll ds es = true ↔ ds = es)
  | [], [], _, _ => by simp [PyData.eqvAll]
  | [], _ :: _, _, _ => by simp [PyData.eqvAll]
  | _ :: _, [], _, _ => by simp [PyData.eqvAll]
  | d :: ds, e :: es, h1, h2 => by
    unfold okA at h1 h2
    rw [Bool.and_eq_true] at h1 h2
    unfold PyData.eqvAll
    rw [Bool.and_eq_true, eqv_ok d e h1.1 h2.1, eqvA_ok ds es h1.2 h2.2]
    simp
end
theorem eqv_dec {α : Type} [DecidableEq α] (enc : α → PyData) (ok : ∀ a, okD (enc a) = true) (inj : ∀ a b, enc a = enc b → a = b) (a b : α) : PyData.eqv (enc a) (enc b) = decide (a = b) := by
  have h := eqv_ok (enc a) (enc b) (ok a) (ok b)
  by_cases e : a = b
  · subst e
    rw [decide_eq_true rfl]
    exact h.mpr rfl
  · rw [decide_eq_false e]
    cases q : PyData.eqv (enc a) (enc b) with
    | false => rfl
    | true => exact absurd (inj _ _ (h.mp q)) e
theorem okA_map {α : Type} (f : α → PyData) (h : ∀ a, okD (f a) = true) : ∀ l : List α, okA (l.map f) = true
  | [] => rfl
  | a :: l => by
    rw [List.map_cons]
    unfold okA
    rw [h a, okA_map f h l]
    rfl
theorem lay_map {α : Type} (f : α → PyData) (h : ∀ a, PyData.canLay0 (f a) = true) : ∀ l : List α, PyData.canLayAll0 (l.map f) = true
  | [] => rfl
  | a :: l => by
    rw [List.map_cons]
    unfold PyData.canLayAll0
    rw [h a, lay_map f h l]
    rfl
theorem dep_map {α : Type} (f : α → PyData) (k : Nat) (h : ∀ a, PyData.depth (f a) ≤ k) : ∀ l : List α, PyData.depthAll (l.map f) ≤ k
  | [] => Nat.zero_le _
  | a :: l => by
    rw [List.map_cons]
    unfold PyData.depthAll
    exact Nat.max_le.mpr ⟨h a, dep_map f k h l⟩
theorem shaped_of {d : PyData} (h : PyData.canLay0 d = true) (k : PyData.depth d ≤ 64) : SeqAt.shaped d = true := by
  unfold SeqAt.shaped
  rw [h, decide_eq_true k]
  rfl
/-- a list of ints, a pair of ints, a list of such -/
def dI (ns : List Int) : PyData := .list (ns.map .int)
def dP (r : Int × Int) : PyData := .tuple [.int r.1, .int r.2]
def dR (rows : List (Int × Int)) : PyData := .list (rows.map dP)
theorem map_inj {α β : Type} {f : α → β} (h : ∀ a b, f a = f b → a = b) : ∀ l m : List α, l.map f = m.map f → l = m
  | [], [], _ => rfl
  | [], _ :: _, e => by simp at e
  | _ :: _, [], e => by simp at e
  | a :: l, b :: m, e => by
    rw [List.map_cons, List.map_cons] at e
    injection e with e1 e2
    rw [h _ _ e1, map_inj h l m e2]
theorem dI_sh (ns : List Int) : SeqAt.shaped (dI ns) = true := shaped_of (lay_map _ (fun _ => rfl) ns) (Nat.le_trans (Nat.succ_le_succ (dep_map PyData.int 0 (fun _ => Nat.le_refl 0) ns)) (by decide))
theorem dR_sh (rows : List (Int × Int)) : SeqAt.shaped (dR rows) = true := shaped_of (lay_map _ (fun _ => rfl) rows) (Nat.le_trans (Nat.succ_le_succ (dep_map dP 1 (fun _ => Nat.le_refl 1) rows)) (by decide))
theorem dI_eqv (ns ms : List Int) : PyData.eqv (dI ns) (dI ms) = decide (ns = ms) := eqv_dec dI (fun l => by unfold dI okD; exact okA_map _ (fun _ => rfl) l) (fun a b e => map_inj (fun _ _ q => PyData.int.inj q) a b (PyData.list.inj e)) ns ms
theorem dP_inj (a b : Int × Int) (e : dP a = dP b) : a = b := by
  obtain ⟨a1, a2⟩ := a
  obtain ⟨b1, b2⟩ := b
  simp [dP] at e
  rw [e.1, e.2]
theorem dR_eqv (rs qs : List (Int × Int)) : PyData.eqv (dR rs) (dR qs) = decide (rs = qs) := eqv_dec dR (fun l => by unfold dR okD; exact okA_map _ (fun _ => rfl) l) (fun a b e => map_inj dP_inj a b (PyData.list.inj e)) rs qs

section
variable {K : PySem.W.Frag} {σ : L2.St} {H H' : Hp} {ta tb te tl : TE} {t : TT} {x y z v : V} {D : Ends} {tz : TS} {vs : List Nat}
theorem dpa_ints (K : PySem.W.Frag) (H : Hp) : ∀ ns : List Int, DpAll K H (ns.map V.int) (ns.map PyData.int)
  | [] => .nil
  | n :: ns => .cons (.int n) (dpa_ints K H ns)
theorem dp_ints {a : Addr} {ns : List Int} (h : SqL K H a (ns.map V.int)) : Dp K H (.ref a) (dI ns) := .lst h (dpa_ints K H ns)

/-! ### lists of pairs -/
/-- each item a tuple of the pair's two ints -/
def Prs (K : PySem.W.Frag) (H : Hp) : List V → List (Int × Int) → Prop := Paired fun v r => ∃ t, v = .ref t ∧ SqT K H t [.int r.1, .int r.2]
theorem Prs.mono {xs : List V} {rows : List (Int × Int)} (e : Ex H H') (h : Prs K H xs rows) : Prs K H' xs rows := Paired.mapP h fun v r ⟨t, q, s⟩ => ⟨t, q, ex_t e s⟩
theorem sqt_upd {l t : Addr} {xs ys ts : List V} (hl : H l = some (.lst xs)) (h : SqT K H t ts) : SqT K (upd H l (.lst ys)) t ts := by
  rcases h with h | h
  · refine .inl ?_
    rcases h with h | ⟨o, h⟩
    · refine .inl ?_
      rw [upd_ne (ne_of h hl (by intro z; cases z))]
      exact h
    · refine .inr ⟨o, ?_⟩
      rw [upd_ne (ne_of h hl (by intro z; cases z))]
      exact h
  · exact .inr h
theorem Prs.upd {l : Addr} {us ys xs : List V} {rows : List (Int × Int)} (hl : H l = some (.lst us)) (h : Prs K H xs rows) : Prs K (upd H l (.lst ys)) xs rows := Paired.mapP h fun v r ⟨t, q, s⟩ => ⟨t, q, sqt_upd hl s⟩
theorem Prs.snoc {xs : List V} {rows : List (Int × Int)} {t : Addr} {a b : Int} (h : Prs K H xs rows) (ht : SqT K H t [.int a, .int b]) : Prs K H (xs ++ [.ref t]) (rows ++ [(a, b)]) := Paired.snoc h ⟨t, rfl, ht⟩
theorem prs_get : ∀ {xs : List V} {rows : List (Int × Int)} {i : Nat} {x : V}, Prs K H xs rows → xs[i]? = some x → ∃ r t, rows[i]? = some r ∧ x = .ref t ∧ SqT K H t [.int r.1, .int r.2]
  | _, _, _, _, .nil, h => by simp at h
  | _, _, 0, _, .cons (b := r) q _, h => by
    obtain ⟨t, q1, q2⟩ := q
    have e := Option.some.inj h
    exact ⟨r, t, rfl, e ▸ q1, q2⟩
  | _, _, i + 1, _, .cons _ q, h => prs_get (i := i) q h
theorem dpa_prs : ∀ {xs : List V} {rows : List (Int × Int)}, Prs K H xs rows → DpAll K H xs (rows.map dP)
  | _, _, .nil => .nil
  | _, _, .cons q r => by
    obtain ⟨t, rfl, q2⟩ := q
    exact .cons (.tup q2 (.cons (.int _) (.cons (.int _) .nil))) (dpa_prs r)
theorem dp_prs {a : Addr} {xs : List V} {rows : List (Int × Int)} (h : SqL K H a xs) (p : Prs K H xs rows) : Dp K H (.ref a) (dR rows) := .lst h (dpa_prs p)

/-! ### == and != -/
theorem rv_eqD {d e : PyData} {b : Bool} (h1 : Dp K H x d) (h2 : Dp K H y e) (m1 : ∀ H1, Ex H H1 → Dp K H1 x d) (m2 : ∀ H1, Ex H H1 → Dp K H1 y e) (s1 : SeqAt.shaped d = true) (s2 : SeqAt.shaped e = true) (hb : PyData.eqv d e = b) : RV (rEqD K) x y H (.bl b) := by
  subst hb
  exact fun H1 e1 Q q => ⟨d, e, m1 H1 e1, m2 H1 e1, s1, s2, q H1 (Ex.refl H1)⟩
theorem rv_neD {d e : PyData} {b : Bool} (m1 : ∀ H1, Ex H H1 → Dp K H1 x d) (m2 : ∀ H1, Ex H H1 → Dp K H1 y e) (s1 : SeqAt.shaped d = true) (s2 : SeqAt.shaped e = true) (hb : (!PyData.eqv d e) = b) : RV (rNeD K) x y H (.bl b) := by
  subst hb
  exact fun H1 e1 Q q => ⟨d, e, m1 H1 e1, m2 H1 e1, s1, s2, q H1 (Ex.refl H1)⟩
theorem rv_eqI {p q : Addr} {ns ms : List Int} (h1 : SqL K H p (ns.map V.int)) (h2 : SqL K H q (ms.map V.int)) : RV (rEqD K) (.ref p) (.ref q) H (.bl (decide (ns = ms))) :=
  rv_eqD (dp_ints h1) (dp_ints h2) (fun _ e => dp_ints (ex_l e h1)) (fun _ e => dp_ints (ex_l e h2)) (dI_sh _) (dI_sh _) (dI_eqv _ _)
theorem rv_neI {p q : Addr} {ns ms : List Int} (h1 : SqL K H p (ns.map V.int)) (h2 : SqL K H q (ms.map V.int)) : RV (rNeD K) (.ref p) (.ref q) H (.bl (!decide (ns = ms))) :=
  rv_neD (fun _ e => dp_ints (ex_l e h1)) (fun _ e => dp_ints (ex_l e h2)) (dI_sh _) (dI_sh _) (by rw [dI_eqv])
theorem rv_neR {p q : Addr} {xs ys : List V} {rs qs : List (Int × Int)} (h1 : SqL K H p xs) (p1 : Prs K H xs rs) (h2 : SqL K H q ys) (p2 : Prs K H ys qs) : RV (rNeD K) (.ref p) (.ref q) H (.bl (!decide (rs = qs))) :=
  rv_neD (fun _ e => dp_prs (ex_l e h1) (p1.mono e)) (fun _ e => dp_prs (ex_l e h2) (p2.mono e)) (dR_sh _) (dR_sh _) (by rw [dR_eqv])

/-! ### new lists -/
theorem el_is {xs ys : List V} (h : EvL te σ H xs) (e : xs = ys) : EvL te σ H ys := by
  rw [← e]
  exact h
theorem el_cat {xs ys : List V} (ha : EvL ta σ H xs) (hb : EvL tb σ H ys) (hz : xs.length + ys.length ≤ 100000) : EvL (tOp rCat ta tb) σ H (xs ++ ys) := fun H1 e Q q =>
  ha H1 e _ fun p H2 np e2 hp => hb H2 (e.trans e2) _ fun r H3 nr e3 hr => ⟨p, r, xs, ys, rfl, rfl, e3 p _ hp, hr, sz_of hz, fun l hl => q l _ (fresh_back (e2.trans e3) hl) ((e2.trans e3).trans (Ex.new hl)) upd_same⟩
theorem el_rep {k : Int} (ha : EvL ta σ H [x]) (hb : Ev tb σ H (.int k)) (h0 : 0 ≤ k) (hz : k ≤ 100000) : EvL (tOp rRep ta tb) σ H (List.replicate k.toNat x) := fun H1 e Q q =>
  ha H1 e _ fun p H2 np e2 hp => hb H2 (e.trans e2) _ fun H3 e3 => ⟨p, k, [x], rfl, rfl, e3 p _ hp, by omega, by omega, sz_of (by rw [List.length_singleton]; omega), fun l hl => q l _ (fresh_back (e2.trans e3) hl) ((e2.trans e3).trans (Ex.new hl)) (by
    rw [upd_same]
    congr 2
    generalize k.toNat = n
    induction n with
    | zero => rfl
    | succ n ih => rw [List.replicate_succ, List.flatten_cons, ih, List.replicate_succ]; rfl)⟩
/-- an item of a new list of ints -/
theorem ev_ixN {ns : List Int} {i : Int} (ha : EvL ta σ H (ns.map V.int)) (hb : ∀ H1, Ex H H1 → Ev tb σ H1 (.int i)) (h0 : 0 ≤ i) (h1 : i < (ns.length : Int)) : Ev (tOp (rIxL K) ta tb) σ H (.int (ns.getD i.toNat 0)) :=
  ev_opL1 ha hb fun p H1 hp _ => rv_ixL (sq_of hp) (by
    obtain ⟨j, rfl⟩ := Int.eq_ofNat_of_zero_le h0
    refine atI_nat ?_
    have hj : j < ns.length := by omega
    rw [List.getElem?_map, List.getElem?_eq_getElem hj, Int.toNat_natCast, List.getD_eq_getElem?_getD, List.getElem?_eq_getElem hj]
    rfl)
/-- an append to a new list that is thrown away -/
theorem s_appN {xs : List V} (h : EvL ta σ H xs) (hv : ∀ H1, Ex H H1 → Ev te σ H1 v) (hz : xs.length < 100000) (k : ∀ H1, Ex H H1 → D.nx σ H1) : tDrop (tBM K "list" rAppend ta (tCons te tNil)) D σ H := h H (Ex.refl H) _ fun p H1 np e1 hp =>
  ⟨Or.inl ⟨rfl, xs, sq_of hp⟩, hv H1 e1 H1 (Ex.refl _) _ fun H2 e2 => ⟨p, xs, v, rfl, rfl, e2 p _ hp, sz_lt hz, k _ (Ex.mut (e1.trans e2) np)⟩⟩
theorem q_appN {xs : List V} (h : EvL ta σ H xs) (hv : ∀ H1, Ex H H1 → Ev te σ H1 v) (hz : xs.length < 100000) (k : ∀ H1, Ex H H1 → tz D σ H1) : tSeq (tDrop (tBM K "list" rAppend ta (tCons te tNil))) tz D σ H := s_appN (D := { D with nx := tz D }) h hv hz k
theorem cut_mem {xs : List V} {lo hi : Option Int} {x : V} (h : x ∈ cutV xs lo hi) : x ∈ xs := List.mem_of_mem_drop (List.mem_of_mem_take h)
theorem int_of_mem {ns : List Int} {x : V} (h : x ∈ ns.map V.int) : ∃ i, x = .int i := by
  obtain ⟨i, _, rfl⟩ := List.mem_map.mp h
  exact ⟨i, rfl⟩

/-! ### a new list of pairs -/
def RetP (K : PySem.W.Frag) (rows : List (Int × Int)) (H : Hp) (Q : VK) : Prop := ∀ p xs H2, H p = none → Ex H H2 → H2 p = some (.lst xs) → Prs K H2 xs rows → Q (.ref p) H2
def EvP (K : PySem.W.Frag) (te : TE) (σ : L2.St) (H : Hp) (rows : List (Int × Int)) : Prop := ∀ H1, Ex H H1 → ∀ Q : VK, (∀ p xs H2, H1 p = none → Ex H1 H2 → H2 p = some (.lst xs) → Prs K H2 xs rows → Q (.ref p) H2) → te σ H1 Q
theorem ep_cal {sp : Sp} {vs : List V} {E : XK} {ta : TA} {rows : List (Int × Int)} (h : EvA ta σ H vs) (hs : ∀ H1, Ex H H1 → ∀ Q : VK, RetP K rows H1 Q → ∀ E : XK, sp vs H1 Q E) : EvP K (tCall sp [] E ta) σ H rows := fun H1 e Q q =>
  h H1 e _ fun H2 e2 => by
    show sp (vs ++ []) H2 Q E
    rw [List.append_nil]
    exact hs H2 (e.trans e2) Q (fun p xs H3 hp e3 h3 p3 => q p xs H3 (fresh_back e2 hp) (e2.trans e3) h3 p3) E
theorem q_asgP {i : Nat} {rows : List (Int × Int)} (h : EvP K te σ H rows) (k : ∀ p xs H1, H p = none → Ex H H1 → H1 p = some (.lst xs) → Prs K H1 xs rows → tz D (σ.set i (some (.ref p))) H1) : tSeq (tAsg te (gName i)) tz D σ H :=
  h H (Ex.refl H) _ fun p xs H1 hp e h1 p1 => k p xs H1 hp e h1 p1
theorem s_appNP {rows : List (Int × Int)} (h : EvP K ta σ H rows) (hv : ∀ H1, Ex H H1 → Ev te σ H1 v) (hz : rows.length < 100000) (k : ∀ H1, Ex H H1 → D.nx σ H1) : tDrop (tBM K "list" rAppend ta (tCons te tNil)) D σ H := h H (Ex.refl H) _ fun p xs H1 np e1 hp pp =>
  ⟨Or.inl ⟨rfl, xs, sq_of hp⟩, hv H1 e1 H1 (Ex.refl _) _ fun H2 e2 => ⟨p, xs, v, rfl, rfl, e2 p _ hp, sz_lt (by rw [Paired.length pp]; exact hz), k _ (Ex.mut (e1.trans e2) np)⟩⟩
theorem q_appNP {rows : List (Int × Int)} (h : EvP K ta σ H rows) (hv : ∀ H1, Ex H H1 → Ev te σ H1 v) (hz : rows.length < 100000) (k : ∀ H1, Ex H H1 → tz D σ H1) : tSeq (tDrop (tBM K "list" rAppend ta (tCons te tNil))) tz D σ H := s_appNP (D := { D with nx := tz D }) h hv hz k

/-! ### isinstance -/
theorem ev_isi {n s : String} {b : Bool} (ha : Ev ta σ H x) (ty : ∀ H1, Ex H H1 → TyX K H1 x (.type s)) (hk : kitB s n = some b) : Ev (tCB (rIsi K) (tCons ta (tCons (tC (.ty n)) tNil))) σ H (.bl b) := fun H1 e Q q =>
  ha H1 e _ fun H2 e2 => ⟨x, .ty n, .type s, .type n, b, rfl, .ty n, ty H2 (e.trans e2), kit_ty hk, q H2 e2⟩
theorem tx_int {i : Int} : ∀ H1, Ex H H1 → TyX K H1 (.int i) (.type "int") := fun _ _ => .base (.int i)
theorem tx_lst {p : Addr} {xs : List V} (h : H p = some (.lst xs)) : ∀ H1, Ex H H1 → TyX K H1 (.ref p) (.type "list") := fun _ e => .base (.lst (e p _ h))
theorem tx_tup {p : Addr} {xs : List V} (h : H p = some (.tup xs)) : ∀ H1, Ex H H1 → TyX K H1 (.ref p) (.type "tuple") := fun _ e => .base (.tup (e p _ h))

/-! ### comprehensions -/
/-- over a list of pairs, its target a pair of names -/
theorem el_lcP {a : Addr} {xs : List V} {rows : List (Int × Int)} {i j : Nat} (f : Int × Int → Bool) (w : Int × Int → V) (h : Ev tl σ H (.ref a)) (hx : SqL K H a xs) (hp : Prs K H xs rows) (hz : rows.length ≤ 40000)
    (hw : ∀ x y, wipe (((wipe σ vs).set i (some x)).set j (some y)) vs = wipe σ vs)
    (ht : ∀ r H1, Ex H H1 → r ∈ rows → EvT t (((wipe σ vs).set i (some (.int r.1))).set j (some (.int r.2))) H1 (f r)) (he : ∀ r H1, Ex H H1 → r ∈ rows → f r = true → Ev te (((wipe σ vs).set i (some (.int r.1))).set j (some (.int r.2))) H1 (w r)) :
    EvL (tLc (iList K tl) (gTup K 2 (gCons (gName i) (gCons (gName j) gNil))) t te vs) σ H ((rows.filter f).map w) := fun H0 e Q q => h H0 e _ fun H1 e1 => ⟨a, rfl, ⟨xs, ex_l (e.trans e1) hx⟩, fun Dl hD =>
  lc_list (xs := xs) (fun n H' => H1 Dl = none ∧ Ex H1 H' ∧ H' Dl = some (.lst (((rows.take n).filter f).map w))) ⟨hD, Ex.new hD, upd_same⟩ (fun n H' _ p => ex_l ((e.trans e1).trans p.2.1) hx) (fun n x H' hn p => by
    obtain ⟨p1, p2, p3⟩ := p
    obtain ⟨r, u, hr, rfl, hu⟩ := prs_get (hp.mono ((e.trans e1).trans p2)) hn
    have hm : r ∈ rows := List.mem_of_getElem? hr
    have hlen : (((rows.take n).filter f).map w).length < 100000 := by
      rw [List.length_map]
      have h1 := List.length_filter_le f (rows.take n)
      rw [List.length_take] at h1
      omega
    refine ⟨u, _, rfl, hu, rfl, .int r.1, [.int r.2], rfl, .int r.2, [], rfl, rfl, hw _ _, ?_⟩
    refine ht r H1 (e.trans e1) hm H' p2 _ fun H3 e3 => ?_
    have et : rows.take (n + 1) = rows.take n ++ [r] := by rw [List.take_add_one, hr]; rfl
    cases hf : f r with
    | true =>
      show te _ H3 _
      refine he r H1 (e.trans e1) hm hf H3 (p2.trans e3) _ fun H4 e4 => ⟨_, e4 Dl _ (e3 Dl _ p3), sz_lt hlen, p1, Ex.mut ((p2.trans e3).trans e4) p1, ?_⟩
      rw [upd_same, et, List.filter_append, List.map_append, List.filter_cons, if_pos hf]
      rfl
    | false =>
      refine ⟨p1, p2.trans e3, ?_⟩
      rw [et, List.filter_append, List.map_append, List.filter_cons, if_neg (by rw [hf]; decide)]
      show _ = some (HO.lst (_ ++ []))
      rw [List.append_nil]
      exact e3 Dl _ p3) (fun H' p => by
    have q1 := p.2.2
    rw [Paired.length hp, List.take_length] at q1
    exact q Dl H' (fresh_back e1 p.1) (e1.trans p.2.1) q1)⟩
/-- over a list of ints -/
theorem el_lcI {a : Addr} {ns : List Int} {j : Nat} (f : Int → Bool) (w : Int → V) (h : Ev tl σ H (.ref a)) (hx : SqL K H a (ns.map V.int)) (hz : ns.length ≤ 40000)
    (hw : ∀ x, wipe ((wipe σ vs).set j (some x)) vs = wipe σ vs)
    (ht : ∀ r H1, Ex H H1 → r ∈ ns → EvT t ((wipe σ vs).set j (some (.int r))) H1 (f r)) (he : ∀ r H1, Ex H H1 → r ∈ ns → f r = true → Ev te ((wipe σ vs).set j (some (.int r))) H1 (w r)) :
    EvL (tLc (iList K tl) (gName j) t te vs) σ H ((ns.filter f).map w) := fun H0 e Q q => h H0 e _ fun H1 e1 => ⟨a, rfl, ⟨_, ex_l (e.trans e1) hx⟩, fun Dl hD =>
  lc_list (xs := ns.map V.int) (fun n H' => H1 Dl = none ∧ Ex H1 H' ∧ H' Dl = some (.lst (((ns.take n).filter f).map w))) ⟨hD, Ex.new hD, upd_same⟩ (fun n H' _ p => ex_l ((e.trans e1).trans p.2.1) hx) (fun n x H' hn p => by
    obtain ⟨p1, p2, p3⟩ := p
    rw [List.getElem?_map] at hn
    obtain ⟨r, hr, rfl⟩ := Option.map_eq_some_iff.mp hn
    have hm : r ∈ ns := List.mem_of_getElem? hr
    have hlen : (((ns.take n).filter f).map w).length < 100000 := by
      rw [List.length_map]
      have h1 := List.length_filter_le f (ns.take n)
      rw [List.length_take] at h1
      omega
    refine ⟨hw _, ?_⟩
    refine ht r H1 (e.trans e1) hm H' p2 _ fun H3 e3 => ?_
    have et : ns.take (n + 1) = ns.take n ++ [r] := by rw [List.take_add_one, hr]; rfl
    cases hf : f r with
    | true =>
      show te _ H3 _
      refine he r H1 (e.trans e1) hm hf H3 (p2.trans e3) _ fun H4 e4 => ⟨_, e4 Dl _ (e3 Dl _ p3), sz_lt hlen, p1, Ex.mut ((p2.trans e3).trans e4) p1, ?_⟩
      rw [upd_same, et, List.filter_append, List.map_append, List.filter_cons, if_pos hf]
      rfl
    | false =>
      refine ⟨p1, p2.trans e3, ?_⟩
      rw [et, List.filter_append, List.map_append, List.filter_cons, if_neg (by rw [hf]; decide)]
      show _ = some (HO.lst (_ ++ []))
      rw [List.append_nil]
      exact e3 Dl _ p3) (fun H' p => by
    have q1 := p.2.2
    rw [List.length_map, List.take_length] at q1
    exact q Dl H' (fresh_back e1 p.1) (e1.trans p.2.1) q1)⟩
theorem et_yes : EvT tYes σ H true := fun H1 _ _ q => q H1 (Ex.refl H1)
theorem ev_gcd {a b : Int} (ha : Ev ta σ H (.int a)) (hb : Ev tb σ H (.int b)) : Ev (tCB rGcd (tCons ta (tCons tb tNil))) σ H (.int ((Nat.gcd a.natAbs b.natAbs : Nat) : Int)) :=
  ev_cb (ea_cons ha (ea_cons hb ea_nil)) fun H1 _ _ q => ⟨a, b, rfl, q H1 (Ex.refl H1)⟩
end
end Kp

/-! Loops over enumerate and reversed; what stands at a place of a list, changed; many new lists at once. -/
namespace Kp
open PySem PySem.Spec PyProof.Rows L2 Evl
section
variable {K : PySem.W.Frag} {σ : L2.St} {H H' : Hp} {ta tb te tl to ti : TE} {t : TT} {x y z v : V} {D : Ends} {tu tz : TS} {vs : List Nat}
/-- for i, x in enumerate(xs) -/
theorem s_forE {a : Addr} {xs : List V} {tl : TA} {j1 j2 : Nat} (h : EvA tl σ H [.ref a]) (hx : SqL K H a xs) (Pv : Nat → L2.St → Hp → Prop) (h0 : ∀ H1, Ex H H1 → Pv 0 σ H1) (hl : ∀ i σ' H', i ≤ xs.length → Pv i σ' H' → SqL K H' a xs)
    (hs : ∀ i x σ' H', xs[i]? = some x → Pv i σ' H' → ∀ H2, Ex H' H2 → tu { D with nx := Pv (i + 1), ct := Pv (i + 1), bk := D.nx } ((σ'.set j1 (some (.int (i : Nat)))).set j2 (some x)) H2) (hd : ∀ σ' H', Pv xs.length σ' H' → D.nx σ' H') :
    tFor (iEnum K tl) (gTup K 2 (gCons (gName j1) (gCons (gName j2) gNil))) tu D σ H :=
  h H (Ex.refl H) _ fun H1 e => ⟨a, xs, rfl, ex_l e hx, fun i m σ' H' => m = xs.length - i ∧ i ≤ xs.length ∧ Pv i σ' H', ⟨xs.length, rfl, Nat.zero_le _, h0 H1 e⟩, fun i m σ' H' hW => by
    obtain ⟨rfl, hi, p⟩ := hW
    have q := hl i σ' H' hi p
    by_cases hlt : i < xs.length
    · refine .inr ⟨⟨xs, xs[i], q, List.getElem?_eq_getElem hlt⟩, Pv (i + 1), fun σ2 H2 p' => ⟨xs.length - (i + 1), by omega, rfl, hlt, p'⟩, fun w H2 hy => ?_⟩
      obtain ⟨T, x, rfl, hT, rfl, fx⟩ := hy
      exact ⟨T, _, rfl, .inl (.inl upd_same), rfl, .int (i : Nat), [x], rfl, x, [], rfl, rfl, hs i x σ' H' (fx xs q) p _ (Ex.new hT)⟩
    · have e : i = xs.length := by omega
      subst e
      exact .inl ⟨⟨xs, q, Nat.le_refl _⟩, hd σ' H' p⟩⟩
theorem q_forE {a : Addr} {xs : List V} {tl : TA} {j1 j2 : Nat} (h : EvA tl σ H [.ref a]) (hx : SqL K H a xs) (Pv : Nat → L2.St → Hp → Prop) (h0 : ∀ H1, Ex H H1 → Pv 0 σ H1) (hl : ∀ i σ' H', i ≤ xs.length → Pv i σ' H' → SqL K H' a xs)
    (hs : ∀ i x σ' H', xs[i]? = some x → Pv i σ' H' → ∀ H2, Ex H' H2 → tu { D with nx := Pv (i + 1), ct := Pv (i + 1), bk := tz D } ((σ'.set j1 (some (.int (i : Nat)))).set j2 (some x)) H2) (hd : ∀ σ' H', Pv xs.length σ' H' → tz D σ' H') :
    tSeq (tFor (iEnum K tl) (gTup K 2 (gCons (gName j1) (gCons (gName j2) gNil))) tu) tz D σ H := s_forE (D := { D with nx := tz D }) h hx Pv h0 hl hs hd
/-- for x in reversed(xs) -/
theorem s_forV {a : Addr} {xs : List V} {tl : TA} {j : Nat} (h : EvA tl σ H [.ref a]) (hx : SqL K H a xs) (Pv : Nat → L2.St → Hp → Prop) (h0 : ∀ H1, Ex H H1 → Pv 0 σ H1) (hl : ∀ i σ' H', i ≤ xs.length → Pv i σ' H' → SqL K H' a xs)
    (hs : ∀ i x σ' H', i < xs.length → xs[xs.length - 1 - i]? = some x → Pv i σ' H' → tu { D with nx := Pv (i + 1), ct := Pv (i + 1), bk := D.nx } (σ'.set j (some x)) H') (hd : ∀ σ' H', Pv xs.length σ' H' → D.nx σ' H') :
    tFor (iRev K tl) (gName j) tu D σ H :=
  h H (Ex.refl H) _ fun H1 e => ⟨a, xs, rfl, ex_l e hx, fun i m σ' H' => m = xs.length - i ∧ i ≤ xs.length ∧ Pv i σ' H', ⟨xs.length, rfl, Nat.zero_le _, h0 H1 e⟩, fun i m σ' H' hW => by
    obtain ⟨rfl, hi, p⟩ := hW
    have q := hl i σ' H' hi p
    by_cases hlt : i < xs.length
    · have hlt2 : xs.length - 1 - i < xs.length := by omega
      refine .inr ⟨⟨hlt, xs, xs[xs.length - 1 - i], q, List.getElem?_eq_getElem hlt2⟩, Pv (i + 1), fun σ2 H2 p' => ⟨xs.length - (i + 1), by omega, rfl, hlt, p'⟩, fun w H2 hy => ?_⟩
      obtain ⟨rfl, fx⟩ := hy
      exact hs i w σ' H2 hlt (fx xs q) p
    · have e : i = xs.length := by omega
      subst e
      exact .inl ⟨Nat.le_refl _, hd σ' H' p⟩⟩
theorem q_forV {a : Addr} {xs : List V} {tl : TA} {j : Nat} (h : EvA tl σ H [.ref a]) (hx : SqL K H a xs) (Pv : Nat → L2.St → Hp → Prop) (h0 : ∀ H1, Ex H H1 → Pv 0 σ H1) (hl : ∀ i σ' H', i ≤ xs.length → Pv i σ' H' → SqL K H' a xs)
    (hs : ∀ i x σ' H', i < xs.length → xs[xs.length - 1 - i]? = some x → Pv i σ' H' → tu { D with nx := Pv (i + 1), ct := Pv (i + 1), bk := tz D } (σ'.set j (some x)) H') (hd : ∀ σ' H', Pv xs.length σ' H' → tz D σ' H') :
    tSeq (tFor (iRev K tl) (gName j) tu) tz D σ H := s_forV (D := { D with nx := tz D }) h hx Pv h0 hl hs hd
/-- o[i] += e, of a list of ints -/
theorem s_augL {l : Addr} {ns : List Int} {j : Nat} {f : Int → Int → Int} {a b : Int} (hl : H l = some (.lst (ns.map V.int))) (ho : Ev to σ H (.ref l)) (hi : Ev ti σ H (.int (j : Nat))) (hj : ns[j]? = some a) (he : Ev te σ H (.int b))
    (k : ∀ H1, Ex H H1 → D.nx σ (upd H1 l (.lst ((ns.set j (f a b)).map V.int)))) : tAugS to ti te (rGetL K) (ipI f) rSetL D σ H := ho H (Ex.refl H) _ fun H1 e1 => hi H1 e1 _ fun H2 e2 =>
  ⟨l, ns.map V.int, j, .int a, rfl, rfl, sq_of ((e1.trans e2) l _ hl), by rw [List.getElem?_map, hj]; rfl, he H2 (e1.trans e2) _ fun H3 e3 => ⟨a, b, rfl, rfl, l, ns.map V.int, (j : Nat), j, rfl, rfl, ((e1.trans e2).trans e3) l _ hl,
    ixN_nat (by rw [List.length_map]; exact (List.getElem?_eq_some_iff.mp hj).1), by
      have q := k H3 ((e1.trans e2).trans e3)
      rw [List.map_set] at q
      exact q⟩⟩
/-- the same with an operator that asks something of its two ints -/
theorem s_augLC {l : Addr} {ns : List Int} {j : Nat} {C : Int → Int → Prop} {f : Int → Int → Int} {a b : Int} (hl : H l = some (.lst (ns.map V.int))) (ho : Ev to σ H (.ref l)) (hi : Ev ti σ H (.int (j : Nat))) (hj : ns[j]? = some a) (he : Ev te σ H (.int b))
    (k : ∀ H1, Ex H H1 → D.nx σ (upd H1 l (.lst ((ns.set j (f a b)).map V.int)))) : tAugS to ti te (rGetL K) (rI0 fun i j => .int (f i j)) rSetL D σ H := s_augL hl ho hi hj he k
/-- o[i] = e, of a list of ints -/
theorem s_setI {l : Addr} {ns : List Int} {j : Nat} {b : Int} (hl : H l = some (.lst (ns.map V.int))) (ho : Ev to σ H (.ref l)) (hi : Ev ti σ H (.int (j : Nat))) (hj : j < ns.length) (he : Ev te σ H (.int b))
    (k : ∀ H1, Ex H H1 → D.nx σ (upd H1 l (.lst ((ns.set j b).map V.int)))) : tAsg te (gSub to ti rSetL) D σ H :=
  s_setL hl he ho hi (by rw [List.length_map]; exact hj) fun H1 e1 => by
    have q := k H1 e1
    rw [List.map_set] at q
    exact q
/-- xs[i], of a list of ints -/
theorem ev_ixI {a : Addr} {ns : List Int} {j : Nat} {b : Int} (hl : SqL K H a (ns.map V.int)) (ho : Ev ta σ H (.ref a)) (hi : Ev tb σ H (.int (j : Nat))) (hj : ns[j]? = some b) : Ev (tOp (rIxL K) ta tb) σ H (.int b) :=
  ev_op ho hi (rv_ixL hl (atI_nat (by rw [List.getElem?_map, hj]; rfl)))
/-- t[i], of a tuple -/
theorem ev_ixT {a : Addr} {xs : List V} {j : Nat} (hl : SqT K H a xs) (ho : Ev ta σ H (.ref a)) (hi : Ev tb σ H (.int (j : Nat))) (hj : xs[j]? = some v) : Ev (tOp (rIxT K) ta tb) σ H v :=
  ev_op ho hi (rv_ixT hl (atI_nat hj))
/-- xs.pop() as a statement -/
theorem s_pop {l : Addr} {xs : List V} {y : V} (hl : H l = some (.lst (xs ++ [y]))) (ha : Ev ta σ H (.ref l)) (k : ∀ H1, Ex H H1 → D.nx σ (upd H1 l (.lst xs))) : tDrop (tBM0 K "list" rPop ta) D σ H := ha H (Ex.refl H) _ fun H1 e1 =>
  ⟨Or.inl ⟨rfl, _, sq_of (e1 l _ hl)⟩, l, xs ++ [y], y, rfl, rfl, e1 l _ hl, by simp, by
    rw [List.dropLast_concat]
    exact k H1 e1⟩

/-! ### many new lists -/
def EvNs (n : Nat) (ta : TA) (σ : L2.St) (H : Hp) : Prop := ∀ H1, Ex H H1 → ∀ Q : List V → Hp → Prop, (∀ (ps : List Addr) H2, ps.length = n → Ex H1 H2 → (∀ p ∈ ps, H1 p = none ∧ ∃ xs, H2 p = some (.lst xs) ∧ xs.length < 50000) → Q (ps.map V.ref) H2) → ta σ H1 Q
theorem en_nil : EvNs 0 tNil σ H := fun H1 _ Q q => q [] H1 rfl (Ex.refl H1) fun _ h => nomatch h
theorem en_cons {tr : TA} {xs : List V} {n : Nat} (h : EvL te σ H xs) (hz : xs.length < 50000) (hr : EvNs n tr σ H) : EvNs (n + 1) (tCons te tr) σ H := fun H1 e Q q =>
  h H1 e _ fun p H2 np e2 hp => hr H2 (e.trans e2) _ fun ps H3 hl e3 hps => q (p :: ps) H3 (by rw [List.length_cons, hl]) (e2.trans e3) fun r hr' => by
    rcases List.mem_cons.mp hr' with rfl | hm
    · exact ⟨np, xs, e3 _ _ hp, hz⟩
    · obtain ⟨n1, n2⟩ := hps r hm
      exact ⟨fresh_back e2 n1, n2⟩
/-- for x in [new, new, ..]: x.append(e) -/
theorem s_forNs {tr : TA} {n j : Nat} {u : V} (h : EvNs n tr σ H) (hn : n ≤ 1000) (hj : j < σ.length) (k : ∀ σ' H1, (∃ x, σ' = σ.set j x) → Ex H H1 → D.nx σ' H1) :
    tFor (iList K (tLst tr)) (gName j) (tDrop (tBM K "list" rAppend (tVar j) (tCons (tC u) tNil))) D σ H :=
  h H (Ex.refl H) _ fun ps H2 hl e2 hps => ⟨sz_of (by rw [List.length_map]; omega), fun L nL => ⟨L, rfl, ⟨_, SqL.of upd_same⟩, for_list (xs := ps.map V.ref)
    (fun i σ' H' => (∃ x, σ' = σ.set j x) ∧ Ex H H' ∧ H' L = some (.lst (ps.map V.ref)) ∧ ∀ p ∈ ps, ∃ xs, H' p = some (.lst xs) ∧ xs.length < 50000 + i)
    ⟨⟨σ[j], (List.set_getElem_self hj).symm⟩, e2.trans (Ex.new nL), upd_same, fun p hp => by
      obtain ⟨xs, q1, q2⟩ := (hps p hp).2
      exact ⟨xs, by rw [upd_ne (ne_of_none q1 nL)]; exact q1, by omega⟩⟩
    (fun i σ' H' _ p => SqL.of p.2.2.1) (fun i x σ' H' hx p => by
      obtain ⟨⟨y, rfl⟩, p2, p3, p4⟩ := p
      rw [List.getElem?_map] at hx
      obtain ⟨r, hr, rfl⟩ := Option.map_eq_some_iff.mp hx
      have hm := List.mem_of_getElem? hr
      have hi : i < ps.length := (List.getElem?_eq_some_iff.mp hr).1
      obtain ⟨xs, q1, q2⟩ := p4 r hm
      have nLr : L ≠ r := fun e => by
        obtain ⟨zs, z1, _⟩ := (hps r hm).2
        rw [← e, nL] at z1
        cases z1
      refine s_app q1 (ev_var (by rw [List.getElem?_set_self (by rw [List.length_set]; exact hj)])) ev_c (by omega) fun H3 e3 => ⟨⟨_, List.set_set ..⟩, Ex.mut (p2.trans e3) (hps r hm).1, ?_, fun p hp => ?_⟩
      · rw [upd_ne nLr]
        exact e3 _ _ p3
      · by_cases e : p = r
        · subst e
          exact ⟨_, upd_same, by rw [List.length_append, List.length_singleton]; omega⟩
        · obtain ⟨ys, z1, z2⟩ := p4 p hp
          exact ⟨ys, by rw [upd_ne e]; exact e3 _ _ z1, by omega⟩) (fun σ' H' p => k σ' H' p.1 p.2.1)⟩⟩
theorem q_forNs {tr : TA} {n j : Nat} {u : V} (h : EvNs n tr σ H) (hn : n ≤ 1000) (hj : j < σ.length) (k : ∀ σ' H1, (∃ x, σ' = σ.set j x) → Ex H H1 → tz D σ' H1) :
    tSeq (tFor (iList K (tLst tr)) (gName j) (tDrop (tBM K "list" rAppend (tVar j) (tCons (tC u) tNil)))) tz D σ H := s_forNs (D := { D with nx := tz D }) h hn hj k
end
end Kp
namespace Kp
open PySem PySem.Spec PyProof.Rows L2 Evl
section
variable {K : PySem.W.Frag} {σ : L2.St} {H H' : Hp} {ta tb te tl to ti : TE} {t : TT} {x y z v : V} {D : Ends} {tu tz : TS} {vs : List Nat}
/-- (a new list, a new list) -/
theorem q_asgT2 {i : Nat} {xs ys : List V} (h1 : EvL ta σ H xs) (h2 : EvL tb σ H ys) (k : ∀ t p q H1, Ex H H1 → H1 t = some (.tup [.ref p, .ref q]) → H1 p = some (.lst xs) → H1 q = some (.lst ys) → tz D (σ.set i (some (.ref t))) H1) :
    tSeq (tAsg (tTup (tCons ta (tCons tb tNil))) (gName i)) tz D σ H :=
  h1 H (Ex.refl H) _ fun p H1 np e1 hp => h2 H1 e1 _ fun q H2 nq e2 hq => ⟨sz_of (show 2 ≤ 100000 by decide), fun t nt =>
    k t p q _ ((e1.trans e2).trans (Ex.new nt)) upd_same (by rw [upd_ne (ne_of_none (e2 _ _ hp) nt)]; exact e2 _ _ hp) (by rw [upd_ne (ne_of_none hq nt)]; exact hq)⟩
/-- a call upon one new list, one value back -/
theorem ev_calL1 {sp : Sp} {xs : List V} {E : XK} (h : EvL ta σ H xs) (hs : ∀ p H1, Ex H H1 → H1 p = some (.lst xs) → ∀ Q : VK, RetV z H1 Q → ∀ E : XK, sp [.ref p] H1 Q E) : Ev (tCall sp [] E (tCons ta tNil)) σ H z := fun H1 e Q q =>
  h H1 e _ fun p H2 np e2 hp => hs p H2 (e.trans e2) hp Q (fun H3 e3 => q H3 (e2.trans e3)) E
/-- a list by its name and a new one, glued -/
theorem el_cat1 {l : Addr} {xs ys : List V} (ha : Ev ta σ H (.ref l)) (hl : H l = some (.lst xs)) (hb : EvL tb σ H ys) (hz : xs.length + ys.length ≤ 100000) : EvL (tOp rCat ta tb) σ H (xs ++ ys) := fun H1 e Q q =>
  ha H1 e _ fun H2 e2 => hb H2 (e.trans e2) _ fun r H3 nr e3 hr => ⟨l, r, xs, ys, rfl, rfl, (e.trans (e2.trans e3)) _ _ hl, hr, sz_of hz, fun l hl => q l _ (fresh_back (e2.trans e3) hl) ((e2.trans e3).trans (Ex.new hl)) upd_same⟩
theorem cut_take (xs : List V) (m : Nat) : cutV xs none (some (m : Int)) = xs.take m := by
  unfold cutV
  rw [HT.sIx_none, HT.sIx_nat, Nat.sub_zero, List.drop_zero]
  by_cases h : m ≤ xs.length
  · rw [Nat.min_eq_left h]
  · rw [Nat.min_eq_right (by omega), List.take_of_length_le (Nat.le_refl _), List.take_of_length_le (by omega)]
theorem map_get {ns : List Int} {i : Nat} {x : V} (h : (ns.map V.int)[i]? = some x) : ∃ a, ns[i]? = some a ∧ x = .int a := by
  rw [List.getElem?_map] at h
  obtain ⟨a, h1, h2⟩ := Option.map_eq_some_iff.mp h
  exact ⟨a, h1, h2.symm⟩
end
end Kp

/-! More of loops, comprehensions and lists. -/
namespace Kp
open PySem PySem.Spec PyProof.Rows L2 Evl
theorem filter_yes {α : Type} (l : List α) : l.filter (fun _ => true) = l := List.filter_eq_self.mpr fun _ _ => rfl
section
variable {K : PySem.W.Frag} {σ : L2.St} {H H' : Hp} {ta tb te tl to ti : TE} {t : TT} {x y z v : V} {D : Ends} {tu tz : TS} {vs : List Nat}
/-- [e for x in range(a, b) if t] -/
theorem el_lcR2 {tg : TA} {j : Nat} {lo hi : Int} (f : Nat → Bool) (w : Nat → V) (h : EvA tg σ H [.int lo, .int hi]) (hb : 0 ≤ lo ∧ lo ≤ 40000 ∧ -40000 ≤ hi ∧ hi ≤ 40000) (hw : ∀ x, wipe ((wipe σ vs).set j (some x)) vs = wipe σ vs)
    (ht : ∀ (i : Nat) H1, Ex H H1 → lo + (i : Int) < hi → EvT t ((wipe σ vs).set j (some (.int (lo + (i : Int))))) H1 (f i)) (he : ∀ (i : Nat) H1, Ex H H1 → lo + (i : Int) < hi → f i = true → Ev te ((wipe σ vs).set j (some (.int (lo + (i : Int))))) H1 (w i)) :
    EvL (tLc (iRng2 tg) (gName j) t te vs) σ H (((List.range (hi - lo).toNat).filter f).map w) := fun H0 e Q q => h H0 e _ fun H1 e1 => ⟨lo, hi, rfl, ⟨by omega, by omega, by omega, by omega⟩, fun Dl hD =>
  lc_range (lo := lo) (n := (hi - lo).toNat) (Cw H1 f w Dl) ⟨hD, Ex.new hD, upd_same⟩ (fun i H' hi p => ⟨hw _, cw_turn p (by omega) (ht i H1 (e.trans e1) (by omega)) (fun hf => he i H1 (e.trans e1) (by omega) hf)⟩) (fun H' p => q Dl H' (fresh_back e1 p.1) (e1.trans p.2.1) p.2.2)⟩
/-- [e for x in reversed(xs) if t], xs ints -/
theorem el_lcV {tg : TA} {a : Addr} {ns : List Int} {j : Nat} (f : Int → Bool) (w : Int → V) (h : EvA tg σ H [.ref a]) (hx : SqL K H a (ns.map V.int)) (hz : ns.length ≤ 40000)
    (hw : ∀ x, wipe ((wipe σ vs).set j (some x)) vs = wipe σ vs)
    (ht : ∀ r H1, Ex H H1 → r ∈ ns → EvT t ((wipe σ vs).set j (some (.int r))) H1 (f r)) (he : ∀ r H1, Ex H H1 → r ∈ ns → f r = true → Ev te ((wipe σ vs).set j (some (.int r))) H1 (w r)) :
    EvL (tLc (iRev K tg) (gName j) t te vs) σ H ((ns.reverse.filter f).map w) := fun H0 e Q q => h H0 e _ fun H1 e1 => ⟨a, _, rfl, ex_l (e.trans e1) hx, fun Dl hD =>
  ⟨fun n m H' => m = ns.length - n ∧ n ≤ ns.length ∧ H1 Dl = none ∧ Ex H1 H' ∧ H' Dl = some (.lst (((ns.reverse.take n).filter f).map w)), ⟨ns.length, rfl, Nat.zero_le _, hD, Ex.new hD, upd_same⟩, fun n m H' hW => by
    obtain ⟨rfl, hn, p1, p2, p3⟩ := hW
    by_cases hlt : n < ns.length
    · have hlt2 : ns.length - 1 - n < ns.length := by omega
      have hlm : (ns.map V.int).length = ns.length := List.length_map _
      refine .inr ⟨⟨by rw [hlm]; exact hlt, ns.map V.int, _, ex_l ((e.trans e1).trans p2) hx, List.getElem?_eq_getElem (by rw [hlm]; omega)⟩, fun H2 => n + 1 ≤ ns.length ∧ H1 Dl = none ∧ Ex H1 H2 ∧ H2 Dl = some (.lst (((ns.reverse.take (n + 1)).filter f).map w)), fun H2 ⟨q1, q2, q3, q4⟩ => ⟨ns.length - (n + 1), by omega, rfl, q1, q2, q3, q4⟩, fun x H2 hy => ?_⟩
      obtain ⟨rfl, fx⟩ := hy
      have gx := fx _ (ex_l ((e.trans e1).trans p2) hx)
      rw [hlm] at gx
      rw [List.getElem?_map] at gx
      obtain ⟨r, hr, rfl⟩ := Option.map_eq_some_iff.mp gx
      have hm : r ∈ ns := List.mem_of_getElem? hr
      have hlen : (((ns.reverse.take n).filter f).map w).length < 100000 := by
        rw [List.length_map]
        have h1 := List.length_filter_le f (ns.reverse.take n)
        rw [List.length_take, List.length_reverse] at h1
        omega
      have et : ns.reverse.take (n + 1) = ns.reverse.take n ++ [r] := by
        rw [List.take_add_one, List.getElem?_reverse hlt, hr]
        rfl
      refine ⟨hw _, ?_⟩
      refine ht r H1 (e.trans e1) hm H2 p2 _ fun H3 e3 => ?_
      cases hf : f r with
      | true =>
        show te _ H3 _
        refine he r H1 (e.trans e1) hm hf H3 (p2.trans e3) _ fun H4 e4 => ⟨_, e4 Dl _ (e3 Dl _ p3), sz_lt hlen, hlt, p1, Ex.mut ((p2.trans e3).trans e4) p1, ?_⟩
        rw [upd_same, et, List.filter_append, List.map_append, List.filter_cons, if_pos hf]
        rfl
      | false =>
        refine ⟨hlt, p1, p2.trans e3, ?_⟩
        rw [et, List.filter_append, List.map_append, List.filter_cons, if_neg (by rw [hf]; decide)]
        show _ = some (HO.lst (_ ++ []))
        rw [List.append_nil]
        exact e3 Dl _ p3
    · have en : n = ns.length := by omega
      subst en
      rw [List.take_of_length_le (by rw [List.length_reverse]; exact Nat.le_refl _)] at p3
      exact .inl ⟨by show (ns.map V.int).length ≤ _; rw [List.length_map]; exact Nat.le_refl _, q Dl H' (fresh_back e1 p1) (e1.trans p2) p3⟩⟩⟩
/-- two lists by their names, glued -/
theorem el_cat2 {l b : Addr} {xs ys : List V} (ha : Ev ta σ H (.ref l)) (hl : H l = some (.lst xs)) (hb : Ev tb σ H (.ref b)) (hlb : H b = some (.lst ys)) (hz : xs.length + ys.length ≤ 100000) : EvL (tOp rCat ta tb) σ H (xs ++ ys) := fun H1 e Q q =>
  ha H1 e _ fun H2 e2 => hb H2 (e.trans e2) _ fun H3 e3 => ⟨l, b, xs, ys, rfl, rfl, (e.trans (e2.trans e3)) _ _ hl, (e.trans (e2.trans e3)) _ _ hlb, sz_of hz, fun l hl => q l _ (fresh_back (e2.trans e3) hl) ((e2.trans e3).trans (Ex.new hl)) upd_same⟩
/-- for i, x in enumerate(a new list) -/
theorem s_forEN {xs : List V} {j1 j2 : Nat} (h : EvL te σ H xs) (Pv : Addr → Nat → L2.St → Hp → Prop) (h0 : ∀ a H1, H a = none → Ex H H1 → H1 a = some (.lst xs) → Pv a 0 σ H1) (hl : ∀ a i σ' H', i ≤ xs.length → Pv a i σ' H' → SqL K H' a xs)
    (hs : ∀ a i x σ' H', xs[i]? = some x → Pv a i σ' H' → ∀ H2, Ex H' H2 → tu { D with nx := Pv a (i + 1), ct := Pv a (i + 1), bk := D.nx } ((σ'.set j1 (some (.int (i : Nat)))).set j2 (some x)) H2) (hd : ∀ a σ' H', Pv a xs.length σ' H' → D.nx σ' H') :
    tFor (iEnum K (tCons te tNil)) (gTup K 2 (gCons (gName j1) (gCons (gName j2) gNil))) tu D σ H :=
  h H (Ex.refl H) _ fun a H1 na e ha => ⟨a, xs, rfl, sq_of ha, fun i m σ' H' => m = xs.length - i ∧ i ≤ xs.length ∧ Pv a i σ' H', ⟨xs.length, rfl, Nat.zero_le _, h0 a H1 na e ha⟩, fun i m σ' H' hW => by
    obtain ⟨rfl, hi, p⟩ := hW
    have q := hl a i σ' H' hi p
    by_cases hlt : i < xs.length
    · refine .inr ⟨⟨xs, xs[i], q, List.getElem?_eq_getElem hlt⟩, Pv a (i + 1), fun σ2 H2 p' => ⟨xs.length - (i + 1), by omega, rfl, hlt, p'⟩, fun w H2 hy => ?_⟩
      obtain ⟨T, x, rfl, hT, rfl, fx⟩ := hy
      exact ⟨T, _, rfl, .inl (.inl upd_same), rfl, .int (i : Nat), [x], rfl, x, [], rfl, rfl, hs a i x σ' H' (fx xs q) p _ (Ex.new hT)⟩
    · have e : i = xs.length := by omega
      subst e
      exact .inl ⟨⟨xs, q, Nat.le_refl _⟩, hd a σ' H' p⟩⟩
theorem q_forEN {xs : List V} {j1 j2 : Nat} (h : EvL te σ H xs) (Pv : Addr → Nat → L2.St → Hp → Prop) (h0 : ∀ a H1, H a = none → Ex H H1 → H1 a = some (.lst xs) → Pv a 0 σ H1) (hl : ∀ a i σ' H', i ≤ xs.length → Pv a i σ' H' → SqL K H' a xs)
    (hs : ∀ a i x σ' H', xs[i]? = some x → Pv a i σ' H' → ∀ H2, Ex H' H2 → tu { D with nx := Pv a (i + 1), ct := Pv a (i + 1), bk := tz D } ((σ'.set j1 (some (.int (i : Nat)))).set j2 (some x)) H2) (hd : ∀ a σ' H', Pv a xs.length σ' H' → tz D σ' H') :
    tSeq (tFor (iEnum K (tCons te tNil)) (gTup K 2 (gCons (gName j1) (gCons (gName j2) gNil))) tu) tz D σ H := s_forEN (D := { D with nx := tz D }) h Pv h0 hl hs hd
/-- for a, b in a new list of pairs -/
theorem q_forP {rows : List (Int × Int)} {j1 j2 : Nat} (h : EvP K te σ H rows) (Pv : Hp → Nat → L2.St → Hp → Prop) (h0 : ∀ H1, Ex H H1 → Pv H1 0 σ H1) (hl : ∀ H1 i σ' H', Pv H1 i σ' H' → Ex H1 H')
    (hs : ∀ H1 i r σ' H', Ex H H1 → rows[i]? = some r → Pv H1 i σ' H' → tu { D with nx := Pv H1 (i + 1), ct := Pv H1 (i + 1), bk := tz D } ((σ'.set j1 (some (.int r.1))).set j2 (some (.int r.2))) H') (hd : ∀ H1 σ' H', Ex H H1 → Pv H1 rows.length σ' H' → tz D σ' H') :
    tSeq (tFor (iList K te) (gTup K 2 (gCons (gName j1) (gCons (gName j2) gNil))) tu) tz D σ H :=
  h H (Ex.refl H) _ fun p xs H1 np e hp pr => ⟨p, rfl, ⟨xs, sq_of hp⟩, for_list (xs := xs) (Pv H1) (h0 H1 e) (fun i σ' H' _ q => sq_of (hl _ _ _ _ q _ _ hp)) (fun i x σ' H' hx q => by
    obtain ⟨r, t, hr, rfl, ht⟩ := prs_get (pr.mono (hl _ _ _ _ q)) hx
    exact ⟨t, _, rfl, ht, rfl, .int r.1, [.int r.2], rfl, .int r.2, [], rfl, rfl, hs H1 i r σ' H' e hr q⟩) (fun σ' H' q => by
    rw [Paired.length pr] at q
    exact hd H1 σ' H' e q)⟩
/-- a list by its name, beside a new list of pairs -/
theorem ev_opLP {r : R2} {rows : List (Int × Int)} (ha : Ev ta σ H x) (hb : EvP K tb σ H rows) (hr : ∀ p xs H1, H1 p = some (.lst xs) → Prs K H1 xs rows → Ex H H1 → RV r x (.ref p) H1 z) : Ev (tOp r ta tb) σ H z := fun H1 e Q q =>
  ha H1 e _ fun H2 e2 => hb H2 (e.trans e2) _ fun p xs H3 np e3 hp pr => hr p xs H3 hp pr ((e.trans e2).trans e3) H3 (Ex.refl H3) Q fun H4 e4 => q H4 ((e2.trans e3).trans e4)
theorem inV_int (x : Int) : ∀ ns : List Int, inV (.int x) (ns.map V.int) = decide (x ∈ ns)
  | [] => rfl
  | n :: ns => by
    have ih := inV_int x ns
    show ((n == x) || inV (.int x) (ns.map V.int)) = _
    rw [ih, Bool.eq_iff_iff, Bool.or_eq_true, beq_iff_eq, decide_eq_true_iff, decide_eq_true_iff, List.mem_cons]
    constructor
    · rintro (h | h)
      · exact .inl h.symm
      · exact .inr h
    · rintro (h | h)
      · exact .inl h.symm
      · exact .inr h
theorem flat_ints : ∀ ns : List Int, (ns.map V.int).all flatV = true
  | [] => rfl
  | n :: ns => by
    rw [List.map_cons, List.all_cons, flat_ints ns]
    rfl
theorem ev_notIn {a : Addr} {x : Int} {ns : List Int} (ha : Ev ta σ H (.int x)) (hb : Ev tb σ H (.ref a)) (hl : SqL K H a (ns.map V.int)) : Ev (tOp (rIn K true) ta tb) σ H (.bl (!decide (x ∈ ns))) := by
  have := rv_niL (K := K) (x := .int x) hl rfl (flat_ints ns)
  rw [inV_int] at this
  exact ev_op ha hb this
/-- sorted(xs), ints -/
theorem el_sorted {a : Addr} {ns ms : List Int} (ha : Ev ta σ H (.ref a)) (hl : SqL K H a (ns.map V.int)) (hu : ∀ ns' : List Int, ns'.Perm ns → ns'.Pairwise (· ≤ ·) → ns' = ms) : EvL (tCB (rSortedI K) (tCons ta tNil)) σ H (ms.map V.int) := fun H1 e Q q =>
  ha H1 e _ fun H2 e2 => ⟨a, ns, rfl, ex_l (e.trans e2) hl, fun ns' p hp hs np => by
    rw [hu ns' hp hs]
    exact q p _ (fresh_back e2 np) (e2.trans (Ex.new np)) upd_same⟩
/-- list(t), t a tuple -/
theorem el_listT {p : Addr} {xs : List V} (ha : Ev ta σ H (.ref p)) (h : SqT K H p xs) : EvL (tCB (rListS K) (tCons ta tNil)) σ H xs := fun H1 e Q q =>
  ha H1 e _ fun H2 e2 => ⟨p, xs, rfl, Or.inr (ex_t (e.trans e2) h), fun l hl => q l _ (fresh_back e2 hl) (e2.trans (Ex.new hl)) upd_same⟩
theorem ev_int1b {b : Bool} (ha : Ev ta σ H (.bl b)) : Ev (tCB (fun xs H Q => (∃ i, xs = [.int i] ∧ Q (.int i) H) ∨ ∃ k, xs = [.bl k] ∧ Q (.int (if k then 1 else 0)) H) (tCons ta tNil)) σ H (.int (if b then 1 else 0)) := fun H1 e Q q =>
  ha H1 e _ fun H2 e2 => .inr ⟨b, rfl, q H2 e2⟩
theorem ev_isqrt {n : Nat} (ha : Ev ta σ H (.int (n : Nat))) (hn : n < 2 ^ 64) : Ev (tCB rIsqrt (tCons ta tNil)) σ H (.int ((Float64.isqrt n : Nat) : Int)) := fun H1 e Q q =>
  ha H1 e _ fun H2 e2 => ⟨(n : Nat), rfl, by omega, by omega, by rw [Int.toNat_natCast]; exact q H2 e2⟩
theorem tx_sqt {p : Addr} {xs : List V} (h : SqT K H p xs) : ∀ H1, Ex H H1 → TyX K H1 (.ref p) (.type "tuple") := fun H1 e => by
  rcases ex_t e h with (h | ⟨o, h⟩) | h
  · exact .base (.tup h)
  · exact .fTuple h
  · obtain ⟨o, its, n, h1, h2, _⟩ := h
    exact .kTuple h1 h2
end
end Kp

/-! Polynomials as lists: the number of each power, noughts cut off at the end, products, other powers of x, values. -/
namespace Kp
/-- the number of the m-th power -/
def coef (l : List Int) (m : Nat) : Int := l.getD m 0
theorem coef_lt {l : List Int} {m : Nat} (h : m < l.length) : coef l m = l[m] := by
  unfold coef
  rw [List.getD_eq_getElem?_getD, List.getElem?_eq_getElem h]
  rfl
theorem coef_ge {l : List Int} {m : Nat} (h : l.length ≤ m) : coef l m = 0 := by
  unfold coef
  rw [List.getD_eq_getElem?_getD, List.getElem?_eq_none h]
  rfl
theorem coef_get {l : List Int} {m : Nat} (h : m < l.length) : l[m]? = some (coef l m) := by
  rw [coef_lt h, List.getElem?_eq_getElem h]
theorem coef_of {l : List Int} {m : Nat} {x : Int} (h : l[m]? = some x) : coef l m = x := by
  unfold coef
  rw [List.getD_eq_getElem?_getD, h]
  rfl
theorem coef_nil (m : Nat) : coef [] m = 0 := coef_ge (Nat.zero_le _)
theorem ext_of {a b : List Int} (hl : a.length = b.length) (h : ∀ m, m < a.length → coef a m = coef b m) : a = b := by
  refine List.ext_getElem hl fun i h1 h2 => ?_
  have := h i h1
  rwa [coef_lt h1, coef_lt h2] at this
theorem coef_set {l : List Int} {j m : Nat} {x : Int} (hj : j < l.length) : coef (l.set j x) m = if m = j then x else coef l m := by
  unfold coef
  rw [List.getD_eq_getElem?_getD, List.getD_eq_getElem?_getD, List.getElem?_set]
  by_cases e : j = m
  · subst e
    rw [if_pos rfl, if_pos hj, if_pos rfl]
    rfl
  · rw [if_neg e, if_neg (fun q => e q.symm)]
theorem coef_app {a b : List Int} {m : Nat} : coef (a ++ b) m = if m < a.length then coef a m else coef b (m - a.length) := by
  unfold coef
  rw [List.getD_eq_getElem?_getD, List.getElem?_append]
  split <;> rw [List.getD_eq_getElem?_getD]
theorem coef_rep {n m : Nat} : coef (List.replicate n 0) m = 0 := by
  by_cases h : m < n
  · rw [coef_lt (by rw [List.length_replicate]; exact h), List.getElem_replicate]
  · exact coef_ge (by rw [List.length_replicate]; omega)
theorem coef_take {l : List Int} {n m : Nat} : coef (l.take n) m = if m < n then coef l m else 0 := by
  unfold coef
  rw [List.getD_eq_getElem?_getD, List.getElem?_take]
  split
  · rw [List.getD_eq_getElem?_getD]
  · rfl
def mkL (n : Nat) (h : Nat → Int) : List Int := (List.range n).map h
theorem mkL_len (n : Nat) (h : Nat → Int) : (mkL n h).length = n := by
  unfold mkL
  rw [List.length_map, List.length_range]
theorem coef_mkL {n m : Nat} {h : Nat → Int} : coef (mkL n h) m = if m < n then h m else 0 := by
  split
  · rename_i q
    rw [coef_lt (by rw [mkL_len]; exact q)]
    unfold mkL
    rw [List.getElem_map, List.getElem_range]
  · rename_i q
    exact coef_ge (by rw [mkL_len]; omega)
theorem mkL_of {l : List Int} {n : Nat} {h : Nat → Int} (hl : l.length = n) (e : ∀ m, m < n → coef l m = h m) : l = mkL n h := by
  refine ext_of (by rw [mkL_len, hl]) fun m hm => ?_
  rw [hl] at hm
  rw [e m hm, coef_mkL, if_pos hm]

/-! ### without a nought at the end -/
def Tr (l : List Int) : Prop := l ≠ [] → coef l (l.length - 1) ≠ 0
theorem Tr.nil : Tr [] := fun h => absurd rfl h
theorem tr_uniq {a b : List Int} (ha : Tr a) (hb : Tr b) (h : ∀ m, coef a m = coef b m) : a = b := by
  have key : ∀ {a b : List Int}, Tr b → (∀ m, coef a m = coef b m) → ¬ a.length < b.length := fun {a b} hb h q => by
    refine hb (fun e => by rw [e] at q; exact absurd q (Nat.not_lt_zero _)) ?_
    rw [← h]
    exact coef_ge (by omega)
  have h1 := key hb h
  have h2 := key ha (fun m => (h m).symm)
  exact ext_of (by omega) fun m _ => h m
/-- how many of the first n numbers stay -/
def tlen (l : List Int) : Nat → Nat
  | 0 => 0
  | n + 1 => if coef l n = 0 then tlen l n else n + 1
def trim (l : List Int) : List Int := l.take (tlen l l.length)
theorem tlen_le (l : List Int) : ∀ n, tlen l n ≤ n
  | 0 => Nat.le_refl _
  | n + 1 => by
    unfold tlen
    have := tlen_le l n
    split <;> omega
theorem tlen_zero (l : List Int) : ∀ n m, tlen l n ≤ m → m < n → coef l m = 0
  | 0, m, _, h => absurd h (Nat.not_lt_zero _)
  | n + 1, m, h1, h2 => by
    unfold tlen at h1
    split at h1
    · rename_i q
      by_cases e : m = n
      · rw [e]; exact q
      · exact tlen_zero l n m h1 (by omega)
    · omega
theorem tlen_last (l : List Int) : ∀ n, tlen l n ≠ 0 → coef l (tlen l n - 1) ≠ 0
  | 0, h => absurd rfl h
  | n + 1, h => by
    unfold tlen at h ⊢
    split
    · rename_i q
      rw [if_pos q] at h
      exact tlen_last l n h
    · rename_i q
      rw [Nat.add_sub_cancel]
      exact q
theorem trim_len (l : List Int) : (trim l).length = tlen l l.length := by
  unfold trim
  rw [List.length_take]
  have := tlen_le l l.length
  omega
theorem coef_trim (l : List Int) (m : Nat) : coef (trim l) m = coef l m := by
  unfold trim
  rw [coef_take]
  split
  · rfl
  · rename_i h
    by_cases q : m < l.length
    · exact (tlen_zero l _ m (by omega) q).symm
    · exact (coef_ge (by omega)).symm
theorem tr_trim (l : List Int) : Tr (trim l) := fun h => by
  have e := trim_len l
  have n0 : tlen l l.length ≠ 0 := fun q => h (List.eq_nil_of_length_eq_zero (by omega))
  rw [coef_trim, e]
  exact tlen_last l _ n0
theorem trim_of_tr {l : List Int} (h : Tr l) : trim l = l := tr_uniq (tr_trim l) h (coef_trim l)
theorem trim_ext {a b : List Int} (h : ∀ m, coef a m = coef b m) : trim a = trim b := tr_uniq (tr_trim a) (tr_trim b) fun m => by rw [coef_trim, coef_trim, h]
theorem trim_eq {a b : List Int} (hb : Tr b) (h : ∀ m, coef a m = coef b m) : trim a = b := tr_uniq (tr_trim a) hb fun m => by rw [coef_trim, h]

/-! ### sums -/
def addL (c : Int) (f g : List Int) : List Int := mkL (max f.length g.length) fun m => coef f m + c * coef g m
theorem coef_addL (c : Int) (f g : List Int) (m : Nat) : coef (addL c f g) m = coef f m + c * coef g m := by
  unfold addL
  rw [coef_mkL]
  split
  · rfl
  · rename_i h
    rw [coef_ge (show f.length ≤ m by omega), coef_ge (show g.length ≤ m by omega)]
    simp
def addP (c : Int) (f g : List Int) : List Int := trim (addL c f g)
theorem coef_addP (c : Int) (f g : List Int) (m : Nat) : coef (addP c f g) m = coef f m + c * coef g m := by
  unfold addP
  rw [coef_trim, coef_addL]
theorem coef_neg (g : List Int) (m : Nat) : coef (g.map fun x => -x) m = -coef g m := by
  by_cases h : m < g.length
  · rw [coef_lt (by rw [List.length_map]; exact h), coef_lt h, List.getElem_map]
  · rw [coef_ge (by rw [List.length_map]; omega), coef_ge (by omega)]
    rfl
theorem addP_neg (f g : List Int) : addP 1 f (g.map fun x => -x) = addP (0 - 1) f g := trim_ext fun m => by
  rw [coef_addL, coef_addL, coef_neg]
  omega

/-! ### products -/
/-- the number of the m-th power in the product of the first i numbers of f, and g -/
def cv (f g : List Int) : Nat → Nat → Int
  | 0, _ => 0
  | i + 1, m => cv f g i m + if i ≤ m then coef f i * coef g (m - i) else 0
theorem cv_far (f g : List Int) (m : Nat) : ∀ i, i + g.length ≤ m + 1 → cv f g i m = 0
  | 0, _ => rfl
  | i + 1, h => by
    unfold cv
    rw [cv_far f g m i (by omega), if_pos (by omega), coef_ge (show g.length ≤ m - i by omega)]
    simp
theorem cv_last {f g : List Int} (hf : f ≠ []) (hg : g ≠ []) : cv f g f.length (f.length + g.length - 2) = coef f (f.length - 1) * coef g (g.length - 1) := by
  have l1 := List.length_pos_iff.mpr hf
  have l2 := List.length_pos_iff.mpr hg
  obtain ⟨n, e⟩ : ∃ n, f.length = n + 1 := ⟨f.length - 1, by omega⟩
  rw [e]
  unfold cv
  rw [cv_far f g _ n (by omega), if_pos (by omega), Nat.add_sub_cancel, show n + 1 + g.length - 2 - n = g.length - 1 by omega]
  simp
/-- as the program multiplies, as the law does -/
def mulP (f g : List Int) : List Int := if f = [] ∨ g = [] then [] else mkL (f.length + g.length - 1) (cv f g f.length)
def mulL (f g : List Int) : List Int := trim (mkL (f.length + g.length) (cv f g f.length))
theorem coef_mulP (f g : List Int) (m : Nat) : coef (mulP f g) m = cv f g f.length m := by
  unfold mulP
  split
  · rename_i h
    rw [coef_nil]
    rcases h with h | h
    · rw [h]
      rfl
    · subst h
      symm
      have : ∀ i, cv f [] i m = 0 := fun i => by
        induction i with
        | zero => rfl
        | succ i ih =>
          unfold cv
          rw [ih, coef_nil]
          simp
      exact this _
  · rename_i h
    rw [coef_mkL]
    split
    · rfl
    · rename_i q
      exact (cv_far f g m _ (by omega)).symm
theorem coef_mulL (f g : List Int) (m : Nat) : coef (mulL f g) m = cv f g f.length m := by
  unfold mulL
  rw [coef_trim, coef_mkL]
  split
  · rfl
  · rename_i q
    exact (cv_far f g m _ (by omega)).symm
theorem tr_mulP {f g : List Int} (hf : Tr f) (hg : Tr g) : Tr (mulP f g) := by
  intro h
  unfold mulP at h ⊢
  split
  · rename_i q
    rw [if_pos q] at h
    exact absurd rfl h
  · rename_i q
    have q1 : f ≠ [] := fun e => q (.inl e)
    have q2 : g ≠ [] := fun e => q (.inr e)
    have l1 := List.length_pos_iff.mpr q1
    have l2 := List.length_pos_iff.mpr q2
    rw [mkL_len, coef_mkL, if_pos (by omega), show f.length + g.length - 1 - 1 = f.length + g.length - 2 by omega, cv_last q1 q2]
    exact Int.mul_ne_zero (hf q1) (hg q2)
theorem mul_eq {f g : List Int} (hf : Tr f) (hg : Tr g) : mulL f g = mulP f g := by
  unfold mulL
  refine trim_eq (tr_mulP hf hg) fun m => ?_
  rw [coef_mulP, ← coef_mulL]
  unfold mulL
  rw [coef_trim]

/-! ### at a power -/
def pw (f : List Int) (k m : Nat) : Int := if m % k = 0 then coef f (m / k) else 0
def atP (f : List Int) (k : Nat) : List Int := if f = [] then [] else mkL ((f.length - 1) * k + 1) (pw f k)
def wideL (k : Nat) : List Int → List Int
  | [] => []
  | x :: f => x :: List.replicate (k - 1) 0 ++ wideL k f
theorem pw_far {f : List Int} {k m : Nat} (hk : 1 ≤ k) (h : (f.length - 1) * k < m) : pw f k m = 0 := by
  unfold pw
  split
  · rename_i q
    refine coef_ge (Nat.le_of_not_lt fun r => ?_)
    have e := Nat.div_add_mod m k
    rw [q, Nat.add_zero] at e
    have : k * (m / k) ≤ k * (f.length - 1) := Nat.mul_le_mul_left k (by omega)
    rw [e, Nat.mul_comm] at this
    omega
  · rfl
theorem coef_atP {f : List Int} {k : Nat} (hk : 1 ≤ k) (m : Nat) : coef (atP f k) m = pw f k m := by
  unfold atP
  split
  · rename_i h
    subst h
    rw [coef_nil]
    unfold pw
    rw [coef_nil]
    split <;> rfl
  · rw [coef_mkL]
    split
    · rfl
    · exact (pw_far hk (by omega)).symm
theorem tr_atP {f : List Int} {k : Nat} (hk : 1 ≤ k) (hf : Tr f) : Tr (atP f k) := by
  intro h
  unfold atP at h ⊢
  split
  · rename_i q
    rw [if_pos q] at h
    exact absurd rfl h
  · rename_i q
    rw [mkL_len, Nat.add_sub_cancel, coef_mkL, if_pos (by omega)]
    unfold pw
    rw [Nat.mul_mod_left, if_pos rfl, Nat.mul_div_cancel _ (by omega)]
    exact hf q
theorem coef_wide {k : Nat} (hk : 1 ≤ k) : ∀ (f : List Int) (m : Nat), coef (wideL k f) m = pw f k m
  | [], m => by
    unfold pw
    rw [coef_nil]
    show coef [] m = _
    rw [coef_nil]
    split <;> rfl
  | x :: f, m => by
    have hl : (x :: List.replicate (k - 1) (0 : Int)).length = k := by
      rw [List.length_cons, List.length_replicate]
      omega
    show coef ((x :: List.replicate (k - 1) 0) ++ wideL k f) m = _
    rw [coef_app, hl]
    split
    · rename_i h
      unfold pw
      cases m with
      | zero =>
        rw [Nat.zero_mod, if_pos rfl, Nat.zero_div]
        rfl
      | succ m =>
        rw [Nat.mod_eq_of_lt h, if_neg (by omega)]
        show coef (List.replicate (k - 1) 0) m = 0
        exact coef_rep
    · rename_i h
      rw [coef_wide hk f (m - k)]
      unfold pw
      obtain ⟨d, rfl⟩ : ∃ d, m = k + d := ⟨m - k, by omega⟩
      rw [Nat.add_sub_cancel_left, Nat.add_mod_left, Nat.add_div_left _ (by omega)]
      rfl
theorem wide_eq {f : List Int} {k : Nat} (hk : 1 ≤ k) (hf : Tr f) : trim (wideL k f) = atP f k := trim_eq (tr_atP hk hf) fun m => by rw [coef_wide hk, coef_atP hk]
theorem wide_snoc (k : Nat) : ∀ (f : List Int) (x : Int), wideL k (f ++ [x]) = wideL k f ++ (x :: List.replicate (k - 1) 0)
  | [], x => by
    show x :: List.replicate (k - 1) 0 ++ [] = [] ++ _
    rw [List.append_nil, List.nil_append]
  | y :: f, x => by
    show y :: List.replicate (k - 1) 0 ++ wideL k (f ++ [x]) = (y :: List.replicate (k - 1) 0 ++ wideL k f) ++ _
    rw [wide_snoc k f x, List.append_assoc]
theorem wide_len {k : Nat} (hk : 1 ≤ k) : ∀ f : List Int, (wideL k f).length = f.length * k
  | [] => by
    show 0 = 0 * k
    omega
  | x :: f => by
    show (x :: List.replicate (k - 1) 0 ++ wideL k f).length = (f.length + 1) * k
    rw [List.length_append, List.length_cons, List.length_replicate, wide_len hk f, Nat.add_mul]
    omega

/-! ### values -/
def valP (x : Int) : List Int → Int
  | [] => 0
  | a :: f => a + x * valP x f
theorem val_drop {x : Int} {f : List Int} {i : Nat} {a : Int} (h : f[i]? = some a) : valP x (f.drop i) = a + x * valP x (f.drop (i + 1)) := by
  have hi := (List.getElem?_eq_some_iff.mp h).1
  rw [List.drop_eq_getElem_cons hi]
  have e : f[i] = a := (List.getElem?_eq_some_iff.mp h).2
  rw [e]
  rfl
end Kp

/-! Whole numbers: the whole root, primes, how a number is parted, its divisors. -/
namespace Kp
theorem sq_nn (a : Int) : 0 ≤ a * a := by
  rcases Int.le_total 0 a with h | h
  · exact Int.mul_nonneg h h
  · have := Int.mul_nonneg (show 0 ≤ -a by omega) (show 0 ≤ -a by omega)
    rwa [Int.neg_mul_neg] at this
theorem sq_sub (a b : Int) : (a - b) * (a - b) = a * a - 2 * (a * b) + b * b := by
  rw [Int.sub_mul, Int.mul_sub, Int.mul_sub, Int.mul_comm b a]
  omega
theorem sq_add (a b : Int) : (a + b) * (a + b) = a * a + 2 * (a * b) + b * b := by
  rw [Int.add_mul, Int.mul_add, Int.mul_add, Int.mul_comm b a]
  omega
theorem sq_lt {a b : Int} (ha : 0 ≤ a) (hb : 0 ≤ b) (h : a * a < b * b) : a < b := by
  refine Int.lt_of_not_ge fun q => ?_
  have := Int.mul_le_mul q q hb ha
  omega
/-- the whole root by one step from a whole root of a part -/
theorem newton {n x e : Int} (hx : 0 < x) (he : 1 ≤ e) (h1 : n < x * x) (h2 : (x - e) * (x - e) ≤ n) (h0 : e ≤ x) (h3 : (e * e) * (e * e) ≤ 2 * n) (hn : 0 < n) :
    n < ((x + n / x) / 2 + 1) * ((x + n / x) / 2 + 1) ∧ 0 < (x + n / x) / 2 ∧ ((x + n / x) / 2 - 1) * ((x + n / x) / 2 - 1) ≤ n := by
  have d1 := Int.mul_ediv_add_emod n x
  have d2 := Int.emod_nonneg n (show x ≠ 0 by omega)
  have d3 := Int.emod_lt_of_pos n hx
  have dq : 0 ≤ n / x := Int.ediv_nonneg (by omega) (by omega)
  generalize hq : n / x = q at *
  generalize hy : (x + q) / 2 = y at *
  have y1 : 2 * y ≤ x + q := by omega
  have y2 : x + q ≤ 2 * y + 1 := by omega
  have y0 : 0 ≤ y := by omega
  -- 2 y x <= x x + n and 2 (y + 1) x >= x x + n + 1
  have a1 : 2 * (y * x) ≤ x * x + x * q := by
    have := Int.mul_le_mul_of_nonneg_right y1 (show 0 ≤ x by omega)
    rw [Int.add_mul, Int.mul_assoc, Int.mul_comm q x] at this
    exact this
  have a2 : x * x + x * q + x ≤ 2 * ((y + 1) * x) := by
    have := Int.mul_le_mul_of_nonneg_right (show x + q + 1 ≤ 2 * (y + 1) by omega) (show 0 ≤ x by omega)
    rw [Int.add_mul, Int.add_mul, Int.mul_assoc, Int.mul_comm q x, Int.one_mul] at this
    exact this
  have up : n < (y + 1) * (y + 1) := by
    have s := sq_nn (y + 1 - x)
    rw [sq_sub] at s
    omega
  have qx : q < x := by
    refine Int.lt_of_not_ge fun r => ?_
    have := Int.mul_le_mul_of_nonneg_left r (show 0 ≤ x by omega)
    omega
  have yx : y < x := by omega
  refine ⟨up, ?_, ?_⟩
  · refine Int.lt_of_not_ge fun r => ?_
    have : y = 0 := by omega
    subst this
    rw [Int.zero_add, Int.one_mul] at up
    omega
  · refine Int.le_of_not_gt fun r => ?_
    -- z = y - 1 > root: x - z < e, its square beyond 2 x, so 2 x < e e, but e e e e <= 2 n < 4 x x
    have z0 : 0 ≤ y - 1 := by
      refine Int.le_of_not_gt fun r2 => ?_
      have : y = 0 := by omega
      subst this
      rw [Int.zero_add, Int.one_mul] at up
      omega
    have b1 : x - e < y - 1 := sq_lt (by omega) z0 (by omega)
    have b2 : x * x - 2 * (x * (y - 1)) + (y - 1) * (y - 1) > 2 * x := by
      have : x * (y - 1) = y * x - x := by rw [Int.mul_sub, Int.mul_one, Int.mul_comm]
      omega
    rw [← sq_sub] at b2
    have b3 : (x - (y - 1)) * (x - (y - 1)) ≤ e * e := Int.mul_le_mul (by omega) (by omega) (by omega) (by omega)
    have b4 : 2 * x < e * e := by omega
    have b5 : (2 * x) * (2 * x) < (e * e) * (e * e) := Int.mul_lt_mul b4 (Int.le_of_lt b4) (by omega) (by omega)
    have b6 : (2 * x) * (2 * x) = 4 * (x * x) := by
      rw [Int.mul_assoc, Int.mul_left_comm x 2 x]
      omega
    omega
open PySem.Float64 in
theorem root_ok : ∀ (L n : Nat), n.log2 ≤ L → rootByHalves L n * rootByHalves L n ≤ n ∧ n < (rootByHalves L n + 1) * (rootByHalves L n + 1) := by
  have small : ∀ n, n < 8 → rootBelow8 n * rootBelow8 n ≤ n ∧ n < (rootBelow8 n + 1) * (rootBelow8 n + 1) := by decide
  intro L
  induction L with
  | zero =>
    intro n h
    have : n < 2 := by
      by_cases h0 : n = 0
      · omega
      · exact (Nat.log2_lt h0).mp (by omega : n.log2 < 1)
    exact small n (by omega)
  | succ L ih =>
    intro n h
    unfold rootByHalves
    by_cases h8 : n < 8
    · rw [if_pos h8]
      exact small n h8
    · rw [if_neg h8]
      have l3 : 3 ≤ n.log2 := (Nat.le_log2 (by omega)).mpr (by omega)
      simp only
      generalize hk : (n.log2 + 1) / 4 = k
      have k1 : 1 ≤ k := by omega
      have p4 : 0 < 4 ^ k := Nat.pow_pos (by decide)
      have e4 : (4 : Nat) ^ k = 2 ^ k * 2 ^ k := by
        rw [← Nat.mul_pow]
      have hlog : (n / 4 ^ k).log2 ≤ L := by
        by_cases h0 : n / 4 ^ k = 0
        · rw [h0]
          exact Nat.zero_le _
        · have : (n / 4 ^ k).log2 < L + 1 := (Nat.log2_lt h0).mpr (by
            have h1 : n < 2 ^ (L + 2) := (Nat.log2_lt (by omega)).mp (by omega)
            refine Nat.div_lt_of_lt_mul ?_
            have h2 : (4 : Nat) ^ 1 ≤ 4 ^ k := Nat.pow_le_pow_right (by decide) k1
            have h3 : 2 * 2 ^ (L + 1) ≤ 4 ^ k * 2 ^ (L + 1) := Nat.mul_le_mul_right _ (by omega)
            rw [show L + 2 = (L + 1) + 1 from rfl, Nat.pow_succ] at h1
            omega)
          omega
      obtain ⟨s1, s2⟩ := ih (n / 4 ^ k) hlog
      generalize rootByHalves L (n / 4 ^ k) = s at *
      have two : 0 < 2 ^ k := Nat.pow_pos (by decide)
      -- e ^ 4 <= 2 n
      have hee : (2 ^ k * 2 ^ k) * (2 ^ k * 2 ^ k) ≤ 2 * n := by
        rw [← Nat.pow_add, ← Nat.pow_add]
        have h1 : 2 ^ n.log2 ≤ n := Nat.log2_self_le (by omega)
        have h2 : 2 ^ (k + k + (k + k)) ≤ 2 ^ (n.log2 + 1) := Nat.pow_le_pow_right (by decide) (by omega)
        rw [Nat.pow_succ] at h2
        omega
      have d1 := Nat.div_add_mod n (4 ^ k)
      have d2 := Nat.mod_lt n p4
      have hs1 : (s * 2 ^ k) * (s * 2 ^ k) ≤ n := by
        have : s * 2 ^ k * (s * 2 ^ k) = (s * s) * 4 ^ k := by
          rw [e4, Nat.mul_mul_mul_comm]
        rw [this]
        have h1 := Nat.mul_le_mul_right (4 ^ k) s1
        rw [Nat.mul_comm (n / 4 ^ k)] at h1
        omega
      have hs2 : n < ((s + 1) * 2 ^ k) * ((s + 1) * 2 ^ k) := by
        have : (s + 1) * 2 ^ k * ((s + 1) * 2 ^ k) = ((s + 1) * (s + 1)) * 4 ^ k := by
          rw [e4, Nat.mul_mul_mul_comm]
        rw [this]
        have h1 := Nat.mul_le_mul_right (4 ^ k) (show n / 4 ^ k + 1 ≤ (s + 1) * (s + 1) by omega)
        rw [Nat.add_mul, Nat.one_mul, Nat.mul_comm (n / 4 ^ k)] at h1
        omega
      generalize hx : (s + 1) * 2 ^ k = x at *
      generalize hE : 2 ^ k = e at *
      have hxe : x = s * e + e := by rw [← hx, Nat.add_mul, Nat.one_mul]
      have N := newton (n := (n : Int)) (x := (x : Int)) (e := (e : Int)) (by omega) (by omega) (by exact_mod_cast hs2) (by
        have : (x : Int) - (e : Int) = ((s * e : Nat) : Int) := by omega
        rw [this]
        exact_mod_cast hs1) (by omega) (by exact_mod_cast hee) (by omega)
      have ec : (((x + n / x) / 2 : Nat) : Int) = ((x : Int) + (n : Int) / (x : Int)) / 2 := by
        rw [Int.natCast_ediv, Int.natCast_add, Int.natCast_ediv]
        rfl
      rw [← ec] at N
      generalize (x + n / x) / 2 = y at *
      obtain ⟨N1, N2, N3⟩ := N
      have N1' : n < (y + 1) * (y + 1) := by exact_mod_cast N1
      have y1 : 1 ≤ y := by omega
      have N3' : (y - 1) * (y - 1) ≤ n := by
        have : ((y - 1 : Nat) : Int) = (y : Int) - 1 := by omega
        rw [← this] at N3
        exact_mod_cast N3
      split
      · rename_i hy
        refine ⟨N3', ?_⟩
        rw [Nat.sub_add_cancel y1]
        exact hy
      · rename_i hy
        exact ⟨Nat.le_of_not_gt hy, N1'⟩
theorem isqrt_ok (n : Nat) : PySem.Float64.isqrt n * PySem.Float64.isqrt n ≤ n ∧ n < (PySem.Float64.isqrt n + 1) * (PySem.Float64.isqrt n + 1) := root_ok n.log2 n (Nat.le_refl _)
end Kp

namespace Own
open PySem PySem.Spec PyProof.Rows L2 Evl Kp
def topS (i : Nat) : Stmt := PySem.Challenge.pw_rootwheel_k01_divisors_and_parted.main.body.getD i (.Pass ⟨0, 0, 0, 0⟩)
/-! ### words of ours for the walk over readings -/
local macro_rules | `(tactic| one_place) => `(tactic| (fail_if_success (with_reducible first | refine probe ?_ | refine probeT ?_ | refine probeA ?_)); first
  | exact ev_c
  | exact ev_var rfl
  | exact ea_nil
  | (apply ea_cons <;> one_place)
  | (apply et_test; one_place)
  | (apply et_B; one_place)
  | (apply et_not; one_place)
  | (apply ev_add <;> one_place)
  | (apply ev_sub <;> one_place)
  | (apply ev_mul <;> first | one_place | (exact mulW (by omega) (by omega)))
  | (apply ev_div <;> first | one_place | (exact divW (by omega) (by omega)))
  | (apply ev_mod <;> first | one_place | omega)
  | (refine ev_pow (i := 10) (j := 6) (c := 1000000) ?_ ?_ ⟨by decide, by decide +kernel⟩ (by rfl) <;> one_place)
  | (refine ev_pow (i := 10) (j := 9) (c := 1000000000) ?_ ?_ ⟨by decide, by decide +kernel⟩ (by rfl) <;> one_place)
  | (refine ev_pow (i := 10) (j := 12) (c := 1000000000000) ?_ ?_ ⟨by decide, by decide +kernel⟩ (by rfl) <;> one_place)
  | (refine ev_pow (i := 10) (j := 18) (c := 1000000000000000000) ?_ ?_ ⟨by decide, by decide +kernel⟩ (by rfl) <;> one_place)
  | (apply ev_lt <;> one_place)
  | (apply ev_le <;> one_place)
  | (apply ev_gt <;> one_place)
  | (apply ev_ge <;> one_place)
  | (apply ev_eqI <;> one_place)
  | (apply ev_neI <;> one_place)
  | (apply ev_neg; one_place)
  | assumption)
/- _law_mix: slots 0 _law_cell, 1 _law_k, 2 _law_turn, 3 _law_number_here; calls  -/
abbrev s__law_mix : Stmt := topS 6
theorem sc__law_mix : FnScope ["_law_cell", "_law_k", "_law_turn", "_law_number_here"] ["_law_cell", "_law_k"] (defScope s__law_mix) := ⟨rfl, rfl, rfl, by decide +kernel, rfl, by decide +kernel, by decide +kernel⟩

/-- the law's own mixing of a cell -/
def divs : Nat → Int → Int
  | 0, c => c
  | n + 1, c => divs n c / 1000000
def mix0 (c k : Int) : Int := (c % 1000003 + k * k * 7919 + k) * 48271 % 2147483629
def mix1 (c k : Int) : Int := mix0 c k * mix0 c k % 2147483587
def mix (c k : Int) : Int := if 1000000000000000000 ≤ c then divs k.toNat (c % (1000000000000000000000000000000000000000000000000000000000000 : Int) ^ 20) % 1000000 else mix1 c k * (mix1 c k + 2) % 2147483579 / 7
theorem mix_nn (c k : Int) : 0 ≤ mix c k := by
  unfold mix
  split
  · omega
  · omega
theorem mix_le (c k : Int) : mix c k ≤ 306783369 := by
  unfold mix
  split
  · omega
  · omega
def spMix : Sp := fun vs H Q _ => ∃ c k : Int, vs = [.int c, .int k] ∧ 0 ≤ k ∧ k ≤ 100 ∧ RetV (.int (mix c k)) H Q
section
variable {P : Program} {w : World} {K : PySem.W.Frag} {mg : Str → Option Value} {base : Heap}
theorem cal_mix (nb : Nb mg) (d : Dfn K mg "_law_mix" ["_law_cell", "_law_k"] s__law_mix) : Cal P w K mg base CX0 "_law_mix" 1 ["_law_cell", "_law_k"] spMix := by
  refine d.cal sc__law_mix (fun vs H Q E h => ?_) (fun f cdv A outer s H vs Q E hr h => ?_)
  · obtain ⟨c, k, rfl, _⟩ := h
    rfl
  · obtain ⟨c, k, rfl, h0, h1, q⟩ := h
    refine ⟨_, (pss_cons (ps_if (pt_cmpR op_ge (pv 0) (pe_op op_powW pe_int pe_int) (nomark _)) (pss_cons (ps_set (i := 0) sc__law_mix.nd rfl (.inl rfl) (pe_op op_mod (pv 0) (pe_op op_powW (pe_op op_powW pe_int pe_int) pe_int)))
      (pss_cons (ps_for PassesOwn.never rfl (pi_range1 (by rfl) nb.range (pa_cons (pv 1) pa_nil)) (pg_name (i := 2) sc__law_mix.nd rfl (.inl rfl)) (pss_one (ps_set (i := 0) sc__law_mix.nd rfl (.inl rfl) (pe_op op_fdivW (pv 0) (pe_op op_powW pe_int pe_int)))))
      (pss_one (ps_ret (pe_op op_mod (pv 0) (pe_op op_powW pe_int pe_int)))))) pss_nil)
      (pss_cons (ps_set (i := 3) sc__law_mix.nd rfl (.inl rfl) (pe_op op_mod (pe_op op_mulW (pe_op op_add (pe_op op_add (pe_op op_mod (pv 0) pe_int) (pe_op op_mulW (pe_op op_mulW (pv 1) (pv 1)) pe_int)) (pv 1)) pe_int) pe_int))
      (pss_cons (ps_set (i := 3) sc__law_mix.nd rfl (.inl rfl) (pe_op op_mod (pe_op op_mulW (pv 3) (pv 3)) pe_int))
      (pss_one (ps_ret (pe_op op_fdivW (pe_op op_mod (pe_op op_mulW (pv 3) (pe_op op_add (pv 3) pe_int)) pe_int) pe_int)))))), ?_⟩
    refine q_when (b := decide (1000000000000000000 ≤ c)) (by one_place) (fun hb H1 e1 => ?_) (fun hb H1 e1 => ?_)
    · refine q_asg (v := .int (c % (1000000000000000000000000000000000000000000000000000000000000 : Int) ^ 20)) (ev_mod (by one_place) (ev_pow (i := 1000000000000000000000000000000000000000000000000000000000000) (ev_pow (i := 10) (by one_place) (by one_place) ⟨by decide, by decide +kernel⟩ (by rfl)) (by one_place) ⟨by decide, by decide +kernel⟩ rfl) (Int.pow_pos (by decide))) fun H2 e2 => ?_
      refine q_forR1 (n := k) (by one_place) (by omega) (fun i σ' H' => ∃ x, σ' = [some (.int (divs i (c % (1000000000000000000000000000000000000000000000000000000000000 : Int) ^ 20))), some (.int k), x, none] ∧ Ex H H') (fun H3 e3 => ⟨none, rfl, (e1.trans e2).trans e3⟩) (fun i σ' H' hi hp => ?_) (fun σ' H' hp => ?_)
      · obtain ⟨x, rfl, e4⟩ := hp
        refine s_asg (v := .int (divs (i + 1) (c % (1000000000000000000000000000000000000000000000000000000000000 : Int) ^ 20))) (ev_is (by one_place) rfl) fun H5 e5 => ⟨_, rfl, e4.trans e5⟩
      · obtain ⟨x, rfl, e4⟩ := hp
        refine s_ret (v := .int (mix c k)) (ev_is (by one_place) ?_) fun H5 e5 => q _ (e4.trans e5)
        unfold mix
        rw [if_pos (of_decide_eq_true hb)]
    · have b0 : 0 ≤ mix0 c k := by
        unfold mix0
        omega
      have b1 : mix0 c k < 2147483629 := by
        unfold mix0
        omega
      have b2 : 0 ≤ mix1 c k := by
        unfold mix1
        omega
      have b3 : mix1 c k < 2147483587 := by
        unfold mix1
        omega
      have b4 : 0 ≤ k * k := Int.mul_nonneg h0 h0
      have b5 : k * k ≤ 100 * 100 := Int.mul_le_mul h1 h1 h0 (by decide)
      refine q_asg (v := .int (mix0 c k)) (by one_place) fun H2 e2 => ?_
      refine q_asg (v := .int (mix1 c k)) (by one_place) fun H3 e3 => ?_
      refine s_ret (v := .int (mix c k)) (ev_is (by one_place) ?_) fun H5 e5 => q _ (((e1.trans e2).trans e3).trans e5)
      unfold mix
      rw [if_neg (of_decide_eq_false hb)]
end

/- _law_whole: slots 0 _law_got, 1 _law_one; calls  -/
abbrev s__law_whole : Stmt := topS 9
theorem sc__law_whole : FnScope ["_law_got", "_law_one"] ["_law_got"] (defScope s__law_whole) := ⟨rfl, rfl, rfl, by decide +kernel, rfl, by decide +kernel, by decide +kernel⟩

def spWhole : Sp := fun vs H Q _ => ∃ (a : Addr) (ns : List Int), vs = [.ref a] ∧ H a = some (.lst (ns.map V.int)) ∧ RetV (.bl true) H Q
section
variable {P : Program} {w : World} {K : PySem.W.Frag} {mg : Str → Option Value} {base : Heap}
theorem cal_whole (nb : Nb mg) (d : Dfn K mg "_law_whole" ["_law_got"] s__law_whole) : Cal P w K mg base CX0 "_law_whole" 1 ["_law_got"] spWhole := by
  refine d.cal sc__law_whole (fun vs H Q E h => ?_) (fun f cdv A outer s H vs Q E hr h => ?_)
  · obtain ⟨a, ns, rfl, _⟩ := h
    rfl
  · obtain ⟨a, ns, rfl, ha, q⟩ := h
    refine ⟨_, (pss_cons (ps_if (pt_not (pt_val (pe_callB call_isi (by rfl) nb.isinstance (by decide +kernel) (pa_cons (pv 0) (pa_cons (pe_bltn (v := .ty "list") (by rfl) nb.list (by decide +kernel) rfl) pa_nil))))) (pss_one (ps_ret pe_bl)) pss_nil)
      (pss_cons (ps_for PassesOwn.never rfl (pi_list (pv 0)) (pg_name (i := 1) sc__law_whole.nd rfl (.inl rfl)) (pss_one (ps_if (PW.pt (pw_or (pt_not (pt_val (pe_callB call_isi (by rfl) nb.isinstance (by decide +kernel) (pa_cons (pv 1) (pa_cons (pe_bltn (v := .ty "int") (by rfl) nb.int (by decide +kernel) rfl) pa_nil))))) (pw_or1 (pt_val (pe_callB call_isi (by rfl) nb.isinstance (by decide +kernel) (pa_cons (pv 1) (pa_cons (pe_bltn (v := .ty "bool") (by rfl) nb.bool (by decide +kernel) rfl) pa_nil))))))) (pss_one (ps_ret pe_bl)) pss_nil)))
      (pss_one (ps_ret pe_bl)))), ?_⟩
    refine q_when (b := false) (et_is (et_not (et_B (ev_isi (b := true) (by one_place) (tx_lst ha) (by decide +kernel)))) rfl) (fun hb => nomatch hb) (fun _ H1 e1 => ?_)
    refine q_forLn (xs := ns.map V.int) (by one_place) (SqL.of (e1 _ _ ha)) (fun i σ' H' => ∃ x, σ' = [some (.ref a), x] ∧ Ex H H') (fun H2 e2 => ⟨none, rfl, e1.trans e2⟩) (fun i σ' H' _ hp => ?_) (fun i x σ' H' hx hp => ?_) (fun σ' H' hp => ?_)
    · obtain ⟨y, rfl, e3⟩ := hp
      exact SqL.of (e3 _ _ ha)
    · obtain ⟨y, rfl, e3⟩ := hp
      obtain ⟨z, rfl⟩ := int_of_mem (List.mem_of_getElem? hx)
      exact s_when (b := false) (et_is (et_or (et_not (et_B (ev_isi (b := true) (by one_place) tx_int (by decide +kernel)))) fun _ => et_B (ev_isi (b := false) (by one_place) tx_int (by decide +kernel))) rfl) (fun hb => nomatch hb) (fun _ H4 e4 => ⟨_, rfl, e3.trans e4⟩)
    · obtain ⟨y, rfl, e3⟩ := hp
      exact s_ret (v := .bl true) (by one_place) fun H4 e4 => q _ (e3.trans e4)
end

/-! ### how often p divides, and what is left -/
def strip (p : Int) : Nat → Int → Int → Int × Int
  | 0, l, t => (l, t)
  | m + 1, l, t => if l % p = 0 then strip p m (l / p) (t + 1) else (l, t)
theorem strip_stop {p l t : Int} {m : Nat} (h : ¬ l % p = 0) : strip p m l t = (l, t) := by
  cases m with
  | zero => rfl
  | succ m =>
    unfold strip
    rw [if_neg h]
theorem strip_go {p l t : Int} {m : Nat} (h : l % p = 0) : strip p (m + 1) l t = strip p m (l / p) (t + 1) := by
  rw [strip, if_pos h]
theorem half_lt {p l : Int} {m : Nat} (hp : 2 ≤ p) (h0 : 0 < l) (h : l < 2 ^ (m + 1)) (hd : l % p = 0) : 0 < l / p ∧ l / p < 2 ^ m ∧ l / p ≤ l := by
  have e : p * (l / p) + l % p = l := Int.mul_ediv_add_emod l p
  have e2 : p * (l / p) = l := by omega
  have p0 : 0 < l / p := by
    refine Int.lt_of_not_ge fun q => ?_
    have := Int.mul_nonneg (show 0 ≤ p by omega) (show 0 ≤ -(l / p) by omega)
    rw [Int.mul_neg] at this
    omega
  have e3 : 2 * (l / p) ≤ p * (l / p) := Int.mul_le_mul_of_nonneg_right hp (Int.le_of_lt p0)
  rw [Int.pow_succ] at h
  generalize (2 : Int) ^ m = M at *
  omega

/- parted: slots 0 n, 1 rows, 2 left, 3 p, 4 times; calls  -/
abbrev s_parted : Stmt := topS 3
theorem sc_parted : FnScope ["n", "rows", "left", "p", "times"] ["n"] (defScope s_parted) := ⟨rfl, rfl, rfl, by decide +kernel, rfl, by decide +kernel, by decide +kernel⟩

def pLoop : Nat → Int → Int → List (Int × Int) → Int × List (Int × Int)
  | 0, _, l, rows => (l, rows)
  | m + 1, p, l, rows => if p * p ≤ l then pLoop m (p + 1) (strip p 64 l 0).1 (if 0 < (strip p 64 l 0).2 then rows ++ [(p, (strip p 64 l 0).2)] else rows) else (l, rows)
/-- the rows of n's primes, as the program makes them -/
def partedF (n : Int) : List (Int × Int) := if 1 < (pLoop n.toNat 2 n []).1 then (pLoop n.toNat 2 n []).2 ++ [((pLoop n.toNat 2 n []).1, 1)] else (pLoop n.toNat 2 n []).2
theorem pLoop_stop {p l : Int} {rows : List (Int × Int)} {m : Nat} (h : ¬ p * p ≤ l) : pLoop m p l rows = (l, rows) := by
  cases m with
  | zero => rfl
  | succ m =>
    unfold pLoop
    rw [if_neg h]
theorem pLoop_go {p l : Int} {rows : List (Int × Int)} {m : Nat} (h : p * p ≤ l) : pLoop (m + 1) p l rows = pLoop m (p + 1) (strip p 64 l 0).1 (if 0 < (strip p 64 l 0).2 then rows ++ [(p, (strip p 64 l 0).2)] else rows) := by
  rw [pLoop, if_pos h]
theorem sq_le {p l : Int} (h : p * p ≤ l) (hl : l ≤ 1000000000) : p ≤ 31622 := by
  refine Int.le_of_not_gt fun q => ?_
  have := Int.mul_le_mul (show 31623 ≤ p by omega) (show 31623 ≤ p by omega) (by decide) (by omega)
  omega
def spParted (K : PySem.W.Frag) : Sp := fun vs H Q _ => ∃ n : Int, vs = [.int n] ∧ 1 ≤ n ∧ n ≤ 1000000000 ∧ RetP K (partedF n) H Q
section
variable {P : Program} {w : World} {K : PySem.W.Frag} {mg : Str → Option Value} {base : Heap}
theorem cal_parted (nb : Nb mg) (d : Dfn K mg "parted" ["n"] s_parted) : Cal P w K mg base CX0 "parted" 1 ["n"] (spParted K) := by
  refine d.cal sc_parted (fun vs H Q E h => ?_) (fun f cdv A outer s H vs Q E hr h => ?_)
  · obtain ⟨a, rfl, _⟩ := h
    rfl
  · obtain ⟨n, rfl, n1, n2, q⟩ := h
    refine ⟨_, (pss_cons (ps_set (i := 1) sc_parted.nd rfl (.inl rfl) (pe_lst pa_nil))
      (pss_cons (ps_set (i := 2) sc_parted.nd rfl (.inl rfl) (pv 0))
      (pss_cons (ps_set (i := 3) sc_parted.nd rfl (.inl rfl) pe_int)
      (pss_cons (ps_while PassesOwn.never (pt_cmpR op_le (pe_op op_mulW (pv 3) (pv 3)) (pv 2) (nomark _)) (pss_cons (ps_set (i := 4) sc_parted.nd rfl (.inl rfl) pe_int)
      (pss_cons (ps_while PassesOwn.never (pt_cmpR op_eq (pe_op op_mod (pv 2) (pv 3)) pe_int (nomark _)) (pss_cons (ps_aug (i := 2) sc_parted.nd rfl (.inl rfl) (pv 3) (pip_of iop_fdivW))
      (pss_one (ps_aug (i := 4) sc_parted.nd rfl (.inl rfl) pe_int ip_add))))
      (pss_cons (ps_if (pt_cmpR op_gt (pv 4) pe_int (nomark _)) (pss_one (ps_expr (pe_bm PySem.F.plainAttrs_list PySem.F.slot_list_append PySem.F.type_list_append mt_append (pv 1) (pa_cons (pe_tup (pa_cons (pv 3) (pa_cons (pv 4) pa_nil))) pa_nil)))) pss_nil)
      (pss_one (ps_aug (i := 3) sc_parted.nd rfl (.inl rfl) pe_int ip_add))))))
      (pss_cons (ps_if (pt_cmpR op_gt (pv 2) pe_int (nomark _)) (pss_one (ps_expr (pe_bm PySem.F.plainAttrs_list PySem.F.slot_list_append PySem.F.type_list_append mt_append (pv 1) (pa_cons (pe_tup (pa_cons (pv 2) (pa_cons pe_int pa_nil))) pa_nil)))) pss_nil)
      (pss_one (ps_ret (pv 1)))))))), ?_⟩
    refine q_asgL (xs := []) (el_lst ea_nil (by decide)) fun a H1 ha e1 h1 => ?_
    refine q_asg (v := .int n) (by one_place) fun H2 e2 => ?_
    refine q_asg (v := .int 2) (by one_place) fun H3 e3 => ?_
    refine q_while (fun m σ' H' => ∃ (p l : Int) (rows : List (Int × Int)) (xs : List V) (x : Option V), σ' = [some (.int n), some (.ref a), some (.int l), some (.int p), x] ∧ 2 ≤ p ∧ p ≤ 40000 ∧ 0 < l ∧ l ≤ n ∧ l < p + m ∧
      pLoop m p l rows = pLoop n.toNat 2 n [] ∧ Ex H H' ∧ H' a = some (.lst xs) ∧ Prs K H' xs rows ∧ (rows.length : Int) + 2 ≤ p) n.toNat
      ⟨2, n, [], [], none, rfl, by omega, by omega, by omega, by omega, by omega, rfl, (e1.trans e2).trans e3, e3 _ _ (e2 _ _ h1), .nil, by decide⟩ fun m σ' H' hW => ?_
    obtain ⟨p, l, rows, xs, x, rfl, p1, p2, l1, l2, lm, eL, e4, h4, pr, hlen⟩ := hW
    refine ⟨decide (p * p ≤ l), by one_place, fun hb H5 e5 => ?_, fun hb H5 e5 => ?_⟩
    · have hpp := of_decide_eq_true hb
      have hp3 := sq_le hpp (by omega)
      cases m with
      | zero =>
        have : 2 * p ≤ p * p := Int.mul_le_mul_of_nonneg_right p1 (by omega)
        omega
      | succ m =>
        rw [pLoop_go hpp] at eL
        refine ⟨_, fun σ2 H2 hN => ⟨m, Nat.lt_succ_self m, hN⟩, ?_⟩
        refine q_asg (v := .int 0) (by one_place) fun H6 e6 => ?_
        refine q_while (fun k σ' H' => ∃ u t : Int, σ' = [some (.int n), some (.ref a), some (.int u), some (.int p), some (.int t)] ∧ 0 < u ∧ u ≤ l ∧ u < 2 ^ k ∧ strip p k u t = strip p 64 l 0 ∧ Ex H6 H') 64
          ⟨l, 0, rfl, l1, Int.le_refl _, by omega, rfl, Ex.refl _⟩ fun k σ' H' hW => ?_
        obtain ⟨u, t, rfl, u1, u2, uk, eS, e7⟩ := hW
        refine ⟨decide (u % p = 0), by one_place, fun hb H8 e8 => ?_, fun hb H8 e8 => ?_⟩
        · have hd := of_decide_eq_true hb
          cases k with
          | zero =>
            rw [Int.pow_zero] at uk
            omega
          | succ k =>
            obtain ⟨v1, v2, v3⟩ := half_lt p1 u1 uk hd
            rw [strip_go hd] at eS
            refine ⟨_, fun σ2 H2 hN => ⟨k, Nat.lt_succ_self k, hN⟩, ?_⟩
            refine ⟨.int u, rfl, .int p, rfl, u, p, rfl, rfl, divW (by omega) (by omega), ?_⟩
            refine s_aug (a := t) (b := 1) rfl (by one_place) fun H10 e10 => ?_
            exact ⟨u / p, t + 1, rfl, v1, by omega, v2, eS, (e7.trans e8).trans e10⟩
        · have hd := of_decide_eq_false hb
          rw [strip_stop hd] at eS
          rw [← eS] at eL
          have h8 := e8 _ _ (e7 _ _ (e6 _ _ (e5 _ _ h4)))
          have e68 := e6.trans (e7.trans e8)
          have pr8 := pr.mono (e5.trans e68)
          refine q_when (b := decide (0 < t)) (by one_place) (fun hb H9 e9 => ?_) (fun hb H9 e9 => ?_)
          · have ht := of_decide_eq_true hb
            rw [if_pos ht] at eL
            refine s_appU (ys := [.int p, .int t]) (e9 _ _ h8) (by one_place) (eu_tup (by one_place) (by show 2 ≤ 100000; decide)) (by rw [Paired.length pr]; omega) fun tp H10 htp e10 h10 => ?_
            have h10a := e10 _ _ (e9 _ _ h8)
            refine s_aug (a := p) (b := 1) rfl (by one_place) fun H11 e11 => ?_
            refine ⟨p + 1, u, rows ++ [(p, t)], xs ++ [.ref tp], _, rfl, by omega, by omega, u1, by omega, by omega, eL, ?_, e11 _ _ upd_same, ?_, ?_⟩
            · exact (Ex.mut (((e4.trans e5).trans e68).trans (e9.trans e10)) ha).trans e11
            · exact (((pr8.mono (e9.trans e10)).upd h10a).snoc (sqt_upd h10a (SqT.of h10))).mono e11
            · rw [List.length_append, List.length_singleton]
              omega
          · have ht := of_decide_eq_false hb
            rw [if_neg ht] at eL
            refine s_aug (a := p) (b := 1) rfl (by one_place) fun H11 e11 => ?_
            exact ⟨p + 1, u, rows, xs, _, rfl, by omega, by omega, u1, by omega, by omega, eL, ((e4.trans e5).trans e68).trans (e9.trans e11), e11 _ _ (e9 _ _ h8), pr8.mono (e9.trans e11), by omega⟩
    · have hpp := of_decide_eq_false hb
      rw [pLoop_stop hpp] at eL
      refine q_when (b := decide (1 < l)) (by one_place) (fun hb H6 e6 => ?_) (fun hb H6 e6 => ?_)
      · have hl := of_decide_eq_true hb
        refine s_appU (ys := [.int l, .int 1]) (e6 _ _ (e5 _ _ h4)) (by one_place) (eu_tup (by one_place) (by show 2 ≤ 100000; decide)) (by rw [Paired.length pr]; omega) fun tp H10 htp e10 h10 => ?_
        have h10a := e10 _ _ (e6 _ _ (e5 _ _ h4))
        show tRet (tVar 1) _ _ _
        refine s_ret (v := .ref a) (by one_place) fun H11 e11 => ?_
        refine q a (xs ++ [.ref tp]) H11 ha ((Ex.mut (((e4.trans e5).trans e6).trans e10) ha).trans e11) (e11 _ _ upd_same) ?_
        unfold partedF
        rw [← eL, if_pos hl]
        exact (((pr.mono ((e5.trans e6).trans e10)).upd h10a).snoc (sqt_upd h10a (SqT.of h10))).mono e11
      · have hl := of_decide_eq_false hb
        refine s_ret (v := .ref a) (by one_place) fun H11 e11 => ?_
        refine q a xs H11 ha (((e4.trans e5).trans e6).trans e11) (e11 _ _ (e6 _ _ (e5 _ _ h4))) ?_
        unfold partedF
        rw [← eL, if_neg hl]
        exact pr.mono ((e5.trans e6).trans e11)
end

/-! ### how the rows come out: primes, rising, their product -/
def Prm (p : Nat) : Prop := 2 ≤ p ∧ ∀ d, d ∣ p → d = 1 ∨ d = p
def stripN (p : Nat) : Nat → Nat → Nat × Nat
  | 0, l => (l, 0)
  | m + 1, l => if l % p = 0 then ((stripN p m (l / p)).1, (stripN p m (l / p)).2 + 1) else (l, 0)
theorem strip_cast (p : Nat) : ∀ (m l : Nat) (t : Int), strip (p : Int) m (l : Int) t = (((stripN p m l).1 : Int), t + ((stripN p m l).2 : Int))
  | 0, l, t => by
    show ((l : Int), t) = ((l : Int), t + 0)
    rw [Int.add_zero]
  | m + 1, l, t => by
    unfold strip stripN
    by_cases h : l % p = 0
    · rw [if_pos h, if_pos (show (l : Int) % (p : Int) = 0 by omega)]
      have := strip_cast p m (l / p) (t + 1)
      rw [show ((l / p : Nat) : Int) = (l : Int) / (p : Int) from Int.natCast_ediv l p] at this
      rw [this]
      show (_, t + 1 + _) = (_, t + ((_ + 1 : Nat) : Int))
      congr 1
      omega
    · rw [if_neg h, if_neg (show ¬ (l : Int) % (p : Int) = 0 by omega)]
      show ((l : Int), t) = ((l : Int), t + 0)
      rw [Int.add_zero]
theorem stripN_spec {p : Nat} (hp : 2 ≤ p) : ∀ (m l : Nat), 0 < l → l < 2 ^ m → l = (stripN p m l).1 * p ^ (stripN p m l).2 ∧ ¬ p ∣ (stripN p m l).1 ∧ 0 < (stripN p m l).1
  | 0, l, h0, h1 => by
    rw [Nat.pow_zero] at h1
    omega
  | m + 1, l, h0, h1 => by
    unfold stripN
    by_cases h : l % p = 0
    · rw [if_pos h]
      have e := Nat.div_add_mod l p
      rw [h, Nat.add_zero] at e
      have l0 : 0 < l / p := Nat.pos_of_ne_zero fun z => by
        rw [z, Nat.mul_zero] at e
        omega
      have l1 : 2 * (l / p) ≤ p * (l / p) := Nat.mul_le_mul_right _ hp
      rw [Nat.pow_succ] at h1
      obtain ⟨a1, a2, a3⟩ := stripN_spec hp m (l / p) l0 (by omega)
      refine ⟨?_, a2, a3⟩
      show l = (stripN p m (l / p)).1 * p ^ ((stripN p m (l / p)).2 + 1)
      rw [Nat.pow_succ, ← Nat.mul_assoc, ← a1, Nat.mul_comm]
      exact e.symm
    · rw [if_neg h]
      refine ⟨by rw [Nat.pow_zero, Nat.mul_one], fun z => h (Nat.mod_eq_zero_of_dvd z), h0⟩
def pLoopN : Nat → Nat → Nat → List (Nat × Nat) → Nat × List (Nat × Nat)
  | 0, _, l, rows => (l, rows)
  | m + 1, p, l, rows => if p * p ≤ l then pLoopN m (p + 1) (stripN p 64 l).1 (if 0 < (stripN p 64 l).2 then rows ++ [(p, (stripN p 64 l).2)] else rows) else (l, rows)
def castR (r : Nat × Nat) : Int × Int := ((r.1 : Int), (r.2 : Int))
theorem pLoop_cast : ∀ (m p l : Nat) (rows : List (Nat × Nat)), pLoop m (p : Int) (l : Int) (rows.map castR) = (((pLoopN m p l rows).1 : Int), (pLoopN m p l rows).2.map castR)
  | 0, _, _, _ => rfl
  | m + 1, p, l, rows => by
    unfold pLoop pLoopN
    by_cases h : p * p ≤ l
    · rw [if_pos h, if_pos (show (p : Int) * (p : Int) ≤ (l : Int) by exact_mod_cast h), strip_cast]
      simp only
      rw [Int.zero_add]
      by_cases h2 : 0 < (stripN p 64 l).2
      · rw [if_pos h2, if_pos (show (0 : Int) < ((stripN p 64 l).2 : Int) by omega)]
        have := pLoop_cast m (p + 1) (stripN p 64 l).1 (rows ++ [(p, (stripN p 64 l).2)])
        rw [List.map_append] at this
        exact this
      · rw [if_neg h2, if_neg (show ¬ (0 : Int) < ((stripN p 64 l).2 : Int) by omega)]
        exact pLoop_cast m (p + 1) (stripN p 64 l).1 rows
    · rw [if_neg h, if_neg (show ¬ (p : Int) * (p : Int) ≤ (l : Int) by exact_mod_cast h)]
def partedN (n : Nat) : List (Nat × Nat) := if 1 < (pLoopN n 2 n []).1 then (pLoopN n 2 n []).2 ++ [((pLoopN n 2 n []).1, 1)] else (pLoopN n 2 n []).2
theorem parted_cast (n : Nat) : partedF (n : Int) = (partedN n).map castR := by
  unfold partedF partedN
  have := pLoop_cast n 2 n []
  rw [Int.toNat_natCast]
  rw [show pLoop n 2 (n : Int) [] = pLoop n ((2 : Nat) : Int) (n : Int) (([] : List (Nat × Nat)).map castR) from rfl, this]
  simp only
  by_cases h : 1 < (pLoopN n 2 n []).1
  · rw [if_pos h, if_pos (show (1 : Int) < _ by omega), List.map_append]
    rfl
  · rw [if_neg h, if_neg (show ¬ (1 : Int) < _ by omega)]
def prodR : List (Nat × Nat) → Nat
  | [] => 1
  | r :: rows => r.1 ^ r.2 * prodR rows
theorem prodR_snoc : ∀ (rows : List (Nat × Nat)) (r : Nat × Nat), prodR (rows ++ [r]) = prodR rows * r.1 ^ r.2
  | [], r => by
    show r.1 ^ r.2 * 1 = 1 * r.1 ^ r.2
    omega
  | q :: rows, r => by
    show q.1 ^ q.2 * prodR (rows ++ [r]) = q.1 ^ q.2 * prodR rows * r.1 ^ r.2
    rw [prodR_snoc rows r, Nat.mul_assoc]
/-- rows of primes below p, rising, once or oftener each -/
def Rows (p : Nat) (rows : List (Nat × Nat)) : Prop := (∀ r ∈ rows, Prm r.1 ∧ 1 ≤ r.2 ∧ r.1 < p) ∧ rows.Pairwise fun a b => a.1 < b.1
theorem Rows.snoc {p q k : Nat} {rows : List (Nat × Nat)} (h : Rows p rows) (hp : Prm p) (hk : 1 ≤ k) (hq : p < q) : Rows q (rows ++ [(p, k)]) := by
  refine ⟨fun r hr => ?_, ?_⟩
  · rcases List.mem_append.mp hr with hr | hr
    · obtain ⟨a, b, c⟩ := h.1 r hr
      exact ⟨a, b, by omega⟩
    · rw [List.mem_singleton.mp hr]
      exact ⟨hp, hk, hq⟩
  · rw [List.pairwise_append]
    refine ⟨h.2, List.pairwise_singleton .., fun a ha b hb => ?_⟩
    rw [List.mem_singleton.mp hb]
    exact (h.1 a ha).2.2
theorem Rows.mono {p q : Nat} {rows : List (Nat × Nat)} (h : Rows p rows) (hq : p ≤ q) : Rows q rows := ⟨fun r hr => by
  obtain ⟨a, b, c⟩ := h.1 r hr
  exact ⟨a, b, by omega⟩, h.2⟩
/-- nothing from 2 on below p divides l -/
def Low (p l : Nat) : Prop := ∀ d, 2 ≤ d → d < p → ¬ d ∣ l
theorem prm_of_low {p l : Nat} (hl : Low p l) (hp : 2 ≤ p) (hd : p ∣ l) : Prm p := ⟨hp, fun d h => by
  by_cases h1 : d = 1
  · exact .inl h1
  · by_cases h2 : d = p
    · exact .inr h2
    · have := Nat.le_of_dvd (by omega) h
      have d0 : d ≠ 0 := fun z => by
        rw [z] at h
        have := Nat.eq_zero_of_zero_dvd h
        omega
      exact absurd (Nat.dvd_trans h hd) (hl d (by omega) (by omega))⟩
theorem prm_of_sq {p l : Nat} (hl : Low p l) (h1 : 1 < l) (hs : l < p * p) : Prm l := ⟨h1, fun d h => by
  obtain ⟨k, hk⟩ := h
  by_cases hd1 : d = 1
  · exact .inl hd1
  · refine .inr ?_
    have d0 : d ≠ 0 := fun z => by
      rw [z, Nat.zero_mul] at hk
      omega
    have k0 : k ≠ 0 := fun z => by
      rw [z, Nat.mul_zero] at hk
      omega
    by_cases hk1 : k = 1
    · rw [hk, hk1, Nat.mul_one]
    · exfalso
      have a1 : ¬ d < p := fun z => hl d (by omega) z ⟨k, hk⟩
      have a2 : ¬ k < p := fun z => hl k (by omega) z ⟨d, by rw [hk, Nat.mul_comm]⟩
      have := Nat.mul_le_mul (show p ≤ d by omega) (show p ≤ k by omega)
      omega⟩
theorem pLoopN_spec : ∀ (m p l : Nat) (rows : List (Nat × Nat)), 2 ≤ p → 0 < l → l < 2 ^ 64 → l < p + m → Low p l → Rows p rows →
    Rows (p + m + 1) (pLoopN m p l rows).2 ∧ 0 < (pLoopN m p l rows).1 ∧ prodR (pLoopN m p l rows).2 * (pLoopN m p l rows).1 = prodR rows * l ∧ (1 < (pLoopN m p l rows).1 → Prm (pLoopN m p l rows).1 ∧ Rows (pLoopN m p l rows).1 (pLoopN m p l rows).2)
  | 0, p, l, rows, hp, h0, h64, hm, hl, hr => by
    refine ⟨hr.mono (by omega), h0, rfl, fun h1 => ?_⟩
    exact absurd (Nat.dvd_refl l) (hl l h1 (by omega))
  | m + 1, p, l, rows, hp, h0, h64, hm, hl, hr => by
    unfold pLoopN
    by_cases h : p * p ≤ l
    · rw [if_pos h]
      obtain ⟨s1, s2, s3⟩ := stripN_spec hp 64 l h0 h64
      generalize (stripN p 64 l).1 = l' at *
      generalize (stripN p 64 l).2 = k at *
      have hdl : l' ∣ l := ⟨p ^ k, s1⟩
      have hll := Nat.le_of_dvd h0 hdl
      have hl' : Low (p + 1) l' := fun d d1 d2 z => by
        by_cases e : d = p
        · subst e
          exact s2 z
        · exact hl d d1 (by omega) (Nat.dvd_trans z hdl)
      by_cases hk : 0 < k
      · rw [if_pos hk]
        have pp : Prm p := prm_of_low hl hp ⟨l' * p ^ (k - 1), by
          rw [s1, Nat.mul_left_comm, ← Nat.pow_succ']
          congr 2
          omega⟩
        obtain ⟨a1, a2, a3, a4⟩ := pLoopN_spec m (p + 1) l' (rows ++ [(p, k)]) (by omega) s3 (by omega) (by omega) hl' (hr.snoc pp hk (Nat.lt_succ_self p))
        refine ⟨a1.mono (by omega), a2, ?_, a4⟩
        rw [a3, prodR_snoc, Nat.mul_assoc]
        congr 1
        rw [Nat.mul_comm]
        exact s1.symm
      · rw [if_neg hk]
        have k0 : k = 0 := by omega
        subst k0
        rw [Nat.pow_zero, Nat.mul_one] at s1
        obtain ⟨a1, a2, a3, a4⟩ := pLoopN_spec m (p + 1) l' rows (by omega) s3 (by omega) (by omega) hl' (hr.mono (Nat.le_succ p))
        refine ⟨a1.mono (by omega), a2, ?_, a4⟩
        rw [a3, s1]
    · rw [if_neg h]
      refine ⟨hr.mono (by omega), h0, rfl, fun h1 => ⟨prm_of_sq hl h1 (by omega), ⟨fun r hr' => ?_, hr.2⟩⟩⟩
      obtain ⟨b1, b2, b3⟩ := hr.1 r hr'
      refine ⟨b1, b2, ?_⟩
      have : ¬ l < p := fun z => hl l h1 z (Nat.dvd_refl l)
      omega
theorem parted_spec {n : Nat} (h0 : 0 < n) (h64 : n < 2 ^ 64) : (∃ p, Rows p (partedN n)) ∧ prodR (partedN n) = n := by
  obtain ⟨a1, a2, a3, a4⟩ := pLoopN_spec n 2 n [] (Nat.le_refl 2) h0 h64 (by omega) (fun d d1 d2 => by omega) ⟨(fun _ h => nomatch h), List.Pairwise.nil⟩
  unfold partedN
  split
  · rename_i h1
    obtain ⟨b1, b2⟩ := a4 h1
    refine ⟨⟨_, b2.snoc b1 (Nat.le_refl 1) (Nat.lt_succ_self _)⟩, ?_⟩
    rw [prodR_snoc, Nat.pow_one, a3]
    show 1 * n = n
    omega
  · rename_i h1
    refine ⟨⟨_, a1⟩, ?_⟩
    have e : (pLoopN n 2 n []).1 = 1 := by omega
    rw [e, Nat.mul_one] at a3
    rw [a3]
    show 1 * n = n
    omega
theorem prm_cop {p m : Nat} (hp : Prm p) (h : ¬ p ∣ m) : Nat.Coprime p m := by
  have g := Nat.gcd_dvd_left p m
  rcases hp.2 _ g with e | e
  · exact e
  · have := Nat.gcd_dvd_right p m
    rw [e] at this
    exact absurd this h
theorem prm_ndvd_prod {p : Nat} (hp : Prm p) : ∀ {rows : List (Nat × Nat)}, (∀ r ∈ rows, Prm r.1) → (∀ r ∈ rows, r.1 ≠ p) → ¬ p ∣ prodR rows
  | [], _, _ => fun z => by
    have := Nat.le_of_dvd (by decide) z
    have := hp.1
    show False
    simp only [prodR] at *
    omega
  | r :: rows, h1, h2 => fun z => by
    have c : Nat.Coprime p (r.1 ^ r.2) := Nat.Coprime.pow_right _ (prm_cop hp fun d => by
      rcases (h1 r (List.mem_cons_self ..)).2 p d with e | e
      · have := hp.1
        omega
      · exact h2 r (List.mem_cons_self ..) e.symm)
    exact prm_ndvd_prod hp (fun q hq => h1 q (List.mem_cons_of_mem _ hq)) (fun q hq => h2 q (List.mem_cons_of_mem _ hq)) (c.dvd_of_dvd_mul_left z)
/-- the divisors of m times a power of a prime that doesn't divide m -/
theorem dvd_mul_pow {p m : Nat} (hp : Prm p) (hm : ¬ p ∣ m) : ∀ (e d : Nat), d ∣ m * p ^ e ↔ ∃ j d', j ≤ e ∧ d' ∣ m ∧ d = p ^ j * d'
  | 0, d => by
    rw [Nat.pow_zero, Nat.mul_one]
    refine ⟨fun h => ⟨0, d, Nat.le_refl 0, h, by rw [Nat.pow_zero, Nat.one_mul]⟩, fun ⟨j, d', h1, h2, h3⟩ => ?_⟩
    have : j = 0 := by omega
    subst this
    rw [Nat.pow_zero, Nat.one_mul] at h3
    rw [h3]
    exact h2
  | e + 1, d => by
    refine ⟨fun h => ?_, fun ⟨j, d', h1, h2, h3⟩ => ?_⟩
    · by_cases hd : p ∣ d
      · obtain ⟨d1, rfl⟩ := hd
        have h' : d1 ∣ m * p ^ e := by
          rw [Nat.pow_succ, ← Nat.mul_assoc, Nat.mul_comm _ p] at h
          exact Nat.dvd_of_mul_dvd_mul_left (by have := hp.1; omega) h
        obtain ⟨j, d', a1, a2, a3⟩ := (dvd_mul_pow hp hm e d1).mp h'
        exact ⟨j + 1, d', by omega, a2, by rw [a3, Nat.pow_succ, Nat.mul_comm (p ^ j) p, Nat.mul_assoc]⟩
      · have c : Nat.Coprime d (p ^ (e + 1)) := Nat.Coprime.pow_right _ (prm_cop hp hd).symm
        exact ⟨0, d, Nat.zero_le _, c.dvd_of_dvd_mul_right h, by rw [Nat.pow_zero, Nat.one_mul]⟩
    · rw [h3, Nat.mul_comm]
      exact Nat.mul_dvd_mul h2 (Nat.pow_dvd_pow p h1)

/-! ### all divisors: as products of the primes, as the program tells them -/
def turnsN (p : Nat) (told : List Nat) : Nat → List Nat × List Nat
  | 0 => (told, told)
  | t + 1 => ((turnsN p told t).1 ++ ((turnsN p told t).2.map fun d => p * d).filter fun d => !decide (d ∈ (turnsN p told t).1), (turnsN p told t).2.map fun d => p * d)
def allStep (told : List Nat) (r : Nat × Nat) : List Nat := (turnsN r.1 told r.2).1
def allN (n : Nat) : List Nat := (partedN n).foldl allStep [1]
theorem map_nodup {α β : Type} {f : α → β} (hf : ∀ a b, f a = f b → a = b) : ∀ {l : List α}, l.Nodup → (l.map f).Nodup
  | [], _ => List.nodup_nil
  | a :: l, h => by
    rw [List.nodup_cons] at h
    rw [List.map_cons, List.nodup_cons]
    refine ⟨fun z => ?_, map_nodup hf h.2⟩
    obtain ⟨b, hb, e⟩ := List.mem_map.mp z
    rw [hf _ _ e] at hb
    exact h.1 hb
theorem filter_nodup {α : Type} (f : α → Bool) {l : List α} (h : l.Nodup) : (l.filter f).Nodup := List.Pairwise.filter f h
theorem turns_spec {p m : Nat} (hp : Prm p) (hm : ¬ p ∣ m) {told : List Nat} (h1 : told.Nodup) (h2 : ∀ x, x ∈ told ↔ x ∣ m) : ∀ t, (turnsN p told t).1.Nodup ∧ (∀ x, x ∈ (turnsN p told t).1 ↔ x ∣ m * p ^ t) ∧ (turnsN p told t).2 = told.map fun d => p ^ t * d
  | 0 => by
    refine ⟨h1, fun x => by rw [Nat.pow_zero, Nat.mul_one]; exact h2 x, ?_⟩
    show told = _
    simp
  | t + 1 => by
    obtain ⟨a1, a2, a3⟩ := turns_spec hp hm h1 h2 t
    have hmore : (turnsN p told (t + 1)).2 = told.map fun d => p ^ (t + 1) * d := by
      show (turnsN p told t).2.map (fun d => p * d) = _
      rw [a3, List.map_map]
      refine List.map_congr_left fun d _ => ?_
      show p * (p ^ t * d) = _
      rw [Nat.pow_succ, Nat.mul_comm (p ^ t) p, Nat.mul_assoc]
    have hmore' : ((turnsN p told t).2.map fun d => p * d) = told.map fun d => p ^ (t + 1) * d := hmore
    have hpos : 0 < p ^ (t + 1) := Nat.pow_pos (by have := hp.1; omega)
    refine ⟨?_, fun x => ?_, hmore⟩
    · show ((turnsN p told t).1 ++ ((turnsN p told t).2.map fun d => p * d).filter fun d => !decide (d ∈ (turnsN p told t).1)).Nodup
      rw [hmore', List.nodup_append]
      refine ⟨a1, filter_nodup _ (map_nodup (fun a b e => Nat.eq_of_mul_eq_mul_left hpos e) h1), fun a ha b hb e => ?_⟩
      subst e
      have := (List.mem_filter.mp hb).2
      rw [decide_eq_true ha] at this
      exact absurd this (by decide)
    · show x ∈ ((turnsN p told t).1 ++ ((turnsN p told t).2.map fun d => p * d).filter fun d => !decide (d ∈ (turnsN p told t).1)) ↔ _
      rw [hmore', List.mem_append, List.mem_filter, List.mem_map, dvd_mul_pow hp hm]
      constructor
      · rintro (h | ⟨⟨d, hd, rfl⟩, _⟩)
        · obtain ⟨j, d', b1, b2, b3⟩ := (dvd_mul_pow hp hm t x).mp ((a2 x).mp h)
          exact ⟨j, d', by omega, b2, b3⟩
        · exact ⟨t + 1, d, Nat.le_refl _, (h2 d).mp hd, rfl⟩
      · rintro ⟨j, d', b1, b2, rfl⟩
        by_cases hx : p ^ j * d' ∈ (turnsN p told t).1
        · exact .inl hx
        · refine .inr ⟨?_, by rw [decide_eq_false hx]; rfl⟩
          have hj : j = t + 1 := by
            refine Nat.le_antisymm b1 (Nat.lt_of_not_le fun z => hx ((a2 _).mpr ?_))
            exact (dvd_mul_pow hp hm t _).mpr ⟨j, d', z, b2, rfl⟩
          subst hj
          exact ⟨d', (h2 d').mpr b2, rfl⟩
theorem all_spec : ∀ (rows : List (Nat × Nat)) (told : List Nat) (m : Nat), (∀ r ∈ rows, Prm r.1) → rows.Pairwise (fun a b => a.1 < b.1) → (∀ r ∈ rows, ¬ r.1 ∣ m) → told.Nodup → (∀ x, x ∈ told ↔ x ∣ m) →
    (rows.foldl allStep told).Nodup ∧ ∀ x, x ∈ rows.foldl allStep told ↔ x ∣ m * prodR rows
  | [], told, m, _, _, _, h4, h5 => ⟨h4, fun x => by
    show x ∈ told ↔ x ∣ m * 1
    rw [Nat.mul_one]
    exact h5 x⟩
  | r :: rows, told, m, h1, h2, h3, h4, h5 => by
    have hp := h1 r (List.mem_cons_self ..)
    rw [List.pairwise_cons] at h2
    obtain ⟨a1, a2, _⟩ := turns_spec hp (h3 r (List.mem_cons_self ..)) h4 h5 r.2
    have := all_spec rows (allStep told r) (m * r.1 ^ r.2) (fun q hq => h1 q (List.mem_cons_of_mem _ hq)) h2.2 (fun q hq z => ?_) a1 a2
    · rw [List.foldl_cons]
      refine ⟨this.1, fun x => ?_⟩
      rw [this.2 x]
      show x ∣ m * r.1 ^ r.2 * prodR rows ↔ x ∣ m * (r.1 ^ r.2 * prodR rows)
      rw [Nat.mul_assoc]
    · have hq1 := h1 q (List.mem_cons_of_mem _ hq)
      have lt := h2.1 q hq
      have c : Nat.Coprime q.1 (r.1 ^ r.2) := Nat.Coprime.pow_right _ (prm_cop hq1 fun d => by
        rcases hp.2 _ d with e | e
        · have := hq1.1
          omega
        · omega)
      exact h3 q (List.mem_cons_of_mem _ hq) (c.dvd_of_dvd_mul_right z)
theorem allN_spec {n : Nat} (h0 : 0 < n) (h64 : n < 2 ^ 64) : (allN n).Nodup ∧ ∀ x, x ∈ allN n ↔ x ∣ n := by
  obtain ⟨⟨p, hr1, hr2⟩, hprod⟩ := parted_spec h0 h64
  have := all_spec (partedN n) [1] 1 (fun r hr => (hr1 r hr).1) hr2 (fun r hr z => by
    have := Nat.le_of_dvd (by decide) z
    have := (hr1 r hr).1.1
    omega) (by simp) (fun x => by rw [List.mem_singleton, Nat.dvd_one])
  rw [hprod, Nat.one_mul] at this
  exact this
def lowN (n : Nat) : List Nat := ((List.range (PySem.Float64.isqrt n)).filter fun i => decide (n % (1 + i) = 0)).map fun i => 1 + i
def highN (n : Nat) : List Nat := ((lowN n).reverse.filter fun d => !decide (d * d = n)).map fun d => n / d
def divN (n : Nat) : List Nat := lowN n ++ highN n
theorem low_mem (n x : Nat) : x ∈ lowN n ↔ 0 < x ∧ x ≤ PySem.Float64.isqrt n ∧ x ∣ n := by
  unfold lowN
  rw [List.mem_map]
  constructor
  · rintro ⟨i, hi, rfl⟩
    rw [List.mem_filter, List.mem_range, decide_eq_true_iff] at hi
    exact ⟨by omega, by omega, Nat.dvd_of_mod_eq_zero hi.2⟩
  · rintro ⟨h1, h2, h3⟩
    refine ⟨x - 1, ?_, by omega⟩
    rw [List.mem_filter, List.mem_range, decide_eq_true_iff]
    refine ⟨by omega, ?_⟩
    rw [show 1 + (x - 1) = x by omega]
    exact Nat.mod_eq_zero_of_dvd h3
theorem pairwise_map_of {α β : Type} {R : α → α → Prop} {S : β → β → Prop} {f : α → β} (h : ∀ a b, R a b → S (f a) (f b)) {l : List α} (hl : l.Pairwise R) : (l.map f).Pairwise S := by
  rw [List.pairwise_map]
  exact hl.imp fun {a b} r => h a b r
theorem low_pw (n : Nat) : (lowN n).Pairwise (· < ·) := pairwise_map_of (R := (· < ·)) (fun a b h => by omega) (List.Pairwise.filter _ List.pairwise_lt_range)
theorem div_mem {n : Nat} (h0 : 0 < n) (x : Nat) : x ∈ divN n ↔ x ∣ n := by
  obtain ⟨r1, r2⟩ := isqrt_ok n
  unfold divN highN
  rw [List.mem_append, low_mem, List.mem_map]
  constructor
  · rintro (⟨_, _, h⟩ | ⟨d, hd, rfl⟩)
    · exact h
    · rw [List.mem_filter, List.mem_reverse, low_mem] at hd
      exact Nat.div_dvd_of_dvd hd.1.2.2
  · intro h
    have x0 : 0 < x := Nat.pos_of_dvd_of_pos h h0
    by_cases hx : x ≤ PySem.Float64.isqrt n
    · exact .inl ⟨x0, hx, h⟩
    · refine .inr ⟨n / x, ?_, Nat.div_div_self h (by omega)⟩
      obtain ⟨k, rfl⟩ := h
      rw [Nat.mul_div_cancel_left k x0, List.mem_filter, List.mem_reverse, low_mem]
      have k0 : 0 < k := Nat.pos_of_ne_zero fun z => by
        rw [z, Nat.mul_zero] at h0
        omega
      refine ⟨⟨k0, Nat.le_of_not_lt fun z => ?_, ⟨x, Nat.mul_comm x k⟩⟩, ?_⟩
      · have := Nat.mul_le_mul (show PySem.Float64.isqrt (x * k) + 1 ≤ x by omega) (show PySem.Float64.isqrt (x * k) + 1 ≤ k by omega)
        omega
      · rw [decide_eq_false]
        · rfl
        · intro e
          have : k = x := Nat.eq_of_mul_eq_mul_right k0 e
          subst this
          have := Nat.mul_le_mul (show PySem.Float64.isqrt (k * k) + 1 ≤ k by omega) (show PySem.Float64.isqrt (k * k) + 1 ≤ k by omega)
          omega
theorem div_anti {n a b : Nat} (h0 : 0 < n) (ha : a ∣ n) (hb : b ∣ n) (h : a < b) : n / b < n / a := by
  obtain ⟨k, rfl⟩ := ha
  obtain ⟨j, e⟩ := hb
  have a0 : 0 < a := Nat.pos_of_ne_zero fun z => by
    rw [z, Nat.zero_mul] at h0
    omega
  rw [Nat.mul_div_cancel_left k a0, e, Nat.mul_div_cancel_left j (by omega)]
  refine Nat.lt_of_not_le fun z => ?_
  have k0 : 0 < k := Nat.pos_of_ne_zero fun y => by
    rw [y, Nat.mul_zero] at h0
    omega
  have h1 : a * k < b * k := Nat.mul_lt_mul_of_pos_right h k0
  have h2 := Nat.mul_le_mul_left b z
  omega
theorem div_pw {n : Nat} (h0 : 0 < n) : (divN n).Pairwise (· < ·) := by
  obtain ⟨r1, r2⟩ := isqrt_ok n
  unfold divN highN
  rw [List.pairwise_append]
  refine ⟨low_pw n, ?_, fun a ha b hb => ?_⟩
  · rw [List.pairwise_map]
    refine List.Pairwise.filter _ ?_
    rw [List.pairwise_reverse]
    exact List.Pairwise.imp_of_mem (fun {a b} ha hb h => div_anti h0 ((low_mem n a).mp ha).2.2 ((low_mem n b).mp hb).2.2 h) (low_pw n)
  · obtain ⟨d, hd, rfl⟩ := List.mem_map.mp hb
    rw [List.mem_filter, List.mem_reverse, low_mem] at hd
    rw [low_mem] at ha
    obtain ⟨⟨d0, d1, k, hk⟩, d3⟩ := hd
    have hkk : n / d = k := by rw [hk, Nat.mul_div_cancel_left k d0]
    rw [hkk]
    refine Nat.lt_of_not_le fun z => ?_
    have e1 : k ≤ PySem.Float64.isqrt n := by omega
    have e2 := Nat.mul_le_mul d1 e1
    have e3 : d * k = n := hk.symm
    have e4 : n = PySem.Float64.isqrt n * PySem.Float64.isqrt n := by omega
    have e5 : d = PySem.Float64.isqrt n := Nat.le_antisymm d1 (Nat.le_of_not_lt fun y => by
      have y1 : d * k ≤ d * PySem.Float64.isqrt n := Nat.mul_le_mul_left d e1
      have y2 : d * PySem.Float64.isqrt n < PySem.Float64.isqrt n * PySem.Float64.isqrt n := Nat.mul_lt_mul_of_pos_right y (by omega)
      omega)
    have e6 : d * d = n := by rw [e5]; exact e4.symm
    rw [decide_eq_true e6] at d3
    exact absurd d3 (by decide)
theorem strict_uniq : ∀ {a b : List Int}, a.Pairwise (· < ·) → b.Pairwise (· < ·) → (∀ x, x ∈ a ↔ x ∈ b) → a = b
  | [], [], _, _, _ => rfl
  | [], y :: b, _, _, h => absurd ((h y).mpr (List.mem_cons_self ..)) (by simp)
  | x :: a, [], _, _, h => absurd ((h x).mp (List.mem_cons_self ..)) (by simp)
  | x :: a, y :: b, ha, hb, h => by
    rw [List.pairwise_cons] at ha hb
    have e : x = y := by
      rcases List.mem_cons.mp ((h x).mp (List.mem_cons_self ..)) with e | m
      · exact e
      · rcases List.mem_cons.mp ((h y).mpr (List.mem_cons_self ..)) with e | m2
        · exact e.symm
        · have := hb.1 x m
          have := ha.1 y m2
          omega
    subst e
    congr 1
    refine strict_uniq ha.2 hb.2 fun z => ⟨fun hz => ?_, fun hz => ?_⟩
    · rcases List.mem_cons.mp ((h z).mp (List.mem_cons_of_mem _ hz)) with e | m
      · have := ha.1 z hz
        omega
      · exact m
    · rcases List.mem_cons.mp ((h z).mpr (List.mem_cons_of_mem _ hz)) with e | m
      · have := hb.1 z hz
        omega
      · exact m
def castI (l : List Nat) : List Int := l.map fun d : Nat => (d : Int)
theorem sorted_all {n : Nat} (h0 : 0 < n) (h64 : n < 2 ^ 64) {ns : List Int} (hp : ns.Perm (castI (allN n))) (hs : ns.Pairwise (· ≤ ·)) : ns = castI (divN n) := by
  obtain ⟨a1, a2⟩ := allN_spec h0 h64
  have nd : ns.Nodup := hp.nodup_iff.mpr (map_nodup (fun a b e => by omega) a1)
  refine strict_uniq ?_ (pairwise_map_of (R := (· < ·)) (fun a b h => by omega) (div_pw h0)) fun x => ?_
  · exact (List.Pairwise.and hs nd).imp fun {a b} h => by
      have := h.1
      have := h.2
      omega
  · rw [hp.mem_iff]
    unfold castI
    rw [List.mem_map, List.mem_map]
    constructor
    · rintro ⟨d, hd, rfl⟩
      exact ⟨d, (div_mem h0 d).mpr ((a2 d).mp hd), rfl⟩
    · rintro ⟨d, hd, rfl⟩
      exact ⟨d, (a2 d).mpr ((div_mem h0 d).mp hd), rfl⟩

/-! ### their readings -/
theorem len_le_of_sub : ∀ {a b : List Nat}, a.Nodup → (∀ x, x ∈ a → x ∈ b) → a.length ≤ b.length
  | [], _, _, _ => Nat.zero_le _
  | x :: a, b, h1, h2 => by
    rw [List.nodup_cons] at h1
    have hx := h2 x (List.mem_cons_self ..)
    have := len_le_of_sub (a := a) (b := b.erase x) h1.2 fun y hy => by
      have hne : y ≠ x := fun e => h1.1 (e ▸ hy)
      exact (List.mem_erase_of_ne hne).mpr (h2 y (List.mem_cons_of_mem _ hy))
    rw [List.length_erase_of_mem hx] at this
    have pos : 0 < b.length := List.length_pos_of_mem hx
    rw [List.length_cons]
    omega
theorem sq1000 {n : Nat} (h : n ≤ 1000000) : Float64.isqrt n ≤ 1000 := by
  refine Nat.le_of_not_lt fun z => ?_
  have := (isqrt_ok n).1
  have := Nat.mul_le_mul (show 1001 ≤ Float64.isqrt n by omega) (show 1001 ≤ Float64.isqrt n by omega)
  omega
theorem low_len {n : Nat} (h : n ≤ 1000000) : (lowN n).length ≤ 1000 := by
  unfold lowN
  rw [List.length_map]
  have h1 := List.length_filter_le (fun i => decide (n % (1 + i) = 0)) (List.range (Float64.isqrt n))
  rw [List.length_range] at h1
  have := sq1000 h
  omega
theorem high_len {n : Nat} (h : n ≤ 1000000) : (highN n).length ≤ 1000 := by
  unfold highN
  rw [List.length_map]
  have h1 := List.length_filter_le (fun d => !decide (d * d = n)) (lowN n).reverse
  rw [List.length_reverse] at h1
  have := low_len h
  omega
theorem div_len {n : Nat} (h : n ≤ 1000000) : (divN n).length ≤ 2000 := by
  unfold divN
  rw [List.length_append]
  have := low_len h
  have := high_len h
  omega
theorem castI_filter (f : Nat → Bool) (g : Int → Bool) (h : ∀ d : Nat, g (d : Int) = f d) : ∀ l : List Nat, (castI l).filter g = castI (l.filter f)
  | [] => rfl
  | d :: l => by
    show ((d : Int) :: castI l).filter g = _
    rw [List.filter_cons, List.filter_cons, h, castI_filter f g h l]
    split <;> rfl
theorem castI_len (l : List Nat) : (castI l).length = l.length := by
  unfold castI
  rw [List.length_map]
theorem castI_rev (l : List Nat) : (castI l).reverse = castI l.reverse := by
  unfold castI
  rw [List.map_reverse]
theorem castI_mem {l : List Nat} {x : Int} (h : x ∈ castI l) : ∃ d, d ∈ l ∧ x = (d : Int) := by
  obtain ⟨d, h1, h2⟩ := List.mem_map.mp h
  exact ⟨d, h1, h2.symm⟩
theorem castI_in (l : List Nat) (d : Nat) : ((d : Int) ∈ castI l) ↔ d ∈ l := by
  constructor
  · intro h
    obtain ⟨e, h1, h2⟩ := castI_mem h
    have : d = e := by omega
    rw [this]
    exact h1
  · intro h
    exact List.mem_map.mpr ⟨d, h, rfl⟩
/- divisors: slots 0 n, 1 low, 2 high, 3 d; calls  -/
abbrev s_divisors : Stmt := topS 2
theorem sc_divisors : FnScope ["n", "low", "high", "d"] ["n"] (defScope s_divisors) := ⟨rfl, rfl, rfl, by decide +kernel, rfl, by decide +kernel, by decide +kernel⟩

def spDivs : Sp := fun vs H Q _ => ∃ n : Nat, vs = [.int (n : Nat)] ∧ 1 ≤ n ∧ n ≤ 1000000 ∧ RetL ((castI (divN n)).map V.int) H Q
section
variable {P : Program} {w : World} {K : PySem.W.Frag} {mg : Str → Option Value} {base : Heap}
theorem cal_divisors (nb : Nb mg) (nb_isqrt : mg "isqrt" = some (.builtin "math.isqrt")) (d : Dfn K mg "divisors" ["n"] s_divisors) : Cal P w K mg base CX0 "divisors" 1 ["n"] spDivs := by
  refine d.cal sc_divisors (fun vs H Q E h => ?_) (fun f cdv A outer s H vs Q E hr h => ?_)
  · obtain ⟨a, rfl, _⟩ := h
    rfl
  · obtain ⟨n, rfl, n1, n2, q⟩ := h
    refine ⟨_, (pss_cons (ps_setLc (i := 1) (own := [("d", 3)]) (g := gName 3) (by rfl) sc_divisors.nd rfl rfl (sw_true rfl rfl rfl (by decide +kernel)) (pi_range2 (by rfl) nb.range (pa_cons pe_int (pa_cons (pe_op op_add (pe_callBfun cr_isqrt (by rfl) nb_isqrt (pa_cons (pv 0) pa_nil)) pe_int) pa_nil))) (blkOk_by (N := ["n", "low", "high", "d"]) (sc := defScope s_divisors) (by decide +kernel)) (fun _ _ _ _ _ => (pg_name (i := 3) sc_divisors.nd rfl (Or.inl rfl))) (fun _ _ _ _ _ => pts_one (pt_cmpR op_eq (pe_op op_mod (pv 0) (pv 3)) pe_int (nomark _))) (fun _ _ _ _ _ => (pv 3)))
      (pss_cons (ps_setLc (i := 2) (own := [("d", 3)]) (g := gName 3) (by rfl) sc_divisors.nd rfl rfl (sw_true rfl rfl rfl (by decide +kernel)) (pi_reversed (by rfl) nb.reversed (pa_cons (pv 1) pa_nil)) (blkOk_by (N := ["n", "low", "high", "d"]) (sc := defScope s_divisors) (by decide +kernel)) (fun _ _ _ _ _ => (pg_name (i := 3) sc_divisors.nd rfl (Or.inl rfl))) (fun _ _ _ _ _ => pts_one (pt_cmpR op_ne (pe_op op_mulW (pv 3) (pv 3)) (pv 0) (nomark _))) (fun _ _ _ _ _ => (pe_op op_fdivW (pv 0) (pv 3))))
      (pss_one (ps_ret (pe_op op_cat (pv 1) (pv 2)))))), ?_⟩
    have hsq := sq1000 n2
    refine q_asgL (xs := (castI (lowN n)).map V.int) (el_is (el_lcR2 (lo := 1) (hi := (Float64.isqrt n : Int) + 1) (fun i => decide (n % (1 + i) = 0)) (fun i => .int (1 + (i : Int))) (ea_cons ev_c (ea_cons (ev_add (ev_isqrt (ev_var rfl) (by omega)) ev_c) ea_nil)) (by omega) (fun _ => rfl) (fun i H1 e1 hi => ?_) (fun i H1 e1 hi hf => ev_var rfl)) ?_) fun a H1 na e1 h1 => ?_
    · refine et_is (et_test (ev_eqI (ev_mod (i := (n : Int)) (j := 1 + (i : Int)) (ev_var rfl) (ev_var rfl) (by omega)) ev_c)) ?_
      rw [Bool.eq_iff_iff, decide_eq_true_iff, decide_eq_true_iff]
      have : ((n % (1 + i) : Nat) : Int) = (n : Int) % (1 + (i : Int)) := by
        rw [Int.natCast_emod]
        rfl
      omega
    · rw [show ((Float64.isqrt n : Int) + 1 - 1).toNat = Float64.isqrt n by omega]
      unfold castI lowN
      rw [List.map_map, List.map_map]
      refine List.map_congr_left fun i _ => ?_
      show V.int (1 + (i : Int)) = V.int ((1 + i : Nat) : Int)
      congr 1
    refine q_asgL (xs := (castI (highN n)).map V.int) (el_is (el_lcV (ns := castI (lowN n)) (fun x => !decide (x * x = (n : Int))) (fun x => .int ((n : Int) / x)) (by one_place) (SqL.of h1) (by rw [castI_len]; have := low_len n2; omega) (fun _ => rfl) (fun r H2 e2 hr => ?_) (fun r H2 e2 hr hf => ?_)) ?_) fun b H2 nb' e2 h2 => ?_
    · obtain ⟨x, hx, rfl⟩ := castI_mem hr
      have hx2 := (low_mem n x).mp hx
      exact et_test (ev_neI (ev_mul (ev_var rfl) (ev_var rfl) (mulW (by omega) (by omega))) (ev_var rfl))
    · obtain ⟨x, hx, rfl⟩ := castI_mem hr
      have hx2 := (low_mem n x).mp hx
      exact ev_div (ev_var rfl) (ev_var rfl) (divW (by omega) (by omega))
    · rw [castI_rev, castI_filter (fun d => !decide (d * d = n)) _ fun d => by
        rw [Bool.eq_iff_iff, Bool.not_eq_true', Bool.not_eq_true', decide_eq_false_iff_not, decide_eq_false_iff_not]
        constructor
        · intro h e
          exact h (by exact_mod_cast e)
        · intro h e
          exact h (by exact_mod_cast e)]
      unfold castI highN
      rw [List.map_map, List.map_map, List.map_map]
      refine List.map_congr_left fun i _ => ?_
      show V.int ((n : Int) / (i : Int)) = V.int ((n / i : Nat) : Int)
      rw [Int.natCast_ediv]
    refine s_retL (xs := (castI (divN n)).map V.int) (el_is (el_cat2 (ev_var rfl) (e2 _ _ h1) (ev_var rfl) h2 (by rw [List.length_map, List.length_map, castI_len, castI_len]; have := low_len n2; have := high_len n2; omega)) ?_) fun p H3 np e3 hp => q.go (e1.trans e2) np e3 hp
    unfold divN castI
    rw [List.map_append, List.map_append]
end
/- _law_tried: slots 0 _law_n, 1 _law_told, 2 _law_left, 3 _law_p, 4 _law_often; calls  -/
abbrev s__law_tried : Stmt := topS 11
theorem sc__law_tried : FnScope ["_law_n", "_law_told", "_law_left", "_law_p", "_law_often"] ["_law_n"] (defScope s__law_tried) := ⟨rfl, rfl, rfl, by decide +kernel, rfl, by decide +kernel, by decide +kernel⟩

def spTried (K : PySem.W.Frag) : Sp := fun vs H Q _ => ∃ n : Int, vs = [.int n] ∧ 1 ≤ n ∧ n ≤ 1000000000 ∧ RetP K (partedF n) H Q
section
variable {P : Program} {w : World} {K : PySem.W.Frag} {mg : Str → Option Value} {base : Heap}
theorem cal_tried (nb : Nb mg) (d : Dfn K mg "_law_tried" ["_law_n"] s__law_tried) : Cal P w K mg base CX0 "_law_tried" 1 ["_law_n"] (spTried K) := by
  refine d.cal sc__law_tried (fun vs H Q E h => ?_) (fun f cdv A outer s H vs Q E hr h => ?_)
  · obtain ⟨a, rfl, _⟩ := h
    rfl
  · obtain ⟨n, rfl, n1, n2, q⟩ := h
    refine ⟨_, (pss_cons (ps_set (i := 1) sc__law_tried.nd rfl (.inl rfl) (pe_lst pa_nil))
      (pss_cons (ps_set (i := 2) sc__law_tried.nd rfl (.inl rfl) (pv 0))
      (pss_cons (ps_set (i := 3) sc__law_tried.nd rfl (.inl rfl) pe_int)
      (pss_cons (ps_while PassesOwn.never (pt_cmpR op_le (pe_op op_mulW (pv 3) (pv 3)) (pv 2) (nomark _)) (pss_cons (ps_set (i := 4) sc__law_tried.nd rfl (.inl rfl) pe_int)
      (pss_cons (ps_while PassesOwn.never (pt_cmpR op_eq (pe_op op_mod (pv 2) (pv 3)) pe_int (nomark _)) (pss_cons (ps_set (i := 2) sc__law_tried.nd rfl (.inl rfl) (pe_op op_fdivW (pv 2) (pv 3)))
      (pss_one (ps_set (i := 4) sc__law_tried.nd rfl (.inl rfl) (pe_op op_add (pv 4) pe_int)))))
      (pss_cons (ps_if (pt_cmpR op_gt (pv 4) pe_int (nomark _)) (pss_one (ps_expr (pe_bm PySem.F.plainAttrs_list PySem.F.slot_list_append PySem.F.type_list_append mt_append (pv 1) (pa_cons (pe_tup (pa_cons (pv 3) (pa_cons (pv 4) pa_nil))) pa_nil)))) pss_nil)
      (pss_one (ps_set (i := 3) sc__law_tried.nd rfl (.inl rfl) (pe_op op_add (pv 3) pe_int)))))))
      (pss_cons (ps_if (pt_cmpR op_gt (pv 2) pe_int (nomark _)) (pss_one (ps_expr (pe_bm PySem.F.plainAttrs_list PySem.F.slot_list_append PySem.F.type_list_append mt_append (pv 1) (pa_cons (pe_tup (pa_cons (pv 2) (pa_cons pe_int pa_nil))) pa_nil)))) pss_nil)
      (pss_one (ps_ret (pv 1)))))))), ?_⟩
    refine q_asgL (xs := []) (el_lst ea_nil (by decide)) fun a H1 ha e1 h1 => ?_
    refine q_asg (v := .int n) (by one_place) fun H2 e2 => ?_
    refine q_asg (v := .int 2) (by one_place) fun H3 e3 => ?_
    refine q_while (fun m σ' H' => ∃ (p l : Int) (rows : List (Int × Int)) (xs : List V) (x : Option V), σ' = [some (.int n), some (.ref a), some (.int l), some (.int p), x] ∧ 2 ≤ p ∧ p ≤ 40000 ∧ 0 < l ∧ l ≤ n ∧ l < p + m ∧
      pLoop m p l rows = pLoop n.toNat 2 n [] ∧ Ex H H' ∧ H' a = some (.lst xs) ∧ Prs K H' xs rows ∧ (rows.length : Int) + 2 ≤ p) n.toNat
      ⟨2, n, [], [], none, rfl, by omega, by omega, by omega, by omega, by omega, rfl, (e1.trans e2).trans e3, e3 _ _ (e2 _ _ h1), .nil, by decide⟩ fun m σ' H' hW => ?_
    obtain ⟨p, l, rows, xs, x, rfl, p1, p2, l1, l2, lm, eL, e4, h4, pr, hlen⟩ := hW
    refine ⟨decide (p * p ≤ l), by one_place, fun hb H5 e5 => ?_, fun hb H5 e5 => ?_⟩
    · have hpp := of_decide_eq_true hb
      have hp3 := sq_le hpp (by omega)
      cases m with
      | zero =>
        have : 2 * p ≤ p * p := Int.mul_le_mul_of_nonneg_right p1 (by omega)
        omega
      | succ m =>
        rw [pLoop_go hpp] at eL
        refine ⟨_, fun σ2 H2 hN => ⟨m, Nat.lt_succ_self m, hN⟩, ?_⟩
        refine q_asg (v := .int 0) (by one_place) fun H6 e6 => ?_
        refine q_while (fun k σ' H' => ∃ u t : Int, σ' = [some (.int n), some (.ref a), some (.int u), some (.int p), some (.int t)] ∧ 0 < u ∧ u ≤ l ∧ u < 2 ^ k ∧ strip p k u t = strip p 64 l 0 ∧ Ex H6 H') 64
          ⟨l, 0, rfl, l1, Int.le_refl _, by omega, rfl, Ex.refl _⟩ fun k σ' H' hW => ?_
        obtain ⟨u, t, rfl, u1, u2, uk, eS, e7⟩ := hW
        refine ⟨decide (u % p = 0), by one_place, fun hb H8 e8 => ?_, fun hb H8 e8 => ?_⟩
        · have hd := of_decide_eq_true hb
          cases k with
          | zero =>
            rw [Int.pow_zero] at uk
            omega
          | succ k =>
            obtain ⟨v1, v2, v3⟩ := half_lt p1 u1 uk hd
            rw [strip_go hd] at eS
            refine ⟨_, fun σ2 H2 hN => ⟨k, Nat.lt_succ_self k, hN⟩, ?_⟩
            refine q_asg (v := .int (u / p)) (by one_place) fun H9 e9 => ?_
            refine s_asg (v := .int (t + 1)) (by one_place) fun H10 e10 => ?_
            exact ⟨u / p, t + 1, rfl, v1, by omega, v2, eS, ((e7.trans e8).trans e9).trans e10⟩
        · have hd := of_decide_eq_false hb
          rw [strip_stop hd] at eS
          rw [← eS] at eL
          have h8 := e8 _ _ (e7 _ _ (e6 _ _ (e5 _ _ h4)))
          have e68 := e6.trans (e7.trans e8)
          have pr8 := pr.mono (e5.trans e68)
          refine q_when (b := decide (0 < t)) (by one_place) (fun hb H9 e9 => ?_) (fun hb H9 e9 => ?_)
          · have ht := of_decide_eq_true hb
            rw [if_pos ht] at eL
            refine s_appU (ys := [.int p, .int t]) (e9 _ _ h8) (by one_place) (eu_tup (by one_place) (by show 2 ≤ 100000; decide)) (by rw [Paired.length pr]; omega) fun tp H10 htp e10 h10 => ?_
            have h10a := e10 _ _ (e9 _ _ h8)
            show tAsg (tOp (rI0 fun i j => V.int (i + j)) (tVar 3) (tC (V.int 1))) (gName 3) _ _ _
            refine s_asg (v := .int (p + 1)) (by one_place) fun H11 e11 => ?_
            refine ⟨p + 1, u, rows ++ [(p, t)], xs ++ [.ref tp], _, rfl, by omega, by omega, u1, by omega, by omega, eL, ?_, e11 _ _ upd_same, ?_, ?_⟩
            · exact (Ex.mut (((e4.trans e5).trans e68).trans (e9.trans e10)) ha).trans e11
            · exact (((pr8.mono (e9.trans e10)).upd h10a).snoc (sqt_upd h10a (SqT.of h10))).mono e11
            · rw [List.length_append, List.length_singleton]
              omega
          · have ht := of_decide_eq_false hb
            rw [if_neg ht] at eL
            refine s_asg (v := .int (p + 1)) (by one_place) fun H11 e11 => ?_
            exact ⟨p + 1, u, rows, xs, _, rfl, by omega, by omega, u1, by omega, by omega, eL, ((e4.trans e5).trans e68).trans (e9.trans e11), e11 _ _ (e9 _ _ h8), pr8.mono (e9.trans e11), by omega⟩
    · have hpp := of_decide_eq_false hb
      rw [pLoop_stop hpp] at eL
      refine q_when (b := decide (1 < l)) (by one_place) (fun hb H6 e6 => ?_) (fun hb H6 e6 => ?_)
      · have hl := of_decide_eq_true hb
        refine s_appU (ys := [.int l, .int 1]) (e6 _ _ (e5 _ _ h4)) (by one_place) (eu_tup (by one_place) (by show 2 ≤ 100000; decide)) (by rw [Paired.length pr]; omega) fun tp H10 htp e10 h10 => ?_
        have h10a := e10 _ _ (e6 _ _ (e5 _ _ h4))
        show tRet (tVar 1) _ _ _
        refine s_ret (v := .ref a) (by one_place) fun H11 e11 => ?_
        refine q a (xs ++ [.ref tp]) H11 ha ((Ex.mut (((e4.trans e5).trans e6).trans e10) ha).trans e11) (e11 _ _ upd_same) ?_
        unfold partedF
        rw [← eL, if_pos hl]
        exact (((pr.mono ((e5.trans e6).trans e10)).upd h10a).snoc (sqt_upd h10a (SqT.of h10))).mono e11
      · have hl := of_decide_eq_false hb
        refine s_ret (v := .ref a) (by one_place) fun H11 e11 => ?_
        refine q a xs H11 ha (((e4.trans e5).trans e6).trans e11) (e11 _ _ (e6 _ _ (e5 _ _ h4))) ?_
        unfold partedF
        rw [← eL, if_neg hl]
        exact pr.mono ((e5.trans e6).trans e11)
end

/- _law_all: slots 0 _law_n, 1 _law_told, 2 _law_p, 3 _law_often, 4 _law_more, 5 _law_turn, 6 _law_d; calls _law_tried -/
abbrev s__law_all : Stmt := topS 12
theorem sc__law_all : FnScope ["_law_n", "_law_told", "_law_p", "_law_often", "_law_more", "_law_turn", "_law_d"] ["_law_n"] (defScope s__law_all) := ⟨rfl, rfl, rfl, by decide +kernel, rfl, by decide +kernel, by decide +kernel⟩

def spAll : Sp := fun vs H Q _ => ∃ n : Nat, vs = [.int (n : Nat)] ∧ 1 ≤ n ∧ n ≤ 1000000 ∧ RetL ((castI (divN n)).map V.int) H Q
theorem take_prod (rows : List (Nat × Nat)) : ∀ i, prodR (rows.take i) ∣ prodR rows := by
  induction rows with
  | nil =>
    intro i
    rw [List.take_nil]
    exact Nat.dvd_refl _
  | cons r rows ih =>
    intro i
    cases i with
    | zero => exact Nat.one_dvd _
    | succ i => exact Nat.mul_dvd_mul_left _ (ih i)
section
variable {P : Program} {w : World} {K : PySem.W.Frag} {mg : Str → Option Value} {base : Heap}
theorem cal_all (nb : Nb mg) (c__law_tried : Cal P w K mg base CX0 "_law_tried" 1 ["_law_n"] (spTried K)) (d : Dfn K mg "_law_all" ["_law_n"] s__law_all) : Cal P w K mg base CX0 "_law_all" 2 ["_law_n"] spAll := by
  refine d.cal sc__law_all (fun vs H Q E h => ?_) (fun f cdv A outer s H vs Q E hr h => ?_)
  · obtain ⟨a, rfl, _⟩ := h
    rfl
  · obtain ⟨n, rfl, n1, n2, q⟩ := h
    refine ⟨_, (pss_cons (ps_set (i := 1) sc__law_all.nd rfl (.inr rfl) (pe_lst (pa_cons pe_int pa_nil)))
      (pss_cons (ps_for PassesOwn.never rfl (pi_list (pe_cal c__law_tried (hr.mono (by first | decide | omega)) (by rfl) pass0 (pa_cons (pv 0) pa_nil))) (pg_tup (by rfl) (pgs_cons (pg_name (i := 2) sc__law_all.nd rfl (.inr rfl)) (pgs_cons (pg_name (i := 3) sc__law_all.nd rfl (.inl rfl)) pgs_nil))) (pss_cons (ps_set (i := 4) sc__law_all.nd rfl (.inl rfl) (pe_callTy call_list_of (by rfl) nb.list (by decide +kernel) (pa_cons (pv 1) pa_nil)))
      (pss_one (ps_for PassesOwn.never rfl (pi_range1 (by rfl) nb.range (pa_cons (pv 3) pa_nil)) (pg_name (i := 5) sc__law_all.nd rfl (.inl rfl)) (pss_cons (ps_setLc (i := 4) (own := [("_law_d", 6)]) (g := gName 6) (tt := tYes) (by rfl) sc__law_all.nd rfl rfl (sw_true rfl rfl rfl (by decide +kernel)) (pi_list (pv 4)) (blkOk_by (N := ["_law_n", "_law_told", "_law_p", "_law_often", "_law_more", "_law_turn", "_law_d"]) (sc := defScope s__law_all) (by decide +kernel)) (fun _ _ _ _ _ => (pg_name (i := 6) sc__law_all.nd rfl (Or.inl rfl))) (fun _ _ _ _ _ => pts_nil) (fun _ _ _ _ _ => (pe_op op_mulW (pv 2) (pv 6))))
      (pss_one (ps_set (i := 1) sc__law_all.nd rfl (.inr rfl) (pe_op op_cat (pv 1) (pe_lc (own := [("_law_d", 6)]) (g := gName 6) (tt := (tTest (tOp (rIn K true) (tVar 6) (tVar 1)))) (by rfl) sc__law_all.nd (pi_list (pv 4)) (blkOk_by (N := ["_law_n", "_law_told", "_law_p", "_law_often", "_law_more", "_law_turn", "_law_d"]) (sc := defScope s__law_all) (by decide +kernel)) (fun _ _ _ _ _ => (pg_name (i := 6) sc__law_all.nd rfl (Or.inl rfl))) (fun _ _ _ _ _ => pts_one (pt_cmpR op_notIn_seq (pv 6) (pv 1) (by rfl))) (fun _ _ _ _ _ => (pv 6)))))))))))
      (pss_one (ps_ret (pe_callB cr_sortedI (by rfl) nb.sorted (by decide +kernel) (pa_cons (pv 1) pa_nil)))))), ?_⟩
    obtain ⟨⟨pm, hr1, hr2⟩, hprod⟩ := parted_spec (n := n) (by omega) (by omega)
    -- what the first i rows make
    have hst : ∀ i, ((partedN n).take i).foldl allStep [1] = ((partedN n).take i).foldl allStep [1] ∧ (((partedN n).take i).foldl allStep [1]).Nodup ∧ ∀ x, x ∈ ((partedN n).take i).foldl allStep [1] ↔ x ∣ prodR ((partedN n).take i) := fun i => by
      have := all_spec ((partedN n).take i) [1] 1 (fun r hr => (hr1 r (List.mem_of_mem_take hr)).1) (hr2.sublist (List.take_sublist _ _)) (fun r hr z => by
        have := Nat.le_of_dvd (by decide) z
        have := (hr1 r (List.mem_of_mem_take hr)).1.1
        omega) (by simp) (fun x => by rw [List.mem_singleton, Nat.dvd_one])
      rw [Nat.one_mul] at this
      exact ⟨rfl, this.1, this.2⟩
    have hle : ∀ {l : List Nat} {m : Nat}, l.Nodup → (∀ x, x ∈ l ↔ x ∣ m) → m ∣ n → l.length ≤ 2000 ∧ ∀ x ∈ l, x ≤ 1000000 := fun {l m} h1 h2 h3 => by
      refine ⟨Nat.le_trans (len_le_of_sub h1 fun x hx => (div_mem (by omega) x).mpr (Nat.dvd_trans ((h2 x).mp hx) h3)) (div_len n2), fun x hx => ?_⟩
      have := Nat.le_of_dvd (by omega) (Nat.dvd_trans ((h2 x).mp hx) h3)
      omega
    refine q_asgL (xs := (castI [1]).map V.int) (el_lst (by one_place) (by decide)) fun u H1 nu e1 h1 => ?_
    refine q_forP (rows := partedF n) (ep_cal (by one_place) fun H1 e1 Q k E => ⟨(n : Nat), rfl, by omega, by omega, k⟩) (fun H2 i σ' H' => ∃ (v : Addr) (x1 x2 x3 x4 x5 : Option V), σ' = [some (.int (n : Nat)), some (.ref v), x1, x2, x3, x4, x5] ∧ Ex H2 H' ∧ H' v = some (.lst ((castI (((partedN n).take i).foldl allStep [1])).map V.int)))
      (fun H2 e2 => ⟨u, none, none, none, none, none, rfl, Ex.refl _, e2 _ _ h1⟩) (fun H2 i σ' H' hp => ?_) (fun H2 i r σ' H' e2 hr' hp => ?_) (fun H2 σ' H' e2 hp => ?_)
    · obtain ⟨_, _, _, _, _, _, _, h, _⟩ := hp
      exact h
    · obtain ⟨v, x1, x2, x3, x4, x5, rfl, e3, h3⟩ := hp
      rw [parted_cast, List.getElem?_map] at hr'
      obtain ⟨⟨p, k⟩, hpk, rfl⟩ := Option.map_eq_some_iff.mp hr'
      have hmem : (p, k) ∈ partedN n := List.mem_of_getElem? hpk
      obtain ⟨pp, k1, pl⟩ := hr1 _ hmem
      obtain ⟨_, s1, s2⟩ := hst i
      have htake : (partedN n).take (i + 1) = (partedN n).take i ++ [(p, k)] := by
        rw [List.take_add_one, hpk]
        rfl
      have hdiv : prodR ((partedN n).take i) * p ^ k ∣ n := by
        have := take_prod (partedN n) (i + 1)
        rw [htake, prodR_snoc, hprod] at this
        exact this
      have hnp : ¬ p ∣ prodR ((partedN n).take i) := prm_ndvd_prod pp (fun r hr => (hr1 r (List.mem_of_mem_take hr)).1) fun r hr e => by
        have hpw := hr2.sublist (List.take_sublist (i + 1) (partedN n))
        rw [htake, List.pairwise_append] at hpw
        have := hpw.2.2 r hr (p, k) (List.mem_singleton.mpr rfl)
        have e' : r.1 = p := e
        have this' : r.1 < p := this
        omega
      have hts := turns_spec pp hnp s1 s2
      generalize hT : ((partedN n).take i).foldl allStep [1] = T at *
      have hk64 : k ≤ 64 := Nat.le_of_not_lt fun z => by
        have h1 := Nat.le_of_dvd (by omega) (Nat.dvd_trans ⟨_, Nat.mul_comm _ _⟩ hdiv : p ^ k ∣ n)
        have h2 : 2 ^ 65 ≤ p ^ k := Nat.le_trans (Nat.pow_le_pow_right (by decide) z) (Nat.pow_le_pow_left pp.1 k)
        omega
      have hpn : p ≤ 1000000 := by
        have h1 := Nat.le_of_dvd (by omega) (Nat.dvd_trans ⟨_, Nat.mul_comm _ _⟩ hdiv : p ^ k ∣ n)
        have h2 : p ^ 1 ≤ p ^ k := Nat.pow_le_pow_right (by have := pp.1; omega) k1
        rw [Nat.pow_one] at h2
        omega
      have hall : ∀ t, t ≤ k → (turnsN p T t).1.length ≤ 2000 ∧ ∀ x ∈ (turnsN p T t).1, x ≤ 1000000 := fun t ht => hle (hts t).1 (hts t).2.1 (Nat.dvd_trans (Nat.mul_dvd_mul_left _ (Nat.pow_dvd_pow p ht)) hdiv)
      have hmore : ∀ t, t ≤ k → (turnsN p T t).2.length ≤ 2000 ∧ ∀ x ∈ (turnsN p T t).2, x ≤ 1000000 := fun t ht => by
        have h0 := hall 0 (Nat.zero_le _)
        rw [(hts t).2.2]
        refine ⟨by rw [List.length_map]; exact h0.1, fun x hx => ?_⟩
        obtain ⟨d, hd, rfl⟩ := List.mem_map.mp hx
        refine (hall t ht).2 _ (((hts t).2.1 _).mpr ?_)
        rw [Nat.mul_comm]
        exact Nat.mul_dvd_mul_right ((s2 d).mp hd) _
      refine q_asgL (xs := (castI T).map V.int) (el_list (ev_var rfl) (SqL.of h3)) fun m H4 nm e4 h4 => ?_
      refine s_forR1 (n := (k : Int)) (by one_place) (by omega) (fun t σ' H' => ∃ (v m : Addr) (x4 x5 : Option V), σ' = [some (.int (n : Nat)), some (.ref v), some (.int (p : Int)), some (.int (k : Int)), some (.ref m), x4, x5] ∧ Ex H2 H' ∧ H' v = some (.lst ((castI (turnsN p T t).1).map V.int)) ∧ H' m = some (.lst ((castI (turnsN p T t).2).map V.int)))
        (fun H5 e5 => ⟨v, m, _, _, rfl, (e3.trans e4).trans e5, e5 _ _ (e4 _ _ h3), e5 _ _ h4⟩) (fun t σ' H' ht hp => ?_) (fun σ' H' hp => ?_)
      · obtain ⟨v, m, y4, y5, rfl, e5, h5, h6⟩ := hp
        obtain ⟨b1, b2⟩ := hmore t (by omega)
        obtain ⟨b3, b4⟩ := hmore (t + 1) (by omega)
        obtain ⟨b5, b6⟩ := hall t (by omega)
        refine q_asgL (xs := (castI (turnsN p T (t + 1)).2).map V.int) (el_is (el_lcI (ns := castI (turnsN p T t).2) (fun _ => true) (fun x => .int ((p : Int) * x)) (ev_var rfl) (SqL.of h6) (by rw [castI_len]; omega) (fun _ => rfl) (fun r H1 e1 _ => et_yes) (fun r H1 e1 hr _ => ?_)) ?_) fun m2 H6 nm2 e6 h7 => ?_
        · obtain ⟨x, hx, rfl⟩ := castI_mem hr
          have := b2 x hx
          exact ev_mul (ev_var rfl) (ev_var rfl) (mulW (by omega) (by omega))
        · rw [filter_yes]
          show (castI (turnsN p T t).2).map _ = (castI ((turnsN p T t).2.map fun d => p * d)).map V.int
          unfold castI
          rw [List.map_map, List.map_map, List.map_map]
          refine List.map_congr_left fun x _ => ?_
          show V.int ((p : Int) * (x : Int)) = V.int ((p * x : Nat) : Int)
          rw [Int.natCast_mul]
        refine s_asgL (xs := (castI (turnsN p T (t + 1)).1).map V.int) (el_is (el_cat1 (ev_var rfl) (e6 _ _ h5) (el_lcI (ns := castI (turnsN p T (t + 1)).2) (fun x => !decide (x ∈ castI (turnsN p T t).1)) (fun x => .int x) (ev_var rfl) (SqL.of h7) (by rw [castI_len]; omega) (fun _ => rfl) (fun r H7 e7 hr => et_test (ev_notIn (ev_var rfl) (ev_var rfl) (SqL.of (e7 _ _ (e6 _ _ h5))))) (fun r H7 e7 hr hf => ev_var rfl)) ?_) ?_) fun v2 H7 nv2 e7 h8 => ⟨v2, m2, _, _, rfl, (e5.trans e6).trans e7, h8, e7 _ _ h7⟩
        · rw [List.length_map, List.length_map]
          have := List.length_filter_le (fun x => !decide (x ∈ castI (turnsN p T t).1)) (castI (turnsN p T (t + 1)).2)
          rw [castI_len] at this ⊢
          omega
        · rw [castI_filter (fun d => !decide (d ∈ (turnsN p T t).1)) _ fun d => by
            rw [Bool.eq_iff_iff, Bool.not_eq_true', Bool.not_eq_true', decide_eq_false_iff_not, decide_eq_false_iff_not, castI_in]]
          show _ = (castI ((turnsN p T t).1 ++ ((turnsN p T t).2.map fun d => p * d).filter fun d => !decide (d ∈ (turnsN p T t).1))).map V.int
          unfold castI
          rw [List.map_append, List.map_append]
          rfl
      · obtain ⟨v, m, y4, y5, rfl, e5, h5, h6⟩ := hp
        refine ⟨v, _, _, _, _, _, rfl, e5, ?_⟩
        rw [h5, htake, List.foldl_append, hT, Int.toNat_natCast]
        rfl
    · obtain ⟨v, x1, x2, x3, x4, x5, rfl, e3, h3⟩ := hp
      have hlen : (partedF n).length = (partedN n).length := by rw [parted_cast, List.length_map]
      rw [hlen, List.take_length] at h3
      exact s_retL (xs := (castI (divN n)).map V.int) (el_sorted (ev_var rfl) (SqL.of h3) fun ns' hp hs => sorted_all (by omega) (by omega) hp hs) fun p H4 np e4 hp => q.go ((e1.trans e2).trans e3) np e4 hp
end

/- _law_number: slots 0 _law_cell, 1 _law_ways, 2 _law_pick, 3 _law_wide, 4 _law_made, 5 _law_k, 6 _law_p, 7 _law_turn; calls _law_mix -/
abbrev s__law_number : Stmt := topS 10
theorem sc__law_number : FnScope ["_law_cell", "_law_ways", "_law_pick", "_law_wide", "_law_made", "_law_k", "_law_p", "_law_turn"] ["_law_cell", "_law_ways"] (defScope s__law_number) := ⟨rfl, rfl, rfl, by decide +kernel, rfl, by decide +kernel, by decide +kernel⟩

def madeN (c : Int) : Nat → Int
  | 0 => 1
  | k + 1 => madeN c k * ([2, 3, 5, 7] : List Int).getD k 0 ^ (mix c (1 + (k : Int)) % ([6, 4, 3, 2] : List Int).getD k 0).toNat
theorem pow_bd {b : Int} {n m : Nat} (hb : 1 ≤ b) (h : n ≤ m) : 1 ≤ b ^ n ∧ b ^ n ≤ b ^ m := by
  obtain ⟨d, rfl⟩ : ∃ d : Nat, b = (d : Int) := ⟨b.toNat, by omega⟩
  have h1 : 0 < d ^ n := Nat.pow_pos (by omega)
  have h2 : d ^ n ≤ d ^ m := Nat.pow_le_pow_right (by omega) h
  have e1 : ((d ^ n : Nat) : Int) = (d : Int) ^ n := Int.natCast_pow d n
  have e2 : ((d ^ m : Nat) : Int) = (d : Int) ^ m := Int.natCast_pow d m
  rw [← e1, ← e2]
  omega
theorem mul_bd {a b x y : Int} (h1 : 1 ≤ a) (h2 : a ≤ x) (h3 : 1 ≤ b) (h4 : b ≤ y) : 1 ≤ a * b ∧ a * b ≤ x * y := by
  have e1 := Int.mul_le_mul h1 h3 (by decide) (by omega)
  have e2 := Int.mul_le_mul h2 h4 (by omega) (by omega)
  omega
theorem made1 (c : Int) : 1 ≤ madeN c 1 ∧ madeN c 1 ≤ 32 := by
  have h := Int.emod_lt_of_pos (mix c (1 + ((0 : Nat) : Int))) (show (0 : Int) < 6 by decide)
  exact mul_bd (by decide) (Int.le_refl 1) (pow_bd (b := 2) (m := 5) (by decide) (show (mix c (1 + ((0 : Nat) : Int)) % 6).toNat ≤ 5 by omega)).1 (pow_bd (b := 2) (m := 5) (by decide) (show (mix c (1 + ((0 : Nat) : Int)) % 6).toNat ≤ 5 by omega)).2
theorem made2 (c : Int) : 1 ≤ madeN c 2 ∧ madeN c 2 ≤ 32 * 27 := by
  have h := Int.emod_lt_of_pos (mix c (1 + ((1 : Nat) : Int))) (show (0 : Int) < 4 by decide)
  exact mul_bd (made1 c).1 (made1 c).2 (pow_bd (b := 3) (m := 3) (by decide) (show (mix c (1 + ((1 : Nat) : Int)) % 4).toNat ≤ 3 by omega)).1 (pow_bd (b := 3) (m := 3) (by decide) (show (mix c (1 + ((1 : Nat) : Int)) % 4).toNat ≤ 3 by omega)).2
theorem made3 (c : Int) : 1 ≤ madeN c 3 ∧ madeN c 3 ≤ 32 * 27 * 25 := by
  have h := Int.emod_lt_of_pos (mix c (1 + ((2 : Nat) : Int))) (show (0 : Int) < 3 by decide)
  exact mul_bd (made2 c).1 (made2 c).2 (pow_bd (b := 5) (m := 2) (by decide) (show (mix c (1 + ((2 : Nat) : Int)) % 3).toNat ≤ 2 by omega)).1 (pow_bd (b := 5) (m := 2) (by decide) (show (mix c (1 + ((2 : Nat) : Int)) % 3).toNat ≤ 2 by omega)).2
theorem made4 (c : Int) : 1 ≤ madeN c 4 ∧ madeN c 4 ≤ 32 * 27 * 25 * 7 := by
  have h := Int.emod_lt_of_pos (mix c (1 + ((3 : Nat) : Int))) (show (0 : Int) < 2 by decide)
  exact mul_bd (made3 c).1 (made3 c).2 (pow_bd (b := 7) (m := 1) (by decide) (show (mix c (1 + ((3 : Nat) : Int)) % 2).toNat ≤ 1 by omega)).1 (pow_bd (b := 7) (m := 1) (by decide) (show (mix c (1 + ((3 : Nat) : Int)) % 2).toNat ≤ 1 by omega)).2
def wideN (c : Int) : Int := mix c 0 / 4 + 250000 * (mix c 5 % 4)
def lawN (c y : Int) : Int := ([1 + mix c 0 / 4 % 60, 1 + mix c 0 / 4 % 1000, madeN c 4, 1 + wideN c % 1000000] : List Int).getD (mix c 0 % 4 % y).toNat 0
theorem getD_bd {l : List Int} {lo hi : Int} {i : Nat} (h : ∀ x ∈ l, lo ≤ x ∧ x ≤ hi) (hi' : i < l.length) : lo ≤ l.getD i 0 ∧ l.getD i 0 ≤ hi := by
  rw [List.getD_eq_getElem?_getD, List.getElem?_eq_getElem hi']
  exact h _ (List.getElem_mem hi')
theorem lawN_bd (c y : Int) (h3 : 3 ≤ y) (h4 : y ≤ 4) : 1 ≤ lawN c y ∧ lawN c y ≤ 1000000 := by
  unfold lawN
  have m4 := made4 c
  have hy := Int.emod_lt_of_pos (mix c 0 % 4) (show 0 < y by omega)
  refine getD_bd ?_ (by simp; omega)
  intro x hx
  simp only [List.mem_cons, List.not_mem_nil, or_false] at hx
  omega
def spNumber : Sp := fun vs H Q _ => ∃ c y : Int, vs = [.int c, .int y] ∧ 3 ≤ y ∧ y ≤ 4 ∧ RetV (.int (lawN c y)) H Q
section
variable {P : Program} {w : World} {K : PySem.W.Frag} {mg : Str → Option Value} {base : Heap}
theorem cal_number (nb : Nb mg) (c__law_mix : Cal P w K mg base CX0 "_law_mix" 1 ["_law_cell", "_law_k"] spMix) (d : Dfn K mg "_law_number" ["_law_cell", "_law_ways"] s__law_number) : Cal P w K mg base CX0 "_law_number" 2 ["_law_cell", "_law_ways"] spNumber := by
  refine d.cal sc__law_number (fun vs H Q E h => ?_) (fun f cdv A outer s H vs Q E hr h => ?_)
  · obtain ⟨a, b, rfl, _⟩ := h
    rfl
  · obtain ⟨c, y, rfl, y3, y4, q⟩ := h
    refine ⟨_, (pss_cons (ps_set (i := 2) sc__law_number.nd rfl (.inl rfl) (pe_cal c__law_mix (hr.mono (by first | decide | omega)) (by rfl) pass0 (pa_cons (pv 0) (pa_cons pe_int pa_nil))))
      (pss_cons (ps_set (i := 3) sc__law_number.nd rfl (.inl rfl) (pe_op op_add (pe_op op_fdivW (pv 2) pe_int) (pe_op op_mulW pe_int (pe_op op_mod (pe_cal c__law_mix (hr.mono (by first | decide | omega)) (by rfl) pass0 (pa_cons (pv 0) (pa_cons pe_int pa_nil))) pe_int))))
      (pss_cons (ps_set (i := 4) sc__law_number.nd rfl (.inl rfl) pe_int)
      (pss_cons (ps_for PassesOwn.never rfl (pi_enum (by rfl) nb.enumerate (pa_cons (pe_lst (pa_cons pe_int (pa_cons pe_int (pa_cons pe_int (pa_cons pe_int pa_nil))))) pa_nil)) (pg_tup (by rfl) (pgs_cons (pg_name (i := 5) sc__law_number.nd rfl (.inl rfl)) (pgs_cons (pg_name (i := 6) sc__law_number.nd rfl (.inl rfl)) pgs_nil))) (pss_one (ps_for PassesOwn.never rfl (pi_range1 (by rfl) nb.range (pa_cons (pe_op op_mod (pe_cal c__law_mix (hr.mono (by first | decide | omega)) (by rfl) pass0 (pa_cons (pv 0) (pa_cons (pe_op op_add pe_int (pv 5)) pa_nil))) (pe_ix ix_list (pe_lst (pa_cons pe_int (pa_cons pe_int (pa_cons pe_int (pa_cons pe_int pa_nil))))) (pv 5) (fun _ _ => rfl))) pa_nil)) (pg_name (i := 7) sc__law_number.nd rfl (.inl rfl)) (pss_one (ps_set (i := 4) sc__law_number.nd rfl (.inl rfl) (pe_op op_mulW (pv 4) (pv 6)))))))
      (pss_one (ps_ret (pe_ix ix_list (pe_lst (pa_cons (pe_op op_add pe_int (pe_op op_mod (pe_op op_fdivW (pv 2) pe_int) pe_int)) (pa_cons (pe_op op_add pe_int (pe_op op_mod (pe_op op_fdivW (pv 2) pe_int) pe_int)) (pa_cons (pv 4) (pa_cons (pe_op op_add pe_int (pe_op op_mod (pv 3) pe_int)) pa_nil))))) (pe_op op_mod (pe_op op_mod (pv 2) pe_int) (pv 1)) (fun _ _ => rfl)))))))), ?_⟩
    have m0 := mix_nn c 0
    have hy0 := Int.emod_nonneg (mix c 0 % 4) (show y ≠ 0 by omega)
    have hy1 := Int.emod_lt_of_pos (mix c 0 % 4) (show 0 < y by omega)
    refine q_asg (v := .int (mix c 0)) (ev_cal (by one_place) fun H1 e1 Q k E => ⟨c, 0, rfl, by decide, by decide, k⟩) fun H1 e1 => ?_
    refine q_asg (v := .int (wideN c)) (ev_add (by one_place) (ev_mul ev_c (ev_mod (ev_cal (vs := [.int c, .int 5]) (by one_place) fun H1 e1 Q k E => ⟨c, 5, rfl, by decide, by decide, k⟩) ev_c (by decide)) (mulW (by omega) (by omega)))) fun H2 e2 => ?_
    refine q_asg (v := .int 1) (by one_place) fun H3 e3 => ?_
    refine q_forEN (xs := ([2, 3, 5, 7] : List Int).map V.int) (el_lst (by one_place) (by decide)) (fun a i σ' H' => ∃ x1 x2 x3, σ' = [some (.int c), some (.int y), some (.int (mix c 0)), some (.int (wideN c)), some (.int (madeN c i)), x1, x2, x3] ∧ Ex H H' ∧ H' a = some (.lst (([2, 3, 5, 7] : List Int).map V.int)))
      (fun a H4 na e4 h4 => ⟨none, none, none, rfl, ((e1.trans e2).trans e3).trans e4, h4⟩) (fun a i σ' H' _ hp => ?_) (fun a i x σ' H' hx hp H5 e5 => ?_) (fun a σ' H' hp => ?_)
    · obtain ⟨_, _, _, _, _, h4⟩ := hp
      exact SqL.of h4
    · obtain ⟨x1, x2, x3, rfl, e6, h6⟩ := hp
      obtain ⟨p, hp, rfl⟩ := map_get hx
      have hi : i < 4 := (List.getElem?_eq_some_iff.mp hp).1
      have hp2 : ([2, 3, 5, 7] : List Int).getD i 0 = p := by rw [List.getD_eq_getElem?_getD, hp]; rfl
      have hc : 1 ≤ ([6, 4, 3, 2] : List Int).getD i 0 ∧ ([6, 4, 3, 2] : List Int).getD i 0 ≤ 6 := getD_bd (by decide) hi
      have hpb : 1 ≤ p ∧ p ≤ 7 := by
        rw [← hp2]
        exact getD_bd (by decide) hi
      have hmi : 1 ≤ madeN c i ∧ madeN c i ≤ 1000000 := by
        rcases i with _ | _ | _ | _ | i
        · exact ⟨show (1 : Int) ≤ 1 by decide, show (1 : Int) ≤ 1000000 by decide⟩
        · exact ⟨(made1 c).1, Int.le_trans (made1 c).2 (by decide)⟩
        · exact ⟨(made2 c).1, Int.le_trans (made2 c).2 (by decide)⟩
        · exact ⟨(made3 c).1, Int.le_trans (made3 c).2 (by decide)⟩
        · omega
      have g0 := Int.emod_nonneg (mix c (1 + (i : Int))) (show ([6, 4, 3, 2] : List Int).getD i 0 ≠ 0 by omega)
      have g1 := Int.emod_lt_of_pos (mix c (1 + (i : Int))) (show 0 < ([6, 4, 3, 2] : List Int).getD i 0 by omega)
      have hmade : madeN c (i + 1) = madeN c i * p ^ (mix c (1 + (i : Int)) % ([6, 4, 3, 2] : List Int).getD i 0).toNat := by rw [← hp2]; rfl
      refine s_forR1 (n := mix c (1 + (i : Int)) % ([6, 4, 3, 2] : List Int).getD i 0) (ea_cons (ev_mod (ev_cal (vs := [.int c, .int (1 + (i : Int))]) (by one_place) fun H1 e1 Q k E => ⟨c, 1 + (i : Int), rfl, by omega, by omega, k⟩) (ev_is (ev_ixN (ns := [6, 4, 3, 2]) (i := (i : Int)) (el_lst (by one_place) (by decide)) (fun _ _ => by one_place) (by omega) (by simp; omega)) (by rw [Int.toNat_natCast])) (by omega)) ea_nil) (by omega)
        (fun t σ' H' => ∃ x3, σ' = [some (.int c), some (.int y), some (.int (mix c 0)), some (.int (wideN c)), some (.int (madeN c i * p ^ t)), some (.int (i : Nat)), some (.int p), x3] ∧ Ex H5 H')
        (fun H7 e7 => ⟨_, by rw [Int.pow_zero, Int.mul_one]; rfl, e7⟩) (fun t σ' H' ht hp => ?_) (fun σ' H' hp => ?_)
      · obtain ⟨x3', rfl, e7⟩ := hp
        have hb := pow_bd (b := p) (n := t) (m := 6) hpb.1 (by omega)
        have hb2 := mul_bd hmi.1 hmi.2 hb.1 hb.2
        have hb3 : p ^ 6 ≤ 7 ^ 6 := by
          obtain ⟨d, rfl⟩ : ∃ d : Nat, p = (d : Int) := ⟨p.toNat, by omega⟩
          have h2 : d ^ 6 ≤ 7 ^ 6 := Nat.pow_le_pow_left (by omega) 6
          have e1 : ((d ^ 6 : Nat) : Int) = (d : Int) ^ 6 := Int.natCast_pow d 6
          rw [← e1]
          omega
        refine s_asg (v := .int (madeN c i * p ^ (t + 1))) (ev_is (ev_mul (ev_var rfl) (ev_var rfl) (mulW (by omega) (by omega))) (by rw [Int.pow_succ, Int.mul_assoc])) fun H8 e8 => ⟨_, rfl, e7.trans e8⟩
      · obtain ⟨x3', rfl, e7⟩ := hp
        exact ⟨_, _, _, by rw [hmade], (e6.trans e5).trans e7, e7 _ _ (e5 _ _ h6)⟩
    · obtain ⟨x1, x2, x3, rfl, e6, h6⟩ := hp
      exact s_ret (v := .int (lawN c y)) (ev_ixN (ns := [1 + mix c 0 / 4 % 60, 1 + mix c 0 / 4 % 1000, madeN c 4, 1 + wideN c % 1000000]) (el_lst (by one_place) (by show 4 ≤ 100000; decide)) (fun _ _ => by one_place) (by omega) (by simp; omega)) fun H7 e7 => q _ (e6.trans e7)
end

/- law: slots 0 _law_script, 1 _law_k, 2 _law_cell, 3 _law_n, 4 _law_got, 5 _law_rows, 6 _law_row; calls _law_number, divisors, _law_all, _law_whole, parted, _law_tried -/
abbrev s_law : Stmt := topS 13
theorem sc_law : FnScope ["_law_script", "_law_k", "_law_cell", "_law_n", "_law_got", "_law_rows", "_law_row"] ["_law_script"] (defScope s_law) := ⟨rfl, rfl, rfl, by decide +kernel, rfl, by decide +kernel, by decide +kernel⟩

def spLaw (K : PySem.W.Frag) : Sp := fun vs H Q _ => ∃ (a : Addr) (ns : List Int), vs = [.ref a] ∧ SqL K H a (ns.map V.int) ∧ ns.length ≤ 63 ∧ ∀ H', Q (.bl true) H'
theorem parted_len {n : Int} (h1 : 1 ≤ n) (h2 : n ≤ 1000000) : (partedF n).length ≤ 1100 := by
  obtain ⟨m, rfl⟩ : ∃ m : Nat, n = (m : Int) := ⟨n.toNat, by omega⟩
  obtain ⟨⟨p, hr1, hr2⟩, hprod⟩ := parted_spec (n := m) (by omega) (by omega)
  rw [parted_cast, List.length_map]
  have key : ∀ rows : List (Nat × Nat), (∀ r ∈ rows, Prm r.1 ∧ 1 ≤ r.2 ∧ r.1 < p) → rows.length < prodR rows := fun rows => by
    induction rows with
    | nil =>
      intro _
      exact Nat.zero_lt_one
    | cons r rows ih =>
      intro h
      have i1 := ih fun q hq => h q (List.mem_cons_of_mem _ hq)
      obtain ⟨a, b, _⟩ := h r (List.mem_cons_self ..)
      have : 2 ≤ r.1 ^ r.2 := Nat.le_trans a.1 (by
        have := Nat.pow_le_pow_right (n := r.1) (by have := a.1; omega) b
        rwa [Nat.pow_one] at this)
      show rows.length + 1 < r.1 ^ r.2 * prodR rows
      have := Nat.mul_le_mul_right (prodR rows) this
      omega
  have key2 : ∀ rows : List (Nat × Nat), (∀ r ∈ rows, Prm r.1 ∧ 1 ≤ r.2 ∧ r.1 < p) → 2 ^ rows.length ≤ prodR rows := fun rows => by
    induction rows with
    | nil =>
      intro _
      exact Nat.le_refl 1
    | cons r rows ih =>
      intro h
      have i1 := ih fun q hq => h q (List.mem_cons_of_mem _ hq)
      obtain ⟨a, b, _⟩ := h r (List.mem_cons_self ..)
      have : 2 ≤ r.1 ^ r.2 := Nat.le_trans a.1 (by
        have := Nat.pow_le_pow_right (n := r.1) (by have := a.1; omega) b
        rwa [Nat.pow_one] at this)
      show 2 ^ (rows.length + 1) ≤ r.1 ^ r.2 * prodR rows
      rw [Nat.pow_succ, Nat.mul_comm]
      exact Nat.mul_le_mul this i1
  have := key2 _ hr1
  rw [hprod] at this
  refine Nat.le_of_not_lt fun z => ?_
  have h3 : 2 ^ 30 ≤ 2 ^ (partedN m).length := Nat.pow_le_pow_right (by decide) (by omega)
  omega
section
variable {P : Program} {w : World} {K : PySem.W.Frag} {mg : Str → Option Value} {base : Heap}
theorem law_ok {f : Addr} {fd : FuncData} (F : Fun K "law" "law" s_law f fd) (nb : Nb mg) (nb_isqrt : mg "isqrt" = some (.builtin "math.isqrt")) (d_divisors : Dfn K mg "divisors" ["n"] s_divisors) (d_parted : Dfn K mg "parted" ["n"] s_parted) (d__law_mix : Dfn K mg "_law_mix" ["_law_cell", "_law_k"] s__law_mix) (d__law_whole : Dfn K mg "_law_whole" ["_law_got"] s__law_whole) (d__law_number : Dfn K mg "_law_number" ["_law_cell", "_law_ways"] s__law_number) (d__law_tried : Dfn K mg "_law_tried" ["_law_n"] s__law_tried) (d__law_all : Dfn K mg "_law_all" ["_law_n"] s__law_all) :
    FnOk P w K mg base CX0 3 f fd ["_law_script"] (spLaw K) := by
  have c_divisors : Cal P w K mg base CX0 "divisors" 1 ["n"] spDivs := cal_divisors nb nb_isqrt d_divisors
  have c_parted : Cal P w K mg base CX0 "parted" 1 ["n"] (spParted K) := cal_parted nb d_parted
  have c__law_mix : Cal P w K mg base CX0 "_law_mix" 1 ["_law_cell", "_law_k"] spMix := cal_mix nb d__law_mix
  have c__law_whole : Cal P w K mg base CX0 "_law_whole" 1 ["_law_got"] spWhole := cal_whole nb d__law_whole
  have c__law_number : Cal P w K mg base CX0 "_law_number" 2 ["_law_cell", "_law_ways"] spNumber := cal_number nb c__law_mix d__law_number
  have c__law_tried : Cal P w K mg base CX0 "_law_tried" 1 ["_law_n"] (spTried K) := cal_tried nb d__law_tried
  have c__law_all : Cal P w K mg base CX0 "_law_all" 2 ["_law_n"] spAll := cal_all nb c__law_tried d__law_all
  refine F.ok sc_law (fun vs H Q E h => ?_) (fun cdv A outer s H vs Q E hr h => ?_)
  · obtain ⟨a, ns, rfl, _⟩ := h
    rfl
  · obtain ⟨a, ns, rfl, hS, hlen, q⟩ := h
    refine ⟨_, (pss_cons (ps_for PassesOwn.never rfl (pi_enum (by rfl) nb.enumerate (pa_cons (pe_op op_cat (pe_slice sl_list (pv 0) po_none (po_some pe_int)) (pe_lst (pa_cons pe_int pa_nil))) pa_nil)) (pg_tup (by rfl) (pgs_cons (pg_name (i := 1) sc_law.nd rfl (.inl rfl)) (pgs_cons (pg_name (i := 2) sc_law.nd rfl (.inl rfl)) pgs_nil))) (pss_cons (ps_set (i := 3) sc_law.nd rfl (.inl rfl) (pe_cal c__law_number (hr.mono (by first | decide | omega)) (by rfl) pass0 (pa_cons (pv 2) (pa_cons (pe_op op_add pe_int (pe_callTy call_int1 (by rfl) nb.int (by decide +kernel) (pa_cons (pe_cmpR op_lt (pv 1) pe_int (nomark _)) pa_nil))) pa_nil))))
      (pss_cons (ps_expr (pe_bm PySem.F.plainAttrs_list PySem.F.slot_list_append PySem.F.type_list_append mt_append (pe_cal c_divisors (hr.mono (by first | decide | omega)) (by rfl) pass0 (pa_cons (pv 3) pa_nil)) (pa_cons pe_non pa_nil)))
      (pss_cons (ps_set (i := 4) sc_law.nd rfl (.inl rfl) (pe_cal c_divisors (hr.mono (by first | decide | omega)) (by rfl) pass0 (pa_cons (pv 3) pa_nil)))
      (pss_cons (ps_if (PW.pt (pw_or (pt_not (pt_val (pe_cal c__law_whole (hr.mono (by first | decide | omega)) (by rfl) pass0 (pa_cons (pv 4) pa_nil)))) (pw_or1 (pt_cmpR (op_neD hr.units) (pv 4) (pe_cal c__law_all (hr.mono (by first | decide | omega)) (by rfl) pass0 (pa_cons (pv 3) pa_nil)) (nomark _))))) (pss_one (ps_ret pe_bl)) pss_nil)
      (pss_cons (ps_expr (pe_bm PySem.F.plainAttrs_list PySem.F.slot_list_append PySem.F.type_list_append mt_append (pe_cal c_parted (hr.mono (by first | decide | omega)) (by rfl) pass0 (pa_cons (pv 3) pa_nil)) (pa_cons pe_non pa_nil)))
      (pss_cons (ps_set (i := 5) sc_law.nd rfl (.inl rfl) (pe_cal c_parted (hr.mono (by first | decide | omega)) (by rfl) pass0 (pa_cons (pv 3) pa_nil)))
      (pss_cons (ps_if (PW.pt (pw_or (pt_not (pt_val (pe_callB call_isi (by rfl) nb.isinstance (by decide +kernel) (pa_cons (pv 5) (pa_cons (pe_bltn (v := .ty "list") (by rfl) nb.list (by decide +kernel) rfl) pa_nil))))) (pw_or1 (pt_cmpR (op_neD hr.units) (pv 5) (pe_cal c__law_tried (hr.mono (by first | decide | omega)) (by rfl) pass0 (pa_cons (pv 3) pa_nil)) (nomark _))))) (pss_one (ps_ret pe_bl)) pss_nil)
      (pss_one (ps_for PassesOwn.never rfl (pi_list (pv 5)) (pg_name (i := 6) sc_law.nd rfl (.inl rfl)) (pss_one (ps_if (PW.pt (pw_or (pt_not (pt_val (pe_callB call_isi (by rfl) nb.isinstance (by decide +kernel) (pa_cons (pv 6) (pa_cons (pe_bltn (v := .ty "tuple") (by rfl) nb.tuple (by decide +kernel) rfl) pa_nil))))) (pw_or1 (pt_not (pt_val (pe_cal c__law_whole (hr.mono (by first | decide | omega)) (by rfl) pass0 (pa_cons (pe_callTy call_list_of (by rfl) nb.list (by decide +kernel) (pa_cons (pv 6) pa_nil)) pa_nil))))))) (pss_one (ps_ret pe_bl)) pss_nil))))))))))))
      (pss_one (ps_ret pe_bl))), ?_⟩
    have hz : (cutV (ns.map V.int) none (some 40) ++ [V.int 0]).length ≤ 64 := by
      have := cutV_length (ns.map V.int) none (some 40)
      rw [List.length_map] at this
      rw [List.length_append, List.length_singleton]
      omega
    refine q_forEN (xs := cutV (ns.map V.int) none (some 40) ++ [V.int 0]) (el_cat (el_sl (by one_place) eo_none (eo_some ev_c) hS) (el_lst (by one_place) (by decide)) (by rw [List.length_append] at hz; omega))
      (fun p i σ' H' => ∃ x1 x2 x3 x4 x5 x6, σ' = [some (.ref a), x1, x2, x3, x4, x5, x6] ∧ H' p = some (.lst (cutV (ns.map V.int) none (some 40) ++ [V.int 0])))
      (fun p H1 np e1 hp => ⟨none, none, none, none, none, none, rfl, hp⟩) (fun p i σ' H' _ hp => ?_) (fun p i x σ' H' hx hp H0 e0 => ?_) (fun p σ' H' hp => ?_)
    · obtain ⟨_, _, _, _, _, _, _, hp⟩ := hp
      exact SqL.of hp
    · obtain ⟨_, _, x3, x4, x5, x6, rfl, hp⟩ := hp
      obtain ⟨c, rfl⟩ : ∃ c, x = V.int c := by
        rcases List.mem_append.mp (List.mem_of_getElem? hx) with h | h
        · exact int_of_mem (cut_mem h)
        · exact ⟨0, List.mem_singleton.mp h⟩
      have hy : (3 : Int) ≤ 3 + (if decide ((i : Int) < 6) then 1 else 0) ∧ 3 + (if decide ((i : Int) < 6) then (1 : Int) else 0) ≤ 4 := by
        split <;> omega
      obtain ⟨n1, n2⟩ := lawN_bd c _ hy.1 hy.2
      refine q_asg (v := .int (lawN c (3 + (if decide ((i : Int) < 6) then 1 else 0)))) (ev_cal (vs := [.int c, .int (3 + (if decide ((i : Int) < 6) then 1 else 0))]) (ea_cons (ev_var rfl) (ea_cons (ev_add ev_c (ev_int1b (ev_lt (ev_var rfl) ev_c))) ea_nil)) fun H1 e1 Q k E => ⟨c, _, rfl, hy.1, hy.2, k⟩) fun H1 e1 => ?_
      generalize lawN c (3 + (if decide ((i : Int) < 6) then 1 else 0)) = n' at n1 n2
      obtain ⟨n, rfl⟩ : ∃ n : Nat, n' = (n : Int) := ⟨n'.toNat, by omega⟩
      have hD : ∀ {σ : L2.St} {H2 : Hp} {E : XK}, σ[3]? = some (some (.int (n : Nat))) → EvL (tCall spDivs [] E (tCons (tVar 3) tNil)) σ H2 ((castI (divN n)).map V.int) := fun hs => el_cal (ea_cons (ev_var hs) ea_nil) fun H1 e1 Q k E => ⟨n, rfl, by omega, by omega, k⟩
      have hP : ∀ {σ : L2.St} {H2 : Hp} {E : XK}, σ[3]? = some (some (.int (n : Nat))) → EvP K (tCall (spParted K) [] E (tCons (tVar 3) tNil)) σ H2 (partedF n) := fun hs => ep_cal (ea_cons (ev_var hs) ea_nil) fun H1 e1 Q k E => ⟨(n : Nat), rfl, by omega, by omega, k⟩
      have dl : (castI (divN n)).length ≤ 2000 := by
        rw [castI_len]
        exact div_len (by omega)
      have pl := parted_len n1 n2
      refine q_appN (xs := (castI (divN n)).map V.int) (v := .non) (hD rfl) (fun _ _ => ev_c) (by rw [List.length_map]; omega) fun H2 e2 => ?_
      refine q_asgL (xs := (castI (divN n)).map V.int) (hD rfl) fun g H3 ng e3 h3 => ?_
      refine q_when (b := false) (et_is (et_or (et_not (et_B (ev_cal (vs := [.ref g]) (z := .bl true) (by one_place) fun H1 e1 Q k E => ⟨g, _, rfl, e1 _ _ h3, k⟩))) fun _ => et_test (ev_opL (xs := (castI (divN n)).map V.int) (ev_var rfl) (el_cal (vs := [.int (n : Nat)]) (by one_place) fun H1 e1 Q k E => ⟨n, rfl, by omega, by omega, k⟩) fun p H5 hp e5 => rv_neI (SqL.of (e5 _ _ h3)) (SqL.of hp))) (by rw [decide_eq_true rfl]; rfl)) (fun hb => nomatch hb) (fun _ H4 e4 => ?_)
      refine q_appNP (rows := partedF n) (v := .non) (hP rfl) (fun _ _ => ev_c) (by omega) fun H5 e5 => ?_
      refine q_asgP (rows := partedF n) (hP rfl) fun r xs H6 nr e6 h6 pr => ?_
      refine q_when (b := false) (et_is (et_or (et_not (et_B (ev_isi (b := true) (by one_place) (tx_lst h6) (by decide +kernel)))) fun _ => et_test (ev_opLP (rows := partedF n) (ev_var rfl) (ep_cal (vs := [.int (n : Nat)]) (by one_place) fun H1 e1 Q k E => ⟨(n : Nat), rfl, by omega, by omega, k⟩) fun p ys H7 hp pr2 e7 => rv_neR (SqL.of (e7 _ _ h6)) (pr.mono e7) (SqL.of hp) pr2)) (by rw [decide_eq_true rfl]; rfl)) (fun hb => nomatch hb) (fun _ H7 e7 => ?_)
      have e07 : Ex H' H7 := ((((((e0.trans e1).trans e2).trans e3).trans e4).trans e5).trans e6).trans e7
      refine s_forLn (xs := xs) (by one_place) (SqL.of (e7 _ _ h6)) (fun j σ' H'' => ∃ x6, σ' = [some (.ref a), some (.int (i : Nat)), some (.int c), some (.int (n : Nat)), some (.ref g), some (.ref r), x6] ∧ Ex H7 H'') (fun H8 e8 => ⟨_, rfl, e8⟩) (fun j σ' H'' _ hW => ?_) (fun j x σ' H'' hx hW => ?_) (fun σ' H'' hW => ?_)
      · obtain ⟨_, _, e8⟩ := hW
        exact SqL.of (e8 _ _ (e7 _ _ h6))
      · obtain ⟨_, rfl, e8⟩ := hW
        obtain ⟨t, u, hr', rfl, hu⟩ := prs_get (pr.mono (e7.trans e8)) hx
        exact s_when (b := false) (et_is (et_or (et_not (et_B (ev_isi (b := true) (by one_place) (tx_sqt hu) (by decide +kernel)))) fun _ => et_not (et_B (ev_calL1 (xs := [t.1, t.2].map V.int) (z := .bl true) (el_listT (ev_var rfl) hu) fun p H9 e9 hp Q k E => ⟨p, [t.1, t.2], rfl, hp, k⟩))) rfl) (fun hb => nomatch hb) (fun _ H9 e9 => ⟨_, rfl, e8.trans e9⟩)
      · obtain ⟨_, rfl, e8⟩ := hW
        exact ⟨_, _, _, _, _, _, rfl, e8 _ _ (e07 _ _ hp)⟩
    · obtain ⟨_, _, _, _, _, _, rfl, hp⟩ := hp
      exact s_ret (v := .bl true) ev_c fun H1 e1 => q _
end
theorem all_mk {l : PySem.W.OpenLaw} {w : World} {K : PySem.W.Frag} {h : Heap} {mg : Str → Option Value} {fa : Addr} (X : K.In h) (G : h.Ns mainGlobals mg) (hfa : mg "law" = some (.ref fa))
    {f0 f1 f2 f3 f4 f5 f6 f7 : Addr} {od0 an0 od1 an1 od2 an2 od3 an3 od4 an4 od5 an5 od6 an6 od7 an7 : Option Addr} {sl0 sl1 sl2 sl3 sl4 sl5 sl6 sl7 : Array (Option Value)} {oc0 kV0 dc0 pm0 cd0 ct0 oc1 kV1 dc1 pm1 cd1 ct1 oc2 kV2 dc2 pm2 cd2 ct2 oc3 kV3 dc3 pm3 cd3 ct3 oc4 kV4 dc4 pm4 cd4 ct4 oc5 kV5 dc5 pm5 cd5 ct5 oc6 kV6 dc6 pm6 cd6 ct6 oc7 kV7 dc7 pm7 cd7 ct7 : Value}
    (a0 : PySem.W.nsIn K mainGlobals "divisors" = some (some (.ref f0))) (l0 : K.lookup f0 = some ⟨oc0, od0, .func (PySem.W.fnOf "divisors" "divisors" (defArgs s_divisors) (defBody s_divisors) (defScope s_divisors) .none kV0 dc0 pm0 an0 cd0 ct0), sl0⟩) (c0 : PySem.W.codeIn K cd0 "divisors" = true) (k0 : PySem.W.keepIn K (.ref f0) = true)
    (a1 : PySem.W.nsIn K mainGlobals "parted" = some (some (.ref f1))) (l1 : K.lookup f1 = some ⟨oc1, od1, .func (PySem.W.fnOf "parted" "parted" (defArgs s_parted) (defBody s_parted) (defScope s_parted) .none kV1 dc1 pm1 an1 cd1 ct1), sl1⟩) (c1 : PySem.W.codeIn K cd1 "parted" = true) (k1 : PySem.W.keepIn K (.ref f1) = true)
    (a2 : PySem.W.nsIn K mainGlobals "_law_mix" = some (some (.ref f2))) (l2 : K.lookup f2 = some ⟨oc2, od2, .func (PySem.W.fnOf "_law_mix" "_law_mix" (defArgs s__law_mix) (defBody s__law_mix) (defScope s__law_mix) .none kV2 dc2 pm2 an2 cd2 ct2), sl2⟩) (c2 : PySem.W.codeIn K cd2 "_law_mix" = true) (k2 : PySem.W.keepIn K (.ref f2) = true)
    (a3 : PySem.W.nsIn K mainGlobals "_law_whole" = some (some (.ref f3))) (l3 : K.lookup f3 = some ⟨oc3, od3, .func (PySem.W.fnOf "_law_whole" "_law_whole" (defArgs s__law_whole) (defBody s__law_whole) (defScope s__law_whole) .none kV3 dc3 pm3 an3 cd3 ct3), sl3⟩) (c3 : PySem.W.codeIn K cd3 "_law_whole" = true) (k3 : PySem.W.keepIn K (.ref f3) = true)
    (a4 : PySem.W.nsIn K mainGlobals "_law_number" = some (some (.ref f4))) (l4 : K.lookup f4 = some ⟨oc4, od4, .func (PySem.W.fnOf "_law_number" "_law_number" (defArgs s__law_number) (defBody s__law_number) (defScope s__law_number) .none kV4 dc4 pm4 an4 cd4 ct4), sl4⟩) (c4 : PySem.W.codeIn K cd4 "_law_number" = true) (k4 : PySem.W.keepIn K (.ref f4) = true)
    (a5 : PySem.W.nsIn K mainGlobals "_law_tried" = some (some (.ref f5))) (l5 : K.lookup f5 = some ⟨oc5, od5, .func (PySem.W.fnOf "_law_tried" "_law_tried" (defArgs s__law_tried) (defBody s__law_tried) (defScope s__law_tried) .none kV5 dc5 pm5 an5 cd5 ct5), sl5⟩) (c5 : PySem.W.codeIn K cd5 "_law_tried" = true) (k5 : PySem.W.keepIn K (.ref f5) = true)
    (a6 : PySem.W.nsIn K mainGlobals "_law_all" = some (some (.ref f6))) (l6 : K.lookup f6 = some ⟨oc6, od6, .func (PySem.W.fnOf "_law_all" "_law_all" (defArgs s__law_all) (defBody s__law_all) (defScope s__law_all) .none kV6 dc6 pm6 an6 cd6 ct6), sl6⟩) (c6 : PySem.W.codeIn K cd6 "_law_all" = true) (k6 : PySem.W.keepIn K (.ref f6) = true)
    (a7 : PySem.W.nsIn K mainGlobals "law" = some (some (.ref f7))) (l7 : K.lookup f7 = some ⟨oc7, od7, .func (PySem.W.fnOf "law" "law" (defArgs s_law) (defBody s_law) (defScope s_law) .none kV7 dc7 pm7 an7 cd7 ct7), sl7⟩) (c7 : PySem.W.codeIn K cd7 "law" = true) (k7 : PySem.W.keepIn K (.ref f7) = true)
    (z_len : PySem.W.nsIn K mainGlobals "len" = some none)    (z_range : PySem.W.nsIn K mainGlobals "range" = some none)    (z_max : PySem.W.nsIn K mainGlobals "max" = some none)    (z_list : PySem.W.nsIn K mainGlobals "list" = some none)    (z_int : PySem.W.nsIn K mainGlobals "int" = some none)    (z_bool : PySem.W.nsIn K mainGlobals "bool" = some none)    (z_tuple : PySem.W.nsIn K mainGlobals "tuple" = some none)    (z_isinstance : PySem.W.nsIn K mainGlobals "isinstance" = some none)    (z_enumerate : PySem.W.nsIn K mainGlobals "enumerate" = some none)    (z_reversed : PySem.W.nsIn K mainGlobals "reversed" = some none)    (z_sorted : PySem.W.nsIn K mainGlobals "sorted" = some none)    (z_zip : PySem.W.nsIn K mainGlobals "zip" = some none)    (z_all : PySem.W.nsIn K mainGlobals "all" = some none)    (z_str : PySem.W.nsIn K mainGlobals "str" = some none)
    (i_isqrt : PySem.W.nsIn K mainGlobals "isqrt" = some (some (.builtin "math.isqrt"))) :
    ∃ fd : FuncData, (∀ (s : Shared) (v : Value), BindsTo s fd ⟨[v], []⟩ [("_law_script", v)]) ∧ ∀ base : Heap, K.In base → base.Ns mainGlobals mg → FnOk l.prog w K mg base CX0 3 fa fd ["_law_script"] (spLaw K) := by
  have e := hfa.symm.trans (PySem.W.mg_of X G a7)
  cases e
  have nb : Nb mg := ⟨PySem.W.mg_none_of X G z_len, PySem.W.mg_none_of X G z_range, PySem.W.mg_none_of X G z_max, PySem.W.mg_none_of X G z_list, PySem.W.mg_none_of X G z_int, PySem.W.mg_none_of X G z_bool, PySem.W.mg_none_of X G z_tuple, PySem.W.mg_none_of X G z_isinstance, PySem.W.mg_none_of X G z_enumerate, PySem.W.mg_none_of X G z_reversed, PySem.W.mg_none_of X G z_sorted, PySem.W.mg_none_of X G z_zip, PySem.W.mg_none_of X G z_all, PySem.W.mg_none_of X G z_str⟩
  have nb_isqrt := PySem.W.mg_of X G i_isqrt
  have d_divisors : Dfn K mg "divisors" ["n"] s_divisors := by
    have F := fun_mk (st := s_divisors) l0 c0 k0
    exact ⟨_, _, F, PySem.W.mg_of X G a0, F.binds (ps := ["n"]) fun _ _ _ _ _ _ us hl => match us, hl with | [_], _ => rfl⟩
  have d_parted : Dfn K mg "parted" ["n"] s_parted := by
    have F := fun_mk (st := s_parted) l1 c1 k1
    exact ⟨_, _, F, PySem.W.mg_of X G a1, F.binds (ps := ["n"]) fun _ _ _ _ _ _ us hl => match us, hl with | [_], _ => rfl⟩
  have d__law_mix : Dfn K mg "_law_mix" ["_law_cell", "_law_k"] s__law_mix := by
    have F := fun_mk (st := s__law_mix) l2 c2 k2
    exact ⟨_, _, F, PySem.W.mg_of X G a2, F.binds (ps := ["_law_cell", "_law_k"]) fun _ _ _ _ _ _ us hl => match us, hl with | [_, _], _ => rfl⟩
  have d__law_whole : Dfn K mg "_law_whole" ["_law_got"] s__law_whole := by
    have F := fun_mk (st := s__law_whole) l3 c3 k3
    exact ⟨_, _, F, PySem.W.mg_of X G a3, F.binds (ps := ["_law_got"]) fun _ _ _ _ _ _ us hl => match us, hl with | [_], _ => rfl⟩
  have d__law_number : Dfn K mg "_law_number" ["_law_cell", "_law_ways"] s__law_number := by
    have F := fun_mk (st := s__law_number) l4 c4 k4
    exact ⟨_, _, F, PySem.W.mg_of X G a4, F.binds (ps := ["_law_cell", "_law_ways"]) fun _ _ _ _ _ _ us hl => match us, hl with | [_, _], _ => rfl⟩
  have d__law_tried : Dfn K mg "_law_tried" ["_law_n"] s__law_tried := by
    have F := fun_mk (st := s__law_tried) l5 c5 k5
    exact ⟨_, _, F, PySem.W.mg_of X G a5, F.binds (ps := ["_law_n"]) fun _ _ _ _ _ _ us hl => match us, hl with | [_], _ => rfl⟩
  have d__law_all : Dfn K mg "_law_all" ["_law_n"] s__law_all := by
    have F := fun_mk (st := s__law_all) l6 c6 k6
    exact ⟨_, _, F, PySem.W.mg_of X G a6, F.binds (ps := ["_law_n"]) fun _ _ _ _ _ _ us hl => match us, hl with | [_], _ => rfl⟩
  have F := fun_mk (st := s_law) l7 c7 k7
  exact ⟨PySem.W.fnOf "law" "law" (defArgs s_law) (defBody s_law) (defScope s_law) .none kV7 dc7 pm7 an7 cd7 ct7, fun s v => .of_eq rfl, fun base _ _ => law_ok F nb nb_isqrt d_divisors d_parted d__law_mix d__law_whole d__law_number d__law_tried d__law_all⟩
end Own
open PySem PySem.W PyProof.Rows
set_option maxHeartbeats 0 in
theorem PySem.Challenge.cw_rootwheel_k01_divisors_and_parted_holds : PySem.Challenge.rw_rootwheel_k01_divisors_and_parted.Holds := by
  w_on; o_law; k_head; (case hw => w_witness2)
  k_fill
  refine L2.walk_of (l := PySem.Challenge.rw_rootwheel_k01_divisors_and_parted) (n := 63) (k := 3) (x := "_law_script") (CX := fun _ => L2.CX0) (sp := fun w => Own.spLaw _) rfl (by decide) rfl ⟨rfl, by decide, by decide⟩ (fun w h Y => PySem.W.kIn_of Y) ?F (fun _ _ a ns hl _ hS => ⟨a, ns, rfl, hS, hl, fun _ => rfl⟩) (fun _ _ _ _ _ h => h)
  case F =>
    intro w mg fa h KX G hmg
    refine' Own.all_mk KX G hmg ?a0 ?l0 ?c0 ?k0 ?a1 ?l1 ?c1 ?k1 ?a2 ?l2 ?c2 ?k2 ?a3 ?l3 ?c3 ?k3 ?a4 ?l4 ?c4 ?k4 ?a5 ?l5 ?c5 ?k5 ?a6 ?l6 ?c6 ?k6 ?a7 ?l7 ?c7 ?k7 ?z_len ?z_range ?z_max ?z_list ?z_int ?z_bool ?z_tuple ?z_isinstance ?z_enumerate ?z_reversed ?z_sorted ?z_zip ?z_all ?z_str ?i_isqrt
    (case a0 => k_is)
    (case l0 => k_is)
    (case c0 => k_is)
    (case k0 => k_is)
    (case a1 => k_is)
    (case l1 => k_is)
    (case c1 => k_is)
    (case k1 => k_is)
    (case a2 => k_is)
    (case l2 => k_is)
    (case c2 => k_is)
    (case k2 => k_is)
    (case a3 => k_is)
    (case l3 => k_is)
    (case c3 => k_is)
    (case k3 => k_is)
    (case a4 => k_is)
    (case l4 => k_is)
    (case c4 => k_is)
    (case k4 => k_is)
    (case a5 => k_is)
    (case l5 => k_is)
    (case c5 => k_is)
    (case k5 => k_is)
    (case a6 => k_is)
    (case l6 => k_is)
    (case c6 => k_is)
    (case k6 => k_is)
    (case a7 => k_is)
    (case l7 => k_is)
    (case c7 => k_is)
    (case k7 => k_is)
    (case z_len => k_is)
    (case z_range => k_is)
    (case z_max => k_is)
    (case z_list => k_is)
    (case z_int => k_is)
    (case z_bool => k_is)
    (case z_tuple => k_is)
    (case z_isinstance => k_is)
    (case z_enumerate => k_is)
    (case z_reversed => k_is)
    (case z_sorted => k_is)
    (case z_zip => k_is)
    (case z_all => k_is)
    (case z_str => k_is)
    (case i_isqrt => k_is)


