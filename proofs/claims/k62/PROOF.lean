import PyProof.Rows.All
import Wide.All
import OpenK.AllK
import Wide.FinOn
import HandS.ForMost
import HandS.Evl
import HandS.Wide
import HandS.WideMore
import HandS.Gcd
import HandS.IsInst
import HandS.SortInts
import HandS.Rev
import HandS.ForExc
import HandS.ExcIs
import HandS.ExcValue
import HandS.Walk
import HandS.SortRule
import HandS.DictTup
import HandS.Conv
import KE.KDictCopyH
import KE.KDictSum
import HandS.Zip
import HandS.Deep
import HandS.RaiseMore
import PySem.Challenge.RW_rootwheel_k62_cosine_polynomials
set_option Elab.async false
set_option linter.all false
set_option maxRecDepth 100000
set_option maxHeartbeats 4000000
/-! What every proof of ours leans on: calls by a promise that stands for a name, rules of ours, words for the readings. -/
namespace Kp
open PySem PySem.Spec PyProof.Rows L2 Evl

/-! ### the names of Python that a text leaves as they are -/
structure Nb (mg : Str → Option Value) : Prop where
  len : mg "len" = none
  range : mg "range" = none
  max : mg "max" = none
  list : mg "list" = none
  int : mg "int" = none
  bool : mg "bool" = none
  tuple : mg "tuple" = none
  isinstance : mg "isinstance" = none
  enumerate : mg "enumerate" = none
  reversed : mg "reversed" = none
  sorted : mg "sorted" = none
  zip : mg "zip" = none
  all : mg "all" = none
  str : mg "str" = none
  min : mg "min" = none
  sum : mg "sum" = none
  any : mg "any" = none
  set : mg "set" = none
  abs : mg "abs" = none
  dict : mg "dict" = none

/-! ### a def by its name -/
/-- by the name x the module holds a def that keeps the promise sp, at the level k -/
def Cal (P : Program) (w : World) (K : PySem.W.Frag) (mg : Str → Option Value) (base : Heap) (CX : CXT) (x : Str) (k : Nat) (ps : List Str) (sp : Sp) : Prop :=
  ∃ (f : Addr) (fd : FuncData), FnOk P w K mg base CX k f fd ps sp ∧ mg x = some (.ref f) ∧ PySem.W.keepIn K (.ref f) = true ∧ Binds K fd ps []
/-- by the name x the module holds the def that st writes -/
def Dfn (K : PySem.W.Frag) (mg : Str → Option Value) (x : Str) (ps : List Str) (st : Stmt) : Prop :=
  ∃ (f : Addr) (fd : FuncData), Fun K x x st f fd ∧ mg x = some (.ref f) ∧ Binds K fd ps []
section
variable {P : Program} {w : World} {K : PySem.W.Frag} {mg : Str → Option Value} {base : Heap} {CX : CXT} {x : Str} {k : Nat} {ps N : List Str} {sp : Sp} {st : Stmt}
theorem Dfn.cal (d : Dfn K mg x ps st) (S : FnScope N ps (defScope st)) (len : ∀ vs H Q E, sp vs H Q E → vs.length = ps.length)
    (hbody : ∀ (f : Addr) (cdv : Value) (A : Around) (outer : List Env) (s : Shared) (H : Hp) (vs : List V) (Q : VK) (E : XK), Room k (A.deeper (envOfC x (defScope st) s.heap.objs.size f cdv)) → sp vs H Q E →
      ∃ t, PSs (cxOf CX0 P w K mg base N x (defScope st) f cdv A outer s H E).nox (defBody st) t ∧ t { nx := fun _ H' => Q .non H', rt := Q } (start N vs) H) : Cal P w K mg base CX0 x (k + 1) ps sp := by
  obtain ⟨f, fd, F, g, b⟩ := d
  exact ⟨f, fd, F.ok S len (hbody f), g, F.kp, b⟩
end
section
variable {X : Cx} {CX : CXT} {k : Nat} {ps : List Str} {sp : Sp} {E : XK} {x : Str} {p pos : Pos} {e : Expr} {es : List Expr} {t : TA}
theorem pe_cal (c : Cal X.prog X.w X.K X.mg X.base CX x k ps sp) (hr : Room k X.A) (hg : Gl X x) (hx : Passes CX X E)
    (ha : PA X (e :: es) t) (hdb : (x == ("__debug__" : Str)) = false := by decide) (he : starEach (e :: es) X.env = (false, eval e X.env) :: starEach es X.env := by rfl) (hpl : (backTo pos (starEach es X.env)).any (·.1) = false := by rfl) :
    PE X (.Call (.Name x p) (e :: es) [] pos) (tCall sp [] E t) := by
  obtain ⟨f, fd, F, g, kp, b⟩ := c
  exact pe_call F hr hg g kp b .nil hx ha hdb he hpl
end

/-! ### rules of ours -/
def CPowW (i j : Int) : Prop := 0 ≤ j ∧ (Builtin.Int.intBits i : Int) * j ≤ 2 ^ 27
section
variable {X : Cx}
theorem op_powW : OpR X (binaryOp .Pow) (rI CPowW fun i j => .int (i ^ j.toNat)) := opI fun _ _ _ _ _ _ _ hc q => pow_int hc.1 hc.2 q
/-- what stands at a place of a list, for o[i] op= e -/
def rGetL (K : PySem.W.Frag) : V → V → Hp → VK → Prop := fun o i H Q => ∃ p xs j v, o = .ref p ∧ i = .int ((j : Nat) : Int) ∧ SqL K H p xs ∧ xs[j]? = some v ∧ Q v H
theorem get_list : PGet X (rGetL X.K) := by
  intro pins s σ H o i ov iv Q I ro ri h
  obtain ⟨p, xs, j, z, rfl, rfl, hq, he, q⟩ := h
  cases ro
  obtain ⟨t, rfl⟩ := ri
  obtain ⟨its, r, pl, hz⟩ := I.list hq
  obtain ⟨w, ew, rw'⟩ := r.get he
  have hj : j < xs.length := (List.getElem?_eq_some_iff.mp he).1
  have hn := line63
  have hl := r.length
  exact wpAny_getItem_list pl.isList (by omega) (by omega) (by simpa using ew) ⟨z, H, I, rw', q⟩
theorem pip_of {op : Operator} {r : R2} (ho : OpR X (inplaceOp op) r) : PIp X op r := fun pins s σ H x y v u Q I rx ry h => ho pins s σ H x y v u Q I rx ry h
/-- math.isqrt -/
def rIsqrt : List V → Hp → VK → Prop := fun vs H Q => ∃ a : Int, vs = [.int a] ∧ 0 ≤ a ∧ a < 2 ^ 64 ∧ Q (.int ((Float64.isqrt a.toNat : Nat) : Int)) H
theorem cr_isqrt : CallR X (.builtin "math.isqrt") rIsqrt := by
  intro pins s σ H vs us Q I r h
  obtain ⟨a, rfl, h0, h1, q⟩ := h
  obtain ⟨u, rfl, t, rfl⟩ := vals1 r
  exact PySem.W.mg_isqrt h0 h1 ⟨.int _, H, I.tok _, ⟨_, rfl⟩, q⟩
end

/-! ### what evaluates to what, by operators -/
section
variable {K : PySem.W.Frag} {σ : L2.St} {H : Hp} {ta tb te : TE} {i j : Int}
theorem ev_add (ha : Ev ta σ H (.int i)) (hb : Ev tb σ H (.int j)) : Ev (tOp (rI0 fun i j => .int (i + j)) ta tb) σ H (.int (i + j)) := ev_op ha hb rv_I0
theorem ev_sub (ha : Ev ta σ H (.int i)) (hb : Ev tb σ H (.int j)) : Ev (tOp (rI0 fun i j => .int (i - j)) ta tb) σ H (.int (i - j)) := ev_op ha hb rv_I0
theorem ev_mul (ha : Ev ta σ H (.int i)) (hb : Ev tb σ H (.int j)) (h : CMulW i j) : Ev (tOp (rI CMulW fun i j => .int (i * j)) ta tb) σ H (.int (i * j)) := ev_op ha hb (rv_I h)
theorem ev_div (ha : Ev ta σ H (.int i)) (hb : Ev tb σ H (.int j)) (h : CDivW i j) : Ev (tOp (rI CDivW fun i j => .int (i / j)) ta tb) σ H (.int (i / j)) := ev_op ha hb (rv_I h)
theorem ev_mod (ha : Ev ta σ H (.int i)) (hb : Ev tb σ H (.int j)) (h : 0 < j) : Ev (tOp (rI (fun _ j => 0 < j) fun i j => .int (i % j)) ta tb) σ H (.int (i % j)) := ev_op ha hb (rv_I (C := fun _ j => 0 < j) h)
theorem ev_pow {c : Int} (ha : Ev ta σ H (.int i)) (hb : Ev tb σ H (.int j)) (h : CPowW i j) (hc : i ^ j.toNat = c) : Ev (tOp (rI CPowW fun i j => .int (i ^ j.toNat)) ta tb) σ H (.int c) := by
  rw [← hc]
  exact ev_op ha hb (rv_I h)
theorem ev_neg (ha : Ev ta σ H (.int i)) : Ev (tUn (rU fun i => .int (-i)) ta) σ H (.int (-i)) := ev_un ha ru_neg
theorem ev_lt (ha : Ev ta σ H (.int i)) (hb : Ev tb σ H (.int j)) : Ev (tOp (rI0 fun i j => .bl (decide (i < j))) ta tb) σ H (.bl (decide (i < j))) := ev_op ha hb rv_I0
theorem ev_le (ha : Ev ta σ H (.int i)) (hb : Ev tb σ H (.int j)) : Ev (tOp (rI0 fun i j => .bl (decide (i ≤ j))) ta tb) σ H (.bl (decide (i ≤ j))) := ev_op ha hb rv_I0
theorem ev_gt (ha : Ev ta σ H (.int i)) (hb : Ev tb σ H (.int j)) : Ev (tOp (rI0 fun i j => .bl (decide (j < i))) ta tb) σ H (.bl (decide (j < i))) := ev_op ha hb rv_I0
theorem ev_ge (ha : Ev ta σ H (.int i)) (hb : Ev tb σ H (.int j)) : Ev (tOp (rI0 fun i j => .bl (decide (j ≤ i))) ta tb) σ H (.bl (decide (j ≤ i))) := ev_op ha hb rv_I0
theorem dec_int (i j : Int) : decide (V.int i = V.int j) = decide (i = j) := decide_eq_decide.mpr ⟨V.int.inj, fun e => by rw [e]⟩
theorem ev_eqI (ha : Ev ta σ H (.int i)) (hb : Ev tb σ H (.int j)) : Ev (tOp rEq ta tb) σ H (.bl (decide (i = j))) := by
  rw [← dec_int]
  exact ev_op ha hb (rv_eq rfl)
theorem ev_neI (ha : Ev ta σ H (.int i)) (hb : Ev tb σ H (.int j)) : Ev (tOp rNe ta tb) σ H (.bl (!decide (i = j))) := by
  rw [← dec_int]
  exact ev_op ha hb (rv_ne rfl)
theorem ev_isN {v : V} (ha : Ev ta σ H v) : Ev (tOp (fun x y H Q => y = .non ∧ Q (.bl (decide (x = .non))) H) ta (tC .non)) σ H (.bl (decide (v = .non))) := ev_op ha ev_c fun H1 _ _ q => ⟨rfl, q H1 (Ex.refl H1)⟩
theorem ev_notN {v : V} (ha : Ev ta σ H v) : Ev (tOp (fun x y H Q => y = .non ∧ Q (.bl (!decide (x = .non))) H) ta (tC .non)) σ H (.bl (!decide (v = .non))) := ev_op ha ev_c fun H1 _ _ q => ⟨rfl, q H1 (Ex.refl H1)⟩
/-- numbers of some hundred bits -/
theorem mulW {i j : Int} (hi : i.natAbs < 2 ^ 300) (hj : j.natAbs < 2 ^ 300) : CMulW i j := wide_mul hi hj (by decide) (by decide) (by decide)
theorem divW {i j : Int} (h : 0 < j) (hj : j < 2 ^ 300) : CDivW i j := wide_div (b := 300) h (by omega) (by decide) (by decide)
/-- no reading is this: a goal that takes it has not been told yet which reading it speaks of -/
def tProbe : TE := fun _ _ _ => False
def tProbeT : TT := fun _ _ _ => False
def tProbeA : TA := fun _ _ _ => False
theorem probe {v : V} (h : False) : Ev tProbe σ H v := h.elim
theorem probeT {b : Bool} (h : False) : EvT tProbeT σ H b := h.elim
theorem probeA {vs : List V} (h : False) : EvA tProbeA σ H vs := h.elim
/-- a call's promise: one value -/
theorem ev_cal {sp : Sp} {vs : List V} {E : XK} {ta : TA} {z : V} (h : EvA ta σ H vs) (hs : ∀ H1, Ex H H1 → ∀ Q : VK, RetV z H1 Q → ∀ E : XK, sp vs H1 Q E) : Ev (tCall sp [] E ta) σ H z := fun H1 e Q q =>
  h H1 e _ fun H2 e2 => by
    show sp (vs ++ []) H2 Q E
    rw [List.append_nil]
    exact hs H2 (e.trans e2) Q (fun H3 e3 => q H3 (e2.trans e3)) E
/-- one new list -/
theorem el_cal {sp : Sp} {vs xs : List V} {E : XK} {ta : TA} (h : EvA ta σ H vs) (hs : ∀ H1, Ex H H1 → ∀ Q : VK, RetL xs H1 Q → ∀ E : XK, sp vs H1 Q E) : EvL (tCall sp [] E ta) σ H xs := fun H1 e Q q =>
  h H1 e _ fun H2 e2 => by
    show sp (vs ++ []) H2 Q E
    rw [List.append_nil]
    exact hs H2 (e.trans e2) Q (fun p H3 hp e3 h3 => q p H3 (fresh_back e2 hp) (e2.trans e3) h3) E
end
end Kp

/-! Data as a whole; lists of pairs; comprehensions; new lists. -/
namespace Kp
open PySem PySem.Spec PyProof.Rows L2 Evl

/-! ### == of data without truths, texts and dicts -/
mutual
def okD : PyData → Bool
  | .none => true
  | .int _ => true
  | .list xs => okA xs
  | .tuple xs => okA xs
  | .bool _ => false
  | .str _ => false
  | .dict _ => false
def okA : List PyData → Bool
  | [] => true
  | x :: xs => okD x && okA xs
end
mutual
theorem eqv_ok : ∀ d e : PyData, okD d = true → okD e = true → (PyData.eqv d e = true ↔ d = e)
  | .none, e, _, h => by cases e <;> simp_all [okD, PyData.eqv]
  | .int i, e, _, h => by cases e <;> simp_all [okD, PyData.eqv]
  | .list xs, e, h1, h => by
    cases e with
    | list ys =>
      unfold okD at h1 h
      unfold PyData.eqv
      rw [eqvA_ok xs ys h1 h]
      exact ⟨fun e => by rw [e], PyData.list.inj⟩
    | _ => simp_all [okD, PyData.eqv]
  | .tuple xs, e, h1, h => by
    cases e with
    | tuple ys =>
      unfold okD at h1 h
      unfold PyData.eqv
      rw [eqvA_ok xs ys h1 h]
      exact ⟨fun e => by rw [e], PyData.tuple.inj⟩
    | _ => simp_all [okD, PyData.eqv]
  | .bool _, _, h, _ => by simp [okD] at h
  | .str _, _, h, _ => by simp [okD] at h
  | .dict _, _, h, _ => by simp [okD] at h
theorem eqvA_ok : ∀ ds es : List PyData, okA ds = true → okA es = true → (PyData.eqvAll ds es = true ↔ ds = es)
  | [], [], _, _ => by simp [PyData.eqvAll]
  | [], _ :: _, _, _ => by simp [PyData.eqvAll]
  | _ :: _, [], _, _ => by simp [PyData.eqvAll]
  | d :: ds, e :: es, h1, h2 => by
    unfold okA at h1 h2
    rw [Bool.and_eq_true] at h1 h2
    unfold PyData.eqvAll
    rw [Bool.and_eq_true, eqv_ok d e h1.1 h2.1, eqvA_ok ds es h1.2 h2.2]
    simp
end
theorem eqv_dec {α : Type} [DecidableEq α] (enc : α → PyData) (ok : ∀ a, okD (enc a) = true) (inj : ∀ a b, enc a = enc b → a = b) (a b : α) : PyData.eqv (enc a) (enc b) = decide (a = b) := by
  have h := eqv_ok (enc a) (enc b) (ok a) (ok b)
  by_cases e : a = b
  · subst e
    rw [decide_eq_true rfl]
    exact h.mpr rfl
  · rw [decide_eq_false e]
    cases q : PyData.eqv (enc a) (enc b) with
    | false => rfl
    | true => exact absurd (inj _ _ (h.mp q)) e
theorem okA_map {α : Type} (f : α → PyData) (h : ∀ a, okD (f a) = true) : ∀ l : List α, okA (l.map f) = true
  | [] => rfl
  | a :: l => by
    rw [List.map_cons]
    unfold okA
    rw [h a, okA_map f h l]
    rfl
theorem lay_map {α : Type} (f : α → PyData) (h : ∀ a, PyData.canLay0 (f a) = true) : ∀ l : List α, PyData.canLayAll0 (l.map f) = true
  | [] => rfl
  | a :: l => by
    rw [List.map_cons]
    unfold PyData.canLayAll0
    rw [h a, lay_map f h l]
    rfl
theorem dep_map {α : Type} (f : α → PyData) (k : Nat) (h : ∀ a, PyData.depth (f a) ≤ k) : ∀ l : List α, PyData.depthAll (l.map f) ≤ k
  | [] => Nat.zero_le _
  | a :: l => by
    rw [List.map_cons]
    unfold PyData.depthAll
    exact Nat.max_le.mpr ⟨h a, dep_map f k h l⟩
theorem shaped_of {d : PyData} (h : PyData.canLay0 d = true) (k : PyData.depth d ≤ 64) : SeqAt.shaped d = true := by
  unfold SeqAt.shaped
  rw [h, decide_eq_true k]
  rfl
/-- a list of ints, a pair of ints, a list of such -/
def dI (ns : List Int) : PyData := .list (ns.map .int)
def dP (r : Int × Int) : PyData := .tuple [.int r.1, .int r.2]
def dR (rows : List (Int × Int)) : PyData := .list (rows.map dP)
theorem map_inj {α β : Type} {f : α → β} (h : ∀ a b, f a = f b → a = b) : ∀ l m : List α, l.map f = m.map f → l = m
  | [], [], _ => rfl
  | [], _ :: _, e => by simp at e
  | _ :: _, [], e => by simp at e
  | a :: l, b :: m, e => by
    rw [List.map_cons, List.map_cons] at e
    injection e with e1 e2
    rw [h _ _ e1, map_inj h l m e2]
theorem dI_sh (ns : List Int) : SeqAt.shaped (dI ns) = true := shaped_of (lay_map _ (fun _ => rfl) ns) (Nat.le_trans (Nat.succ_le_succ (dep_map PyData.int 0 (fun _ => Nat.le_refl 0) ns)) (by decide))
theorem dR_sh (rows : List (Int × Int)) : SeqAt.shaped (dR rows) = true := shaped_of (lay_map _ (fun _ => rfl) rows) (Nat.le_trans (Nat.succ_le_succ (dep_map dP 1 (fun _ => Nat.le_refl 1) rows)) (by decide))
theorem dI_eqv (ns ms : List Int) : PyData.eqv (dI ns) (dI ms) = decide (ns = ms) := eqv_dec dI (fun l => by unfold dI okD; exact okA_map _ (fun _ => rfl) l) (fun a b e => map_inj (fun _ _ q => PyData.int.inj q) a b (PyData.list.inj e)) ns ms
theorem dP_inj (a b : Int × Int) (e : dP a = dP b) : a = b := by
  obtain ⟨a1, a2⟩ := a
  obtain ⟨b1, b2⟩ := b
  simp [dP] at e
  rw [e.1, e.2]
theorem dR_eqv (rs qs : List (Int × Int)) : PyData.eqv (dR rs) (dR qs) = decide (rs = qs) := eqv_dec dR (fun l => by unfold dR okD; exact okA_map _ (fun _ => rfl) l) (fun a b e => map_inj dP_inj a b (PyData.list.inj e)) rs qs

section
variable {K : PySem.W.Frag} {σ : L2.St} {H H' : Hp} {ta tb te tl : TE} {t : TT} {x y z v : V} {D : Ends} {tz : TS} {vs : List Nat}
theorem dpa_ints (K : PySem.W.Frag) (H : Hp) : ∀ ns : List Int, DpAll K H (ns.map V.int) (ns.map PyData.int)
  | [] => .nil
  | n :: ns => .cons (.int n) (dpa_ints K H ns)
theorem dp_ints {a : Addr} {ns : List Int} (h : SqL K H a (ns.map V.int)) : Dp K H (.ref a) (dI ns) := .lst h (dpa_ints K H ns)

/-! ### lists of pairs -/
/-- each item a tuple of the pair's two ints -/
def Prs (K : PySem.W.Frag) (H : Hp) : List V → List (Int × Int) → Prop := Paired fun v r => ∃ t, v = .ref t ∧ SqT K H t [.int r.1, .int r.2]
theorem Prs.mono {xs : List V} {rows : List (Int × Int)} (e : Ex H H') (h : Prs K H xs rows) : Prs K H' xs rows := Paired.mapP h fun v r ⟨t, q, s⟩ => ⟨t, q, ex_t e s⟩
theorem sqt_upd {l t : Addr} {xs ys ts : List V} (hl : H l = some (.lst xs)) (h : SqT K H t ts) : SqT K (upd H l (.lst ys)) t ts := by
  rcases h with h | h
  · refine .inl ?_
    rcases h with h | ⟨o, h⟩
    · refine .inl ?_
      rw [upd_ne (ne_of h hl (by intro z; cases z))]
      exact h
    · refine .inr ⟨o, ?_⟩
      rw [upd_ne (ne_of h hl (by intro z; cases z))]
      exact h
  · exact .inr h
theorem Prs.upd {l : Addr} {us ys xs : List V} {rows : List (Int × Int)} (hl : H l = some (.lst us)) (h : Prs K H xs rows) : Prs K (upd H l (.lst ys)) xs rows := Paired.mapP h fun v r ⟨t, q, s⟩ => ⟨t, q, sqt_upd hl s⟩
theorem Prs.snoc {xs : List V} {rows : List (Int × Int)} {t : Addr} {a b : Int} (h : Prs K H xs rows) (ht : SqT K H t [.int a, .int b]) : Prs K H (xs ++ [.ref t]) (rows ++ [(a, b)]) := Paired.snoc h ⟨t, rfl, ht⟩
theorem prs_get : ∀ {xs : List V} {rows : List (Int × Int)} {i : Nat} {x : V}, Prs K H xs rows → xs[i]? = some x → ∃ r t, rows[i]? = some r ∧ x = .ref t ∧ SqT K H t [.int r.1, .int r.2]
  | _, _, _, _, .nil, h => by simp at h
  | _, _, 0, _, .cons (b := r) q _, h => by
    obtain ⟨t, q1, q2⟩ := q
    have e := Option.some.inj h
    exact ⟨r, t, rfl, e ▸ q1, q2⟩
  | _, _, i + 1, _, .cons _ q, h => prs_get (i := i) q h
theorem dpa_prs : ∀ {xs : List V} {rows : List (Int × Int)}, Prs K H xs rows → DpAll K H xs (rows.map dP)
  | _, _, .nil => .nil
  | _, _, .cons q r => by
    obtain ⟨t, rfl, q2⟩ := q
    exact .cons (.tup q2 (.cons (.int _) (.cons (.int _) .nil))) (dpa_prs r)
theorem dp_prs {a : Addr} {xs : List V} {rows : List (Int × Int)} (h : SqL K H a xs) (p : Prs K H xs rows) : Dp K H (.ref a) (dR rows) := .lst h (dpa_prs p)

/-! ### == and != -/
theorem rv_eqD {d e : PyData} {b : Bool} (h1 : Dp K H x d) (h2 : Dp K H y e) (m1 : ∀ H1, Ex H H1 → Dp K H1 x d) (m2 : ∀ H1, Ex H H1 → Dp K H1 y e) (s1 : SeqAt.shaped d = true) (s2 : SeqAt.shaped e = true) (hb : PyData.eqv d e = b) : RV (rEqD K) x y H (.bl b) := by
  subst hb
  exact fun H1 e1 Q q => ⟨d, e, m1 H1 e1, m2 H1 e1, s1, s2, q H1 (Ex.refl H1)⟩
theorem rv_neD {d e : PyData} {b : Bool} (m1 : ∀ H1, Ex H H1 → Dp K H1 x d) (m2 : ∀ H1, Ex H H1 → Dp K H1 y e) (s1 : SeqAt.shaped d = true) (s2 : SeqAt.shaped e = true) (hb : (!PyData.eqv d e) = b) : RV (rNeD K) x y H (.bl b) := by
  subst hb
  exact fun H1 e1 Q q => ⟨d, e, m1 H1 e1, m2 H1 e1, s1, s2, q H1 (Ex.refl H1)⟩
theorem rv_eqI {p q : Addr} {ns ms : List Int} (h1 : SqL K H p (ns.map V.int)) (h2 : SqL K H q (ms.map V.int)) : RV (rEqD K) (.ref p) (.ref q) H (.bl (decide (ns = ms))) :=
  rv_eqD (dp_ints h1) (dp_ints h2) (fun _ e => dp_ints (ex_l e h1)) (fun _ e => dp_ints (ex_l e h2)) (dI_sh _) (dI_sh _) (dI_eqv _ _)
theorem rv_neI {p q : Addr} {ns ms : List Int} (h1 : SqL K H p (ns.map V.int)) (h2 : SqL K H q (ms.map V.int)) : RV (rNeD K) (.ref p) (.ref q) H (.bl (!decide (ns = ms))) :=
  rv_neD (fun _ e => dp_ints (ex_l e h1)) (fun _ e => dp_ints (ex_l e h2)) (dI_sh _) (dI_sh _) (by rw [dI_eqv])
theorem rv_neR {p q : Addr} {xs ys : List V} {rs qs : List (Int × Int)} (h1 : SqL K H p xs) (p1 : Prs K H xs rs) (h2 : SqL K H q ys) (p2 : Prs K H ys qs) : RV (rNeD K) (.ref p) (.ref q) H (.bl (!decide (rs = qs))) :=
  rv_neD (fun _ e => dp_prs (ex_l e h1) (p1.mono e)) (fun _ e => dp_prs (ex_l e h2) (p2.mono e)) (dR_sh _) (dR_sh _) (by rw [dR_eqv])

/-! ### new lists -/
theorem el_is {xs ys : List V} (h : EvL te σ H xs) (e : xs = ys) : EvL te σ H ys := by
  rw [← e]
  exact h
theorem el_cat {xs ys : List V} (ha : EvL ta σ H xs) (hb : EvL tb σ H ys) (hz : xs.length + ys.length ≤ 100000) : EvL (tOp rCat ta tb) σ H (xs ++ ys) := fun H1 e Q q =>
  ha H1 e _ fun p H2 np e2 hp => hb H2 (e.trans e2) _ fun r H3 nr e3 hr => ⟨p, r, xs, ys, rfl, rfl, e3 p _ hp, hr, sz_of hz, fun l hl => q l _ (fresh_back (e2.trans e3) hl) ((e2.trans e3).trans (Ex.new hl)) upd_same⟩
theorem el_rep {k : Int} (ha : EvL ta σ H [x]) (hb : Ev tb σ H (.int k)) (h0 : 0 ≤ k) (hz : k ≤ 100000) : EvL (tOp rRep ta tb) σ H (List.replicate k.toNat x) := fun H1 e Q q =>
  ha H1 e _ fun p H2 np e2 hp => hb H2 (e.trans e2) _ fun H3 e3 => ⟨p, k, [x], rfl, rfl, e3 p _ hp, by omega, by omega, sz_of (by rw [List.length_singleton]; omega), fun l hl => q l _ (fresh_back (e2.trans e3) hl) ((e2.trans e3).trans (Ex.new hl)) (by
    rw [upd_same]
    congr 2
    generalize k.toNat = n
    induction n with
    | zero => rfl
    | succ n ih => rw [List.replicate_succ, List.flatten_cons, ih, List.replicate_succ]; rfl)⟩
/-- an item of a new list of ints -/
theorem ev_ixN {ns : List Int} {i : Int} (ha : EvL ta σ H (ns.map V.int)) (hb : ∀ H1, Ex H H1 → Ev tb σ H1 (.int i)) (h0 : 0 ≤ i) (h1 : i < (ns.length : Int)) : Ev (tOp (rIxL K) ta tb) σ H (.int (ns.getD i.toNat 0)) :=
  ev_opL1 ha hb fun p H1 hp _ => rv_ixL (sq_of hp) (by
    obtain ⟨j, rfl⟩ := Int.eq_ofNat_of_zero_le h0
    refine atI_nat ?_
    have hj : j < ns.length := by omega
    rw [List.getElem?_map, List.getElem?_eq_getElem hj, Int.toNat_natCast, List.getD_eq_getElem?_getD, List.getElem?_eq_getElem hj]
    rfl)
/-- an append to a new list that is thrown away -/
theorem s_appN {xs : List V} (h : EvL ta σ H xs) (hv : ∀ H1, Ex H H1 → Ev te σ H1 v) (hz : xs.length < 100000) (k : ∀ H1, Ex H H1 → D.nx σ H1) : tDrop (tBM K "list" rAppend ta (tCons te tNil)) D σ H := h H (Ex.refl H) _ fun p H1 np e1 hp =>
  ⟨Or.inl ⟨rfl, xs, sq_of hp⟩, hv H1 e1 H1 (Ex.refl _) _ fun H2 e2 => ⟨p, xs, v, rfl, rfl, e2 p _ hp, sz_lt hz, k _ (Ex.mut (e1.trans e2) np)⟩⟩
theorem q_appN {xs : List V} (h : EvL ta σ H xs) (hv : ∀ H1, Ex H H1 → Ev te σ H1 v) (hz : xs.length < 100000) (k : ∀ H1, Ex H H1 → tz D σ H1) : tSeq (tDrop (tBM K "list" rAppend ta (tCons te tNil))) tz D σ H := s_appN (D := { D with nx := tz D }) h hv hz k
theorem cut_mem {xs : List V} {lo hi : Option Int} {x : V} (h : x ∈ cutV xs lo hi) : x ∈ xs := List.mem_of_mem_drop (List.mem_of_mem_take h)
theorem int_of_mem {ns : List Int} {x : V} (h : x ∈ ns.map V.int) : ∃ i, x = .int i := by
  obtain ⟨i, _, rfl⟩ := List.mem_map.mp h
  exact ⟨i, rfl⟩

/-! ### a new list of pairs -/
def RetP (K : PySem.W.Frag) (rows : List (Int × Int)) (H : Hp) (Q : VK) : Prop := ∀ p xs H2, H p = none → Ex H H2 → H2 p = some (.lst xs) → Prs K H2 xs rows → Q (.ref p) H2
def EvP (K : PySem.W.Frag) (te : TE) (σ : L2.St) (H : Hp) (rows : List (Int × Int)) : Prop := ∀ H1, Ex H H1 → ∀ Q : VK, (∀ p xs H2, H1 p = none → Ex H1 H2 → H2 p = some (.lst xs) → Prs K H2 xs rows → Q (.ref p) H2) → te σ H1 Q
theorem ep_cal {sp : Sp} {vs : List V} {E : XK} {ta : TA} {rows : List (Int × Int)} (h : EvA ta σ H vs) (hs : ∀ H1, Ex H H1 → ∀ Q : VK, RetP K rows H1 Q → ∀ E : XK, sp vs H1 Q E) : EvP K (tCall sp [] E ta) σ H rows := fun H1 e Q q =>
  h H1 e _ fun H2 e2 => by
    show sp (vs ++ []) H2 Q E
    rw [List.append_nil]
    exact hs H2 (e.trans e2) Q (fun p xs H3 hp e3 h3 p3 => q p xs H3 (fresh_back e2 hp) (e2.trans e3) h3 p3) E
theorem q_asgP {i : Nat} {rows : List (Int × Int)} (h : EvP K te σ H rows) (k : ∀ p xs H1, H p = none → Ex H H1 → H1 p = some (.lst xs) → Prs K H1 xs rows → tz D (σ.set i (some (.ref p))) H1) : tSeq (tAsg te (gName i)) tz D σ H :=
  h H (Ex.refl H) _ fun p xs H1 hp e h1 p1 => k p xs H1 hp e h1 p1
theorem s_appNP {rows : List (Int × Int)} (h : EvP K ta σ H rows) (hv : ∀ H1, Ex H H1 → Ev te σ H1 v) (hz : rows.length < 100000) (k : ∀ H1, Ex H H1 → D.nx σ H1) : tDrop (tBM K "list" rAppend ta (tCons te tNil)) D σ H := h H (Ex.refl H) _ fun p xs H1 np e1 hp pp =>
  ⟨Or.inl ⟨rfl, xs, sq_of hp⟩, hv H1 e1 H1 (Ex.refl _) _ fun H2 e2 => ⟨p, xs, v, rfl, rfl, e2 p _ hp, sz_lt (by rw [Paired.length pp]; exact hz), k _ (Ex.mut (e1.trans e2) np)⟩⟩
theorem q_appNP {rows : List (Int × Int)} (h : EvP K ta σ H rows) (hv : ∀ H1, Ex H H1 → Ev te σ H1 v) (hz : rows.length < 100000) (k : ∀ H1, Ex H H1 → tz D σ H1) : tSeq (tDrop (tBM K "list" rAppend ta (tCons te tNil))) tz D σ H := s_appNP (D := { D with nx := tz D }) h hv hz k

/-! ### isinstance -/
theorem ev_isi {n s : String} {b : Bool} (ha : Ev ta σ H x) (ty : ∀ H1, Ex H H1 → TyX K H1 x (.type s)) (hk : kitB s n = some b) : Ev (tCB (rIsi K) (tCons ta (tCons (tC (.ty n)) tNil))) σ H (.bl b) := fun H1 e Q q =>
  ha H1 e _ fun H2 e2 => ⟨x, .ty n, .type s, .type n, b, rfl, .ty n, ty H2 (e.trans e2), kit_ty hk, q H2 e2⟩
theorem tx_int {i : Int} : ∀ H1, Ex H H1 → TyX K H1 (.int i) (.type "int") := fun _ _ => .base (.int i)
theorem tx_lst {p : Addr} {xs : List V} (h : H p = some (.lst xs)) : ∀ H1, Ex H H1 → TyX K H1 (.ref p) (.type "list") := fun _ e => .base (.lst (e p _ h))
theorem tx_tup {p : Addr} {xs : List V} (h : H p = some (.tup xs)) : ∀ H1, Ex H H1 → TyX K H1 (.ref p) (.type "tuple") := fun _ e => .base (.tup (e p _ h))

/-! ### comprehensions -/
/-- over a list of pairs, its target a pair of names -/
theorem el_lcP {a : Addr} {xs : List V} {rows : List (Int × Int)} {i j : Nat} (f : Int × Int → Bool) (w : Int × Int → V) (h : Ev tl σ H (.ref a)) (hx : SqL K H a xs) (hp : Prs K H xs rows) (hz : rows.length ≤ 40000)
    (hw : ∀ x y, wipe (((wipe σ vs).set i (some x)).set j (some y)) vs = wipe σ vs)
    (ht : ∀ r H1, Ex H H1 → r ∈ rows → EvT t (((wipe σ vs).set i (some (.int r.1))).set j (some (.int r.2))) H1 (f r)) (he : ∀ r H1, Ex H H1 → r ∈ rows → f r = true → Ev te (((wipe σ vs).set i (some (.int r.1))).set j (some (.int r.2))) H1 (w r)) :
    EvL (tLc (iList K tl) (gTup K 2 (gCons (gName i) (gCons (gName j) gNil))) t te vs) σ H ((rows.filter f).map w) := fun H0 e Q q => h H0 e _ fun H1 e1 => ⟨a, rfl, ⟨xs, ex_l (e.trans e1) hx⟩, fun Dl hD =>
  lc_list (xs := xs) (fun n H' => H1 Dl = none ∧ Ex H1 H' ∧ H' Dl = some (.lst (((rows.take n).filter f).map w))) ⟨hD, Ex.new hD, upd_same⟩ (fun n H' _ p => ex_l ((e.trans e1).trans p.2.1) hx) (fun n x H' hn p => by
    obtain ⟨p1, p2, p3⟩ := p
    obtain ⟨r, u, hr, rfl, hu⟩ := prs_get (hp.mono ((e.trans e1).trans p2)) hn
    have hm : r ∈ rows := List.mem_of_getElem? hr
    have hlen : (((rows.take n).filter f).map w).length < 100000 := by
      rw [List.length_map]
      have h1 := List.length_filter_le f (rows.take n)
      rw [List.length_take] at h1
      omega
    refine ⟨u, _, rfl, hu, rfl, .int r.1, [.int r.2], rfl, .int r.2, [], rfl, rfl, hw _ _, ?_⟩
    refine ht r H1 (e.trans e1) hm H' p2 _ fun H3 e3 => ?_
    have et : rows.take (n + 1) = rows.take n ++ [r] := by rw [List.take_add_one, hr]; rfl
    cases hf : f r with
    | true =>
      show te _ H3 _
      refine he r H1 (e.trans e1) hm hf H3 (p2.trans e3) _ fun H4 e4 => ⟨_, e4 Dl _ (e3 Dl _ p3), sz_lt hlen, p1, Ex.mut ((p2.trans e3).trans e4) p1, ?_⟩
      rw [upd_same, et, List.filter_append, List.map_append, List.filter_cons, if_pos hf]
      rfl
    | false =>
      refine ⟨p1, p2.trans e3, ?_⟩
      rw [et, List.filter_append, List.map_append, List.filter_cons, if_neg (by rw [hf]; decide)]
      show _ = some (HO.lst (_ ++ []))
      rw [List.append_nil]
      exact e3 Dl _ p3) (fun H' p => by
    have q1 := p.2.2
    rw [Paired.length hp, List.take_length] at q1
    exact q Dl H' (fresh_back e1 p.1) (e1.trans p.2.1) q1)⟩
/-- over a list of ints -/
theorem el_lcI {a : Addr} {ns : List Int} {j : Nat} (f : Int → Bool) (w : Int → V) (h : Ev tl σ H (.ref a)) (hx : SqL K H a (ns.map V.int)) (hz : ns.length ≤ 40000)
    (hw : ∀ x, wipe ((wipe σ vs).set j (some x)) vs = wipe σ vs)
    (ht : ∀ r H1, Ex H H1 → r ∈ ns → EvT t ((wipe σ vs).set j (some (.int r))) H1 (f r)) (he : ∀ r H1, Ex H H1 → r ∈ ns → f r = true → Ev te ((wipe σ vs).set j (some (.int r))) H1 (w r)) :
    EvL (tLc (iList K tl) (gName j) t te vs) σ H ((ns.filter f).map w) := fun H0 e Q q => h H0 e _ fun H1 e1 => ⟨a, rfl, ⟨_, ex_l (e.trans e1) hx⟩, fun Dl hD =>
  lc_list (xs := ns.map V.int) (fun n H' => H1 Dl = none ∧ Ex H1 H' ∧ H' Dl = some (.lst (((ns.take n).filter f).map w))) ⟨hD, Ex.new hD, upd_same⟩ (fun n H' _ p => ex_l ((e.trans e1).trans p.2.1) hx) (fun n x H' hn p => by
    obtain ⟨p1, p2, p3⟩ := p
    rw [List.getElem?_map] at hn
    obtain ⟨r, hr, rfl⟩ := Option.map_eq_some_iff.mp hn
    have hm : r ∈ ns := List.mem_of_getElem? hr
    have hlen : (((ns.take n).filter f).map w).length < 100000 := by
      rw [List.length_map]
      have h1 := List.length_filter_le f (ns.take n)
      rw [List.length_take] at h1
      omega
    refine ⟨hw _, ?_⟩
    refine ht r H1 (e.trans e1) hm H' p2 _ fun H3 e3 => ?_
    have et : ns.take (n + 1) = ns.take n ++ [r] := by rw [List.take_add_one, hr]; rfl
    cases hf : f r with
    | true =>
      show te _ H3 _
      refine he r H1 (e.trans e1) hm hf H3 (p2.trans e3) _ fun H4 e4 => ⟨_, e4 Dl _ (e3 Dl _ p3), sz_lt hlen, p1, Ex.mut ((p2.trans e3).trans e4) p1, ?_⟩
      rw [upd_same, et, List.filter_append, List.map_append, List.filter_cons, if_pos hf]
      rfl
    | false =>
      refine ⟨p1, p2.trans e3, ?_⟩
      rw [et, List.filter_append, List.map_append, List.filter_cons, if_neg (by rw [hf]; decide)]
      show _ = some (HO.lst (_ ++ []))
      rw [List.append_nil]
      exact e3 Dl _ p3) (fun H' p => by
    have q1 := p.2.2
    rw [List.length_map, List.take_length] at q1
    exact q Dl H' (fresh_back e1 p.1) (e1.trans p.2.1) q1)⟩
theorem et_yes : EvT tYes σ H true := fun H1 _ _ q => q H1 (Ex.refl H1)
theorem ev_gcd {a b : Int} (ha : Ev ta σ H (.int a)) (hb : Ev tb σ H (.int b)) : Ev (tCB rGcd (tCons ta (tCons tb tNil))) σ H (.int ((Nat.gcd a.natAbs b.natAbs : Nat) : Int)) :=
  ev_cb (ea_cons ha (ea_cons hb ea_nil)) fun H1 _ _ q => ⟨a, b, rfl, q H1 (Ex.refl H1)⟩
end
end Kp

/-! Loops over enumerate and reversed; what stands at a place of a list, changed; many new lists at once. -/
namespace Kp
open PySem PySem.Spec PyProof.Rows L2 Evl
section
variable {K : PySem.W.Frag} {σ : L2.St} {H H' : Hp} {ta tb te tl to ti : TE} {t : TT} {x y z v : V} {D : Ends} {tu tz : TS} {vs : List Nat}
/-- for i, x in enumerate(xs) -/
theorem s_forE {a : Addr} {xs : List V} {tl : TA} {j1 j2 : Nat} (h : EvA tl σ H [.ref a]) (hx : SqL K H a xs) (Pv : Nat → L2.St → Hp → Prop) (h0 : ∀ H1, Ex H H1 → Pv 0 σ H1) (hl : ∀ i σ' H', i ≤ xs.length → Pv i σ' H' → SqL K H' a xs)
    (hs : ∀ i x σ' H', xs[i]? = some x → Pv i σ' H' → ∀ H2, Ex H' H2 → tu { D with nx := Pv (i + 1), ct := Pv (i + 1), bk := D.nx } ((σ'.set j1 (some (.int (i : Nat)))).set j2 (some x)) H2) (hd : ∀ σ' H', Pv xs.length σ' H' → D.nx σ' H') :
    tFor (iEnum K tl) (gTup K 2 (gCons (gName j1) (gCons (gName j2) gNil))) tu D σ H :=
  h H (Ex.refl H) _ fun H1 e => ⟨a, xs, rfl, ex_l e hx, fun i m σ' H' => m = xs.length - i ∧ i ≤ xs.length ∧ Pv i σ' H', ⟨xs.length, rfl, Nat.zero_le _, h0 H1 e⟩, fun i m σ' H' hW => by
    obtain ⟨rfl, hi, p⟩ := hW
    have q := hl i σ' H' hi p
    by_cases hlt : i < xs.length
    · refine .inr ⟨⟨xs, xs[i], q, List.getElem?_eq_getElem hlt⟩, Pv (i + 1), fun σ2 H2 p' => ⟨xs.length - (i + 1), by omega, rfl, hlt, p'⟩, fun w H2 hy => ?_⟩
      obtain ⟨T, x, rfl, hT, rfl, fx⟩ := hy
      exact ⟨T, _, rfl, .inl (.inl upd_same), rfl, .int (i : Nat), [x], rfl, x, [], rfl, rfl, hs i x σ' H' (fx xs q) p _ (Ex.new hT)⟩
    · have e : i = xs.length := by omega
      subst e
      exact .inl ⟨⟨xs, q, Nat.le_refl _⟩, hd σ' H' p⟩⟩
theorem q_forE {a : Addr} {xs : List V} {tl : TA} {j1 j2 : Nat} (h : EvA tl σ H [.ref a]) (hx : SqL K H a xs) (Pv : Nat → L2.St → Hp → Prop) (h0 : ∀ H1, Ex H H1 → Pv 0 σ H1) (hl : ∀ i σ' H', i ≤ xs.length → Pv i σ' H' → SqL K H' a xs)
    (hs : ∀ i x σ' H', xs[i]? = some x → Pv i σ' H' → ∀ H2, Ex H' H2 → tu { D with nx := Pv (i + 1), ct := Pv (i + 1), bk := tz D } ((σ'.set j1 (some (.int (i : Nat)))).set j2 (some x)) H2) (hd : ∀ σ' H', Pv xs.length σ' H' → tz D σ' H') :
    tSeq (tFor (iEnum K tl) (gTup K 2 (gCons (gName j1) (gCons (gName j2) gNil))) tu) tz D σ H := s_forE (D := { D with nx := tz D }) h hx Pv h0 hl hs hd
/-- for x in reversed(xs) -/
theorem s_forV {a : Addr} {xs : List V} {tl : TA} {j : Nat} (h : EvA tl σ H [.ref a]) (hx : SqL K H a xs) (Pv : Nat → L2.St → Hp → Prop) (h0 : ∀ H1, Ex H H1 → Pv 0 σ H1) (hl : ∀ i σ' H', i ≤ xs.length → Pv i σ' H' → SqL K H' a xs)
    (hs : ∀ i x σ' H', i < xs.length → xs[xs.length - 1 - i]? = some x → Pv i σ' H' → tu { D with nx := Pv (i + 1), ct := Pv (i + 1), bk := D.nx } (σ'.set j (some x)) H') (hd : ∀ σ' H', Pv xs.length σ' H' → D.nx σ' H') :
    tFor (iRev K tl) (gName j) tu D σ H :=
  h H (Ex.refl H) _ fun H1 e => ⟨a, xs, rfl, ex_l e hx, fun i m σ' H' => m = xs.length - i ∧ i ≤ xs.length ∧ Pv i σ' H', ⟨xs.length, rfl, Nat.zero_le _, h0 H1 e⟩, fun i m σ' H' hW => by
    obtain ⟨rfl, hi, p⟩ := hW
    have q := hl i σ' H' hi p
    by_cases hlt : i < xs.length
    · have hlt2 : xs.length - 1 - i < xs.length := by omega
      refine .inr ⟨⟨hlt, xs, xs[xs.length - 1 - i], q, List.getElem?_eq_getElem hlt2⟩, Pv (i + 1), fun σ2 H2 p' => ⟨xs.length - (i + 1), by omega, rfl, hlt, p'⟩, fun w H2 hy => ?_⟩
      obtain ⟨rfl, fx⟩ := hy
      exact hs i w σ' H2 hlt (fx xs q) p
    · have e : i = xs.length := by omega
      subst e
      exact .inl ⟨Nat.le_refl _, hd σ' H' p⟩⟩
theorem q_forV {a : Addr} {xs : List V} {tl : TA} {j : Nat} (h : EvA tl σ H [.ref a]) (hx : SqL K H a xs) (Pv : Nat → L2.St → Hp → Prop) (h0 : ∀ H1, Ex H H1 → Pv 0 σ H1) (hl : ∀ i σ' H', i ≤ xs.length → Pv i σ' H' → SqL K H' a xs)
    (hs : ∀ i x σ' H', i < xs.length → xs[xs.length - 1 - i]? = some x → Pv i σ' H' → tu { D with nx := Pv (i + 1), ct := Pv (i + 1), bk := tz D } (σ'.set j (some x)) H') (hd : ∀ σ' H', Pv xs.length σ' H' → tz D σ' H') :
    tSeq (tFor (iRev K tl) (gName j) tu) tz D σ H := s_forV (D := { D with nx := tz D }) h hx Pv h0 hl hs hd
/-- o[i] += e, of a list of ints -/
theorem s_augL {l : Addr} {ns : List Int} {j : Nat} {f : Int → Int → Int} {a b : Int} (hl : H l = some (.lst (ns.map V.int))) (ho : Ev to σ H (.ref l)) (hi : Ev ti σ H (.int (j : Nat))) (hj : ns[j]? = some a) (he : Ev te σ H (.int b))
    (k : ∀ H1, Ex H H1 → D.nx σ (upd H1 l (.lst ((ns.set j (f a b)).map V.int)))) : tAugS to ti te (rGetL K) (ipI f) rSetL D σ H := ho H (Ex.refl H) _ fun H1 e1 => hi H1 e1 _ fun H2 e2 =>
  ⟨l, ns.map V.int, j, .int a, rfl, rfl, sq_of ((e1.trans e2) l _ hl), by rw [List.getElem?_map, hj]; rfl, he H2 (e1.trans e2) _ fun H3 e3 => ⟨a, b, rfl, rfl, l, ns.map V.int, (j : Nat), j, rfl, rfl, ((e1.trans e2).trans e3) l _ hl,
    ixN_nat (by rw [List.length_map]; exact (List.getElem?_eq_some_iff.mp hj).1), by
      have q := k H3 ((e1.trans e2).trans e3)
      rw [List.map_set] at q
      exact q⟩⟩
/-- the same with an operator that asks something of its two ints -/
theorem s_augLC {l : Addr} {ns : List Int} {j : Nat} {C : Int → Int → Prop} {f : Int → Int → Int} {a b : Int} (hl : H l = some (.lst (ns.map V.int))) (ho : Ev to σ H (.ref l)) (hi : Ev ti σ H (.int (j : Nat))) (hj : ns[j]? = some a) (he : Ev te σ H (.int b))
    (k : ∀ H1, Ex H H1 → D.nx σ (upd H1 l (.lst ((ns.set j (f a b)).map V.int)))) : tAugS to ti te (rGetL K) (rI0 fun i j => .int (f i j)) rSetL D σ H := s_augL hl ho hi hj he k
/-- o[i] = e, of a list of ints -/
theorem s_setI {l : Addr} {ns : List Int} {j : Nat} {b : Int} (hl : H l = some (.lst (ns.map V.int))) (ho : Ev to σ H (.ref l)) (hi : Ev ti σ H (.int (j : Nat))) (hj : j < ns.length) (he : Ev te σ H (.int b))
    (k : ∀ H1, Ex H H1 → D.nx σ (upd H1 l (.lst ((ns.set j b).map V.int)))) : tAsg te (gSub to ti rSetL) D σ H :=
  s_setL hl he ho hi (by rw [List.length_map]; exact hj) fun H1 e1 => by
    have q := k H1 e1
    rw [List.map_set] at q
    exact q
/-- xs[i], of a list of ints -/
theorem ev_ixI {a : Addr} {ns : List Int} {j : Nat} {b : Int} (hl : SqL K H a (ns.map V.int)) (ho : Ev ta σ H (.ref a)) (hi : Ev tb σ H (.int (j : Nat))) (hj : ns[j]? = some b) : Ev (tOp (rIxL K) ta tb) σ H (.int b) :=
  ev_op ho hi (rv_ixL hl (atI_nat (by rw [List.getElem?_map, hj]; rfl)))
/-- t[i], of a tuple -/
theorem ev_ixT {a : Addr} {xs : List V} {j : Nat} (hl : SqT K H a xs) (ho : Ev ta σ H (.ref a)) (hi : Ev tb σ H (.int (j : Nat))) (hj : xs[j]? = some v) : Ev (tOp (rIxT K) ta tb) σ H v :=
  ev_op ho hi (rv_ixT hl (atI_nat hj))
/-- xs.pop() as a statement -/
theorem s_pop {l : Addr} {xs : List V} {y : V} (hl : H l = some (.lst (xs ++ [y]))) (ha : Ev ta σ H (.ref l)) (k : ∀ H1, Ex H H1 → D.nx σ (upd H1 l (.lst xs))) : tDrop (tBM0 K "list" rPop ta) D σ H := ha H (Ex.refl H) _ fun H1 e1 =>
  ⟨Or.inl ⟨rfl, _, sq_of (e1 l _ hl)⟩, l, xs ++ [y], y, rfl, rfl, e1 l _ hl, by simp, by
    rw [List.dropLast_concat]
    exact k H1 e1⟩

/-! ### many new lists -/
def EvNs (n : Nat) (ta : TA) (σ : L2.St) (H : Hp) : Prop := ∀ H1, Ex H H1 → ∀ Q : List V → Hp → Prop, (∀ (ps : List Addr) H2, ps.length = n → Ex H1 H2 → (∀ p ∈ ps, H1 p = none ∧ ∃ xs, H2 p = some (.lst xs) ∧ xs.length < 50000) → Q (ps.map V.ref) H2) → ta σ H1 Q
theorem en_nil : EvNs 0 tNil σ H := fun H1 _ Q q => q [] H1 rfl (Ex.refl H1) fun _ h => nomatch h
theorem en_cons {tr : TA} {xs : List V} {n : Nat} (h : EvL te σ H xs) (hz : xs.length < 50000) (hr : EvNs n tr σ H) : EvNs (n + 1) (tCons te tr) σ H := fun H1 e Q q =>
  h H1 e _ fun p H2 np e2 hp => hr H2 (e.trans e2) _ fun ps H3 hl e3 hps => q (p :: ps) H3 (by rw [List.length_cons, hl]) (e2.trans e3) fun r hr' => by
    rcases List.mem_cons.mp hr' with rfl | hm
    · exact ⟨np, xs, e3 _ _ hp, hz⟩
    · obtain ⟨n1, n2⟩ := hps r hm
      exact ⟨fresh_back e2 n1, n2⟩
/-- for x in [new, new, ..]: x.append(e) -/
theorem s_forNs {tr : TA} {n j : Nat} {u : V} (h : EvNs n tr σ H) (hn : n ≤ 1000) (hj : j < σ.length) (k : ∀ σ' H1, (∃ x, σ' = σ.set j x) → Ex H H1 → D.nx σ' H1) :
    tFor (iList K (tLst tr)) (gName j) (tDrop (tBM K "list" rAppend (tVar j) (tCons (tC u) tNil))) D σ H :=
  h H (Ex.refl H) _ fun ps H2 hl e2 hps => ⟨sz_of (by rw [List.length_map]; omega), fun L nL => ⟨L, rfl, ⟨_, SqL.of upd_same⟩, for_list (xs := ps.map V.ref)
    (fun i σ' H' => (∃ x, σ' = σ.set j x) ∧ Ex H H' ∧ H' L = some (.lst (ps.map V.ref)) ∧ ∀ p ∈ ps, ∃ xs, H' p = some (.lst xs) ∧ xs.length < 50000 + i)
    ⟨⟨σ[j], (List.set_getElem_self hj).symm⟩, e2.trans (Ex.new nL), upd_same, fun p hp => by
      obtain ⟨xs, q1, q2⟩ := (hps p hp).2
      exact ⟨xs, by rw [upd_ne (ne_of_none q1 nL)]; exact q1, by omega⟩⟩
    (fun i σ' H' _ p => SqL.of p.2.2.1) (fun i x σ' H' hx p => by
      obtain ⟨⟨y, rfl⟩, p2, p3, p4⟩ := p
      rw [List.getElem?_map] at hx
      obtain ⟨r, hr, rfl⟩ := Option.map_eq_some_iff.mp hx
      have hm := List.mem_of_getElem? hr
      have hi : i < ps.length := (List.getElem?_eq_some_iff.mp hr).1
      obtain ⟨xs, q1, q2⟩ := p4 r hm
      have nLr : L ≠ r := fun e => by
        obtain ⟨zs, z1, _⟩ := (hps r hm).2
        rw [← e, nL] at z1
        cases z1
      refine s_app q1 (ev_var (by rw [List.getElem?_set_self (by rw [List.length_set]; exact hj)])) ev_c (by omega) fun H3 e3 => ⟨⟨_, List.set_set ..⟩, Ex.mut (p2.trans e3) (hps r hm).1, ?_, fun p hp => ?_⟩
      · rw [upd_ne nLr]
        exact e3 _ _ p3
      · by_cases e : p = r
        · subst e
          exact ⟨_, upd_same, by rw [List.length_append, List.length_singleton]; omega⟩
        · obtain ⟨ys, z1, z2⟩ := p4 p hp
          exact ⟨ys, by rw [upd_ne e]; exact e3 _ _ z1, by omega⟩) (fun σ' H' p => k σ' H' p.1 p.2.1)⟩⟩
theorem q_forNs {tr : TA} {n j : Nat} {u : V} (h : EvNs n tr σ H) (hn : n ≤ 1000) (hj : j < σ.length) (k : ∀ σ' H1, (∃ x, σ' = σ.set j x) → Ex H H1 → tz D σ' H1) :
    tSeq (tFor (iList K (tLst tr)) (gName j) (tDrop (tBM K "list" rAppend (tVar j) (tCons (tC u) tNil)))) tz D σ H := s_forNs (D := { D with nx := tz D }) h hn hj k
end
end Kp
namespace Kp
open PySem PySem.Spec PyProof.Rows L2 Evl
section
variable {K : PySem.W.Frag} {σ : L2.St} {H H' : Hp} {ta tb te tl to ti : TE} {t : TT} {x y z v : V} {D : Ends} {tu tz : TS} {vs : List Nat}
/-- (a new list, a new list) -/
theorem q_asgT2 {i : Nat} {xs ys : List V} (h1 : EvL ta σ H xs) (h2 : EvL tb σ H ys) (k : ∀ t p q H1, Ex H H1 → H1 t = some (.tup [.ref p, .ref q]) → H1 p = some (.lst xs) → H1 q = some (.lst ys) → tz D (σ.set i (some (.ref t))) H1) :
    tSeq (tAsg (tTup (tCons ta (tCons tb tNil))) (gName i)) tz D σ H :=
  h1 H (Ex.refl H) _ fun p H1 np e1 hp => h2 H1 e1 _ fun q H2 nq e2 hq => ⟨sz_of (show 2 ≤ 100000 by decide), fun t nt =>
    k t p q _ ((e1.trans e2).trans (Ex.new nt)) upd_same (by rw [upd_ne (ne_of_none (e2 _ _ hp) nt)]; exact e2 _ _ hp) (by rw [upd_ne (ne_of_none hq nt)]; exact hq)⟩
/-- a call upon one new list, one value back -/
theorem ev_calL1 {sp : Sp} {xs : List V} {E : XK} (h : EvL ta σ H xs) (hs : ∀ p H1, Ex H H1 → H1 p = some (.lst xs) → ∀ Q : VK, RetV z H1 Q → ∀ E : XK, sp [.ref p] H1 Q E) : Ev (tCall sp [] E (tCons ta tNil)) σ H z := fun H1 e Q q =>
  h H1 e _ fun p H2 np e2 hp => hs p H2 (e.trans e2) hp Q (fun H3 e3 => q H3 (e2.trans e3)) E
/-- a list by its name and a new one, glued -/
theorem el_cat1 {l : Addr} {xs ys : List V} (ha : Ev ta σ H (.ref l)) (hl : H l = some (.lst xs)) (hb : EvL tb σ H ys) (hz : xs.length + ys.length ≤ 100000) : EvL (tOp rCat ta tb) σ H (xs ++ ys) := fun H1 e Q q =>
  ha H1 e _ fun H2 e2 => hb H2 (e.trans e2) _ fun r H3 nr e3 hr => ⟨l, r, xs, ys, rfl, rfl, (e.trans (e2.trans e3)) _ _ hl, hr, sz_of hz, fun l hl => q l _ (fresh_back (e2.trans e3) hl) ((e2.trans e3).trans (Ex.new hl)) upd_same⟩
theorem cut_take (xs : List V) (m : Nat) : cutV xs none (some (m : Int)) = xs.take m := by
  unfold cutV
  rw [HT.sIx_none, HT.sIx_nat, Nat.sub_zero, List.drop_zero]
  by_cases h : m ≤ xs.length
  · rw [Nat.min_eq_left h]
  · rw [Nat.min_eq_right (by omega), List.take_of_length_le (Nat.le_refl _), List.take_of_length_le (by omega)]
theorem map_get {ns : List Int} {i : Nat} {x : V} (h : (ns.map V.int)[i]? = some x) : ∃ a, ns[i]? = some a ∧ x = .int a := by
  rw [List.getElem?_map] at h
  obtain ⟨a, h1, h2⟩ := Option.map_eq_some_iff.mp h
  exact ⟨a, h1, h2.symm⟩
end
end Kp

/-! More of loops, comprehensions and lists. -/
namespace Kp
open PySem PySem.Spec PyProof.Rows L2 Evl
theorem filter_yes {α : Type} (l : List α) : l.filter (fun _ => true) = l := List.filter_eq_self.mpr fun _ _ => rfl
section
variable {K : PySem.W.Frag} {σ : L2.St} {H H' : Hp} {ta tb te tl to ti : TE} {t : TT} {x y z v : V} {D : Ends} {tu tz : TS} {vs : List Nat}
/-- [e for x in range(a, b) if t] -/
theorem el_lcR2 {tg : TA} {j : Nat} {lo hi : Int} (f : Nat → Bool) (w : Nat → V) (h : EvA tg σ H [.int lo, .int hi]) (hb : 0 ≤ lo ∧ lo ≤ 40000 ∧ -40000 ≤ hi ∧ hi ≤ 40000) (hw : ∀ x, wipe ((wipe σ vs).set j (some x)) vs = wipe σ vs)
    (ht : ∀ (i : Nat) H1, Ex H H1 → lo + (i : Int) < hi → EvT t ((wipe σ vs).set j (some (.int (lo + (i : Int))))) H1 (f i)) (he : ∀ (i : Nat) H1, Ex H H1 → lo + (i : Int) < hi → f i = true → Ev te ((wipe σ vs).set j (some (.int (lo + (i : Int))))) H1 (w i)) :
    EvL (tLc (iRng2 tg) (gName j) t te vs) σ H (((List.range (hi - lo).toNat).filter f).map w) := fun H0 e Q q => h H0 e _ fun H1 e1 => ⟨lo, hi, rfl, ⟨by omega, by omega, by omega, by omega⟩, fun Dl hD =>
  lc_range (lo := lo) (n := (hi - lo).toNat) (Cw H1 f w Dl) ⟨hD, Ex.new hD, upd_same⟩ (fun i H' hi p => ⟨hw _, cw_turn p (by omega) (ht i H1 (e.trans e1) (by omega)) (fun hf => he i H1 (e.trans e1) (by omega) hf)⟩) (fun H' p => q Dl H' (fresh_back e1 p.1) (e1.trans p.2.1) p.2.2)⟩
/-- [e for x in reversed(xs) if t], xs ints -/
theorem el_lcV {tg : TA} {a : Addr} {ns : List Int} {j : Nat} (f : Int → Bool) (w : Int → V) (h : EvA tg σ H [.ref a]) (hx : SqL K H a (ns.map V.int)) (hz : ns.length ≤ 40000)
    (hw : ∀ x, wipe ((wipe σ vs).set j (some x)) vs = wipe σ vs)
    (ht : ∀ r H1, Ex H H1 → r ∈ ns → EvT t ((wipe σ vs).set j (some (.int r))) H1 (f r)) (he : ∀ r H1, Ex H H1 → r ∈ ns → f r = true → Ev te ((wipe σ vs).set j (some (.int r))) H1 (w r)) :
    EvL (tLc (iRev K tg) (gName j) t te vs) σ H ((ns.reverse.filter f).map w) := fun H0 e Q q => h H0 e _ fun H1 e1 => ⟨a, _, rfl, ex_l (e.trans e1) hx, fun Dl hD =>
  ⟨fun n m H' => m = ns.length - n ∧ n ≤ ns.length ∧ H1 Dl = none ∧ Ex H1 H' ∧ H' Dl = some (.lst (((ns.reverse.take n).filter f).map w)), ⟨ns.length, rfl, Nat.zero_le _, hD, Ex.new hD, upd_same⟩, fun n m H' hW => by
    obtain ⟨rfl, hn, p1, p2, p3⟩ := hW
    by_cases hlt : n < ns.length
    · have hlt2 : ns.length - 1 - n < ns.length := by omega
      have hlm : (ns.map V.int).length = ns.length := List.length_map _
      refine .inr ⟨⟨by rw [hlm]; exact hlt, ns.map V.int, _, ex_l ((e.trans e1).trans p2) hx, List.getElem?_eq_getElem (by rw [hlm]; omega)⟩, fun H2 => n + 1 ≤ ns.length ∧ H1 Dl = none ∧ Ex H1 H2 ∧ H2 Dl = some (.lst (((ns.reverse.take (n + 1)).filter f).map w)), fun H2 ⟨q1, q2, q3, q4⟩ => ⟨ns.length - (n + 1), by omega, rfl, q1, q2, q3, q4⟩, fun x H2 hy => ?_⟩
      obtain ⟨rfl, fx⟩ := hy
      have gx := fx _ (ex_l ((e.trans e1).trans p2) hx)
      rw [hlm] at gx
      rw [List.getElem?_map] at gx
      obtain ⟨r, hr, rfl⟩ := Option.map_eq_some_iff.mp gx
      have hm : r ∈ ns := List.mem_of_getElem? hr
      have hlen : (((ns.reverse.take n).filter f).map w).length < 100000 := by
        rw [List.length_map]
        have h1 := List.length_filter_le f (ns.reverse.take n)
        rw [List.length_take, List.length_reverse] at h1
        omega
      have et : ns.reverse.take (n + 1) = ns.reverse.take n ++ [r] := by
        rw [List.take_add_one, List.getElem?_reverse hlt, hr]
        rfl
      refine ⟨hw _, ?_⟩
      refine ht r H1 (e.trans e1) hm H2 p2 _ fun H3 e3 => ?_
      cases hf : f r with
      | true =>
        show te _ H3 _
        refine he r H1 (e.trans e1) hm hf H3 (p2.trans e3) _ fun H4 e4 => ⟨_, e4 Dl _ (e3 Dl _ p3), sz_lt hlen, hlt, p1, Ex.mut ((p2.trans e3).trans e4) p1, ?_⟩
        rw [upd_same, et, List.filter_append, List.map_append, List.filter_cons, if_pos hf]
        rfl
      | false =>
        refine ⟨hlt, p1, p2.trans e3, ?_⟩
        rw [et, List.filter_append, List.map_append, List.filter_cons, if_neg (by rw [hf]; decide)]
        show _ = some (HO.lst (_ ++ []))
        rw [List.append_nil]
        exact e3 Dl _ p3
    · have en : n = ns.length := by omega
      subst en
      rw [List.take_of_length_le (by rw [List.length_reverse]; exact Nat.le_refl _)] at p3
      exact .inl ⟨by show (ns.map V.int).length ≤ _; rw [List.length_map]; exact Nat.le_refl _, q Dl H' (fresh_back e1 p1) (e1.trans p2) p3⟩⟩⟩
/-- two lists by their names, glued -/
theorem el_cat2 {l b : Addr} {xs ys : List V} (ha : Ev ta σ H (.ref l)) (hl : H l = some (.lst xs)) (hb : Ev tb σ H (.ref b)) (hlb : H b = some (.lst ys)) (hz : xs.length + ys.length ≤ 100000) : EvL (tOp rCat ta tb) σ H (xs ++ ys) := fun H1 e Q q =>
  ha H1 e _ fun H2 e2 => hb H2 (e.trans e2) _ fun H3 e3 => ⟨l, b, xs, ys, rfl, rfl, (e.trans (e2.trans e3)) _ _ hl, (e.trans (e2.trans e3)) _ _ hlb, sz_of hz, fun l hl => q l _ (fresh_back (e2.trans e3) hl) ((e2.trans e3).trans (Ex.new hl)) upd_same⟩
/-- for i, x in enumerate(a new list) -/
theorem s_forEN {xs : List V} {j1 j2 : Nat} (h : EvL te σ H xs) (Pv : Addr → Nat → L2.St → Hp → Prop) (h0 : ∀ a H1, H a = none → Ex H H1 → H1 a = some (.lst xs) → Pv a 0 σ H1) (hl : ∀ a i σ' H', i ≤ xs.length → Pv a i σ' H' → SqL K H' a xs)
    (hs : ∀ a i x σ' H', xs[i]? = some x → Pv a i σ' H' → ∀ H2, Ex H' H2 → tu { D with nx := Pv a (i + 1), ct := Pv a (i + 1), bk := D.nx } ((σ'.set j1 (some (.int (i : Nat)))).set j2 (some x)) H2) (hd : ∀ a σ' H', Pv a xs.length σ' H' → D.nx σ' H') :
    tFor (iEnum K (tCons te tNil)) (gTup K 2 (gCons (gName j1) (gCons (gName j2) gNil))) tu D σ H :=
  h H (Ex.refl H) _ fun a H1 na e ha => ⟨a, xs, rfl, sq_of ha, fun i m σ' H' => m = xs.length - i ∧ i ≤ xs.length ∧ Pv a i σ' H', ⟨xs.length, rfl, Nat.zero_le _, h0 a H1 na e ha⟩, fun i m σ' H' hW => by
    obtain ⟨rfl, hi, p⟩ := hW
    have q := hl a i σ' H' hi p
    by_cases hlt : i < xs.length
    · refine .inr ⟨⟨xs, xs[i], q, List.getElem?_eq_getElem hlt⟩, Pv a (i + 1), fun σ2 H2 p' => ⟨xs.length - (i + 1), by omega, rfl, hlt, p'⟩, fun w H2 hy => ?_⟩
      obtain ⟨T, x, rfl, hT, rfl, fx⟩ := hy
      exact ⟨T, _, rfl, .inl (.inl upd_same), rfl, .int (i : Nat), [x], rfl, x, [], rfl, rfl, hs a i x σ' H' (fx xs q) p _ (Ex.new hT)⟩
    · have e : i = xs.length := by omega
      subst e
      exact .inl ⟨⟨xs, q, Nat.le_refl _⟩, hd a σ' H' p⟩⟩
theorem q_forEN {xs : List V} {j1 j2 : Nat} (h : EvL te σ H xs) (Pv : Addr → Nat → L2.St → Hp → Prop) (h0 : ∀ a H1, H a = none → Ex H H1 → H1 a = some (.lst xs) → Pv a 0 σ H1) (hl : ∀ a i σ' H', i ≤ xs.length → Pv a i σ' H' → SqL K H' a xs)
    (hs : ∀ a i x σ' H', xs[i]? = some x → Pv a i σ' H' → ∀ H2, Ex H' H2 → tu { D with nx := Pv a (i + 1), ct := Pv a (i + 1), bk := tz D } ((σ'.set j1 (some (.int (i : Nat)))).set j2 (some x)) H2) (hd : ∀ a σ' H', Pv a xs.length σ' H' → tz D σ' H') :
    tSeq (tFor (iEnum K (tCons te tNil)) (gTup K 2 (gCons (gName j1) (gCons (gName j2) gNil))) tu) tz D σ H := s_forEN (D := { D with nx := tz D }) h Pv h0 hl hs hd
/-- for a, b in a new list of pairs -/
theorem q_forP {rows : List (Int × Int)} {j1 j2 : Nat} (h : EvP K te σ H rows) (Pv : Hp → Nat → L2.St → Hp → Prop) (h0 : ∀ H1, Ex H H1 → Pv H1 0 σ H1) (hl : ∀ H1 i σ' H', Pv H1 i σ' H' → Ex H1 H')
    (hs : ∀ H1 i r σ' H', Ex H H1 → rows[i]? = some r → Pv H1 i σ' H' → tu { D with nx := Pv H1 (i + 1), ct := Pv H1 (i + 1), bk := tz D } ((σ'.set j1 (some (.int r.1))).set j2 (some (.int r.2))) H') (hd : ∀ H1 σ' H', Ex H H1 → Pv H1 rows.length σ' H' → tz D σ' H') :
    tSeq (tFor (iList K te) (gTup K 2 (gCons (gName j1) (gCons (gName j2) gNil))) tu) tz D σ H :=
  h H (Ex.refl H) _ fun p xs H1 np e hp pr => ⟨p, rfl, ⟨xs, sq_of hp⟩, for_list (xs := xs) (Pv H1) (h0 H1 e) (fun i σ' H' _ q => sq_of (hl _ _ _ _ q _ _ hp)) (fun i x σ' H' hx q => by
    obtain ⟨r, t, hr, rfl, ht⟩ := prs_get (pr.mono (hl _ _ _ _ q)) hx
    exact ⟨t, _, rfl, ht, rfl, .int r.1, [.int r.2], rfl, .int r.2, [], rfl, rfl, hs H1 i r σ' H' e hr q⟩) (fun σ' H' q => by
    rw [Paired.length pr] at q
    exact hd H1 σ' H' e q)⟩
/-- a list by its name, beside a new list of pairs -/
theorem ev_opLP {r : R2} {rows : List (Int × Int)} (ha : Ev ta σ H x) (hb : EvP K tb σ H rows) (hr : ∀ p xs H1, H1 p = some (.lst xs) → Prs K H1 xs rows → Ex H H1 → RV r x (.ref p) H1 z) : Ev (tOp r ta tb) σ H z := fun H1 e Q q =>
  ha H1 e _ fun H2 e2 => hb H2 (e.trans e2) _ fun p xs H3 np e3 hp pr => hr p xs H3 hp pr ((e.trans e2).trans e3) H3 (Ex.refl H3) Q fun H4 e4 => q H4 ((e2.trans e3).trans e4)
theorem inV_int (x : Int) : ∀ ns : List Int, inV (.int x) (ns.map V.int) = decide (x ∈ ns)
  | [] => rfl
  | n :: ns => by
    have ih := inV_int x ns
    show ((n == x) || inV (.int x) (ns.map V.int)) = _
    rw [ih, Bool.eq_iff_iff, Bool.or_eq_true, beq_iff_eq, decide_eq_true_iff, decide_eq_true_iff, List.mem_cons]
    constructor
    · rintro (h | h)
      · exact .inl h.symm
      · exact .inr h
    · rintro (h | h)
      · exact .inl h.symm
      · exact .inr h
theorem flat_ints : ∀ ns : List Int, (ns.map V.int).all flatV = true
  | [] => rfl
  | n :: ns => by
    rw [List.map_cons, List.all_cons, flat_ints ns]
    rfl
theorem ev_notIn {a : Addr} {x : Int} {ns : List Int} (ha : Ev ta σ H (.int x)) (hb : Ev tb σ H (.ref a)) (hl : SqL K H a (ns.map V.int)) : Ev (tOp (rIn K true) ta tb) σ H (.bl (!decide (x ∈ ns))) := by
  have := rv_niL (K := K) (x := .int x) hl rfl (flat_ints ns)
  rw [inV_int] at this
  exact ev_op ha hb this
/-- sorted(xs), ints -/
theorem el_sorted {a : Addr} {ns ms : List Int} (ha : Ev ta σ H (.ref a)) (hl : SqL K H a (ns.map V.int)) (hu : ∀ ns' : List Int, ns'.Perm ns → ns'.Pairwise (· ≤ ·) → ns' = ms) : EvL (tCB (rSortedI K) (tCons ta tNil)) σ H (ms.map V.int) := fun H1 e Q q =>
  ha H1 e _ fun H2 e2 => ⟨a, ns, rfl, ex_l (e.trans e2) hl, fun ns' p hp hs np => by
    rw [hu ns' hp hs]
    exact q p _ (fresh_back e2 np) (e2.trans (Ex.new np)) upd_same⟩
/-- list(t), t a tuple -/
theorem el_listT {p : Addr} {xs : List V} (ha : Ev ta σ H (.ref p)) (h : SqT K H p xs) : EvL (tCB (rListS K) (tCons ta tNil)) σ H xs := fun H1 e Q q =>
  ha H1 e _ fun H2 e2 => ⟨p, xs, rfl, Or.inr (ex_t (e.trans e2) h), fun l hl => q l _ (fresh_back e2 hl) (e2.trans (Ex.new hl)) upd_same⟩
theorem ev_int1b {b : Bool} (ha : Ev ta σ H (.bl b)) : Ev (tCB (fun xs H Q => (∃ i, xs = [.int i] ∧ Q (.int i) H) ∨ ∃ k, xs = [.bl k] ∧ Q (.int (if k then 1 else 0)) H) (tCons ta tNil)) σ H (.int (if b then 1 else 0)) := fun H1 e Q q =>
  ha H1 e _ fun H2 e2 => .inr ⟨b, rfl, q H2 e2⟩
theorem ev_isqrt {n : Nat} (ha : Ev ta σ H (.int (n : Nat))) (hn : n < 2 ^ 64) : Ev (tCB rIsqrt (tCons ta tNil)) σ H (.int ((Float64.isqrt n : Nat) : Int)) := fun H1 e Q q =>
  ha H1 e _ fun H2 e2 => ⟨(n : Nat), rfl, by omega, by omega, by rw [Int.toNat_natCast]; exact q H2 e2⟩
theorem tx_sqt {p : Addr} {xs : List V} (h : SqT K H p xs) : ∀ H1, Ex H H1 → TyX K H1 (.ref p) (.type "tuple") := fun H1 e => by
  rcases ex_t e h with (h | ⟨o, h⟩) | h
  · exact .base (.tup h)
  · exact .fTuple h
  · obtain ⟨o, its, n, h1, h2, _⟩ := h
    exact .kTuple h1 h2
end
end Kp

/-! Polynomials as lists: the number of each power, noughts cut off at the end, products, other powers of x, values. -/
namespace Kp
/-- the number of the m-th power -/
def coef (l : List Int) (m : Nat) : Int := l.getD m 0
theorem coef_lt {l : List Int} {m : Nat} (h : m < l.length) : coef l m = l[m] := by
  unfold coef
  rw [List.getD_eq_getElem?_getD, List.getElem?_eq_getElem h]
  rfl
theorem coef_ge {l : List Int} {m : Nat} (h : l.length ≤ m) : coef l m = 0 := by
  unfold coef
  rw [List.getD_eq_getElem?_getD, List.getElem?_eq_none h]
  rfl
theorem coef_get {l : List Int} {m : Nat} (h : m < l.length) : l[m]? = some (coef l m) := by
  rw [coef_lt h, List.getElem?_eq_getElem h]
theorem coef_of {l : List Int} {m : Nat} {x : Int} (h : l[m]? = some x) : coef l m = x := by
  unfold coef
  rw [List.getD_eq_getElem?_getD, h]
  rfl
theorem coef_nil (m : Nat) : coef [] m = 0 := coef_ge (Nat.zero_le _)
theorem ext_of {a b : List Int} (hl : a.length = b.length) (h : ∀ m, m < a.length → coef a m = coef b m) : a = b := by
  refine List.ext_getElem hl fun i h1 h2 => ?_
  have := h i h1
  rwa [coef_lt h1, coef_lt h2] at this
theorem coef_set {l : List Int} {j m : Nat} {x : Int} (hj : j < l.length) : coef (l.set j x) m = if m = j then x else coef l m := by
  unfold coef
  rw [List.getD_eq_getElem?_getD, List.getD_eq_getElem?_getD, List.getElem?_set]
  by_cases e : j = m
  · subst e
    rw [if_pos rfl, if_pos hj, if_pos rfl]
    rfl
  · rw [if_neg e, if_neg (fun q => e q.symm)]
theorem coef_app {a b : List Int} {m : Nat} : coef (a ++ b) m = if m < a.length then coef a m else coef b (m - a.length) := by
  unfold coef
  rw [List.getD_eq_getElem?_getD, List.getElem?_append]
  split <;> rw [List.getD_eq_getElem?_getD]
theorem coef_rep {n m : Nat} : coef (List.replicate n 0) m = 0 := by
  by_cases h : m < n
  · rw [coef_lt (by rw [List.length_replicate]; exact h), List.getElem_replicate]
  · exact coef_ge (by rw [List.length_replicate]; omega)
theorem coef_take {l : List Int} {n m : Nat} : coef (l.take n) m = if m < n then coef l m else 0 := by
  unfold coef
  rw [List.getD_eq_getElem?_getD, List.getElem?_take]
  split
  · rw [List.getD_eq_getElem?_getD]
  · rfl
def mkL (n : Nat) (h : Nat → Int) : List Int := (List.range n).map h
theorem mkL_len (n : Nat) (h : Nat → Int) : (mkL n h).length = n := by
  unfold mkL
  rw [List.length_map, List.length_range]
theorem coef_mkL {n m : Nat} {h : Nat → Int} : coef (mkL n h) m = if m < n then h m else 0 := by
  split
  · rename_i q
    rw [coef_lt (by rw [mkL_len]; exact q)]
    unfold mkL
    rw [List.getElem_map, List.getElem_range]
  · rename_i q
    exact coef_ge (by rw [mkL_len]; omega)
theorem mkL_of {l : List Int} {n : Nat} {h : Nat → Int} (hl : l.length = n) (e : ∀ m, m < n → coef l m = h m) : l = mkL n h := by
  refine ext_of (by rw [mkL_len, hl]) fun m hm => ?_
  rw [hl] at hm
  rw [e m hm, coef_mkL, if_pos hm]

/-! ### without a nought at the end -/
def Tr (l : List Int) : Prop := l ≠ [] → coef l (l.length - 1) ≠ 0
theorem Tr.nil : Tr [] := fun h => absurd rfl h
theorem tr_uniq {a b : List Int} (ha : Tr a) (hb : Tr b) (h : ∀ m, coef a m = coef b m) : a = b := by
  have key : ∀ {a b : List Int}, Tr b → (∀ m, coef a m = coef b m) → ¬ a.length < b.length := fun {a b} hb h q => by
    refine hb (fun e => by rw [e] at q; exact absurd q (Nat.not_lt_zero _)) ?_
    rw [← h]
    exact coef_ge (by omega)
  have h1 := key hb h
  have h2 := key ha (fun m => (h m).symm)
  exact ext_of (by omega) fun m _ => h m
/-- how many of the first n numbers stay -/
def tlen (l : List Int) : Nat → Nat
  | 0 => 0
  | n + 1 => if coef l n = 0 then tlen l n else n + 1
def trim (l : List Int) : List Int := l.take (tlen l l.length)
theorem tlen_le (l : List Int) : ∀ n, tlen l n ≤ n
  | 0 => Nat.le_refl _
  | n + 1 => by
    unfold tlen
    have := tlen_le l n
    split <;> omega
theorem tlen_zero (l : List Int) : ∀ n m, tlen l n ≤ m → m < n → coef l m = 0
  | 0, m, _, h => absurd h (Nat.not_lt_zero _)
  | n + 1, m, h1, h2 => by
    unfold tlen at h1
    split at h1
    · rename_i q
      by_cases e : m = n
      · rw [e]; exact q
      · exact tlen_zero l n m h1 (by omega)
    · omega
theorem tlen_last (l : List Int) : ∀ n, tlen l n ≠ 0 → coef l (tlen l n - 1) ≠ 0
  | 0, h => absurd rfl h
  | n + 1, h => by
    unfold tlen at h ⊢
    split
    · rename_i q
      rw [if_pos q] at h
      exact tlen_last l n h
    · rename_i q
      rw [Nat.add_sub_cancel]
      exact q
theorem trim_len (l : List Int) : (trim l).length = tlen l l.length := by
  unfold trim
  rw [List.length_take]
  have := tlen_le l l.length
  omega
theorem coef_trim (l : List Int) (m : Nat) : coef (trim l) m = coef l m := by
  unfold trim
  rw [coef_take]
  split
  · rfl
  · rename_i h
    by_cases q : m < l.length
    · exact (tlen_zero l _ m (by omega) q).symm
    · exact (coef_ge (by omega)).symm
theorem tr_trim (l : List Int) : Tr (trim l) := fun h => by
  have e := trim_len l
  have n0 : tlen l l.length ≠ 0 := fun q => h (List.eq_nil_of_length_eq_zero (by omega))
  rw [coef_trim, e]
  exact tlen_last l _ n0
theorem trim_of_tr {l : List Int} (h : Tr l) : trim l = l := tr_uniq (tr_trim l) h (coef_trim l)
theorem trim_ext {a b : List Int} (h : ∀ m, coef a m = coef b m) : trim a = trim b := tr_uniq (tr_trim a) (tr_trim b) fun m => by rw [coef_trim, coef_trim, h]
theorem trim_eq {a b : List Int} (hb : Tr b) (h : ∀ m, coef a m = coef b m) : trim a = b := tr_uniq (tr_trim a) hb fun m => by rw [coef_trim, h]

/-! ### sums -/
def addL (c : Int) (f g : List Int) : List Int := mkL (max f.length g.length) fun m => coef f m + c * coef g m
theorem coef_addL (c : Int) (f g : List Int) (m : Nat) : coef (addL c f g) m = coef f m + c * coef g m := by
  unfold addL
  rw [coef_mkL]
  split
  · rfl
  · rename_i h
    rw [coef_ge (show f.length ≤ m by omega), coef_ge (show g.length ≤ m by omega)]
    simp
def addP (c : Int) (f g : List Int) : List Int := trim (addL c f g)
theorem coef_addP (c : Int) (f g : List Int) (m : Nat) : coef (addP c f g) m = coef f m + c * coef g m := by
  unfold addP
  rw [coef_trim, coef_addL]
theorem coef_neg (g : List Int) (m : Nat) : coef (g.map fun x => -x) m = -coef g m := by
  by_cases h : m < g.length
  · rw [coef_lt (by rw [List.length_map]; exact h), coef_lt h, List.getElem_map]
  · rw [coef_ge (by rw [List.length_map]; omega), coef_ge (by omega)]
    rfl
theorem addP_neg (f g : List Int) : addP 1 f (g.map fun x => -x) = addP (0 - 1) f g := trim_ext fun m => by
  rw [coef_addL, coef_addL, coef_neg]
  omega

/-! ### products -/
/-- the number of the m-th power in the product of the first i numbers of f, and g -/
def cv (f g : List Int) : Nat → Nat → Int
  | 0, _ => 0
  | i + 1, m => cv f g i m + if i ≤ m then coef f i * coef g (m - i) else 0
theorem cv_far (f g : List Int) (m : Nat) : ∀ i, i + g.length ≤ m + 1 → cv f g i m = 0
  | 0, _ => rfl
  | i + 1, h => by
    unfold cv
    rw [cv_far f g m i (by omega), if_pos (by omega), coef_ge (show g.length ≤ m - i by omega)]
    simp
theorem cv_last {f g : List Int} (hf : f ≠ []) (hg : g ≠ []) : cv f g f.length (f.length + g.length - 2) = coef f (f.length - 1) * coef g (g.length - 1) := by
  have l1 := List.length_pos_iff.mpr hf
  have l2 := List.length_pos_iff.mpr hg
  obtain ⟨n, e⟩ : ∃ n, f.length = n + 1 := ⟨f.length - 1, by omega⟩
  rw [e]
  unfold cv
  rw [cv_far f g _ n (by omega), if_pos (by omega), Nat.add_sub_cancel, show n + 1 + g.length - 2 - n = g.length - 1 by omega]
  simp
/-- as the program multiplies, as the law does -/
def mulP (f g : List Int) : List Int := if f = [] ∨ g = [] then [] else mkL (f.length + g.length - 1) (cv f g f.length)
def mulL (f g : List Int) : List Int := trim (mkL (f.length + g.length) (cv f g f.length))
theorem coef_mulP (f g : List Int) (m : Nat) : coef (mulP f g) m = cv f g f.length m := by
  unfold mulP
  split
  · rename_i h
    rw [coef_nil]
    rcases h with h | h
    · rw [h]
      rfl
    · subst h
      symm
      have : ∀ i, cv f [] i m = 0 := fun i => by
        induction i with
        | zero => rfl
        | succ i ih =>
          unfold cv
          rw [ih, coef_nil]
          simp
      exact this _
  · rename_i h
    rw [coef_mkL]
    split
    · rfl
    · rename_i q
      exact (cv_far f g m _ (by omega)).symm
theorem coef_mulL (f g : List Int) (m : Nat) : coef (mulL f g) m = cv f g f.length m := by
  unfold mulL
  rw [coef_trim, coef_mkL]
  split
  · rfl
  · rename_i q
    exact (cv_far f g m _ (by omega)).symm
theorem tr_mulP {f g : List Int} (hf : Tr f) (hg : Tr g) : Tr (mulP f g) := by
  intro h
  unfold mulP at h ⊢
  split
  · rename_i q
    rw [if_pos q] at h
    exact absurd rfl h
  · rename_i q
    have q1 : f ≠ [] := fun e => q (.inl e)
    have q2 : g ≠ [] := fun e => q (.inr e)
    have l1 := List.length_pos_iff.mpr q1
    have l2 := List.length_pos_iff.mpr q2
    rw [mkL_len, coef_mkL, if_pos (by omega), show f.length + g.length - 1 - 1 = f.length + g.length - 2 by omega, cv_last q1 q2]
    exact Int.mul_ne_zero (hf q1) (hg q2)
theorem mul_eq {f g : List Int} (hf : Tr f) (hg : Tr g) : mulL f g = mulP f g := by
  unfold mulL
  refine trim_eq (tr_mulP hf hg) fun m => ?_
  rw [coef_mulP, ← coef_mulL]
  unfold mulL
  rw [coef_trim]

/-! ### at a power -/
def pw (f : List Int) (k m : Nat) : Int := if m % k = 0 then coef f (m / k) else 0
def atP (f : List Int) (k : Nat) : List Int := if f = [] then [] else mkL ((f.length - 1) * k + 1) (pw f k)
def wideL (k : Nat) : List Int → List Int
  | [] => []
  | x :: f => x :: List.replicate (k - 1) 0 ++ wideL k f
theorem pw_far {f : List Int} {k m : Nat} (hk : 1 ≤ k) (h : (f.length - 1) * k < m) : pw f k m = 0 := by
  unfold pw
  split
  · rename_i q
    refine coef_ge (Nat.le_of_not_lt fun r => ?_)
    have e := Nat.div_add_mod m k
    rw [q, Nat.add_zero] at e
    have : k * (m / k) ≤ k * (f.length - 1) := Nat.mul_le_mul_left k (by omega)
    rw [e, Nat.mul_comm] at this
    omega
  · rfl
theorem coef_atP {f : List Int} {k : Nat} (hk : 1 ≤ k) (m : Nat) : coef (atP f k) m = pw f k m := by
  unfold atP
  split
  · rename_i h
    subst h
    rw [coef_nil]
    unfold pw
    rw [coef_nil]
    split <;> rfl
  · rw [coef_mkL]
    split
    · rfl
    · exact (pw_far hk (by omega)).symm
theorem tr_atP {f : List Int} {k : Nat} (hk : 1 ≤ k) (hf : Tr f) : Tr (atP f k) := by
  intro h
  unfold atP at h ⊢
  split
  · rename_i q
    rw [if_pos q] at h
    exact absurd rfl h
  · rename_i q
    rw [mkL_len, Nat.add_sub_cancel, coef_mkL, if_pos (by omega)]
    unfold pw
    rw [Nat.mul_mod_left, if_pos rfl, Nat.mul_div_cancel _ (by omega)]
    exact hf q
theorem coef_wide {k : Nat} (hk : 1 ≤ k) : ∀ (f : List Int) (m : Nat), coef (wideL k f) m = pw f k m
  | [], m => by
    unfold pw
    rw [coef_nil]
    show coef [] m = _
    rw [coef_nil]
    split <;> rfl
  | x :: f, m => by
    have hl : (x :: List.replicate (k - 1) (0 : Int)).length = k := by
      rw [List.length_cons, List.length_replicate]
      omega
    show coef ((x :: List.replicate (k - 1) 0) ++ wideL k f) m = _
    rw [coef_app, hl]
    split
    · rename_i h
      unfold pw
      cases m with
      | zero =>
        rw [Nat.zero_mod, if_pos rfl, Nat.zero_div]
        rfl
      | succ m =>
        rw [Nat.mod_eq_of_lt h, if_neg (by omega)]
        show coef (List.replicate (k - 1) 0) m = 0
        exact coef_rep
    · rename_i h
      rw [coef_wide hk f (m - k)]
      unfold pw
      obtain ⟨d, rfl⟩ : ∃ d, m = k + d := ⟨m - k, by omega⟩
      rw [Nat.add_sub_cancel_left, Nat.add_mod_left, Nat.add_div_left _ (by omega)]
      rfl
theorem wide_eq {f : List Int} {k : Nat} (hk : 1 ≤ k) (hf : Tr f) : trim (wideL k f) = atP f k := trim_eq (tr_atP hk hf) fun m => by rw [coef_wide hk, coef_atP hk]
theorem wide_snoc (k : Nat) : ∀ (f : List Int) (x : Int), wideL k (f ++ [x]) = wideL k f ++ (x :: List.replicate (k - 1) 0)
  | [], x => by
    show x :: List.replicate (k - 1) 0 ++ [] = [] ++ _
    rw [List.append_nil, List.nil_append]
  | y :: f, x => by
    show y :: List.replicate (k - 1) 0 ++ wideL k (f ++ [x]) = (y :: List.replicate (k - 1) 0 ++ wideL k f) ++ _
    rw [wide_snoc k f x, List.append_assoc]
theorem wide_len {k : Nat} (hk : 1 ≤ k) : ∀ f : List Int, (wideL k f).length = f.length * k
  | [] => by
    show 0 = 0 * k
    omega
  | x :: f => by
    show (x :: List.replicate (k - 1) 0 ++ wideL k f).length = (f.length + 1) * k
    rw [List.length_append, List.length_cons, List.length_replicate, wide_len hk f, Nat.add_mul]
    omega

/-! ### values -/
def valP (x : Int) : List Int → Int
  | [] => 0
  | a :: f => a + x * valP x f
theorem val_drop {x : Int} {f : List Int} {i : Nat} {a : Int} (h : f[i]? = some a) : valP x (f.drop i) = a + x * valP x (f.drop (i + 1)) := by
  have hi := (List.getElem?_eq_some_iff.mp h).1
  rw [List.drop_eq_getElem_cons hi]
  have e : f[i] = a := (List.getElem?_eq_some_iff.mp h).2
  rw [e]
  rfl
end Kp

/-! Whole numbers: the whole root, primes, how a number is parted, its divisors. -/
namespace Kp
theorem sq_nn (a : Int) : 0 ≤ a * a := by
  rcases Int.le_total 0 a with h | h
  · exact Int.mul_nonneg h h
  · have := Int.mul_nonneg (show 0 ≤ -a by omega) (show 0 ≤ -a by omega)
    rwa [Int.neg_mul_neg] at this
theorem sq_sub (a b : Int) : (a - b) * (a - b) = a * a - 2 * (a * b) + b * b := by
  rw [Int.sub_mul, Int.mul_sub, Int.mul_sub, Int.mul_comm b a]
  omega
theorem sq_add (a b : Int) : (a + b) * (a + b) = a * a + 2 * (a * b) + b * b := by
  rw [Int.add_mul, Int.mul_add, Int.mul_add, Int.mul_comm b a]
  omega
theorem sq_lt {a b : Int} (ha : 0 ≤ a) (hb : 0 ≤ b) (h : a * a < b * b) : a < b := by
  refine Int.lt_of_not_ge fun q => ?_
  have := Int.mul_le_mul q q hb ha
  omega
/-- the whole root by one step from a whole root of a part -/
theorem newton {n x e : Int} (hx : 0 < x) (he : 1 ≤ e) (h1 : n < x * x) (h2 : (x - e) * (x - e) ≤ n) (h0 : e ≤ x) (h3 : (e * e) * (e * e) ≤ 2 * n) (hn : 0 < n) :
    n < ((x + n / x) / 2 + 1) * ((x + n / x) / 2 + 1) ∧ 0 < (x + n / x) / 2 ∧ ((x + n / x) / 2 - 1) * ((x + n / x) / 2 - 1) ≤ n := by
  have d1 := Int.mul_ediv_add_emod n x
  have d2 := Int.emod_nonneg n (show x ≠ 0 by omega)
  have d3 := Int.emod_lt_of_pos n hx
  have dq : 0 ≤ n / x := Int.ediv_nonneg (by omega) (by omega)
  generalize hq : n / x = q at *
  generalize hy : (x + q) / 2 = y at *
  have y1 : 2 * y ≤ x + q := by omega
  have y2 : x + q ≤ 2 * y + 1 := by omega
  have y0 : 0 ≤ y := by omega
  -- 2 y x <= x x + n and 2 (y + 1) x >= x x + n + 1
  have a1 : 2 * (y * x) ≤ x * x + x * q := by
    have := Int.mul_le_mul_of_nonneg_right y1 (show 0 ≤ x by omega)
    rw [Int.add_mul, Int.mul_assoc, Int.mul_comm q x] at this
    exact this
  have a2 : x * x + x * q + x ≤ 2 * ((y + 1) * x) := by
    have := Int.mul_le_mul_of_nonneg_right (show x + q + 1 ≤ 2 * (y + 1) by omega) (show 0 ≤ x by omega)
    rw [Int.add_mul, Int.add_mul, Int.mul_assoc, Int.mul_comm q x, Int.one_mul] at this
    exact this
  have up : n < (y + 1) * (y + 1) := by
    have s := sq_nn (y + 1 - x)
    rw [sq_sub] at s
    omega
  have qx : q < x := by
    refine Int.lt_of_not_ge fun r => ?_
    have := Int.mul_le_mul_of_nonneg_left r (show 0 ≤ x by omega)
    omega
  have yx : y < x := by omega
  refine ⟨up, ?_, ?_⟩
  · refine Int.lt_of_not_ge fun r => ?_
    have : y = 0 := by omega
    subst this
    rw [Int.zero_add, Int.one_mul] at up
    omega
  · refine Int.le_of_not_gt fun r => ?_
    -- z = y - 1 > root: x - z < e, its square beyond 2 x, so 2 x < e e, but e e e e <= 2 n < 4 x x
    have z0 : 0 ≤ y - 1 := by
      refine Int.le_of_not_gt fun r2 => ?_
      have : y = 0 := by omega
      subst this
      rw [Int.zero_add, Int.one_mul] at up
      omega
    have b1 : x - e < y - 1 := sq_lt (by omega) z0 (by omega)
    have b2 : x * x - 2 * (x * (y - 1)) + (y - 1) * (y - 1) > 2 * x := by
      have : x * (y - 1) = y * x - x := by rw [Int.mul_sub, Int.mul_one, Int.mul_comm]
      omega
    rw [← sq_sub] at b2
    have b3 : (x - (y - 1)) * (x - (y - 1)) ≤ e * e := Int.mul_le_mul (by omega) (by omega) (by omega) (by omega)
    have b4 : 2 * x < e * e := by omega
    have b5 : (2 * x) * (2 * x) < (e * e) * (e * e) := Int.mul_lt_mul b4 (Int.le_of_lt b4) (by omega) (by omega)
    have b6 : (2 * x) * (2 * x) = 4 * (x * x) := by
      rw [Int.mul_assoc, Int.mul_left_comm x 2 x]
      omega
    omega
open PySem.Float64 in
theorem root_ok : ∀ (L n : Nat), n.log2 ≤ L → rootByHalves L n * rootByHalves L n ≤ n ∧ n < (rootByHalves L n + 1) * (rootByHalves L n + 1) := by
  have small : ∀ n, n < 8 → rootBelow8 n * rootBelow8 n ≤ n ∧ n < (rootBelow8 n + 1) * (rootBelow8 n + 1) := by decide
  intro L
  induction L with
  | zero =>
    intro n h
    have : n < 2 := by
      by_cases h0 : n = 0
      · omega
      · exact (Nat.log2_lt h0).mp (by omega : n.log2 < 1)
    exact small n (by omega)
  | succ L ih =>
    intro n h
    unfold rootByHalves
    by_cases h8 : n < 8
    · rw [if_pos h8]
      exact small n h8
    · rw [if_neg h8]
      have l3 : 3 ≤ n.log2 := (Nat.le_log2 (by omega)).mpr (by omega)
      simp only
      generalize hk : (n.log2 + 1) / 4 = k
      have k1 : 1 ≤ k := by omega
      have p4 : 0 < 4 ^ k := Nat.pow_pos (by decide)
      have e4 : (4 : Nat) ^ k = 2 ^ k * 2 ^ k := by
        rw [← Nat.mul_pow]
      have hlog : (n / 4 ^ k).log2 ≤ L := by
        by_cases h0 : n / 4 ^ k = 0
        · rw [h0]
          exact Nat.zero_le _
        · have : (n / 4 ^ k).log2 < L + 1 := (Nat.log2_lt h0).mpr (by
            have h1 : n < 2 ^ (L + 2) := (Nat.log2_lt (by omega)).mp (by omega)
            refine Nat.div_lt_of_lt_mul ?_
            have h2 : (4 : Nat) ^ 1 ≤ 4 ^ k := Nat.pow_le_pow_right (by decide) k1
            have h3 : 2 * 2 ^ (L + 1) ≤ 4 ^ k * 2 ^ (L + 1) := Nat.mul_le_mul_right _ (by omega)
            rw [show L + 2 = (L + 1) + 1 from rfl, Nat.pow_succ] at h1
            omega)
          omega
      obtain ⟨s1, s2⟩ := ih (n / 4 ^ k) hlog
      generalize rootByHalves L (n / 4 ^ k) = s at *
      have two : 0 < 2 ^ k := Nat.pow_pos (by decide)
      -- e ^ 4 <= 2 n
      have hee : (2 ^ k * 2 ^ k) * (2 ^ k * 2 ^ k) ≤ 2 * n := by
        rw [← Nat.pow_add, ← Nat.pow_add]
        have h1 : 2 ^ n.log2 ≤ n := Nat.log2_self_le (by omega)
        have h2 : 2 ^ (k + k + (k + k)) ≤ 2 ^ (n.log2 + 1) := Nat.pow_le_pow_right (by decide) (by omega)
        rw [Nat.pow_succ] at h2
        omega
      have d1 := Nat.div_add_mod n (4 ^ k)
      have d2 := Nat.mod_lt n p4
      have hs1 : (s * 2 ^ k) * (s * 2 ^ k) ≤ n := by
        have : s * 2 ^ k * (s * 2 ^ k) = (s * s) * 4 ^ k := by
          rw [e4, Nat.mul_mul_mul_comm]
        rw [this]
        have h1 := Nat.mul_le_mul_right (4 ^ k) s1
        rw [Nat.mul_comm (n / 4 ^ k)] at h1
        omega
      have hs2 : n < ((s + 1) * 2 ^ k) * ((s + 1) * 2 ^ k) := by
        have : (s + 1) * 2 ^ k * ((s + 1) * 2 ^ k) = ((s + 1) * (s + 1)) * 4 ^ k := by
          rw [e4, Nat.mul_mul_mul_comm]
        rw [this]
        have h1 := Nat.mul_le_mul_right (4 ^ k) (show n / 4 ^ k + 1 ≤ (s + 1) * (s + 1) by omega)
        rw [Nat.add_mul, Nat.one_mul, Nat.mul_comm (n / 4 ^ k)] at h1
        omega
      generalize hx : (s + 1) * 2 ^ k = x at *
      generalize hE : 2 ^ k = e at *
      have hxe : x = s * e + e := by rw [← hx, Nat.add_mul, Nat.one_mul]
      have N := newton (n := (n : Int)) (x := (x : Int)) (e := (e : Int)) (by omega) (by omega) (by exact_mod_cast hs2) (by
        have : (x : Int) - (e : Int) = ((s * e : Nat) : Int) := by omega
        rw [this]
        exact_mod_cast hs1) (by omega) (by exact_mod_cast hee) (by omega)
      have ec : (((x + n / x) / 2 : Nat) : Int) = ((x : Int) + (n : Int) / (x : Int)) / 2 := by
        rw [Int.natCast_ediv, Int.natCast_add, Int.natCast_ediv]
        rfl
      rw [← ec] at N
      generalize (x + n / x) / 2 = y at *
      obtain ⟨N1, N2, N3⟩ := N
      have N1' : n < (y + 1) * (y + 1) := by exact_mod_cast N1
      have y1 : 1 ≤ y := by omega
      have N3' : (y - 1) * (y - 1) ≤ n := by
        have : ((y - 1 : Nat) : Int) = (y : Int) - 1 := by omega
        rw [← this] at N3
        exact_mod_cast N3
      split
      · rename_i hy
        refine ⟨N3', ?_⟩
        rw [Nat.sub_add_cancel y1]
        exact hy
      · rename_i hy
        exact ⟨Nat.le_of_not_gt hy, N1'⟩
theorem isqrt_ok (n : Nat) : PySem.Float64.isqrt n * PySem.Float64.isqrt n ≤ n ∧ n < (PySem.Float64.isqrt n + 1) * (PySem.Float64.isqrt n + 1) := root_ok n.log2 n (Nat.le_refl _)
end Kp

/-! An error of the text's own that an except suite keeps by a name, to be asked of behind the try. -/
namespace Kp
open PySem PySem.Spec PyProof.Rows L2 Evl

/-- at a stands an error of the class cls that has no dict of its own -/
def ExV (cls : Value) (a : Addr) : HO := .ext fun h => ∃ (o : Obj) (fs : Array Value), h.get? a = some o ∧ o.cls = cls ∧ o.dict = none ∧ o.data = .fields fs
section
variable {X : Cx} {pins : List (Addr × Obj)} {σ : L2.St} {H : Hp} {s : Shared}
/-- an object of ours that was pinned and not tracked is tracked from here on -/
theorem track {a : Addr} {o : Obj} {fs : Array Value} {cls : Value} (I : Inv X ((a, o) :: pins) σ H s) (n0 : X.s_0.heap.get? a = none) (nP : ∀ p ∈ X.pn ++ pins, p.1 ≠ a) (h1 : o.cls = cls) (h2 : o.dict = none) (h3 : o.data = .fields fs) :
    Inv X pins σ (upd H a (ExV cls a)) s := by
  obtain ⟨pa, pn, pl, pf, pc⟩ := I.pin (a, o) (List.mem_append_right _ (List.mem_cons_self ..))
  have old : ∀ {b : Addr} {u : Obj}, X.s_0.heap.get? b = some u → b ≠ a := fun {b u} e z => by
    subst z
    rw [n0] at e
    cases e
  have tr : ∀ {b : Addr} {u : HO}, H b = some u → b ≠ a := fun {b u} e => ne_of_none e pn
  exact {
    ok := I.ok
    os := I.os
    bare := I.bare
    base := {
      keep := I.base.keep
      slot := I.base.slot
      free := fun b u e n x => (upd_ne (old e)).trans (I.base.free b u e n x)
      there := I.base.there
      tups := fun b xs e => (upd_ne (tr (I.base.tups b xs e))).trans (I.base.tups b xs e)
      frzs := fun b u xs e => (upd_ne (tr (I.base.frzs b u xs e))).trans (I.base.frzs b u xs e)
      tbls := fun b ps e => by
        obtain ⟨m, q⟩ := I.base.tbls b ps e
        exact ⟨m, (upd_ne (tr q)).trans q⟩ }
    loc := I.loc
    cell := I.cell
    free := (upd_ne (Ne.symm pl)).trans I.free
    freeC := fun y c e => by
      have nc : c ≠ a := fun z => by
        obtain ⟨v, ⟨u, hu, du⟩⟩ := I.cell y c e
        rw [z] at hu
        have q : some u = some o := hu.symm.trans pa
        cases q
        exact pc _ du
      exact (upd_ne nc).trans (I.freeC y c e)
    pin := fun p hp => by
      have q := I.pin p (by
        rcases List.mem_append.mp hp with z | z
        · exact List.mem_append_left _ z
        · exact List.mem_append_right _ (List.mem_cons_of_mem _ z))
      exact ⟨q.1, (upd_ne (nP p hp)).trans q.2.1, q.2.2⟩
    hok := I.hok.laidN (fun _ _ e => e) pn ⟨⟨o, fs, pa, h1, h2, h3⟩, ⟨o, pa⟩, fun g g' ⟨u, us, q, r⟩ k => ⟨u, us, k u q, r⟩⟩
    len := I.len }
end

/-- what is wished of an error of the body where the suite is «y = n»: slot i is n's, slot j is y's; the clause always meets -/
def wKeep (K : PySem.W.Frag) (c : Value) (i j : Nat) (D : Ends) : WX := fun cls d σ H => PySem.W.exmOne K cls c = some true ∧ d = none ∧
  ∀ a, H a = none → D.nx (((σ.set i (some (.ref a))).set j (some (.ref a))).set i none) (upd H a (ExV cls a))
section
variable {X : Cx} {x n : Str} {c : Value} {i j : Nat} {body : List Stmt} {st : Stmt} {np pos pos' : Pos} {tb : WX → TS}
theorem keep_caught {pins : List (Addr × Obj)} {D : Ends} {u : Value} {s' : Shared} {xe : Value → Shared → Prop} (ok : X.Ok) (hs : X.stack = X.env :: X.outer) (hf : X.env.frame = some X.env.locals) (hex : X.ex = []) (hN : X.N.Nodup) (hi : X.N[i]? = some n) (hln : X.env.kindOf n = some .local) (hc : Names X x c)
    (hsu : ∀ (a : Addr) (o : Obj) (pn : List (Addr × Obj)), PSs (X.suite a ((a, o) :: pn)) [st] (tAsg (tVar i) (gName j))) (hij : i < X.N.length)
    (xx : XE (X.tr (X.pn ++ pins) xe) (wKeep X.K c i j D) u s') :
    wpAny (model X.prog X.w) X.A (noteFrame u X.env) (fun _ s₂ => wpAny (model X.prog X.w) X.A (setFlight u none) (fun _ s₃ => wpAny (model X.prog X.w) X.A (handleBy u X.env [.ExceptHandler (some (.Name x np)) (some n) [st] pos']) (SP X pins D) X.xe s₃) X.xe s₂) X.xe s' := by
  obtain ⟨a, B, sI, pins', σ', H', cls, d, rfl, JJ, nb, up, sky, na, os, ag, meets, rfl, wish⟩ := xx
  have J : Inv X pins σ' H' sI := Inv.ofTry JJ ok
  have frames : X.A.frames = some (X.env :: X.outer) := ok.frames.trans (congrArg some hs)
  have ground : B.get? a = none := by
    rcases sky with q | q | q
    · exact q.2.1
    · exact q.2.1
    · exact q.2.1
  have sky2 : Sky B (X.env :: X.outer) a (Zc cls none) X.env.locals s'.heap := hs ▸ sky
  refine Sky.land Zc.steady frames hf sky2 fun g fl upg => ?_
  -- the error is no frame's object
  obtain ⟨o, fs, ho, hz, hd⟩ := fl.there
  have noFrame : a ∉ frs (X.env :: X.outer) := fun m => by
    obtain ⟨_, o2, e2, no⟩ := fl.2.2.1.mem m
    have q := Option.some.inj (e2.symm.trans ho)
    exact no fs (q ▸ hd)
  have nL : a ≠ X.env.locals := fun z => noFrame (List.mem_filterMap.mpr ⟨X.env, List.mem_cons_self .., by rw [hf, z]⟩)
  have nF : a ∉ X.fs := fun m => by
    obtain ⟨e, he, q⟩ := List.mem_filterMap.mp m
    exact noFrame (List.mem_filterMap.mpr ⟨e, List.mem_cons_of_mem _ he, q⟩)
  have newI : sI.heap.get? a = none := by
    cases q : sI.heap.get? a with
    | none => rfl
    | some w =>
      have z := nb a w q (by
        show a ∉ frs X.stack
        rw [hs]
        exact noFrame)
      rw [ground] at z
      cases z
  have new0 : X.s_0.heap.get? a = none := by
    cases q : X.s_0.heap.get? a with
    | none => rfl
    | some w =>
      obtain ⟨w2, q2⟩ := J.base.there a w q (by
        rw [hex]
        exact fun z => nomatch z)
      rw [newI] at q2
      cases q2
  have newP : ∀ p ∈ X.pn ++ pins, p.1 ≠ a := fun p hp z => by
    have q := (J.pin p hp).1
    rw [z, newI] at q
    cases q
  have JG : Inv X pins σ' H' { s' with heap := g } := J.landed nb fl.1 (up.trans upg) os ag
  have SG := JG.suite ho hd na nL nF
  -- the clause's class is asked
  refine wpAny_handleBy_cons (codeAny_handlers_test ?_) (fun z => nomatch z)
  have kind : PySem.W.Looks (model X.prog X.w) g (typeOf (.ref a)) cls := fun A Q E t k q => wpAny_typeOf_ref (k _ _ ho) (by
    rw [hz.1]
    exact q)
  have ask := PySem.W.exm_one (M := model X.prog X.w) JG.kIn kind meets
  have named : ∀ {Q E : Value → Shared → Prop}, Q c { s' with heap := g } → wpAny (model X.prog X.w) (X.A.mark (some (.ref a))) (eval (.Name x np) X.env) Q E { s' with heap := g } := fun {Q E} q => by
    obtain ⟨g1, g2, g3⟩ := hc
    rcases g3 with m | ⟨m1, m2, m3⟩
    · exact ld_glob (X := X.suite a ((a, o) :: (X.pn ++ pins))) SG g1 m q g2
    · exact ld_blt (X := X.suite a ((a, o) :: (X.pn ++ pins))) SG g1 m1 m2 q m3 g2
  refine named (ask.here ?_)
  -- the suite
  refine codeAny_handlers_suite_as (HandSPX.lands_againZ fl fun g2 fl2 up2 => ?_)
  have J2 : Inv X pins σ' H' { s' with heap := g2 } := J.landed nb fl2.1 ((up.trans upg).trans up2) os ag
  obtain ⟨o2, fs2, ho2, hz2, hd2⟩ := fl2.there
  have S2 := J2.suite ho2 hd2 na nL nF
  refine store_ok (X := X.suite a ((a, o2) :: (X.pn ++ pins))) (v := .ref a) S2 hN hi (.inl hln) rfl (fun s5 S5 => ?_) (.inr hln)
  have len : i < σ'.length := by
    rw [J.len]
    exact hij
  have reads : tAsg (tVar i) (gName j) { nx := fun σ2 H2 => σ2 = (σ'.set i (some (.ref a))).set j (some (.ref a)) ∧ H2 = H', rt := fun _ _ => False } (σ'.set i (some (.ref a))) H' :=
    ⟨.ref a, List.getElem?_set_self len, rfl, rfl⟩
  refine wpAny_mono ((hsu a o2 (X.pn ++ pins)).run [] s5 _ H' _ S5 reads) (fun f s6 q => ?_) (fun _ _ z => z.elim)
  cases f with
  | next =>
    obtain ⟨σ6, H6, S6, rfl, rfl⟩ := q
    obtain ⟨t1, t2, t3, t4, t5⟩ := S6.pin (a, o2) (List.mem_append_left _ (List.mem_cons_self ..))
    have U6 : Inv X pins _ _ s6 := S6.unsuite ok
    have P6 : Inv X ((a, o2) :: pins) _ _ s6 := U6.pins_of fun p hp => by
      rcases List.mem_cons.mp hp with rfl | m
      · exact ⟨t1, t2, t3, t4, t5⟩
      · exact U6.pin p (List.mem_append_right _ m)
    exact gone_ok P6 hN hi hln fun s7 J7 => ⟨_, _, track J7 new0 newP hz2.1 hz2.2 hd2, wish a na⟩
  | brk =>
    obtain ⟨_, _, _, z⟩ := q
    exact z.elim
  | cont =>
    obtain ⟨_, _, _, z⟩ := q
    exact z.elim
  | ret v =>
    obtain ⟨_, _, _, _, _, z⟩ := q
    exact z.elim
theorem ps_try_keep (hs : X.stack = X.env :: X.outer) (hf : X.env.frame = some X.env.locals) (hex : X.ex = []) (hN : X.N.Nodup) (hi : X.N[i]? = some n) (hln : X.env.kindOf n = some .local) (hc : Names X x c) (hij : i < X.N.length)
    (hb : ∀ (W : WX) (pn : List (Addr × Obj)) (xe : Value → Shared → Prop), Takes (X.tr pn xe) W → PassesOwn (model X.prog X.w) X.A X.env xe → PSs (X.tr pn xe) body (tb W))
    (hsu : ∀ (a : Addr) (o : Obj) (pn : List (Addr × Obj)), PSs (X.suite a ((a, o) :: pn)) [st] (tAsg (tVar i) (gName j))) :
    PS X (.Try body [.ExceptHandler (some (.Name x np)) (some n) [st] pos'] [] [] pos) (fun D σ H => tb (wKeep X.K c i j D) D σ H) := by
  refine ⟨fun pins s σ H D I h => wpAny_Try_except ?_⟩
  have ok := I.ok
  have run := (hb (wKeep X.K c i j D) (X.pn ++ pins) _ (fun u s' xx => keep_caught (np := np) (pos' := pos') ok hs hf hex hN hi hln hc hsu hij xx) PassesOwn.looking).run [] s σ H D (I.toTry _) h
  refine wpAny_mono run (fun f s1 q => ?_) (fun _ _ z => z)
  cases f with
  | next =>
    obtain ⟨σ1, H1, J, z⟩ := q
    exact wpAny_execs_nil ⟨σ1, H1, J.ofTry ok, z⟩
  | brk =>
    obtain ⟨σ1, H1, J, z⟩ := q
    exact ⟨σ1, H1, J.ofTry ok, z⟩
  | cont =>
    obtain ⟨σ1, H1, J, z⟩ := q
    exact ⟨σ1, H1, J.ofTry ok, z⟩
  | ret v =>
    obtain ⟨v1, σ1, H1, J, r, z⟩ := q
    exact ⟨v1, σ1, H1, J.ofTry ok, r, z⟩
end

/-! ### isinstance of such an error -/
section
variable {X : Cx}
/-- isinstance(e, c); isinstance(e, (c1, c2, ..)) -/
def rIsX (K : PySem.W.Frag) (C : Addr) : List V → Hp → VK → Prop := fun xs H Q => ∃ (a : Addr) (c : V) (u : Value) (b : Bool), xs = [.ref a, c] ∧ H a = some (ExV (.ref C) a) ∧ ClsV c u ∧ PySem.W.kitOne K (.ref C) u = some b ∧ Q (.bl b) H
def rIsXT (K : PySem.W.Frag) (C : Addr) : List V → Hp → VK → Prop := fun xs H Q => ∃ (a tp : Addr) (cs : List V) (us : List Value) (b : Bool), xs = [.ref a, .ref tp] ∧ H a = some (ExV (.ref C) a) ∧ H tp = some (.tup cs) ∧ Paired ClsV cs us ∧ PySem.W.kitAny K (.ref C) us = some b ∧ Q (.bl b) H
theorem inst_of {pins : List (Addr × Obj)} {σ : L2.St} {H : Hp} {s : Shared} {a C : Addr} (I : Inv X pins σ H s) (h : H a = some (ExV (.ref C) a)) : ∃ o, PySem.W.InstAt s.heap a o C none := by
  obtain ⟨⟨o, fs, h1, h2, h3, h4⟩, _⟩ := I.hok a _ h
  obtain ⟨oc, od, dt, sl⟩ := o
  dsimp only at h2 h3 h4
  subst h2 h3 h4
  exact ⟨_, h1, rfl, rfl, trivial⟩
theorem call_isX {C : Addr} (T : ExcC X.K C) : CallR X (.builtin "isinstance") (rIsX X.K C) := by
  intro pins s σ H xs us Q I r h
  obtain ⟨a, c, u, b, rfl, ha, k, e, q⟩ := h
  obtain ⟨u1, u2, rfl, r1, r2⟩ := vals2 r
  obtain rfl := k.eq r2
  cases (show u1 = Value.ref a from r1)
  obtain ⟨o, J⟩ := inst_of I ha
  exact PySem.W.kia_one (PySem.W.handS_kitx_exc T.hg T.hk T.hs T.hd T.ha T.hn T.ht T.hm) I.kIn J e (fun z => nomatch z) fun tk => ⟨.bl b, H, I.tok tk, rfl, q⟩
theorem call_isXT {C : Addr} (T : ExcC X.K C) : CallR X (.builtin "isinstance") (rIsXT X.K C) := by
  intro pins s σ H xs us Q I r h
  obtain ⟨a, tp, cs, ws, b, rfl, ha, hT, k, e, q⟩ := h
  obtain ⟨u1, u2, rfl, r1, r2⟩ := vals2 r
  cases (show u1 = Value.ref a from r1)
  cases (show u2 = Value.ref tp from r2)
  obtain ⟨o, J⟩ := inst_of I ha
  obtain ⟨_, its, rv, ot, h1, h2, n, h3⟩ := I.hok tp _ hT
  obtain rfl := ClsV.all k rv
  obtain ⟨oc, od, dt, sl⟩ := ot
  dsimp only at h2 h3
  subst h2 h3
  exact PySem.W.kia_tup (PySem.W.handS_kitx_exc T.hg T.hk T.hs T.hd T.ha T.hn T.ht T.hm) I.kIn J h1 e (fun z => nomatch z) fun tk => ⟨.bl b, H, I.tok tk, rfl, q⟩
variable {K : PySem.W.Frag} {σ : L2.St} {H : Hp} {ta tb : TE} {C a : Addr}
theorem ev_isX {c : V} {u : Value} {b : Bool} (ha : Ev ta σ H (.ref a)) (hb : Ev tb σ H c) (h : H a = some (ExV (.ref C) a)) (k : ClsV c u) (e : PySem.W.kitOne K (.ref C) u = some b) : Ev (tCB (rIsX K C) (tCons ta (tCons tb tNil))) σ H (.bl b) := fun H1 e1 Q q =>
  ha H1 e1 _ fun H2 e2 => hb H2 (e1.trans e2) _ fun H3 e3 => ⟨a, c, u, b, rfl, (e1.trans (e2.trans e3)) _ _ h, k, e, q H3 (e2.trans e3)⟩
theorem ev_isXT {cs : List V} {us : List Value} {b : Bool} (ha : Ev ta σ H (.ref a)) (hb : EvU tb σ H cs) (h : H a = some (ExV (.ref C) a)) (k : Paired ClsV cs us) (e : PySem.W.kitAny K (.ref C) us = some b) : Ev (tCB (rIsXT K C) (tCons ta (tCons tb tNil))) σ H (.bl b) := fun H1 e1 Q q =>
  ha H1 e1 _ fun H2 e2 => hb H2 (e1.trans e2) _ fun p H3 np e3 hp => ⟨a, p, cs, us, b, rfl, (e1.trans (e2.trans e3)) _ _ h, hp, k, e, q H3 (e2.trans e3)⟩
end
end Kp

/-! Defs that raise; calls to them in a try; more of lists; one polynomial parted by another. -/
namespace Kp
open PySem PySem.Spec PyProof.Rows L2 Evl
/-- the class C, by the name x, straight under WheelError -/
structure OwnX (K : PySem.W.Frag) (mg : Str → Option Value) (x : Str) (C : Addr) : Prop where
  g : mg x = some (.ref C)
  kp : PySem.W.keepIn K (.ref C) = true
  xi : PySem.W.excIn K C [.type "ValueError", .type "Exception", .type "BaseException", .type "object"] "ValueError.__new__" = true
  ty : PySem.W.typeIn K (.ref C) = some (.type "type")
  e : ExcC K C
section
variable {P : Program} {w : World} {K : PySem.W.Frag} {mg : Str → Option Value} {base : Heap} {x : Str} {k : Nat} {ps N : List Str} {sp : Sp} {st : Stmt}
theorem Dfn.calX (d : Dfn K mg x ps st) (S : FnScope N ps (defScope st)) (len : ∀ vs H Q E, sp vs H Q E → vs.length = ps.length)
    (hbody : ∀ (f : Addr) (cdv : Value) (A : Around) (outer : List Env) (s : Shared) (H : Hp) (vs : List V) (Q : VK) (E : XK), Room k (A.deeper (envOfC x (defScope st) s.heap.objs.size f cdv)) → sp vs H Q E →
      ∃ t, PSs (cxOf (L2.CX P w) P w K mg base N x (defScope st) f cdv A outer s H E) (defBody st) t ∧ t { nx := fun _ H' => Q .non H', rt := Q } (start N vs) H) : Cal P w K mg base (L2.CX P w) x (k + 1) ps sp := by
  obtain ⟨f, fd, F, g, b⟩ := d
  exact ⟨f, fd, F.okX S len (hbody f), g, F.kp, b⟩
end
section
variable {X : Cx} {k : Nat} {ps : List Str} {sp : Sp} {W : WX} {x : Str} {p pos : Pos} {e : Expr} {es : List Expr} {t : TA}
theorem pe_calS (c : Cal X.prog X.w X.K X.mg X.base (L2.CX X.prog X.w) x k ps sp) (hr : Room k X.A) (hg : Gl X x) (tk : Takes X W)
    (ha : PA X (e :: es) t) (hdb : (x == ("__debug__" : Str)) = false := by decide) (he : starEach (e :: es) X.env = (false, eval e X.env) :: starEach es X.env := by rfl) (hpl : (backTo pos (starEach es X.env)).any (·.1) = false := by rfl) :
    PE X (.Call (.Name x p) (e :: es) [] pos) (tCallS sp (WE W) t) := by
  obtain ⟨f, fd, F, g, kp, b⟩ := c
  exact pe_callS F hr hg g kp b (fun σ => passAt tk σ) ha hdb he hpl
theorem pe_cls {C : Addr} (hg : Gl X x) (hm : X.mg x = some (.ref C)) (hd : (x == ("__debug__" : Str)) = false := by decide) : PE X (.Name x pos) (tC (.ref C)) := pe_glob hg hm rfl hd
theorem pmk_of {C : Addr} {m : Str} {j : Nat} {p2 : Pos} (T : OwnX X.K X.mg x C) (hg : Gl X x) (hdb : (x == ("__debug__" : Str)) = false := by decide) : PMk X (.Call (.Name x p) [.Constant (.str m) j p2] [] pos) (fun _ H Q => Q (.ref C) none H) :=
  pmk_own PySem.F.excBase_ValueError T.xi T.g T.kp (raises_own T.e.hs T.ty) hg hdb
end

/-! ### the class is asked -/
theorem exm_own {K : PySem.W.Frag} {mg : Str → Option Value} {x : Str} {B C : Addr} {b : Bool} (T : OwnX K mg x B) (h : PySem.W.subIn K (.ref C) (.ref B) = some b) : PySem.W.exmOne K (.ref C) (.ref B) = some b := PySem.W.exm_ref T.e.hs T.e.hd T.ty h

/-- by the name x the class D -/
structure GlX (mg : Str → Option Value) (x : Str) (D : Addr) : Prop where
  g : mg x = some (.ref D)
theorem kit_ref {K : PySem.W.Frag} {C D : Addr} {b : Bool} (hd : PySem.W.hasDictIn K D = true) (ht : PySem.W.typeIn K (.ref D) = some (.type "type")) (ne : C ≠ D) (h : PySem.W.subIn K (.ref C) (.ref D) = some b) : PySem.W.kitOne K (.ref C) (.ref D) = some b := by
  obtain ⟨cd, hc, _⟩ := PySem.W.any_some hd
  have e2 : ((PySem.W.clsIn K D).isSome && PySem.W.typeIn K (.ref D) == some (.type "type")) = true := by rw [hc, ht] <;> rfl
  unfold PySem.W.kitOne
  rw [if_neg (by simpa using ne)]
  show (if ((PySem.W.clsIn K D).isSome && PySem.W.typeIn K (.ref D) == some (.type "type")) = true then PySem.W.subIn K (.ref C) (.ref D) else none) = some b
  rw [if_pos e2]
  exact h
theorem kit_VE {K : PySem.W.Frag} {C : Addr} {b : Bool} (h : PySem.W.subIn K (.ref C) (.type "ValueError") = some b) : PySem.W.kitOne K (.ref C) (.type "ValueError") = some b := by
  unfold PySem.W.kitOne
  rw [if_neg (by simp)]
  show (if PySem.W.kitMeta "ValueError" = true then PySem.W.subIn K (.ref C) (.type "ValueError") else none) = some b
  rw [if_pos (by decide +kernel)]
  exact h
theorem cls_ne {K : PySem.W.Frag} {C D : Addr} (h1 : PySem.W.subIn K (.ref C) (.ref C) = some true) (h2 : PySem.W.subIn K (.ref C) (.ref D) = some false) : C ≠ D := fun e => by
  subst e
  rw [h1] at h2
  exact nomatch h2

/-! ### lists once more -/
section
variable {K : PySem.W.Frag} {D : Ends} {σ : L2.St} {H : Hp} {ta : TA} {tz : TS} {i : Nat}
theorem q_asgPop {te : TE} {l : Addr} {xs : List V} {y : V} (hl : H l = some (.lst (xs ++ [y]))) (ha : Ev te σ H (.ref l)) (k : ∀ H1, Ex H H1 → tz D (σ.set i (some y)) (upd H1 l (.lst xs))) :
    tSeq (tAsg (tBM0 K "list" rPop te) (gName i)) tz D σ H := ha H (Ex.refl H) _ fun H1 e1 =>
  ⟨Or.inl ⟨rfl, _, sq_of (e1 l _ hl)⟩, l, xs ++ [y], y, rfl, rfl, e1 l _ hl, by simp, by
    rw [List.dropLast_concat]
    exact k H1 e1⟩
theorem q_rev {te : TE} {l : Addr} {xs : List V} (hl : H l = some (.lst xs)) (ha : Ev te σ H (.ref l)) (k : ∀ H1, Ex H H1 → tz D σ (upd H1 l (.lst xs.reverse))) :
    tSeq (tDrop (tBM0 K "list" rReverse te)) tz D σ H := ha H (Ex.refl H) _ fun H1 e1 =>
  ⟨Or.inl ⟨rfl, _, sq_of (e1 l _ hl)⟩, l, xs, rfl, rfl, e1 l _ hl, k H1 e1⟩
theorem atI_last {α : Type} {xs : List α} {v : α} (h : xs[xs.length - 1]? = some v) : atI xs (-1) = some v := by
  have hj := (List.getElem?_eq_some_iff.mp h).1
  unfold atI ixN
  rw [if_neg (by omega), if_pos (by omega)]
  show xs[((-1 : Int) + (xs.length : Int)).toNat]? = some v
  rw [show ((-1 : Int) + (xs.length : Int)).toNat = xs.length - 1 by omega]
  exact h
theorem cut_init (xs : List V) : cutV xs none (some (-1)) = xs.take (xs.length - 1) := by
  unfold cutV
  rw [HT.sIx_none]
  show List.take ((if (-1 : Int) < 0 then ((-1 : Int) + (xs.length : Int)).toNat else min (-1 : Int).toNat xs.length) - 0) (xs.drop 0) = _
  rw [if_pos (by decide), Nat.sub_zero, List.drop_zero, show ((-1 : Int) + (xs.length : Int)).toNat = xs.length - 1 by omega]
end


section
variable {K : PySem.W.Frag} {D : Ends} {σ : L2.St} {H : Hp}
theorem ev_lenT {te : TE} {p : Addr} {xs : List V} (ha : Ev te σ H (.ref p)) (h : SqT K H p xs) : Ev (tCB (rLenS K) (tCons te tNil)) σ H (.int (xs.length : Int)) := fun H1 e Q q =>
  ha H1 e _ fun H2 e2 => ⟨p, xs, rfl, Or.inr (ex_t (e.trans e2) h), q H2 e2⟩
/-- a call whose first argument is a new list -/
theorem el_calL {sp : Sp} {t1 : TE} {ta : TA} {xs ys vs : List V} {E : XK} (h : EvL t1 σ H xs) (h2 : EvA ta σ H vs) (hs : ∀ p H1, Ex H H1 → H1 p = some (.lst xs) → ∀ Q : VK, RetL ys H1 Q → ∀ E : XK, sp (.ref p :: vs) H1 Q E) : EvL (tCall sp [] E (tCons t1 ta)) σ H ys := fun H1 e Q q =>
  h H1 e _ fun p H2 np e2 hp => h2 H2 (e.trans e2) _ fun H3 e3 => by
    show sp ((.ref p :: vs) ++ []) H3 Q E
    rw [List.append_nil]
    exact hs p H3 ((e.trans e2).trans e3) (e3 _ _ hp) Q (fun p' H4 hp' e4 h4 => q p' H4 (fresh_back (e2.trans e3) hp') ((e2.trans e3).trans e4) h4) E
theorem s_retVL {ta tb : TE} {v : V} {ys : List V} (h1 : Ev ta σ H v) (h2 : EvL tb σ H ys) (k : ∀ t q H1, H t = none → H q = none → Ex H H1 → H1 t = some (.tup [v, .ref q]) → H1 q = some (.lst ys) → D.rt (.ref t) H1) : tRet (tTup (tCons ta (tCons tb tNil))) D σ H :=
  h1 H (Ex.refl H) _ fun H1 e1 => h2 H1 e1 _ fun q H2 nq e2 hq => ⟨sz_of (show 2 ≤ 100000 by decide), fun t nt =>
    k t q _ (fresh_back (e1.trans e2) nt) (fresh_back e1 nq) ((e1.trans e2).trans (Ex.new nt)) upd_same (by rw [upd_ne (ne_of_none hq nt)]; exact hq)⟩
end

/-! ### parting -/
theorem cv_congr {a b g : List Int} {m : Nat} : ∀ i, (∀ j, j < i → coef a j = coef b j) → cv a g i m = cv b g i m
  | 0, _ => rfl
  | i + 1, h => by
    unfold cv
    rw [cv_congr i fun j hj => h j (by omega), h i (by omega)]
theorem cv_set {a b g : List Int} {m s : Nat} {x : Int} (h0 : coef a s = 0) (hs : coef b s = x) (h : ∀ j, j ≠ s → coef b j = coef a j) : ∀ i, s < i → cv b g i m = cv a g i m + if s ≤ m then x * coef g (m - s) else 0
  | 0, q => absurd q (Nat.not_lt_zero _)
  | i + 1, q => by
    unfold cv
    by_cases e : s = i
    · subst e
      rw [cv_congr s fun j hj => h j (by omega), hs, h0]
      split <;> simp
    · rw [cv_set h0 hs h i (by omega), h i (by omega)]
      omega
theorem cv_none {a g : List Int} {m : Nat} : ∀ i, (∀ j, j < i → coef a j = 0) → cv a g i m = 0
  | 0, _ => rfl
  | i + 1, h => by
    unfold cv
    rw [cv_none i fun j hj => h j (by omega), h i (by omega)]
    split <;> simp
end Kp

/-! Sums round n as lists: products by places, turned, spread. -/
namespace Kp
theorem addmod {i j n : Nat} (hi : i < n) (hj : j < n) : (i + j) % n = if i + j < n then i + j else i + j - n := by
  split
  · rename_i h
    exact Nat.mod_eq_of_lt h
  · rename_i h
    rw [Nat.mod_eq_sub_mod (by omega), Nat.mod_eq_of_lt (by omega)]
theorem submod {m i n : Nat} (hm : m < n) (hi : i < n) : (m + n - i) % n = if i ≤ m then m - i else m + n - i := by
  split
  · rename_i h
    rw [Nat.mod_eq_sub_mod (by omega), show m + n - i - n = m - i by omega, Nat.mod_eq_of_lt (by omega)]
  · rename_i h
    exact Nat.mod_eq_of_lt (by omega)
theorem addmod_eq {i j m n : Nat} (hi : i < n) (hj : j < n) (hm : m < n) : m = (i + j) % n ↔ (m + n - i) % n = j := by
  rw [addmod hi hj, submod hm hi]
  split <;> split <;> omega
/-- the number at the place m of the product of the first i numbers of f, and g -/
def cs (f g : List Int) (n : Nat) : Nat → Nat → Int
  | 0, _ => 0
  | i + 1, m => cs f g n i m + coef f i * coef g ((m + n - i) % n)
def mulS (f g : List Int) : List Int := mkL f.length (cs f g f.length f.length)
def addS (f g : List Int) : List Int := List.zipWith (· + ·) f g
theorem addS_len {f g : List Int} (h : f.length = g.length) : (addS f g).length = f.length := by
  unfold addS
  rw [List.length_zipWith]
  omega
theorem coef_addS {f g : List Int} (h : f.length = g.length) (m : Nat) : coef (addS f g) m = coef f m + coef g m := by
  by_cases q : m < f.length
  · rw [coef_lt (by rw [addS_len h]; exact q), coef_lt q, coef_lt (by omega)]
    unfold addS
    rw [List.getElem_zipWith]
  · rw [coef_ge (by rw [addS_len h]; omega), coef_ge (by omega), coef_ge (by omega)]
    rfl
theorem mulS_len (f g : List Int) : (mulS f g).length = f.length := mkL_len _ _
def turnS (f : List Int) (j : Int) : List Int := mkL f.length fun m => coef f (((m : Int) - j) % (f.length : Int)).toNat
theorem turn_eq {a m n : Nat} {j : Int} (ha : a < n) (hm : m < n) : (m : Int) = ((a : Int) + j) % (n : Int) ↔ (((m : Int) - j) % (n : Int)).toNat = a := by
  have e1 := Int.emod_add_mul_ediv ((a : Int) + j) n
  have e2 := Int.emod_add_mul_ediv ((m : Int) - j) n
  have b2 := Int.emod_nonneg ((m : Int) - j) (show (n : Int) ≠ 0 by omega)
  constructor
  · intro h
    rw [← h] at e1
    have : (m : Int) - j = (a : Int) + (n : Int) * (-(((a : Int) + j) / (n : Int))) := by
      rw [Int.mul_neg]
      omega
    rw [this, Int.add_mul_emod_self_left, Int.emod_eq_of_lt (by omega) (by omega)]
    omega
  · intro h
    have h2 : ((m : Int) - j) % (n : Int) = (a : Int) := by omega
    rw [h2] at e2
    have : (a : Int) + j = (m : Int) + (n : Int) * (-(((m : Int) - j) / (n : Int))) := by
      rw [Int.mul_neg]
      omega
    rw [this, Int.add_mul_emod_self_left, Int.emod_eq_of_lt (by omega) (by omega)]
def spreadS (f : List Int) (k : Nat) : List Int := mkL (k * f.length) (pw f k)
theorem spread_eq {a m k : Nat} (hk : 1 ≤ k) : m = k * a ↔ m % k = 0 ∧ m / k = a := by
  constructor
  · rintro rfl
    exact ⟨Nat.mul_mod_right _ _, Nat.mul_div_cancel_left _ (by omega)⟩
  · rintro ⟨h1, h2⟩
    have := Nat.div_add_mod m k
    rw [h1, h2] at this
    omega
theorem spread_lt {a k n : Nat} (hk : 1 ≤ k) (ha : a < n) : k * a < k * n := (Nat.mul_lt_mul_left (by omega)).mpr ha
theorem pw_lt {f : List Int} {k m : Nat} (hk : 1 ≤ k) : pw f k m = if m % k = 0 ∧ m / k < f.length then coef f (m / k) else 0 := by
  unfold pw
  by_cases h : m % k = 0
  · rw [if_pos h]
    by_cases q : m / k < f.length
    · rw [if_pos ⟨h, q⟩]
    · rw [if_neg (fun z => q z.2), coef_ge (by omega)]
  · rw [if_neg h, if_neg (fun z => h z.1)]
end Kp

/-! Comprehensions over zip; lists of new lists; == of lists of lists. -/
namespace Kp
open PySem PySem.Spec PyProof.Rows L2 Evl
section
variable {K : PySem.W.Frag} {σ : L2.St} {H H' : Hp} {ta tb te tl to ti : TE} {t : TT} {x y z v : V} {D : Ends} {tu tz : TS} {vs : List Nat}
/-- two arguments, lists of ints, either by its name or new -/
def EvAZ (K : PySem.W.Frag) (tg : TA) (σ : L2.St) (H : Hp) (ns ms : List Int) : Prop := ∀ H1, Ex H H1 → ∀ Q : List V → Hp → Prop, (∀ a b H2, Ex H1 H2 → SqL K H2 a (ns.map V.int) → SqL K H2 b (ms.map V.int) → Q [.ref a, .ref b] H2) → tg σ H1 Q
theorem az_vv {a b : Addr} {ns ms : List Int} (ha : Ev ta σ H (.ref a)) (hb : Ev tb σ H (.ref b)) (hx : SqL K H a (ns.map V.int)) (hy : SqL K H b (ms.map V.int)) : EvAZ K (tCons ta (tCons tb tNil)) σ H ns ms := fun H1 e Q q =>
  ha H1 e _ fun H2 e2 => hb H2 (e.trans e2) _ fun H3 e3 => q a b H3 (e2.trans e3) (ex_l ((e.trans e2).trans e3) hx) (ex_l ((e.trans e2).trans e3) hy)
theorem az_vn {a : Addr} {ns ms : List Int} (ha : Ev ta σ H (.ref a)) (hx : SqL K H a (ns.map V.int)) (hb : EvL tb σ H (ms.map V.int)) : EvAZ K (tCons ta (tCons tb tNil)) σ H ns ms := fun H1 e Q q =>
  ha H1 e _ fun H2 e2 => hb H2 (e.trans e2) _ fun b H3 nb e3 h3 => q a b H3 (e2.trans e3) (ex_l ((e.trans e2).trans e3) hx) (sq_of h3)
theorem az_nn {ns ms : List Int} (ha : EvL ta σ H (ns.map V.int)) (hb : EvL tb σ H (ms.map V.int)) : EvAZ K (tCons ta (tCons tb tNil)) σ H ns ms := fun H1 e Q q =>
  ha H1 e _ fun a H2 na e2 h2 => hb H2 (e.trans e2) _ fun b H3 nb e3 h3 => q a b H3 (e2.trans e3) (sq_of (e3 _ _ h2)) (sq_of h3)
/-- [e for x, y in zip(a, b)] -/
theorem el_lcZ {tg : TA} {ns ms : List Int} {i j : Nat} (w : Int → Int → V) (h : EvAZ K tg σ H ns ms) (hl : ns.length = ms.length) (hz : ns.length ≤ 40000) (hw : ∀ x y, wipe (((wipe σ vs).set i (some x)).set j (some y)) vs = wipe σ vs)
    (he : ∀ x y H1, Ex H H1 → x ∈ ns → y ∈ ms → Ev te (((wipe σ vs).set i (some (.int x))).set j (some (.int y))) H1 (w x y)) :
    EvL (tLc (iZip K tg) (gTup K 2 (gCons (gName i) (gCons (gName j) gNil))) tYes te vs) σ H (List.zipWith w ns ms) := fun H0 e Q q => h H0 e _ fun a b H1 e1 ha hb => ⟨a, b, _, _, rfl, ha, hb, fun Dl hD =>
  lc_it (n := ns.length) (walk_zip (by rw [List.length_map, List.length_map]; omega)) (fun n H' => H1 Dl = none ∧ Ex H1 H' ∧ H' Dl = some (.lst ((List.zipWith w ns ms).take n))) ⟨hD, Ex.new hD, upd_same⟩ (fun n H' _ p => ⟨ex_l p.2.1 ha, ex_l p.2.1 hb⟩) (fun n v H' H'' hn p y => by
    obtain ⟨p1, p2, p3⟩ := p
    obtain ⟨T, x, y, rfl, hT, rfl, hx, hy⟩ := y
    obtain ⟨r, hr, rfl⟩ := map_get hx
    obtain ⟨s, hs, rfl⟩ := map_get hy
    have e2 : Ex H' (upd H' T (.tup [V.int r, V.int s])) := Ex.new hT
    refine ⟨T, _, rfl, .inl (.inl upd_same), rfl, .int r, [.int s], rfl, .int s, [], rfl, rfl, hw _ _, ?_⟩
    refine et_yes (H := H') _ e2 _ fun H3 e3 => ?_
    show te _ H3 _
    refine he r s H1 (e.trans e1) (List.mem_of_getElem? hr) (List.mem_of_getElem? hs) H3 (p2.trans (e2.trans e3)) _ fun H4 e4 => ⟨_, e4 Dl _ (e3 Dl _ (e2 Dl _ p3)), ?_, p1, Ex.mut (((p2.trans e2).trans e3).trans e4) p1, ?_⟩
    · refine sz_lt ?_
      rw [List.length_take, List.length_zipWith]
      omega
    · rw [upd_same, List.take_add_one, List.getElem?_zipWith, hr, hs]
      rfl) (fun H' p => by
    have q1 := p.2.2
    rw [List.take_of_length_le (by rw [List.length_zipWith]; omega)] at q1
    exact q Dl H' (fresh_back e1 p.1) (e1.trans p.2.1) q1)⟩

/-! ### many new lists, each known -/
def NewL (H H' : Hp) (ps : List Addr) (xss : List (List V)) : Prop := Paired (fun p xs => H p = none ∧ H' p = some (.lst xs)) ps xss ∧ ps.Nodup
theorem NewL.fresh : ∀ {ps : List Addr} {xss : List (List V)}, Paired (fun p xs => H p = none ∧ H' p = some (.lst xs)) ps xss → ∀ p ∈ ps, H p = none
  | _, _, .nil, p, h => nomatch h
  | _, _, .cons a r, p, h => by
    rcases List.mem_cons.mp h with rfl | h
    · exact a.1
    · exact NewL.fresh r p h
theorem NewL.got : ∀ {ps : List Addr} {xss : List (List V)}, Paired (fun p xs => H p = none ∧ H' p = some (.lst xs)) ps xss → ∀ p ∈ ps, ∃ xs, H' p = some (.lst xs)
  | _, _, .nil, p, h => nomatch h
  | _, _, .cons a r, p, h => by
    rcases List.mem_cons.mp h with rfl | h
    · exact ⟨_, a.2⟩
    · exact NewL.got r p h
theorem NewL.mono {H'' : Hp} {ps : List Addr} {xss : List (List V)} (e : Ex H' H'') (h : NewL H H' ps xss) : NewL H H'' ps xss := ⟨Paired.mapP h.1 fun _ _ ⟨q1, q2⟩ => ⟨q1, e _ _ q2⟩, h.2⟩
theorem NewL.back {H0 : Hp} {ps : List Addr} {xss : List (List V)} (e : Ex H0 H) (h : NewL H H' ps xss) : NewL H0 H' ps xss := ⟨Paired.mapP h.1 fun _ _ ⟨q1, q2⟩ => ⟨fresh_back e q1, q2⟩, h.2⟩
theorem NewL.nil : NewL H H' [] [] := ⟨.nil, List.nodup_nil⟩
theorem paired_app {α β : Type} {F : α → β → Prop} : ∀ {l1 : List α} {m1 : List β} {l2 : List α} {m2 : List β}, Paired F l1 m1 → Paired F l2 m2 → Paired F (l1 ++ l2) (m1 ++ m2)
  | _, _, _, _, .nil, h => h
  | _, _, _, _, .cons a r, h => .cons a (paired_app r h)
theorem NewL.app {H1 H2 : Hp} {ps qs : List Addr} {xss yss : List (List V)} (h1 : NewL H H1 ps xss) (e : Ex H H1) (h2 : NewL H1 H2 qs yss) (e2 : Ex H1 H2) : NewL H H2 (ps ++ qs) (xss ++ yss) := by
  refine ⟨paired_app (h1.mono e2).1 (h2.back e).1, List.nodup_append.mpr ⟨h1.2, h2.2, fun a ha b hb he => ?_⟩⟩
  subst he
  obtain ⟨xs, g⟩ := NewL.got h1.1 a ha
  have := NewL.fresh h2.1 a hb
  rw [g] at this
  cases this
def EvNL (ta : TA) (σ : L2.St) (H : Hp) (xss : List (List V)) : Prop := ∀ H1, Ex H H1 → ∀ Q : List V → Hp → Prop, (∀ (ps : List Addr) H2, Ex H1 H2 → NewL H1 H2 ps xss → Q (ps.map V.ref) H2) → ta σ H1 Q
theorem enl_nil : EvNL tNil σ H [] := fun H1 _ Q q => q [] H1 (Ex.refl H1) NewL.nil
theorem enl_cons {tr : TA} {xs : List V} {xss : List (List V)} (h : EvL te σ H xs) (hr : EvNL tr σ H xss) : EvNL (tCons te tr) σ H (xs :: xss) := fun H1 e Q q =>
  h H1 e _ fun p H2 np e2 hp => hr H2 (e.trans e2) _ fun ps H3 e3 N => q (p :: ps) H3 (e2.trans e3) ⟨.cons ⟨np, e3 _ _ hp⟩ (N.back e2).1, List.nodup_cons.mpr ⟨fun hm => absurd (hp.symm.trans (NewL.fresh N.1 p hm)) (fun z => nomatch z), N.2⟩⟩
theorem NewL.len {ps : List Addr} {xss : List (List V)} (h : NewL H H' ps xss) : ps.length = xss.length := Paired.length h.1
theorem NewL.out {p : Addr} {o : HO} {ps : List Addr} {xss : List (List V)} (h : NewL H H' ps xss) (hp : H' p = none) : NewL H (upd H' p o) ps xss ∧ p ∉ ps := by
  have hn : p ∉ ps := fun hm => by
    obtain ⟨xs, g⟩ := NewL.got h.1 p hm
    rw [hp] at g
    cases g
  exact ⟨h.mono (Ex.new hp), hn⟩
/-- x = [new, new, ..] -/
theorem q_asgNL {tr : TA} {xss : List (List V)} {i : Nat} (h : EvNL tr σ H xss) (hz : xss.length ≤ 100000) (k : ∀ L ps H1, H L = none → Ex H H1 → H1 L = some (.lst (ps.map V.ref)) → NewL H H1 ps xss → L ∉ ps → tz D (σ.set i (some (.ref L))) H1) :
    tSeq (tAsg (tLst tr) (gName i)) tz D σ H := h H (Ex.refl H) _ fun ps H1 e1 N => ⟨sz_of (by rw [List.length_map, N.len]; exact hz), fun L nL => by
  obtain ⟨N2, nm⟩ := N.out (o := .lst (ps.map V.ref)) nL
  exact k L ps _ (fresh_back e1 nL) (e1.trans (Ex.new nL)) upd_same N2 nm⟩
/-- x = x + [new, new, ..], what x held new too -/
theorem q_catNL {H0 : Hp} {tr : TA} {xss yss : List (List V)} {i j : Nat} {l : Addr} {ps : List Addr} (N : NewL H0 H ps xss) (e0 : Ex H0 H) (hv : σ[j]? = some (some (.ref l))) (hl : H l = some (.lst (ps.map V.ref))) (h : EvNL tr σ H yss) (hz : xss.length + yss.length ≤ 100000)
    (k : ∀ L qs H1, H L = none → Ex H H1 → H1 L = some (.lst (qs.map V.ref)) → NewL H0 H1 qs (xss ++ yss) → L ∉ qs → tz D (σ.set i (some (.ref L))) H1) :
    tSeq (tAsg (tOp rCat (tVar j) (tLst tr)) (gName i)) tz D σ H := ⟨_, hv, h H (Ex.refl H) _ fun qs H1 e1 M => ⟨sz_of (by rw [List.length_map, M.len]; omega), fun r nr => by
  obtain ⟨M2, nm⟩ := M.out (o := .lst (qs.map V.ref)) nr
  have e2 : Ex H (upd H1 r (.lst (qs.map V.ref))) := e1.trans (Ex.new nr)
  have hz2 : (ps.map V.ref).length + (qs.map V.ref).length ≤ 100000 := by
    rw [List.length_map, List.length_map, N.len, M.len]
    exact hz
  refine ⟨l, r, _, _, rfl, rfl, e2 _ _ hl, upd_same, sz_of hz2, fun L nL => ?_⟩
  obtain ⟨A, na⟩ := (N.app e0 M2 e2).out (o := .lst (ps.map V.ref ++ qs.map V.ref)) nL
  refine k L (ps ++ qs) _ (fresh_back e2 nL) (e2.trans (Ex.new nL)) (by rw [upd_same, List.map_append]) A na⟩⟩
theorem paired_get {α β : Type} {F : α → β → Prop} : ∀ {l : List α} {m : List β} {i : Nat} {a : α}, Paired F l m → l[i]? = some a → ∃ b, m[i]? = some b ∧ F a b
  | _, _, _, _, .nil, h => by simp at h
  | _, _, 0, _, .cons (b := b) q _, h => ⟨b, rfl, by
    have e := Option.some.inj h
    exact e ▸ q⟩
  | _, _, i + 1, _, .cons _ q, h => paired_get (i := i) q h
/-- for row in xs: .., what stands in xs new and each turn changing its own row alone -/
theorem s_forRows {H0 : Hp} {L : Addr} {ps : List Addr} {xss : List (List V)} {j : Nat} (hv : Ev tl σ H (.ref L)) (hL : H L = some (.lst (ps.map V.ref))) (N : NewL H0 H ps xss) (e0 : Ex H0 H) (nL : L ∉ ps) (hj : j < σ.length)
    (hs : ∀ p xs H' (D' : Ends), xs ∈ xss → H' p = some (.lst xs) → Ex H0 H' → D'.rt = D.rt → (∀ H3 o, Ex H' H3 → D'.nx (σ.set j (some (.ref p))) (upd H3 p o)) → tu D' (σ.set j (some (.ref p))) H')
    (hd : ∀ y H', Ex H0 H' → D.nx (σ.set j y) H') :
    tFor (iList K tl) (gName j) tu D σ H := by
  refine s_forLn (xs := ps.map V.ref) hv (SqL.of hL) (fun i σ' H' => (∃ y, σ' = σ.set j y) ∧ Ex H0 H' ∧ H' L = some (.lst (ps.map V.ref)) ∧ ∀ k p xs, i ≤ k → ps[k]? = some p → xss[k]? = some xs → H' p = some (.lst xs))
    (fun H1 e1 => ⟨⟨σ[j], (List.set_getElem_self hj).symm⟩, e0.trans e1, e1 _ _ hL, fun k p xs _ hp hx => ?_⟩) (fun i σ' H' _ hp => SqL.of hp.2.2.1) (fun i x σ' H' hx hp => ?_) (fun σ' H' hp => ?_)
  · obtain ⟨b, hb, hF⟩ := paired_get N.1 hp
    rw [hx] at hb
    cases hb
    exact e1 _ _ hF.2
  · obtain ⟨⟨y, rfl⟩, p2, p3, p4⟩ := hp
    rw [List.getElem?_map] at hx
    obtain ⟨p, hp, rfl⟩ := Option.map_eq_some_iff.mp hx
    obtain ⟨xs, hxs, hF⟩ := paired_get N.1 hp
    have hLp : L ≠ p := fun e => nL (e ▸ List.mem_of_getElem? hp)
    rw [List.set_set]
    refine hs p xs H' _ (List.mem_of_getElem? hxs) (p4 i p xs (Nat.le_refl i) hp hxs) p2 rfl fun H3 o e3 => ⟨⟨_, rfl⟩, Ex.mut (p2.trans e3) hF.1, ?_, fun k p' xs' hk hp' hx' => ?_⟩
    · rw [upd_ne hLp]
      exact e3 _ _ p3
    · have ne : p' ≠ p := fun e => by
        subst e
        obtain ⟨h1, g1⟩ := List.getElem?_eq_some_iff.mp hp
        obtain ⟨h2, g2⟩ := List.getElem?_eq_some_iff.mp hp'
        exact List.pairwise_iff_getElem.mp N.2 i k h1 h2 (by omega) (g1.trans g2.symm)
      rw [upd_ne ne]
      exact e3 _ _ (p4 k p' xs' (by omega) hp' hx')
  · obtain ⟨⟨y, rfl⟩, p2, _, _⟩ := hp
    exact hd y H' p2

/-! ### == of lists of lists of ints -/
def dLL (nss : List (List Int)) : PyData := .list (nss.map dI)
theorem dI_inj (a b : List Int) (e : dI a = dI b) : a = b := map_inj (fun _ _ q => PyData.int.inj q) a b (PyData.list.inj e)
theorem dI_ok (a : List Int) : okD (dI a) = true := by
  unfold dI okD
  exact okA_map _ (fun _ => rfl) a
theorem dI_dep (a : List Int) : (dI a).depth ≤ 1 := Nat.succ_le_succ (dep_map PyData.int 0 (fun _ => Nat.le_refl 0) a)
theorem dI_lay (a : List Int) : PyData.canLay0 (dI a) = true := lay_map _ (fun _ => rfl) a
theorem dLL_sh (nss : List (List Int)) : SeqAt.shaped (dLL nss) = true := shaped_of (lay_map _ dI_lay nss) (Nat.le_trans (Nat.succ_le_succ (dep_map dI 1 dI_dep nss)) (by decide))
theorem dLL_eqv (nss mss : List (List Int)) : PyData.eqv (dLL nss) (dLL mss) = decide (nss = mss) := eqv_dec dLL (fun l => by unfold dLL okD; exact okA_map _ dI_ok l) (fun a b e => map_inj dI_inj a b (PyData.list.inj e)) nss mss
theorem dpa_lists : ∀ {ps : List Addr} {nss : List (List Int)}, Paired (fun p ns => SqL K H p (ns.map V.int)) ps nss → DpAll K H (ps.map V.ref) (nss.map dI)
  | _, _, .nil => .nil
  | _, _, .cons q r => .cons (dp_ints q) (dpa_lists r)
theorem dp_lists {a : Addr} {ps : List Addr} {nss : List (List Int)} (h : SqL K H a (ps.map V.ref)) (p : Paired (fun p ns => SqL K H p (ns.map V.int)) ps nss) : Dp K H (.ref a) (dLL nss) := .lst h (dpa_lists p)
theorem paired_map {α β γ : Type} {F : α → β → Prop} {f : γ → β} : ∀ {l : List α} {m : List γ}, Paired F l (m.map f) → Paired (fun a c => F a (f c)) l m
  | [], [], .nil => .nil
  | _ :: _, _ :: _, .cons a r => .cons a (paired_map r)
theorem NewL.sq {ps : List Addr} {nss : List (List Int)} (h : NewL H H' ps (nss.map fun ns => ns.map V.int)) : Paired (fun p ns => SqL K H' p (ns.map V.int)) ps nss := Paired.mapP (paired_map h.1) fun _ _ q => sq_of q.2
theorem rv_neLL {p q : Addr} {ps qs : List Addr} {nss mss : List (List Int)} (h1 : SqL K H p (ps.map V.ref)) (p1 : Paired (fun p ns => SqL K H p (ns.map V.int)) ps nss) (h2 : SqL K H q (qs.map V.ref)) (p2 : Paired (fun p ns => SqL K H p (ns.map V.int)) qs mss) : RV (rNeD K) (.ref p) (.ref q) H (.bl (!decide (nss = mss))) :=
  rv_neD (fun _ e => dp_lists (ex_l e h1) (Paired.mapP p1 fun _ _ z => ex_l e z)) (fun _ e => dp_lists (ex_l e h2) (Paired.mapP p2 fun _ _ z => ex_l e z)) (dLL_sh _) (dLL_sh _) (by rw [dLL_eqv])
/-! tuples of lists of ints -/
def dTL (nss : List (List Int)) : PyData := .tuple (nss.map dI)
theorem dTL_sh (nss : List (List Int)) : SeqAt.shaped (dTL nss) = true := shaped_of (lay_map _ dI_lay nss) (Nat.le_trans (Nat.succ_le_succ (dep_map dI 1 dI_dep nss)) (by decide))
theorem dTL_eqv (nss mss : List (List Int)) : PyData.eqv (dTL nss) (dTL mss) = decide (nss = mss) := eqv_dec dTL (fun l => by unfold dTL okD; exact okA_map _ dI_ok l) (fun a b e => map_inj dI_inj a b (PyData.tuple.inj e)) nss mss
theorem dp_tlists {a : Addr} {ps : List Addr} {nss : List (List Int)} (h : SqT K H a (ps.map V.ref)) (p : Paired (fun p ns => SqL K H p (ns.map V.int)) ps nss) : Dp K H (.ref a) (dTL nss) := .tup h (dpa_lists p)
theorem rv_neTL {p q : Addr} {ps qs : List Addr} {nss mss : List (List Int)} (h1 : SqT K H p (ps.map V.ref)) (p1 : Paired (fun p ns => SqL K H p (ns.map V.int)) ps nss) (h2 : SqT K H q (qs.map V.ref)) (p2 : Paired (fun p ns => SqL K H p (ns.map V.int)) qs mss) : RV (rNeD K) (.ref p) (.ref q) H (.bl (!decide (nss = mss))) :=
  rv_neD (fun _ e => dp_tlists (ex_t e h1) (Paired.mapP p1 fun _ _ z => ex_l e z)) (fun _ e => dp_tlists (ex_t e h2) (Paired.mapP p2 fun _ _ z => ex_l e z)) (dTL_sh _) (dTL_sh _) (by rw [dTL_eqv])
end
end Kp
namespace Kp
open PySem PySem.Spec PyProof.Rows L2 Evl
section
variable {K : PySem.W.Frag} {σ : L2.St} {H H' : Hp} {ta tb tc td : TE} {y z : V} {D : Ends} {tz : TS}
/-- x = [new, new, told, told] -/
theorem q_asgL4 {i : Nat} {xs ys : List V} (h1 : EvL ta σ H xs) (h2 : EvL tb σ H ys) (h3 : Ev tc σ H y) (h4 : Ev td σ H z) (k : ∀ L p q H1, Ex H H1 → H L = none → H1 L = some (.lst [.ref p, .ref q, y, z]) → H1 p = some (.lst xs) → H1 q = some (.lst ys) → tz D (σ.set i (some (.ref L))) H1) :
    tSeq (tAsg (tLst (tCons ta (tCons tb (tCons tc (tCons td tNil))))) (gName i)) tz D σ H :=
  h1 H (Ex.refl H) _ fun p H1 np e1 hp => h2 H1 e1 _ fun q H2 nq e2 hq => h3 H2 (e1.trans e2) _ fun H3 e3 => h4 H3 ((e1.trans e2).trans e3) _ fun H4 e4 => ⟨sz_of (show 4 ≤ 100000 by decide), fun L nL => by
    have e34 := e3.trans e4
    have e04 := (e1.trans e2).trans e34
    have eN : Ex H4 (upd H4 L (.lst [.ref p, .ref q, y, z])) := Ex.new nL
    exact k L p q _ (e04.trans eN) (fresh_back e04 nL) upd_same (eN _ _ (e34 _ _ (e2 _ _ hp))) (eN _ _ (e34 _ _ hq))⟩
/-- o[i] = e, of a list of ints, and on -/
theorem q_setI {te to ti : TE} {l : Addr} {ns : List Int} {j : Nat} {b : Int} (hl : H l = some (.lst (ns.map V.int))) (ho : Ev to σ H (.ref l)) (hi : Ev ti σ H (.int (j : Nat))) (hj : j < ns.length) (he : Ev te σ H (.int b))
    (k : ∀ H1, Ex H H1 → tz D σ (upd H1 l (.lst ((ns.set j b).map V.int)))) : tSeq (tAsg te (gSub to ti rSetL)) tz D σ H := s_setI (D := { D with nx := tz D }) hl ho hi hj he k
end
end Kp

/-! Products of polynomials told by their value at one great number. -/
namespace Kp
def addK : List Int → List Int → List Int
  | [], g => g
  | a :: f, [] => a :: f
  | a :: f, b :: g => (a + b) :: addK f g
def mulK : List Int → List Int → List Int
  | [], _ => []
  | a :: f, g => addK (g.map fun x => a * x) (0 :: mulK f g)
def l1 : List Int → Nat
  | [] => 0
  | a :: f => a.natAbs + l1 f
theorem coef_cons (a : Int) (f : List Int) (m : Nat) : coef (a :: f) (m + 1) = coef f m := rfl
theorem coef_cons0 (a : Int) (f : List Int) : coef (a :: f) 0 = a := rfl
theorem coef_addK : ∀ (f g : List Int) (m : Nat), coef (addK f g) m = coef f m + coef g m
  | [], g, m => by
    show coef g m = _
    rw [coef_nil, Int.zero_add]
  | a :: f, [], m => by
    show coef (a :: f) m = _
    rw [coef_nil, Int.add_zero]
  | a :: f, b :: g, 0 => rfl
  | a :: f, b :: g, m + 1 => coef_addK f g m
theorem coef_scale (a : Int) (g : List Int) (m : Nat) : coef (g.map fun x => a * x) m = a * coef g m := by
  by_cases h : m < g.length
  · rw [coef_lt (by rw [List.length_map]; exact h), coef_lt h, List.getElem_map]
  · rw [coef_ge (by rw [List.length_map]; omega), coef_ge (by omega), Int.mul_zero]
theorem cv_cons (a : Int) (f g : List Int) : ∀ (i m : Nat), cv (a :: f) g (i + 1) m = a * coef g m + if 1 ≤ m then cv f g i (m - 1) else 0
  | 0, m => by
    show 0 + (if 0 ≤ m then a * coef g (m - 0) else 0) = a * coef g m + if 1 ≤ m then 0 else 0
    rw [if_pos (Nat.zero_le m), Nat.sub_zero]
    split <;> omega
  | i + 1, m => by
    rw [cv, cv_cons a f g i m, cv]
    by_cases h1 : 1 ≤ m
    · rw [if_pos h1, if_pos h1, coef_cons]
      by_cases h2 : i + 1 ≤ m
      · rw [if_pos h2, if_pos (show i ≤ m - 1 by omega), show m - 1 - i = m - (i + 1) by omega]
        omega
      · rw [if_neg h2, if_neg (show ¬ i ≤ m - 1 by omega)]
        omega
    · rw [if_neg h1, if_neg h1, if_neg (by omega)]
      omega
theorem cv_nil (g : List Int) (m : Nat) : cv [] g 0 m = 0 := rfl
theorem coef_mulK : ∀ (f g : List Int) (m : Nat), coef (mulK f g) m = cv f g f.length m
  | [], g, m => coef_nil m
  | a :: f, g, m => by
    show coef (addK (g.map fun x => a * x) (0 :: mulK f g)) m = cv (a :: f) g (f.length + 1) m
    rw [coef_addK, coef_scale, cv_cons]
    cases m with
    | zero => rfl
    | succ m =>
      rw [coef_cons, coef_mulK f g m, if_pos (by omega)]
      rfl
theorem val_addK (x : Int) : ∀ f g : List Int, valP x (addK f g) = valP x f + valP x g
  | [], g => by
    show valP x g = 0 + _
    omega
  | a :: f, [] => by
    show valP x (a :: f) = _ + 0
    omega
  | a :: f, b :: g => by
    show (a + b) + x * valP x (addK f g) = (a + x * valP x f) + (b + x * valP x g)
    rw [val_addK x f g, Int.mul_add]
    omega
theorem val_scale (x a : Int) : ∀ g : List Int, valP x (g.map fun y => a * y) = a * valP x g
  | [] => by
    show 0 = a * 0
    omega
  | b :: g => by
    show a * b + x * valP x (g.map fun y => a * y) = a * (b + x * valP x g)
    rw [val_scale x a g, Int.mul_add, Int.mul_left_comm]
theorem val_mulK (x : Int) : ∀ f g : List Int, valP x (mulK f g) = valP x f * valP x g
  | [], g => by
    show 0 = 0 * _
    omega
  | a :: f, g => by
    show valP x (addK (g.map fun y => a * y) (0 :: mulK f g)) = (a + x * valP x f) * valP x g
    rw [val_addK, val_scale]
    show a * valP x g + (0 + x * valP x (mulK f g)) = _
    rw [val_mulK x f g, Int.add_mul, Int.zero_add, Int.mul_assoc]
theorem l1_addK : ∀ f g : List Int, l1 (addK f g) ≤ l1 f + l1 g
  | [], g => by
    show l1 g ≤ 0 + l1 g
    omega
  | a :: f, [] => by
    show l1 (a :: f) ≤ _
    omega
  | a :: f, b :: g => by
    show (a + b).natAbs + l1 (addK f g) ≤ (a.natAbs + l1 f) + (b.natAbs + l1 g)
    have := l1_addK f g
    have := Int.natAbs_add_le a b
    omega
theorem l1_scale (a : Int) : ∀ g : List Int, l1 (g.map fun y => a * y) = a.natAbs * l1 g
  | [] => rfl
  | b :: g => by
    show (a * b).natAbs + l1 (g.map fun y => a * y) = a.natAbs * (b.natAbs + l1 g)
    rw [l1_scale a g, Int.natAbs_mul, Nat.mul_add]
theorem l1_mulK : ∀ f g : List Int, l1 (mulK f g) ≤ l1 f * l1 g
  | [], g => by
    show 0 ≤ 0 * _
    omega
  | a :: f, g => by
    show l1 (addK (g.map fun y => a * y) (0 :: mulK f g)) ≤ (a.natAbs + l1 f) * l1 g
    have h1 := l1_addK (g.map fun y => a * y) (0 :: mulK f g)
    have h2 : l1 (0 :: mulK f g) = l1 (mulK f g) := by
      show (0 : Int).natAbs + _ = _
      rw [Int.natAbs_zero, Nat.zero_add]
    have h3 := l1_mulK f g
    rw [l1_scale, h2] at h1
    rw [Nat.add_mul]
    omega
theorem coef_l1 : ∀ (f : List Int) (m : Nat), (coef f m).natAbs ≤ l1 f
  | [], m => by
    rw [coef_nil]
    exact Nat.le_refl 0
  | a :: f, 0 => by
    rw [coef_cons0]
    exact Nat.le_add_right _ _
  | a :: f, m + 1 => by
    rw [coef_cons]
    exact Nat.le_trans (coef_l1 f m) (Nat.le_add_left _ _)
theorem len_addK : ∀ f g : List Int, (addK f g).length = max f.length g.length
  | [], g => by
    show g.length = max 0 g.length
    omega
  | a :: f, [] => by
    show (a :: f).length = max (f.length + 1) 0
    rw [List.length_cons]
    omega
  | a :: f, b :: g => by
    show (addK f g).length + 1 = max (f.length + 1) (g.length + 1)
    rw [len_addK f g]
    omega
theorem len_mulK : ∀ f g : List Int, f ≠ [] → g ≠ [] → (mulK f g).length = f.length + g.length - 1
  | [], g, h, _ => absurd rfl h
  | [a], g, _, hg => by
    show (addK (g.map fun x => a * x) [0]).length = 1 + g.length - 1
    have := List.length_pos_iff.mpr hg
    rw [len_addK, List.length_map, List.length_singleton]
    omega
  | a :: b :: f, g, _, hg => by
    show (addK (g.map fun x => a * x) (0 :: mulK (b :: f) g)).length = (f.length + 1 + 1) + g.length - 1
    rw [len_addK, List.length_map, List.length_cons, len_mulK (b :: f) g (fun h => nomatch h) hg, List.length_cons]
    omega
/-- who agrees at a great number agrees -/
theorem lift {B : Nat} : ∀ P Q : List Int, l1 P + l1 Q < B → valP (B : Int) P = valP (B : Int) Q → ∀ m, coef P m = coef Q m := by
  intro P
  induction P with
  | nil =>
    intro Q
    induction Q with
    | nil => exact fun _ _ _ => rfl
    | cons b Q ih =>
      intro h e m
      have h2 : l1 [] + l1 (b :: Q) = b.natAbs + l1 Q := by
        show 0 + (b.natAbs + l1 Q) = _
        omega
      have e2 : (0 : Int) = b + (B : Int) * valP (B : Int) Q := e
      have hb : b = 0 := by
        refine Int.natAbs_eq_zero.mp (Nat.eq_zero_of_dvd_of_lt ?_ (show b.natAbs < B by omega))
        have : b = (B : Int) * (-valP (B : Int) Q) := by
          rw [Int.mul_neg]
          omega
        rw [this, Int.natAbs_mul]
        exact Nat.dvd_mul_right _ _
      subst hb
      have B0 : (B : Int) ≠ 0 := by omega
      have e3 : valP (B : Int) [] = valP (B : Int) Q := by
        show 0 = _
        have : (B : Int) * valP (B : Int) Q = 0 := by omega
        rcases Int.mul_eq_zero.mp this with h | h
        · exact absurd h B0
        · exact h.symm
      cases m with
      | zero => rfl
      | succ m =>
        rw [coef_cons, coef_nil, ← ih (by show 0 + l1 Q < B; omega) e3 m, coef_nil]
  | cons a P ih =>
    intro Q h e m
    cases Q with
    | nil =>
      have h2 : l1 (a :: P) + l1 [] = a.natAbs + l1 P := rfl
      have e2 : a + (B : Int) * valP (B : Int) P = 0 := e
      have ha : a = 0 := by
        refine Int.natAbs_eq_zero.mp (Nat.eq_zero_of_dvd_of_lt ?_ (show a.natAbs < B by omega))
        have : a = (B : Int) * (-valP (B : Int) P) := by
          rw [Int.mul_neg]
          omega
        rw [this, Int.natAbs_mul]
        exact Nat.dvd_mul_right _ _
      subst ha
      have B0 : (B : Int) ≠ 0 := by omega
      have e3 : valP (B : Int) P = valP (B : Int) [] := by
        show _ = 0
        have : (B : Int) * valP (B : Int) P = 0 := by omega
        rcases Int.mul_eq_zero.mp this with h | h
        · exact absurd h B0
        · exact h
      cases m with
      | zero => rfl
      | succ m =>
        rw [coef_cons, coef_nil, ih [] (by show l1 P + 0 < B; omega) e3 m, coef_nil]
    | cons b Q =>
      have h2 : l1 (a :: P) + l1 (b :: Q) = a.natAbs + l1 P + (b.natAbs + l1 Q) := rfl
      have e2 : a + (B : Int) * valP (B : Int) P = b + (B : Int) * valP (B : Int) Q := e
      have hab : a - b = 0 := by
        refine Int.natAbs_eq_zero.mp (Nat.eq_zero_of_dvd_of_lt ?_ (show (a - b).natAbs < B by omega))
        have : a - b = (B : Int) * (valP (B : Int) Q - valP (B : Int) P) := by
          rw [Int.mul_sub]
          omega
        rw [this, Int.natAbs_mul]
        exact Nat.dvd_mul_right _ _
      have B0 : (B : Int) ≠ 0 := by omega
      have e3 : valP (B : Int) P = valP (B : Int) Q := by
        have : (B : Int) * (valP (B : Int) P - valP (B : Int) Q) = 0 := by
          rw [Int.mul_sub]
          omega
        rcases Int.mul_eq_zero.mp this with h | h
        · exact absurd h B0
        · omega
      cases m with
      | zero =>
        rw [coef_cons0, coef_cons0]
        omega
      | succ m =>
        rw [coef_cons, coef_cons]
        exact ih Q (by omega) e3 m
theorem val_wide (x : Int) {k : Nat} (hk : 1 ≤ k) : ∀ f : List Int, valP x (wideL k f) = valP (x ^ k) f := by
  have rep : ∀ (n : Nat) (g : List Int), valP x (List.replicate n 0 ++ g) = x ^ n * valP x g := by
    intro n g
    induction n with
    | zero => rw [Int.pow_zero, Int.one_mul]; rfl
    | succ n ih =>
      show 0 + x * valP x (List.replicate n 0 ++ g) = _
      rw [ih, Int.pow_succ, Int.zero_add, ← Int.mul_assoc, Int.mul_comm x]
  intro f
  induction f with
  | nil => rfl
  | cons a f ih =>
    show a + x * valP x (List.replicate (k - 1) 0 ++ wideL k f) = a + x ^ k * valP (x ^ k) f
    rw [rep, ih, ← Int.mul_assoc, show x * x ^ (k - 1) = x ^ k by rw [Int.mul_comm, ← Int.pow_succ, Nat.succ_eq_add_one, Nat.sub_add_cancel hk]]
theorem l1_wide (k : Nat) : ∀ f : List Int, l1 (wideL k f) = l1 f := by
  have rep : ∀ (n : Nat) (g : List Int), l1 (List.replicate n 0 ++ g) = l1 g := by
    intro n g
    induction n with
    | zero => rfl
    | succ n ih =>
      show (0 : Int).natAbs + l1 (List.replicate n 0 ++ g) = _
      rw [ih, Int.natAbs_zero, Nat.zero_add]
  intro f
  induction f with
  | nil => rfl
  | cons a f ih =>
    show a.natAbs + l1 (List.replicate (k - 1) 0 ++ wideL k f) = a.natAbs + l1 f
    rw [rep, ih]
/-- f times g is h at k, all told by values -/
theorem times_at {B : Nat} {f g h : List Int} {k : Nat} (hk : 1 ≤ k) (hf : f ≠ []) (hg : g ≠ []) (hh : h ≠ []) (hl : f.length + g.length = (h.length - 1) * k + 2) (hb : l1 f * l1 g + l1 h < B) (e : valP (B : Int) f * valP (B : Int) g = valP ((B : Int) ^ k) h) : mulK f g = atP h k := by
  have key := lift (B := B) (mulK f g) (wideL k h) (by have := l1_mulK f g; rw [l1_wide]; omega) (by rw [val_mulK, val_wide _ hk, e])
  refine ext_of ?_ fun m _ => ?_
  · rw [len_mulK f g hf hg]
    unfold atP
    rw [if_neg hh, mkL_len]
    omega
  · rw [key, coef_wide hk, coef_atP hk]

/-! ### many factors -/
def prodR : List (List Int) → List Int
  | [] => [1]
  | g :: r => mulK (prodR r) g
def valR (x : Int) : List (List Int) → Int
  | [] => 1
  | g :: r => valR x r * valP x g
def l1R : List (List Int) → Nat
  | [] => 1
  | g :: r => l1R r * l1 g
def lenR : List (List Int) → Nat
  | [] => 0
  | g :: r => lenR r + (g.length - 1)
theorem prodR_val (x : Int) : ∀ l, valP x (prodR l) = valR x l
  | [] => by
    show 1 + x * 0 = 1
    omega
  | g :: r => by
    show valP x (mulK (prodR r) g) = valR x r * valP x g
    rw [val_mulK, prodR_val x r]
theorem prodR_l1 : ∀ l, l1 (prodR l) ≤ l1R l
  | [] => Nat.le_refl 1
  | g :: r => by
    show l1 (mulK (prodR r) g) ≤ l1R r * l1 g
    exact Nat.le_trans (l1_mulK _ _) (Nat.mul_le_mul_right _ (prodR_l1 r))
theorem prodR_len : ∀ l : List (List Int), (∀ g ∈ l, g ≠ []) → prodR l ≠ [] ∧ (prodR l).length = lenR l + 1
  | [], _ => ⟨(fun h => nomatch h), rfl⟩
  | g :: r, h => by
    obtain ⟨i1, i2⟩ := prodR_len r fun z hz => h z (List.mem_cons_of_mem _ hz)
    have hg := h g (List.mem_cons_self ..)
    have e : (prodR (g :: r)).length = lenR (g :: r) + 1 := by
      show (mulK (prodR r) g).length = lenR r + (g.length - 1) + 1
      have := List.length_pos_iff.mpr hg
      rw [len_mulK _ _ i1 hg, i2]
      omega
    exact ⟨fun z => absurd (z ▸ e : ([] : List Int).length = lenR (g :: r) + 1) (by simp), e⟩
theorem prodR_one {g : List Int} (h : g ≠ []) : prodR [g] = g := by
  show addK (g.map fun x => 1 * x) [0] = g
  refine ext_of ?_ fun m _ => ?_
  · have := List.length_pos_iff.mpr h
    rw [len_addK, List.length_map, List.length_singleton]
    omega
  · rw [coef_addK, coef_scale]
    cases m with
    | zero =>
      rw [coef_cons0]
      omega
    | succ m =>
      rw [coef_cons, coef_nil]
      omega
/-- x to the d, less 1 -/
def xd1 (d : Nat) : List Int := [-1] ++ List.replicate (d - 1) 0 ++ [1]
theorem xd1_len {d : Nat} (h : 1 ≤ d) : (xd1 d).length = d + 1 := by
  unfold xd1
  rw [List.length_append, List.length_append, List.length_replicate, List.length_singleton, List.length_singleton]
  omega
theorem xd1_wide {d : Nat} (h : 1 ≤ d) (m : Nat) : coef (xd1 d) m = coef (wideL d [-1, 1]) m := by
  have e : wideL d [-1, 1] = xd1 d ++ List.replicate (d - 1) 0 := by
    show -1 :: List.replicate (d - 1) 0 ++ (1 :: List.replicate (d - 1) 0 ++ []) = _
    unfold xd1
    simp
  rw [e, coef_app]
  split
  · rfl
  · rename_i q
    rw [coef_rep, coef_ge (by omega)]
theorem prod_xd1 {B d : Nat} {l : List (List Int)} (hd : 1 ≤ d) (hl : ∀ g ∈ l, g ≠ []) (hn : lenR l = d) (hb : l1R l + 2 < B) (e : valR (B : Int) l = (B : Int) ^ d - 1) : prodR l = xd1 d := by
  have key := lift (B := B) (prodR l) (wideL d [-1, 1]) (by
    have := prodR_l1 l
    rw [l1_wide]
    show l1 (prodR l) + 2 < B
    omega) (by
    rw [prodR_val, val_wide _ hd, e]
    show _ = -1 + (B : Int) ^ d * (1 + (B : Int) ^ d * 0)
    rw [Int.mul_zero, Int.add_zero, Int.mul_one]
    omega)
  refine ext_of ?_ fun m _ => ?_
  · rw [(prodR_len l hl).2, xd1_len hd, hn]
  · rw [key, xd1_wide hd]
/-- the numbers of a great one, by 2 to the 32, the least first -/
def dec : Nat → Int → List Int
  | 0, _ => []
  | k + 1, N => ((N + 2147483648) % 4294967296 - 2147483648) :: dec k ((N - ((N + 2147483648) % 4294967296 - 2147483648)) / 4294967296)
theorem dec_len : ∀ (k : Nat) (N : Int), (dec k N).length = k
  | 0, _ => rfl
  | k + 1, N => by
    show (dec k _).length + 1 = k + 1
    rw [dec_len k]
/-- f at p, through f -/
def stepF (f : List Int) (p : Nat) : List Int := dec ((f.length - 1) * (p - 1) + 1) (valP ((4294967296 : Int) ^ p) f / valP 4294967296 f)
end Kp

/-! How a number is parted, as the program does; the root polynomials up to 420, told by their values at one great number. -/
namespace Kp
/-! ### how often p divides, and what is left -/
def strip (p : Int) : Nat → Int → Int → Int × Int
  | 0, l, t => (l, t)
  | m + 1, l, t => if l % p = 0 then strip p m (l / p) (t + 1) else (l, t)
theorem strip_stop {p l t : Int} {m : Nat} (h : ¬ l % p = 0) : strip p m l t = (l, t) := by
  cases m with
  | zero => rfl
  | succ m =>
    unfold strip
    rw [if_neg h]
theorem strip_go {p l t : Int} {m : Nat} (h : l % p = 0) : strip p (m + 1) l t = strip p m (l / p) (t + 1) := by
  rw [strip, if_pos h]
theorem half_lt {p l : Int} {m : Nat} (hp : 2 ≤ p) (h0 : 0 < l) (h : l < 2 ^ (m + 1)) (hd : l % p = 0) : 0 < l / p ∧ l / p < 2 ^ m ∧ l / p ≤ l := by
  have e : p * (l / p) + l % p = l := Int.mul_ediv_add_emod l p
  have e2 : p * (l / p) = l := by omega
  have p0 : 0 < l / p := by
    refine Int.lt_of_not_ge fun q => ?_
    have := Int.mul_nonneg (show 0 ≤ p by omega) (show 0 ≤ -(l / p) by omega)
    rw [Int.mul_neg] at this
    omega
  have e3 : 2 * (l / p) ≤ p * (l / p) := Int.mul_le_mul_of_nonneg_right hp (Int.le_of_lt p0)
  rw [Int.pow_succ] at h
  generalize (2 : Int) ^ m = M at *
  omega
def pLoop : Nat → Int → Int → List (Int × Int) → Int × List (Int × Int)
  | 0, _, l, rows => (l, rows)
  | m + 1, p, l, rows => if p * p ≤ l then pLoop m (p + 1) (strip p 64 l 0).1 (if 0 < (strip p 64 l 0).2 then rows ++ [(p, (strip p 64 l 0).2)] else rows) else (l, rows)
/-- the rows of n's primes, as the program makes them -/
def partedF (n : Int) : List (Int × Int) := if 1 < (pLoop n.toNat 2 n []).1 then (pLoop n.toNat 2 n []).2 ++ [((pLoop n.toNat 2 n []).1, 1)] else (pLoop n.toNat 2 n []).2
theorem pLoop_stop {p l : Int} {rows : List (Int × Int)} {m : Nat} (h : ¬ p * p ≤ l) : pLoop m p l rows = (l, rows) := by
  cases m with
  | zero => rfl
  | succ m =>
    unfold pLoop
    rw [if_neg h]
theorem pLoop_go {p l : Int} {rows : List (Int × Int)} {m : Nat} (h : p * p ≤ l) : pLoop (m + 1) p l rows = pLoop m (p + 1) (strip p 64 l 0).1 (if 0 < (strip p 64 l 0).2 then rows ++ [(p, (strip p 64 l 0).2)] else rows) := by
  rw [pLoop, if_pos h]
theorem sq_le {p l : Int} (h : p * p ≤ l) (hl : l ≤ 1000000000) : p ≤ 31622 := by
  refine Int.le_of_not_gt fun q => ?_
  have := Int.mul_le_mul (show 31623 ≤ p by omega) (show 31623 ≤ p by omega) (by decide) (by omega)
  omega

def GF (n : Nat) : List Int := (partedF n).foldl (fun f r => stepF f r.1.toNat) [-1, 1]
def LF (n : Nat) : Nat := (partedF n).foldl (fun l r => l / r.1.toNat) n
def BB : Nat := 2 ^ 256
def chkA : List (Int × Int) → List Int → Bool
  | [], _ => true
  | r :: ps, f => decide (1 ≤ r.1) && (decide ((f.length - 1) * r.1.toNat ≤ 420) && (decide (valP BB (stepF f r.1.toNat) * valP BB f = valP ((BB : Int) ^ r.1.toNat) f) && (decide (l1 (stepF f r.1.toNat) * l1 f + l1 f < BB) && chkA ps (stepF f r.1.toNat))))
def eval1 (n : Nat) : Int × Nat × Nat := (valP ((BB : Int) ^ LF n) (GF n), l1 (GF n), ((GF n).length - 1) * LF n)
def eT : List (Int × Nat × Nat) := (List.range 420).map fun i => eval1 (i + 1)
def dvs (d : Nat) : List Nat := (List.range d).filter fun i => decide (d % (i + 1) = 0)
def vR3 : List (Int × Nat × Nat) → Int × Nat × Nat
  | [] => (1, 1, 0)
  | t :: r => ((vR3 r).1 * t.1, (vR3 r).2.1 * t.2.1, (vR3 r).2.2 + t.2.2)
def chkD (d : Nat) : Bool := decide ((vR3 ((dvs d).map fun i => eT.getD i (0, 0, 0))).1 = (BB : Int) ^ d - 1) && (decide ((vR3 ((dvs d).map fun i => eT.getD i (0, 0, 0))).2.1 + 2 < BB) && (decide ((vR3 ((dvs d).map fun i => eT.getD i (0, 0, 0))).2.2 = d) && decide (1 ≤ LF d)))
end Kp

namespace Kp
theorem all_A : ((List.range 420).all fun i => chkA (partedF (i + 1 : Nat)) [-1, 1]) = true := by decide +kernel
theorem all_D : ((List.range 420).all fun i => chkD (i + 1)) = true := by decide +kernel
end Kp

/-! Calls that are known not to raise; lists of new pairs of a number and a new list; loops over zip. -/
namespace Kp
open PySem PySem.Spec PyProof.Rows L2 Evl
section
variable {P : Program} {w : World} {K : PySem.W.Frag} {mg : Str → Option Value} {base : Heap} {x : Str} {k : Nat} {ps : List Str} {sp : Sp}
/-- a def that may raise, where nothing is wanted of what it raises -/
theorem Cal.calm (c : Cal P w K mg base (L2.CX P w) x k ps sp) : Cal P w K mg base CX0 x k ps (fun vs H Q _ => sp vs H Q (fun _ _ _ => False)) := by
  obtain ⟨f, fd, F, g, kp, b⟩ := c
  refine ⟨f, fd, ⟨fun vs H Q E h => F.len vs H Q _ h, fun A outer s H args us vs Q E hr e hb hv hs => ?_⟩, g, kp, b⟩
  refine codeAny_mono (F.run A outer s H args us vs Q (fun _ _ _ => False) hr e hb hv hs) fun r s' hq => ?_
  cases r with
  | error e =>
    obtain ⟨_, _, _, _, _, _, _, _, _, _, _, _, z⟩ := hq
    exact z.elim
  | ok fl =>
    cases fl with
    | ret u => exact hq
    | next => exact hq
    | brk => exact hq
    | cont => exact hq
theorem Cal.imp {CX : CXT} {sp' : Sp} (c : Cal P w K mg base CX x k ps sp) (h : ∀ vs H Q E, sp' vs H Q E → sp vs H Q E) : Cal P w K mg base CX x k ps sp' := by
  obtain ⟨f, fd, F, g, kp, b⟩ := c
  exact ⟨f, fd, F.imp h, g, kp, b⟩
end
section
variable {K : PySem.W.Frag} {σ : L2.St} {H H' : Hp} {ta tb te tl to ti : TE} {t : TT} {x y z v : V} {D : Ends} {tu tz : TS} {vs : List Nat}
/-- tuples of a number and a list, all new, no list the one at p -/
def RwsN (p : Addr) (H0 H : Hp) : List Addr → List (Int × List Int) → Prop := Paired (fun t r => ∃ q, q ≠ p ∧ H0 t = none ∧ H0 q = none ∧ H t = some (.tup [.int r.1, .ref q]) ∧ H q = some (.lst (r.2.map V.int)))
/-- the same, whoever made them -/
def Rws (K : PySem.W.Frag) (H : Hp) : List Addr → List (Int × List Int) → Prop := Paired (fun t r => ∃ q, SqT K H t [.int r.1, .ref q] ∧ SqL K H q (r.2.map V.int))
theorem RwsN.rws {p : Addr} {H0 : Hp} {ts : List Addr} {rows : List (Int × List Int)} (h : RwsN p H0 H ts rows) : Rws K H ts rows := Paired.mapP h fun _ _ ⟨q, _, _, _, h1, h2⟩ => ⟨q, SqT.of h1, SqL.of h2⟩
theorem Rws.mono {ts : List Addr} {rows : List (Int × List Int)} (e : Ex H H') (h : Rws K H ts rows) : Rws K H' ts rows := Paired.mapP h fun _ _ ⟨q, h1, h2⟩ => ⟨q, ex_t e h1, ex_l e h2⟩
theorem RwsN.mono {p : Addr} {H0 : Hp} {ts : List Addr} {rows : List (Int × List Int)} (e : Ex H H') (h : RwsN p H0 H ts rows) : RwsN p H0 H' ts rows := Paired.mapP h fun _ _ ⟨q, a, b, c, h1, h2⟩ => ⟨q, a, b, c, e _ _ h1, e _ _ h2⟩
theorem RwsN.back {p : Addr} {H0 H1 : Hp} {ts : List Addr} {rows : List (Int × List Int)} (e : Ex H0 H1) (h : RwsN p H1 H ts rows) : RwsN p H0 H ts rows := Paired.mapP h fun _ _ ⟨q, a, b, c, h1, h2⟩ => ⟨q, a, fresh_back e b, fresh_back e c, h1, h2⟩
def RetRws (rows : List (Int × List Int)) (H : Hp) (Q : VK) : Prop := ∀ p ts H2, H p = none → Ex H H2 → H2 p = some (.lst (ts.map V.ref)) → RwsN p H H2 ts rows → Q (.ref p) H2
theorem RetRws.go {rows : List (Int × List Int)} {Q : VK} (q : RetRws rows H Q) {H1 : Hp} (e : Ex H H1) {p : Addr} {ts : List Addr} {H2 : Hp} (np : H1 p = none) (e2 : Ex H1 H2) (h : H2 p = some (.lst (ts.map V.ref))) (r : RwsN p H1 H2 ts rows) : Q (.ref p) H2 :=
  q p ts H2 (fresh_back e np) (e.trans e2) h (r.back e)
def EvR (te : TE) (σ : L2.St) (H : Hp) (rows : List (Int × List Int)) : Prop := ∀ H1, Ex H H1 → ∀ Q : VK, RetRws rows H1 Q → te σ H1 Q
theorem evR_cal {sp : Sp} {vs : List V} {E : XK} {ta : TA} {rows : List (Int × List Int)} (h : EvA ta σ H vs) (hs : ∀ H1, Ex H H1 → ∀ Q : VK, RetRws rows H1 Q → ∀ E : XK, sp vs H1 Q E) : EvR (tCall sp [] E ta) σ H rows := fun H1 e Q q =>
  h H1 e _ fun H2 e2 => by
    show sp (vs ++ []) H2 Q E
    rw [List.append_nil]
    exact hs H2 (e.trans e2) Q (fun p ts H3 np e3 h3 r => q p ts H3 (fresh_back e2 np) (e2.trans e3) h3 (r.back e2)) E
theorem q_asgR {i : Nat} {rows : List (Int × List Int)} (h : EvR te σ H rows) (k : ∀ p ts H1, H p = none → Ex H H1 → H1 p = some (.lst (ts.map V.ref)) → RwsN p H H1 ts rows → tz D (σ.set i (some (.ref p))) H1) : tSeq (tAsg te (gName i)) tz D σ H :=
  h H (Ex.refl H) _ fun p ts H1 np e h1 r => k p ts H1 np e h1 r
theorem q_appR {rows : List (Int × List Int)} (h : EvR ta σ H rows) (hv : ∀ H1, Ex H H1 → Ev te σ H1 v) (hz : rows.length < 100000) (k : ∀ H1, Ex H H1 → tz D σ H1) : tSeq (tDrop (tBM K "list" rAppend ta (tCons te tNil))) tz D σ H := h H (Ex.refl H) _ fun p ts H1 np e1 hp r =>
  ⟨Or.inl ⟨rfl, _, sq_of hp⟩, hv H1 e1 H1 (Ex.refl _) _ fun H2 e2 => ⟨p, _, v, rfl, rfl, e2 p _ hp, sz_lt (by rw [List.length_map, Paired.length r]; exact hz), k _ (Ex.mut (e1.trans e2) np)⟩⟩
/-- [(d, a new list) for d in a new list of ints] -/
theorem evR_lc {ns : List Int} {j : Nat} {t1 t2 : TE} (w : Int → List Int) (h : EvL tl σ H (ns.map V.int)) (hz : ns.length ≤ 40000) (hw : ∀ x, wipe ((wipe σ vs).set j (some x)) vs = wipe σ vs)
    (he : ∀ r H1, Ex H H1 → r ∈ ns → Ev t1 ((wipe σ vs).set j (some (.int r))) H1 (.int r) ∧ EvL t2 ((wipe σ vs).set j (some (.int r))) H1 ((w r).map V.int)) :
    EvR (tLc (iList K tl) (gName j) tYes (tTup (tCons t1 (tCons t2 tNil))) vs) σ H (ns.map fun r => (r, w r)) := fun H0 e Q q => h H0 e _ fun a H1 na e1 ha => ⟨a, rfl, ⟨_, sq_of ha⟩, fun Dl hD =>
  lc_list (xs := ns.map V.int) (fun n H' => H1 Dl = none ∧ Ex H1 H' ∧ ∃ ts, H' Dl = some (.lst (ts.map V.ref)) ∧ RwsN Dl H1 H' ts ((ns.take n).map fun r => (r, w r))) ⟨hD, Ex.new hD, [], upd_same, .nil⟩ (fun n H' _ p => sq_of (p.2.1 _ _ ha)) (fun n x H' hn p => by
    obtain ⟨p1, p2, ts, p3, p4⟩ := p
    obtain ⟨r, hr, rfl⟩ := map_get hn
    have hm : r ∈ ns := List.mem_of_getElem? hr
    obtain ⟨g1, g2⟩ := he r H1 (e.trans e1) hm
    refine ⟨hw _, ?_⟩
    refine et_yes (H := H') _ (Ex.refl _) _ fun H3 e3 => ?_
    rw [if_pos rfl]
    refine g1 H3 (p2.trans e3) _ fun H4 e4 => g2 H4 ((p2.trans e3).trans e4) _ fun q H5 nq e5 hq => ⟨sz_of (show 2 ≤ 100000 by decide), fun T nT => ?_⟩
    have e35 : Ex H' H5 := (e3.trans e4).trans e5
    have e36 : Ex H' (upd H5 T (.tup [.int r, .ref q])) := e35.trans (Ex.new nT)
    have hDl := e36 _ _ p3
    have nq1 : H1 q = none := fresh_back ((p2.trans e3).trans e4) nq
    have nT1 : H1 T = none := fresh_back (p2.trans e35) nT
    have qD : q ≠ Dl := fun z => by
      have := (e3.trans e4) _ _ p3
      rw [← z, nq] at this
      cases this
    have TD : T ≠ Dl := fun z => by
      have := e35 _ _ p3
      rw [← z, nT] at this
      cases this
    have qT : q ≠ T := fun z => by
      rw [z, nT] at hq
      cases hq
    refine ⟨_, hDl, ?_, p1, Ex.mut (p2.trans e36) p1, ts ++ [T], by rw [upd_same, List.map_append]; rfl, ?_⟩
    · refine sz_lt ?_
      rw [List.length_map, Paired.length p4, List.length_map, List.length_take]
      omega
    · have et : ns.take (n + 1) = ns.take n ++ [r] := by rw [List.take_add_one, hr]; rfl
      rw [et, List.map_append]
      refine Paired.snoc (Paired.mapP p4 fun t r' ⟨q', z1, z2, z3, z4, z5⟩ => ⟨q', z1, z2, z3, ?_, ?_⟩) ⟨q, qD, nT1, nq1, ?_, ?_⟩
      · rw [upd_ne (ne_of (e36 _ _ z4) hDl (by intro z; cases z))]
        exact e36 _ _ z4
      · rw [upd_ne z1]
        exact e36 _ _ z5
      · rw [upd_ne TD, upd_same]
      · rw [upd_ne qD, upd_ne qT]
        exact hq) (fun H' p => by
    obtain ⟨p1, p2, ts, p3, p4⟩ := p
    rw [List.length_map, List.take_length] at p4
    exact q Dl ts H' (fresh_back e1 p1) (e1.trans p2) p3 (p4.back e1))⟩
/-- for d, f in what is told: f.append(..) -/
theorem q_forRwApp {rows : List (Int × List Int)} {j1 j2 : Nat} {u : V} (h : EvR te σ H rows) (hz : rows.length ≤ 1000) (hl : ∀ r ∈ rows, r.2.length < 50000) (hj : j1 < σ.length) (hj2 : j2 < σ.length) (hne : j1 ≠ j2) (k : ∀ x y H1, Ex H H1 → tz D ((σ.set j1 x).set j2 y) H1) :
    tSeq (tFor (iList K te) (gTup K 2 (gCons (gName j1) (gCons (gName j2) gNil))) (tDrop (tBM K "list" rAppend (tVar j2) (tCons (tC u) tNil)))) tz D σ H :=
  h H (Ex.refl H) _ fun p ts H1 np e1 hp R => ⟨p, rfl, ⟨_, sq_of hp⟩, for_list (xs := ts.map V.ref)
    (fun i σ' H' => (∃ x y, σ' = (σ.set j1 x).set j2 y) ∧ Ex H H' ∧ H' p = some (.lst (ts.map V.ref)) ∧ ∀ t ∈ ts, ∃ d q xs, q ≠ p ∧ H q = none ∧ H' t = some (.tup [.int d, .ref q]) ∧ H' q = some (.lst xs) ∧ xs.length < 50000 + i)
    ⟨⟨σ[j1], σ[j2], by
      rw [List.set_getElem_self hj, List.set_getElem_self hj2]⟩, e1, hp, fun t ht => by
      obtain ⟨n, hn⟩ := List.mem_iff_getElem?.mp ht
      obtain ⟨r, hr, q, z1, z2, z3, z4, z5⟩ := paired_get R hn
      exact ⟨r.1, q, _, z1, z3, z4, z5, by rw [List.length_map]; have := hl r (List.mem_of_getElem? hr); omega⟩⟩
    (fun i σ' H' _ p => sq_of p.2.2.1) (fun i x σ' H' hx hp => by
      obtain ⟨⟨y1, y2, rfl⟩, p2, p3, p4⟩ := hp
      rw [List.getElem?_map] at hx
      obtain ⟨t, ht, rfl⟩ := Option.map_eq_some_iff.mp hx
      have hm := List.mem_of_getElem? ht
      have hi : i < ts.length := (List.getElem?_eq_some_iff.mp ht).1
      have hlen := Paired.length R
      obtain ⟨d, q, xs, qp, nq, h1, h2, h3⟩ := p4 t hm
      refine ⟨t, _, rfl, .inl (.inl h1), rfl, .int d, [.ref q], rfl, .ref q, [], rfl, rfl, ?_⟩
      refine s_app h2 (ev_var ?_) ev_c (by omega) fun H3 e3 => ⟨⟨some (.int d), some (.ref q), ?_⟩, Ex.mut (p2.trans e3) nq, ?_, fun t' ht' => ?_⟩
      · rw [List.getElem?_set_self (by rw [List.length_set, List.length_set, List.length_set]; exact hj2)]
      · rw [List.set_comm _ _ hne.symm, List.set_set, List.set_set]
      · rw [upd_ne qp.symm]
        exact e3 _ _ p3
      · obtain ⟨d', q', ys, z1, z2, z3, z4, z5⟩ := p4 t' ht'
        have nt : t' ≠ q := ne_of z3 h2 (by intro z; cases z)
        by_cases e : q' = q
        · subst e
          rw [h2] at z4
          cases z4
          exact ⟨d', q', _, z1, z2, by rw [upd_ne nt]; exact e3 _ _ z3, upd_same, by rw [List.length_append, List.length_singleton]; omega⟩
        · exact ⟨d', q', ys, z1, z2, by rw [upd_ne nt]; exact e3 _ _ z3, by rw [upd_ne e]; exact e3 _ _ z4, by omega⟩) (fun σ' H' p => by
      obtain ⟨⟨y1, y2, rfl⟩, p2, _⟩ := p
      exact k y1 y2 H' p2)⟩
/-- for x, y in zip(a, b) -/
theorem s_forZ {a b : Addr} {xs ys : List V} {tl : TA} {j1 j2 : Nat} (h : EvA tl σ H [.ref a, .ref b]) (hx : SqL K H a xs) (hy : SqL K H b ys) (hl : xs.length = ys.length) (Pv : Nat → L2.St → Hp → Prop) (h0 : ∀ H1, Ex H H1 → Pv 0 σ H1) (hq : ∀ i σ' H', Pv i σ' H' → SqL K H' a xs ∧ SqL K H' b ys)
    (hs : ∀ i x y σ' H', xs[i]? = some x → ys[i]? = some y → Pv i σ' H' → ∀ H2, Ex H' H2 → tu { D with nx := Pv (i + 1), ct := Pv (i + 1), bk := D.nx } ((σ'.set j1 (some x)).set j2 (some y)) H2) (hd : ∀ σ' H', Pv xs.length σ' H' → D.nx σ' H') :
    tFor (iZip K tl) (gTup K 2 (gCons (gName j1) (gCons (gName j2) gNil))) tu D σ H :=
  h H (Ex.refl H) _ fun H1 e => ⟨a, b, xs, ys, rfl, ex_l e hx, ex_l e hy, for_it (n := xs.length) (walk_zip (by omega)) Pv (h0 H1 e) (fun i σ' H' _ p => hq i σ' H' p) (fun i v σ' H' H'' hi p y => by
    obtain ⟨T, x, y, rfl, hT, rfl, hx, hy⟩ := y
    exact ⟨T, _, rfl, .inl (.inl upd_same), rfl, x, [y], rfl, y, [], rfl, rfl, hs i x y σ' H' hx hy p _ (Ex.new hT)⟩) hd⟩
theorem q_forZ {a b : Addr} {xs ys : List V} {tl : TA} {j1 j2 : Nat} (h : EvA tl σ H [.ref a, .ref b]) (hx : SqL K H a xs) (hy : SqL K H b ys) (hl : xs.length = ys.length) (Pv : Nat → L2.St → Hp → Prop) (h0 : ∀ H1, Ex H H1 → Pv 0 σ H1) (hq : ∀ i σ' H', Pv i σ' H' → SqL K H' a xs ∧ SqL K H' b ys)
    (hs : ∀ i x y σ' H', xs[i]? = some x → ys[i]? = some y → Pv i σ' H' → ∀ H2, Ex H' H2 → tu { D with nx := Pv (i + 1), ct := Pv (i + 1), bk := tz D } ((σ'.set j1 (some x)).set j2 (some y)) H2) (hd : ∀ σ' H', Pv xs.length σ' H' → tz D σ' H') :
    tSeq (tFor (iZip K tl) (gTup K 2 (gCons (gName j1) (gCons (gName j2) gNil))) tu) tz D σ H := s_forZ (D := { D with nx := tz D }) h hx hy hl Pv h0 hq hs hd
/-! == of a pair of a number and a list -/
def dNL (r : Int × List Int) : PyData := .tuple [.int r.1, dI r.2]
theorem dNL_ok (r : Int × List Int) : okD (dNL r) = true := by
  show (true && (okD (dI r.2) && true)) = true
  rw [dI_ok]
  rfl
theorem dNL_lay (r : Int × List Int) : PyData.canLay0 (dNL r) = true := by
  show PyData.canLayAll0 [.int r.1, dI r.2] = true
  unfold PyData.canLayAll0 PyData.canLayAll0 PyData.canLayAll0
  rw [dI_lay]
  rfl
theorem dNL_dep (r : Int × List Int) : (dNL r).depth ≤ 2 := by
  show PyData.depthAll [.int r.1, dI r.2] + 1 ≤ 2
  unfold PyData.depthAll PyData.depthAll PyData.depthAll
  have := dI_dep r.2
  simp only [PyData.depth]
  omega
theorem dNL_sh (r : Int × List Int) : SeqAt.shaped (dNL r) = true := shaped_of (dNL_lay r) (Nat.le_trans (dNL_dep r) (by decide))
theorem dNL_inj (a b : Int × List Int) (e : dNL a = dNL b) : a = b := by
  obtain ⟨a1, a2⟩ := a
  obtain ⟨b1, b2⟩ := b
  simp only [dNL, PyData.tuple.injEq, List.cons.injEq, PyData.int.injEq, and_true] at e
  rw [e.1, dI_inj _ _ e.2]
theorem dNL_eqv (a b : Int × List Int) : PyData.eqv (dNL a) (dNL b) = decide (a = b) := eqv_dec dNL dNL_ok dNL_inj a b
theorem dp_NL {t q : Addr} {r : Int × List Int} (h : SqT K H t [.int r.1, .ref q]) (g : SqL K H q (r.2.map V.int)) : Dp K H (.ref t) (dNL r) := .tup h (.cons (.int _) (.cons (dp_ints g) .nil))
theorem rv_neNL {t u q p : Addr} {r s : Int × List Int} (h1 : SqT K H t [.int r.1, .ref q]) (g1 : SqL K H q (r.2.map V.int)) (h2 : SqT K H u [.int s.1, .ref p]) (g2 : SqL K H p (s.2.map V.int)) : RV (rNeD K) (.ref t) (.ref u) H (.bl (!decide (r = s))) :=
  rv_neD (fun _ e => dp_NL (ex_t e h1) (ex_l e g1)) (fun _ e => dp_NL (ex_t e h2) (ex_l e g2)) (dNL_sh _) (dNL_sh _) (by rw [dNL_eqv])
end
/-- two rising lists of the same numbers -/
theorem rise_uniq : ∀ {a b : List Nat}, a.Pairwise (· < ·) → b.Pairwise (· < ·) → (∀ x, x ∈ a ↔ x ∈ b) → a = b
  | [], [], _, _, _ => rfl
  | [], y :: b, _, _, h => absurd ((h y).mpr (List.mem_cons_self ..)) (by simp)
  | x :: a, [], _, _, h => absurd ((h x).mp (List.mem_cons_self ..)) (by simp)
  | x :: a, y :: b, ha, hb, h => by
    have a1 := List.pairwise_cons.mp ha
    have b1 := List.pairwise_cons.mp hb
    have e : x = y := by
      rcases List.mem_cons.mp ((h x).mp (List.mem_cons_self ..)) with e | e
      · exact e
      · rcases List.mem_cons.mp ((h y).mpr (List.mem_cons_self ..)) with f | f
        · exact f.symm
        · have := a1.1 y f
          have := b1.1 x e
          omega
    subst e
    congr 1
    refine rise_uniq a1.2 b1.2 fun z => ⟨fun hz => ?_, fun hz => ?_⟩
    · rcases List.mem_cons.mp ((h z).mp (List.mem_cons_of_mem _ hz)) with e | e
      · have := a1.1 z hz
        omega
      · exact e
    · rcases List.mem_cons.mp ((h z).mpr (List.mem_cons_of_mem _ hz)) with e | e
      · have := b1.1 z hz
        omega
      · exact e
end Kp

/-! The root polynomials up to 420: their steps, their products. -/
namespace Kp
def phi (n : Nat) : List Int := atP (GF n) (LF n)
/-- one of the last number 1, of two numbers or more -/
structure Mon (f : List Int) : Prop where
  two : 2 ≤ f.length
  one : coef f (f.length - 1) = 1
theorem Mon.ne {f : List Int} (h : Mon f) : f ≠ [] := fun e => by
  have := h.two
  rw [e] at this
  exact absurd this (by decide)
theorem Mon.tr {f : List Int} (h : Mon f) : Tr f := fun _ => by
  rw [h.one]
  decide
theorem Mon.l1 {f : List Int} (h : Mon f) : 1 ≤ l1 f := by
  have := coef_l1 f (f.length - 1)
  rw [h.one] at this
  exact this
theorem atP_len {f : List Int} {k : Nat} (h : f ≠ []) : (atP f k).length = (f.length - 1) * k + 1 := by
  unfold atP
  rw [if_neg h, mkL_len]
theorem atP_last {f : List Int} {k : Nat} (h : f ≠ []) (hk : 1 ≤ k) : coef (atP f k) ((atP f k).length - 1) = coef f (f.length - 1) := by
  rw [atP_len h, Nat.add_sub_cancel, coef_atP hk]
  unfold pw
  rw [Nat.mul_mod_left, if_pos rfl, Nat.mul_div_cancel _ (by omega)]
theorem Mon.atP {f : List Int} {k : Nat} (h : Mon f) (hk : 1 ≤ k) : Mon (atP f k) := by
  refine ⟨?_, by rw [atP_last h.ne hk, h.one]⟩
  rw [atP_len h.ne]
  have := h.two
  have := Nat.mul_le_mul (show 1 ≤ f.length - 1 by omega) hk
  omega
theorem trim_l1 (f : List Int) : Kp.l1 (trim f) ≤ Kp.l1 f := by
  have key : ∀ (n : Nat) (f : List Int), Kp.l1 (f.take n) ≤ Kp.l1 f := by
    intro n
    induction n with
    | zero =>
      intro f
      rw [List.take_zero]
      exact Nat.zero_le _
    | succ n ih =>
      intro f
      cases f with
      | nil => exact Nat.le_refl _
      | cons a f =>
        show a.natAbs + Kp.l1 (f.take n) ≤ a.natAbs + Kp.l1 f
        have := ih f
        omega
  exact key _ f
theorem atP_l1 {f : List Int} {k : Nat} (hk : 1 ≤ k) (t : Tr f) : Kp.l1 (Kp.atP f k) ≤ Kp.l1 f := by
  rw [← wide_eq hk t, ← l1_wide k f]
  exact trim_l1 _
theorem atP_val {f : List Int} {k : Nat} (x : Int) (hk : 1 ≤ k) (t : Tr f) : valP x (Kp.atP f k) = valP (x ^ k) f := by
  rw [← val_wide x hk, ← wide_eq hk t]
  -- the value doesn't see noughts at the end
  have key : ∀ (g h : List Int), (∀ m, coef g m = coef h m) → valP x g = valP x h := by
    intro g
    induction g with
    | nil =>
      intro h
      induction h with
      | nil => exact fun _ => rfl
      | cons b h ih =>
        intro e
        have e0 := e 0
        have := ih fun m => by
          have := e (m + 1)
          rw [coef_cons, coef_nil] at this
          rw [coef_nil]
          exact this
        rw [coef_nil, coef_cons0] at e0
        show (0 : Int) = b + x * valP x h
        rw [← this, ← e0]
        show (0 : Int) = 0 + x * 0
        omega
    | cons a g ih =>
      intro h e
      cases h with
      | nil =>
        have e0 := e 0
        have := ih [] fun m => by
          have := e (m + 1)
          rw [coef_cons, coef_nil] at this
          rw [coef_nil]
          exact this
        rw [coef_nil, coef_cons0] at e0
        show a + x * valP x g = 0
        rw [this, e0]
        show (0 : Int) + x * 0 = 0
        omega
      | cons b h =>
        have e0 := e 0
        rw [coef_cons0, coef_cons0] at e0
        have := ih h fun m => by
          have := e (m + 1)
          rwa [coef_cons, coef_cons] at this
        show a + x * valP x g = b + x * valP x h
        rw [this, e0]
  exact key _ _ (coef_trim _)
theorem stepF_len (f : List Int) (p : Nat) : (stepF f p).length = (f.length - 1) * (p - 1) + 1 := dec_len _ _
/-- behind one prime -/
theorem chk_step {r : Int × Int} {ps : List (Int × Int)} {f : List Int} (hc : chkA (r :: ps) f = true) (hf : Mon f) : 1 ≤ r.1 ∧ (f.length - 1) * r.1.toNat ≤ 420 ∧ mulK (stepF f r.1.toNat) f = atP f r.1.toNat ∧ l1 (stepF f r.1.toNat) < BB ∧ chkA ps (stepF f r.1.toNat) = true ∧
    (stepF f r.1.toNat) ≠ [] ∧ coef (stepF f r.1.toNat) ((stepF f r.1.toNat).length - 1) = 1 := by
  unfold chkA at hc
  rw [Bool.and_eq_true, Bool.and_eq_true, Bool.and_eq_true, Bool.and_eq_true, decide_eq_true_iff, decide_eq_true_iff, decide_eq_true_iff, decide_eq_true_iff] at hc
  obtain ⟨c1, c2, c3, c4, c5⟩ := hc
  have hp : 1 ≤ r.1.toNat := by omega
  have f2 := hf.two
  have fl := hf.l1
  generalize r.1.toNat = p at *
  have sl := stepF_len f p
  have sn : stepF f p ≠ [] := fun e => by
    rw [e] at sl
    exact absurd sl (by simp)
  have hm : mulK (stepF f p) f = atP f p := times_at (B := BB) hp sn hf.ne hf.ne (by
    rw [sl]
    have : (f.length - 1) * p = (f.length - 1) * (p - 1) + (f.length - 1) := by
      obtain ⟨q, rfl⟩ : ∃ q, p = q + 1 := ⟨p - 1, by omega⟩
      rw [Nat.add_sub_cancel, Nat.mul_succ]
    omega) c4 c3
  refine ⟨c1, c2, hm, ?_, c5, sn, ?_⟩
  · have := Nat.mul_le_mul_left (l1 (stepF f p)) fl
    omega
  · have l2 := List.length_pos_iff.mpr sn
    have e1 := cv_last sn hf.ne
    rw [← coef_mulK, hm, hf.one, Int.mul_one] at e1
    have e2 := atP_last hf.ne hp
    rw [hf.one, atP_len hf.ne, Nat.add_sub_cancel] at e2
    rw [← e1, ← e2]
    congr 1
    obtain ⟨q, rfl⟩ : ∃ q, p = q + 1 := ⟨p - 1, by omega⟩
    rw [sl, Nat.add_sub_cancel, Nat.mul_succ]
    omega
theorem all_P : ((List.range 420).all fun i => (partedF (i + 1 : Nat)).all fun r => decide (2 ≤ r.1) && decide (r.1 ≤ 420)) = true := by decide +kernel
theorem rows_bd {n : Nat} (h1 : 1 ≤ n) (h2 : n ≤ 420) {r : Int × Int} (hr : r ∈ partedF n) : 2 ≤ r.1 ∧ r.1 ≤ 420 := by
  have h := List.all_eq_true.mp all_P (n - 1) (List.mem_range.mpr (by omega))
  rw [show n - 1 + 1 = n by omega] at h
  have := List.all_eq_true.mp h r hr
  rw [Bool.and_eq_true, decide_eq_true_iff, decide_eq_true_iff] at this
  exact this
theorem chkA_at {n : Nat} (h1 : 1 ≤ n) (h2 : n ≤ 420) : chkA (partedF n) [-1, 1] = true := by
  have h := List.all_eq_true.mp all_A (n - 1) (List.mem_range.mpr (by omega))
  rwa [show n - 1 + 1 = n by omega] at h
/-- the polynomial behind the primes so far -/
def fAt (rows : List (Int × Int)) : List Int := rows.foldl (fun f r => stepF f r.1.toNat) [-1, 1]
structure StP (rest : List (Int × Int)) (f : List Int) : Prop where
  mon : Mon f
  len : f.length ≤ 421
  bd : l1 f < BB
  chk : chkA rest f = true
theorem StP.step {r : Int × Int} {ps : List (Int × Int)} {f : List Int} (s : StP (r :: ps) f) (hr : 2 ≤ r.1) : StP ps (stepF f r.1.toNat) := by
  obtain ⟨c1, c2, c3, c4, c5, c6, c7⟩ := chk_step s.chk s.mon
  have f2 := s.mon.two
  have hp : 2 ≤ r.1.toNat := by omega
  refine ⟨⟨?_, c7⟩, ?_, c4, c5⟩
  · rw [stepF_len]
    have := Nat.mul_le_mul (show 1 ≤ f.length - 1 by omega) (show 1 ≤ r.1.toNat - 1 by omega)
    omega
  · rw [stepF_len]
    have : (f.length - 1) * (r.1.toNat - 1) ≤ (f.length - 1) * r.1.toNat := Nat.mul_le_mul_left _ (by omega)
    omega
theorem stP0 {n : Nat} (h1 : 1 ≤ n) (h2 : n ≤ 420) : StP (partedF n) [-1, 1] := ⟨⟨by decide, by decide⟩, by decide, by decide +kernel, chkA_at h1 h2⟩
theorem stP_end : ∀ (rows : List (Int × Int)) (f : List Int), (∀ r ∈ rows, 2 ≤ r.1) → StP rows f → StP [] (rows.foldl (fun f r => stepF f r.1.toNat) f)
  | [], f, _, s => s
  | r :: rows, f, h, s => stP_end rows (stepF f r.1.toNat) (fun z hz => h z (List.mem_cons_of_mem _ hz)) (s.step (h r (List.mem_cons_self ..)))
theorem GF_ok {n : Nat} (h1 : 1 ≤ n) (h2 : n ≤ 420) : StP [] (GF n) := stP_end _ _ (fun r hr => (rows_bd h1 h2 hr).1) (stP0 h1 h2)
theorem LF_le (n : Nat) : LF n ≤ n := by
  have key : ∀ (rows : List (Int × Int)) (m : Nat), rows.foldl (fun l r => l / r.1.toNat) m ≤ m := by
    intro rows
    induction rows with
    | nil => exact fun m => Nat.le_refl m
    | cons r rows ih => exact fun m => Nat.le_trans (ih _) (Nat.div_le_self _ _)
  exact key _ n

/-! ### all divisors' products -/
def rowOf (i : Nat) : Int × Nat × Nat := eT.getD i (0, 0, 0)
theorem eT_at {i : Nat} (h : i < 420) : eT.getD i (0, 0, 0) = eval1 (i + 1) := by
  unfold eT
  rw [List.getD_eq_getElem?_getD, List.getElem?_map, List.getElem?_range h]
  rfl
theorem chkD_at {d : Nat} (h1 : 1 ≤ d) (h2 : d ≤ 420) : chkD d = true := by
  have h := List.all_eq_true.mp all_D (d - 1) (List.mem_range.mpr (by omega))
  rwa [show d - 1 + 1 = d by omega] at h
theorem LF_pos {d : Nat} (h1 : 1 ≤ d) (h2 : d ≤ 420) : 1 ≤ LF d := by
  have h := chkD_at h1 h2
  unfold chkD at h
  rw [Bool.and_eq_true, Bool.and_eq_true, Bool.and_eq_true, decide_eq_true_iff, decide_eq_true_iff, decide_eq_true_iff, decide_eq_true_iff] at h
  exact h.2.2.2
theorem phi_mon {d : Nat} (h1 : 1 ≤ d) (h2 : d ≤ 420) : Mon (phi d) := (GF_ok h1 h2).mon.atP (LF_pos h1 h2)
theorem phi_l1 {d : Nat} (h1 : 1 ≤ d) (h2 : d ≤ 420) : l1 (phi d) ≤ l1 (GF d) := atP_l1 (LF_pos h1 h2) (GF_ok h1 h2).mon.tr
theorem phi_val {d : Nat} (h1 : 1 ≤ d) (h2 : d ≤ 420) (x : Int) : valP x (phi d) = valP (x ^ LF d) (GF d) := atP_val x (LF_pos h1 h2) (GF_ok h1 h2).mon.tr
theorem phi_len {d : Nat} (h1 : 1 ≤ d) (h2 : d ≤ 420) : (phi d).length - 1 = ((GF d).length - 1) * LF d := by
  unfold phi
  rw [atP_len (GF_ok h1 h2).mon.ne, Nat.add_sub_cancel]
theorem vR3_of : ∀ (l : List Nat), (∀ i ∈ l, i < 420) → (vR3 (l.map fun i => eT.getD i (0, 0, 0))).1 = valR BB (l.map fun i => phi (i + 1)) ∧ l1R (l.map fun i => phi (i + 1)) ≤ (vR3 (l.map fun i => eT.getD i (0, 0, 0))).2.1 ∧ (vR3 (l.map fun i => eT.getD i (0, 0, 0))).2.2 = lenR (l.map fun i => phi (i + 1))
  | [], _ => ⟨rfl, Nat.le_refl _, rfl⟩
  | i :: l, h => by
    obtain ⟨a, b, c⟩ := vR3_of l fun j hj => h j (List.mem_cons_of_mem _ hj)
    have hi := h i (List.mem_cons_self ..)
    rw [List.map_cons, List.map_cons, eT_at hi]
    refine ⟨?_, ?_, ?_⟩
    · show (vR3 _).1 * valP _ (GF (i + 1)) = valR BB _ * valP BB (phi (i + 1))
      rw [a, phi_val (by omega) (by omega)]
    · show l1R _ * l1 (phi (i + 1)) ≤ (vR3 _).2.1 * l1 (GF (i + 1))
      exact Nat.mul_le_mul b (phi_l1 (by omega) (by omega))
    · show (vR3 _).2.2 + ((GF (i + 1)).length - 1) * LF (i + 1) = lenR _ + ((phi (i + 1)).length - 1)
      rw [c, phi_len (by omega) (by omega)]
theorem dvs_lt {d i : Nat} (h : i ∈ dvs d) : i < d := List.mem_range.mp (List.mem_filter.mp h).1
/-- the product of all divisors' polynomials -/
theorem phi_prod {d : Nat} (h1 : 1 ≤ d) (h2 : d ≤ 420) : prodR ((dvs d).map fun i => phi (i + 1)) = xd1 d ∧ l1R ((dvs d).map fun i => phi (i + 1)) < BB := by
  have h := chkD_at h1 h2
  unfold chkD at h
  rw [Bool.and_eq_true, Bool.and_eq_true, Bool.and_eq_true, decide_eq_true_iff, decide_eq_true_iff, decide_eq_true_iff, decide_eq_true_iff] at h
  obtain ⟨c1, c2, c3, _⟩ := h
  have hlt : ∀ i ∈ dvs d, i < 420 := fun i hi => by have := dvs_lt hi; omega
  obtain ⟨a, b, c⟩ := vR3_of (dvs d) hlt
  refine ⟨prod_xd1 (B := BB) h1 (fun g hg => ?_) (by rw [← c, c3]) (by omega) (by rw [← a, c1]), by omega⟩
  obtain ⟨i, hi, rfl⟩ := List.mem_map.mp hg
  have := hlt i hi
  exact (phi_mon (by omega) (by omega)).ne
theorem l1R_drop {l : List (List Int)} (h : ∀ g ∈ l, 1 ≤ l1 g) : ∀ k, l1R (l.drop k) ≤ l1R l := by
  induction l with
  | nil =>
    intro k
    rw [List.drop_nil]
    exact Nat.le_refl _
  | cons g r ih =>
    intro k
    cases k with
    | zero => exact Nat.le_refl _
    | succ k =>
      have := ih (fun z hz => h z (List.mem_cons_of_mem _ hz)) k
      have h2 := Nat.mul_le_mul_left (l1R r) (h g (List.mem_cons_self ..))
      show l1R (r.drop k) ≤ l1R r * l1 g
      omega
/-- n's divisors, rising -/
def dvL (n : Nat) : List Nat := (dvs n).map fun i => i + 1
theorem dvL_rise (n : Nat) : (dvL n).Pairwise (· < ·) := by
  unfold dvL dvs
  rw [List.pairwise_map]
  exact (List.Pairwise.filter _ List.pairwise_lt_range).imp fun h => by omega
theorem dvL_mem {n x : Nat} (h : 1 ≤ n) : x ∈ dvL n ↔ x ∣ n := by
  unfold dvL dvs
  rw [List.mem_map]
  constructor
  · rintro ⟨i, hi, rfl⟩
    rw [List.mem_filter, decide_eq_true_iff] at hi
    exact Nat.dvd_of_mod_eq_zero hi.2
  · intro hx
    have := Nat.le_of_dvd (by omega) hx
    have x0 : 0 < x := Nat.pos_of_dvd_of_pos hx (by omega)
    refine ⟨x - 1, ?_, by omega⟩
    rw [List.mem_filter, decide_eq_true_iff, List.mem_range, Nat.sub_add_cancel x0]
    exact ⟨by omega, Nat.mod_eq_zero_of_dvd hx⟩
/-- those of n's divisors to the i-th that divide the i-th are all its divisors -/
theorem dvL_below {n i d : Nat} (hn : 1 ≤ n) (hi : (dvL n)[i]? = some d) : ((dvL n).take (i + 1)).filter (fun e => decide (d % e = 0)) = dvL d := by
  have hd := (dvL_mem hn).mp (List.mem_of_getElem? hi)
  have d1 : 1 ≤ d := Nat.pos_of_dvd_of_pos hd (by omega)
  obtain ⟨h1, h2⟩ := List.getElem?_eq_some_iff.mp hi
  refine rise_uniq (List.Pairwise.filter _ ((dvL_rise n).sublist (List.take_sublist _ _))) (dvL_rise d) fun x => ?_
  rw [dvL_mem d1, List.mem_filter, decide_eq_true_iff]
  constructor
  · exact fun h => Nat.dvd_of_mod_eq_zero h.2
  · intro hx
    refine ⟨?_, Nat.mod_eq_zero_of_dvd hx⟩
    obtain ⟨k, hk, e⟩ := List.mem_iff_getElem.mp ((dvL_mem hn).mpr (Nat.dvd_trans hx hd))
    have hle := Nat.le_of_dvd (by omega) hx
    have hki : k ≤ i := by
      refine Nat.le_of_not_lt fun q => ?_
      have := List.pairwise_iff_getElem.mp (dvL_rise n) i k h1 hk q
      omega
    rw [List.mem_iff_getElem]
    exact ⟨k, by rw [List.length_take]; omega, by rw [List.getElem_take]; exact e⟩
theorem lenR_mem {g : List Int} : ∀ {l : List (List Int)}, g ∈ l → g.length - 1 ≤ lenR l
  | a :: l, h => by
    show _ ≤ lenR l + (a.length - 1)
    rcases List.mem_cons.mp h with rfl | h
    · omega
    · have := lenR_mem h
      omega
theorem phi_le {d : Nat} (h1 : 1 ≤ d) (h2 : d ≤ 420) : (phi d).length ≤ d + 1 := by
  have h := chkD_at h1 h2
  unfold chkD at h
  rw [Bool.and_eq_true, Bool.and_eq_true, Bool.and_eq_true, decide_eq_true_iff, decide_eq_true_iff, decide_eq_true_iff, decide_eq_true_iff] at h
  obtain ⟨_, _, c3, _⟩ := h
  have hlt : ∀ i ∈ dvs d, i < 420 := fun i hi => by have := dvs_lt hi; omega
  obtain ⟨_, _, c⟩ := vR3_of (dvs d) hlt
  have hm : d - 1 ∈ dvs d := by
    unfold dvs
    rw [List.mem_filter, List.mem_range, decide_eq_true_iff, Nat.sub_add_cancel h1]
    exact ⟨by omega, Nat.mod_self d⟩
  have := lenR_mem (List.mem_map_of_mem (f := fun i => phi (i + 1)) hm)
  rw [← c, c3] at this
  rw [show d - 1 + 1 = d by omega] at this
  omega
theorem phi_bd {d : Nat} (h1 : 1 ≤ d) (h2 : d ≤ 420) : l1 (phi d) < BB := Nat.lt_of_le_of_lt (phi_l1 h1 h2) (GF_ok h1 h2).bd
end Kp

/-! d.keys() of a dict whose keys are pairs of ints, and sorted(d.keys()). -/
namespace Kp
open PySem PySem.Spec PyProof.Rows L2
/-- the view that d.keys() gives -/
def keysO (p d : Addr) : HO := .ext fun h => PySem.W.KdlKeysView h p d
theorem keysO_ok {P : Program} {w : World} {H : Hp} {h : Heap} {p d : Addr} (e : h.get? p = some { cls := .type "dict_keys", data := .fields #[.ref d] }) : ObjOk P w H h p (keysO p d) := by
  refine ⟨⟨_, e, rfl, rfl⟩, ⟨_, e⟩, fun h1 h2 x k => ?_⟩
  obtain ⟨o, ho, r⟩ := x
  exact ⟨o, k o ho, r⟩
theorem keys_meets {prog : Program} {w : World} {d : Addr} {es : Array DictEntry} {ep : Nat} (hd : (d == sysModules) = false) :
    MeetsIn prog w (Builtin.«dict.keys» ⟨[.ref d], []⟩) (fun _ R s => s.heap.DictRaw d es ep ∧ R (.ok (.ret (.ref s.heap.objs.size))) { s with heap := s.heap.push { cls := .type "dict_keys", data := .fields #[.ref d] } }) := by
  refine .of_wp fun A R s hmh => ?_
  obtain ⟨hm, h⟩ := hmh
  unfold Builtin.«dict.keys»
  refine wpAny_bind ?_; unfold Builtin.Dict.noArgs
  refine wpAny_bind (wpAny_notOrdered_dict hm.typeIs ?_); show wpAny _ _ (pure d) _ _ s
  refine wpAny_pure ?_; show wpAny _ _ (Builtin.Dict.showsAll d >>= _) _ _ s
  unfold Builtin.Dict.showsAll; rw [if_neg (by rw [hd]; exact Bool.false_ne_true)]
  refine wpAny_bind (wpAny_pure ?_); exact wpAny_bind (wpAny_newObj_type (wpAny_pure ⟨_, rfl, h⟩))
section
variable {X : Cx}
def rKeysT : V → List V → Hp → VK → Prop := fun x xs H Q => ∃ (a : Addr) (kvs : List (List L2.Key × V)), x = .ref a ∧ xs = [] ∧ H a = some (.dT kvs) ∧ ∀ p, H p = none → Q (.ref p) (upd H p (keysO p a))
theorem mt_keysT : MtR X "dict.keys" rKeysT := by
  intro pins s σ H x xs v us Q I rx rxs h
  obtain ⟨a, kvs, rfl, rfl, ha, q⟩ := h
  cases rx; cases rxs
  obtain ⟨z, hd, xs', rel, o, es, ep, ho, hx, hdat, _⟩ := L2.dt_of I.hok ha
  have hm : s.heap.DictRaw a es ep := ⟨o, ho, hx, hdat⟩
  refine PySem.call_meetsIn PySem.F.slot_dict_keys hm.typeIs PySem.F.entry_dict_keys (PySem.F.args_dict_keys_1 _) (keys_meets (es := es) (ep := ep) hd) ⟨hm, ?_⟩
  exact ⟨.ref s.heap.objs.size, upd H s.heap.objs.size (keysO s.heap.objs.size a), I.laid (t' := s.toks) (fun b u e => Heap.get?_push_of_some _ e) (Nat.le_refl _) (keysO_ok (Heap.get?_push_size _ rfl)), rfl, q _ (I.hok.fresh (Nat.le_refl _))⟩
end

/-! ### sorted of that -/
section
open SrtO
variable {prog : Program} {w : World} {A : Around} {E : Value → Shared → Prop} {s : Shared} {r d : Addr} {es : Array DictEntry} {ep : Nat} {k : Value → Int × Int}
/-- what is collected out of the view, laid behind all that stood -/
theorem view_collect {R : List Value → Shared → Prop} (hh : A.handled = none) (hv : PySem.W.KdlKeysView s.heap r d) (hm : s.heap.DictRaw d es ep) (hn : es.size ≤ sizeLine)
    (h : ∀ (h' : Heap) (tk : Nat) (acc : Array Value), (∀ b o, s.heap.get? b = some o → h'.get? b = some o) → s.heap.objs.size ≤ h'.objs.size → PySem.ItemsOf (fun i v => ∃ hi : i < es.size, v = es[i].key) acc es.size → R acc.toList { s with heap := h', toks := tk }) :
    wpAny (model prog w) A (collect (.ref r)) R E s := by
  have src := PySem.KdlSrc.rawKeys (prog := prog) (w := w) (r := r) (d := d) (es := es) (ep := ep)
  have there := src.there _ ⟨hv, hm⟩
  unfold collect; refine wpAny_bind (wpAny_runValue (codeAny_builtin entry_proto_collect' ?_)); rw [Around.under_plainId PySem.F.plain_proto_collect _]
  generalize hS : s.heap.objs.size = S
  show wpAny _ A.in1 (newList [] >>= fun l => again (.builtin "list.__iadd__" ⟨[l, .ref r], []⟩)) _ _ s; refine wpAny_bind (wpAny_newObj_type ?_)
  rw [hS]; refine wpAny_pure ⟨plainId_quiet PySem.F.plain_list_iadd _, codeAny_builtin entry_list_iadd' ?_⟩; rw [Around.under_plainId PySem.F.plain_list_iadd _]
  show wpAny _ A.in1 (Builtin.List.listExtendWith (.ref S) (.ref r) (.ref S)) _ _ _
  have hL : (s.heap.push (seqObj "list" #[] 0)).get? S = some { cls := .type "list", data := .seq #[] 0 } := by
    rw [← hS]
    exact Heap.get?_push_size _ rfl
  have key := PySem.W.kdl_extend (A := A) (s := { s with heap := s.heap.push (seqObj "list" #[] 0) })
    (R := fun (q : Result) (s2 : Shared) => ∃ (h2 : Heap) (t2 : Nat) (ac : Array Value) (c2 : Nat), q = .ok (.ret (.ref S)) ∧ s2 = { s with heap := h2, toks := t2 } ∧ (∀ b o, s.heap.get? b = some o → h2.get? b = some o) ∧ h2.get? S = some (seqObj "list" ac c2) ∧ PySem.ItemsOf (fun i v => ∃ hi : i < es.size, v = es[i].key) ac es.size)
    src hh (src.keep _ _ ⟨hv, hm⟩ fun b _ o e => Heap.get?_push_of_some _ e) S (Nat.ne_of_gt (show r < S from hS ▸ there.1)) (Nat.ne_of_gt (show d < S from hS ▸ there.2)) (.ref S) 0 hL
    (fun h2 t2 ac c2 k2 g2 i2 => ⟨h2, t2, ac, c2, rfl, rfl, fun b o e => k2 b o (Nat.ne_of_lt (show b < S from hS ▸ Heap.lt_size e)) (Heap.get?_push_of_some _ e), g2, i2⟩) hn
  have fin : ∀ (h2 : Heap) (t2 : Nat) (ac : Array Value) (c2 : Nat), (∀ b o, s.heap.get? b = some o → h2.get? b = some o) → h2.get? S = some (seqObj "list" ac c2) → PySem.ItemsOf (fun i v => ∃ hi : i < es.size, v = es[i].key) ac es.size → R ac.toList { s with heap := h2, toks := t2 } := fun h2 t2 ac c2 k2 g2 i2 =>
    h h2 t2 ac k2 (Nat.le_of_lt (hS ▸ Heap.lt_size g2)) i2
  refine wpAny_mono key (fun f s2 x => ?_) fun e s2 x => ?_
  · cases f with
    | done f =>
      obtain ⟨h2, t2, ac, c2, e, rfl, k2, g2, i2⟩ := x
      cases e
      show wpAny _ A (load S >>= _) _ _ _
      exact wpAny_bind (wpAny_load g2 (wpAny_pure (fin h2 t2 ac c2 k2 g2 i2)))
    | again c =>
      refine ⟨x.1, codeAny_mono x.2 fun q s3 y => ?_⟩
      obtain ⟨h2, t2, ac, c2, rfl, rfl, k2, g2, i2⟩ := y
      show wpAny _ A (load S >>= _) _ _ _
      exact wpAny_bind (wpAny_load g2 (wpAny_pure (fin h2 t2 ac c2 k2 g2 i2)))
  · obtain ⟨_, _, _, _, z, _⟩ := x
    cases z
theorem sorted_view {Q : Value → Shared → Prop} (hh : A.handled = none) (hv : PySem.W.KdlKeysView s.heap r d) (hm : s.heap.DictRaw d es ep) (hn : es.size ≤ sizeLine) (hp : ∀ v ∈ es.toList.map (·.key), Srt.IsPair s.heap v (k v).1 (k v).2)
    (h : ∀ (h' : Heap) (tk : Nat) (dd : Addr) (out : List Value), Srtd (fun v u => lexB (k v) (k u)) out → Stb (fun v u => lexB (k v) (k u)) out (es.toList.map (·.key)) → (∀ b o, s.heap.get? b = some o → h'.get? b = some o) → s.heap.objs.size ≤ dd → (∃ n, h'.get? dd = some (seqObj "list" out.toArray n)) → Q (.ref dd) { s with heap := h', toks := tk }) :
    wpAny (model prog w) A (call (.builtin "sorted") [.ref r]) Q E s := by
  refine PySem.Calls.call_function_entry kind_sorted plain_sorted entry_sorted (args_sorted1 _) ?_
  unfold Builtin.«sorted»; refine wpAny_bind (m := checkCount "sorted" 1 1 _) (wpAny_pure ?_)
  refine wpAny_bind (view_collect hh hv hm hn fun h' tk acc hk szs hacc => ?_)
  have ev : acc.toList = es.toList.map (·.key) := by
    refine List.ext_getElem? fun j => ?_
    rw [List.getElem?_map]
    cases hj : acc.toList[j]? with
    | none =>
      have h1 := List.getElem?_eq_none_iff.mp hj
      have h2 : acc.toList.length = es.size := by rw [Array.length_toList]; exact hacc.1
      rw [List.getElem?_eq_none (by rw [Array.length_toList]; omega)]
      rfl
    | some v =>
      obtain ⟨hi, hv⟩ := hacc.2 j v (by rw [← Array.getElem?_toList]; exact hj)
      rw [Array.getElem?_toList, Array.getElem?_eq_getElem hi, hv]
      rfl
  rw [ev]
  generalize es.toList.map (·.key) = vs at *
  have hz : vs.length ≤ sizeLine := by
    rw [← ev, Array.length_toList, hacc.1]
    exact hn
  refine wpAny_bind (wpAny_newList ?_ hz)
  have hoL : (h'.push (seqObj "list" vs.toArray 0)).get? h'.objs.size = some (seqObj "list" vs.toArray 0) := Heap.get?_push_size _ rfl
  have old : ∀ b o, s.heap.get? b = some o → b ≠ h'.objs.size ∧ (h'.push (seqObj "list" vs.toArray 0)).get? b = some o := fun b o e => ⟨Nat.ne_of_lt (Heap.lt_size (hk b o e)), Heap.get?_push_of_some _ (hk b o e)⟩
  refine wpAny_bind (wpAny_holding (wpAny_call_entry slot_list_sort ⟨_, hoL, rfl⟩ entry_list_sort (list_sort_ord (s := { s with heap := h'.push (seqObj "list" vs.toArray 0), toks := tk }) (swo_lex k) hoL hz (fun h2 => ?_) fun out hs hb => ⟨_, rfl, ?_⟩) (args_list_sort _)))
  · refine pairs_sortableO (by omega) (fun v hm => (hp v hm).keeps fun b o e _ => (old b o e).2) fun o e => ?_
    have e' : some o = some (seqObj "list" vs.toArray 0) := e.symm.trans hoL
    cases e'
    exact fun c => absurd (Value.type.inj c) (by decide)
  · refine wpAny_pure ⟨_, rfl, h _ _ _ out hs hb (fun b o e => ?_) szs (sortedHeap_at hoL)⟩
    obtain ⟨q1, q2⟩ := old b o e
    rw [← q2]
    exact sortedHeap_old q1 (Heap.lt_size q2)
end

/-! ### as a rule: keys pairs of ints -/
abbrev kP (e : Int × Int) : List L2.Key := [Sum.inl e.1, Sum.inl e.2]
/-- sorted(d.keys()): the keys' own tuples, by their ints -/
def rSortKeys : List V → Hp → VK → Prop := fun vs H Q => ∃ (p a : Addr) (ks : List ((Int × Int) × V)), vs = [.ref p] ∧ H p = some (keysO p a) ∧ H a = some (.dT (ks.map fun e => (kP e.1, e.2))) ∧
  ∀ (zs : List (Addr × Int × Int)) (l : Addr), (zs.map (·.2)).Perm (ks.map (·.1)) → (zs.map (·.2)).Pairwise (fun x y => SrtO.lexB y x = false) → (∀ z ∈ zs, H z.1 = some (.tup [.int z.2.1, .int z.2.2])) → H l = none → Q (.ref l) (upd H l (.lst (zs.map fun z => V.ref z.1)))
/-- the pair that stands at v -/
def pairOf (H : Hp) (v : Value) : Int × Int := match v with
  | .ref a => match H a with
    | some (.tup [.int i, .int j]) => (i, j)
    | _ => (0, 0)
  | _ => (0, 0)
theorem pairOf_at {H : Hp} {a : Addr} {i j : Int} (h : H a = some (.tup [.int i, .int j])) : pairOf H (.ref a) = (i, j) := by
  unfold pairOf
  simp only [h]
theorem map_of_paired {α β γ : Type} {F : α → β → Prop} {f : α → γ} {g : β → γ} (h : ∀ a b, F a b → f a = g b) : ∀ {l : List α} {m : List β}, Paired F l m → l.map f = m.map g
  | _, _, .nil => rfl
  | _, _, .cons a r => by rw [List.map_cons, List.map_cons, h _ _ a, map_of_paired h r]
theorem refs_of : ∀ {out : List Value}, (∀ v ∈ out, ∃ a, v = Value.ref a) → ∃ as : List Addr, out = as.map Value.ref
  | [], _ => ⟨[], rfl⟩
  | v :: out, h => by
    obtain ⟨a, rfl⟩ := h v (List.mem_cons_self ..)
    obtain ⟨as, rfl⟩ := refs_of (out := out) fun z hz => h z (List.mem_cons_of_mem _ hz)
    exact ⟨a :: as, rfl⟩
theorem vals_refsK : ∀ as : List Addr, Vals (as.map V.ref) (as.map Value.ref)
  | [] => .nil
  | _ :: r => .cons rfl (vals_refsK r)
section
variable {X : Cx}
theorem cr_sortedKeys (hc : X.calm = true) : CallR X (.builtin "sorted") rSortKeys := by
  intro pins s σ H vs us Q I r h
  obtain ⟨p, a, ks, rfl, hp, ha, q⟩ := h
  obtain ⟨u, rfl, ru⟩ := vals1 r
  obtain rfl : u = Value.ref p := ru
  have view : PySem.W.KdlKeysView s.heap p a := (show ObjOk X.prog X.w H s.heap p (keysO p a) from I.hok p _ hp).1
  obtain ⟨z, hd, xs', rel, o, es, ep, ho, hx, hdat, hes, his, hn⟩ := L2.dt_of I.hok ha
  have hm : s.heap.DictRaw a es ep := ⟨o, ho, hx, hdat⟩
  have l1 := Paired.length rel
  have l2 : es.size = xs'.length := size_of_entries hes
  rw [List.length_map] at l1 z
  have ekeys : es.toList.map (·.key) = (xs'.map fun x => x.2.1).map Value.ref := by
    rw [hes, List.map_map, List.map_map]
    rfl
  -- each key's tuple
  have tup : ∀ b ∈ xs'.map (fun x => x.2.1), ∃ e ∈ ks, H b = some (.tup [.int e.1.1, .int e.1.2]) := fun b hb => by
    obtain ⟨x, hxm, rfl⟩ := List.mem_map.mp hb
    obtain ⟨j, hj⟩ := List.mem_iff_getElem?.mp hxm
    obtain ⟨e0, he0, r1, r2, r3⟩ := L2.DX.pget rel hj
    rw [List.getElem?_map] at he0
    obtain ⟨e, he, rfl⟩ := Option.map_eq_some_iff.mp he0
    exact ⟨e, List.mem_of_getElem? he, r2⟩
  have keyl : ((xs'.map fun x => x.2.1).map Value.ref).map (pairOf H) = ks.map (·.1) := by
    rw [List.map_map, List.map_map]
    refine (List.ext_getElem? fun j => ?_)
    rw [List.getElem?_map, List.getElem?_map]
    cases hj : xs'[j]? with
    | none =>
      rw [List.getElem?_eq_none (by have := List.getElem?_eq_none_iff.mp hj; omega)]
      rfl
    | some x =>
      obtain ⟨e0, he0, r1, r2, r3⟩ := L2.DX.pget rel hj
      rw [List.getElem?_map] at he0
      obtain ⟨e, he, rfl⟩ := Option.map_eq_some_iff.mp he0
      rw [he]
      exact congrArg some (pairOf_at r2)
  refine sorted_view (k := pairOf H) (I.ok.hd hc) view hm (by rw [l2, ← l1]; exact z) (fun v hv => ?_) fun h' tk dd out h1 h2 kp hdd hout => ?_
  · rw [ekeys] at hv
    obtain ⟨b, hb, rfl⟩ := List.mem_map.mp hv
    obtain ⟨e, _, hb2⟩ := tup b hb
    obtain ⟨_, its2, r2, o2, ho2, hc2, n2, hd2⟩ := I.hok _ _ hb2
    obtain ⟨u1, u2, rfl, ri, rj⟩ := vals2 r2
    obtain ⟨t1, rfl⟩ := ri
    obtain ⟨t2, rfl⟩ := rj
    rw [pairOf_at hb2]
    exact ⟨b, o2, t1, t2, n2, rfl, ho2, hc2, hd2⟩
  · rw [ekeys] at h2
    obtain ⟨as, rfl⟩ := refs_of (out := out) fun v hv => by
      obtain ⟨b, _, e⟩ := List.mem_map.mp (h2.perm.mem_iff.mp hv)
      exact ⟨b, e.symm⟩
    have mem : ∀ b ∈ as, ∃ e ∈ ks, H b = some (.tup [.int e.1.1, .int e.1.2]) := fun b hb => by
      obtain ⟨c, hcm, e⟩ := List.mem_map.mp (h2.perm.mem_iff.mp (List.mem_map_of_mem hb))
      cases e
      exact tup _ hcm
    have e2 : (as.map fun b => (b, pairOf H (.ref b))).map (·.2) = (as.map Value.ref).map (pairOf H) := by
      rw [List.map_map, List.map_map]
      rfl
    have e1 : (as.map fun b => (b, pairOf H (.ref b))).map (fun z => V.ref z.1) = as.map V.ref := by
      rw [List.map_map]
      rfl
    obtain ⟨n, hn2⟩ := hout
    have hln : (as.map V.ref).length ≤ sizeLine := by
      have := h2.perm.length_eq
      rw [List.length_map, List.length_map, List.length_map] at this
      rw [List.length_map, this, ← l1]
      exact z
    refine ⟨.ref dd, upd H dd (.lst (as.map V.ref)), I.laid (t' := tk) kp hdd ⟨hln, as.map Value.ref, n, vals_refsK as, hn2⟩, rfl, ?_⟩
    rw [← e1]
    refine q _ dd ?_ ?_ (fun y hy => ?_) (I.hok.fresh hdd)
    · rw [e2, ← keyl]
      exact h2.perm.map _
    · rw [e2, List.pairwise_map]
      exact h1
    · obtain ⟨b, hb, rfl⟩ := List.mem_map.mp hy
      obtain ⟨e, _, hb2⟩ := mem b hb
      rw [pairOf_at hb2]
      exact hb2
end
end Kp

/-! Lists of triples of ints; a dict with pairs as keys. -/
namespace Kp
open PySem PySem.Spec PyProof.Rows L2 Evl
abbrev I3 := Int × Int × Int
section
variable {K : PySem.W.Frag} {σ : L2.St} {H H' : Hp} {ta tb te tl to ti : TE} {t : TT} {x y z v : V} {D : Ends} {tu tz : TS} {vs : List Nat}
def Trs (K : PySem.W.Frag) (H : Hp) : List V → List I3 → Prop := Paired fun v r => ∃ t, v = .ref t ∧ SqT K H t [.int r.1, .int r.2.1, .int r.2.2]
theorem Trs.mono {xs : List V} {rows : List I3} (e : Ex H H') (h : Trs K H xs rows) : Trs K H' xs rows := Paired.mapP h fun v r ⟨t, q, s⟩ => ⟨t, q, ex_t e s⟩
theorem Trs.upd {l : Addr} {us ys xs : List V} {rows : List I3} (hl : H l = some (.lst us)) (h : Trs K H xs rows) : Trs K (upd H l (.lst ys)) xs rows := Paired.mapP h fun v r ⟨t, q, s⟩ => ⟨t, q, sqt_upd hl s⟩
theorem Trs.snoc {xs : List V} {rows : List I3} {t : Addr} {a b c : Int} (h : Trs K H xs rows) (ht : SqT K H t [.int a, .int b, .int c]) : Trs K H (xs ++ [.ref t]) (rows ++ [(a, b, c)]) := Paired.snoc h ⟨t, rfl, ht⟩
theorem trs_get : ∀ {xs : List V} {rows : List I3} {i : Nat} {x : V}, Trs K H xs rows → xs[i]? = some x → ∃ r t, rows[i]? = some r ∧ x = .ref t ∧ SqT K H t [.int r.1, .int r.2.1, .int r.2.2]
  | _, _, _, _, .nil, h => by simp at h
  | _, _, 0, _, .cons (b := r) q _, h => by
    obtain ⟨t, q1, q2⟩ := q
    have e := Option.some.inj h
    exact ⟨r, t, rfl, e ▸ q1, q2⟩
  | _, _, i + 1, _, .cons _ q, h => trs_get (i := i) q h
def RetT (K : PySem.W.Frag) (rows : List I3) (H : Hp) (Q : VK) : Prop := ∀ p xs H2, H p = none → Ex H H2 → H2 p = some (.lst xs) → Trs K H2 xs rows → Q (.ref p) H2
def EvT3 (K : PySem.W.Frag) (te : TE) (σ : L2.St) (H : Hp) (rows : List I3) : Prop := ∀ H1, Ex H H1 → ∀ Q : VK, RetT K rows H1 Q → te σ H1 Q
theorem RetT.go {rows : List I3} {Q : VK} (q : RetT K rows H Q) {H1 : Hp} (e : Ex H H1) {p : Addr} {xs : List V} {H2 : Hp} (np : H1 p = none) (e2 : Ex H1 H2) (h : H2 p = some (.lst xs)) (r : Trs K H2 xs rows) : Q (.ref p) H2 := q p xs H2 (fresh_back e np) (e.trans e2) h r
theorem et3_cal {sp : Sp} {vs : List V} {E : XK} {ta : TA} {rows : List I3} (h : EvA ta σ H vs) (hs : ∀ H1, Ex H H1 → ∀ Q : VK, RetT K rows H1 Q → ∀ E : XK, sp vs H1 Q E) : EvT3 K (tCall sp [] E ta) σ H rows := fun H1 e Q q =>
  h H1 e _ fun H2 e2 => by
    show sp (vs ++ []) H2 Q E
    rw [List.append_nil]
    exact hs H2 (e.trans e2) Q (fun p xs H3 hp e3 h3 p3 => q p xs H3 (fresh_back e2 hp) (e2.trans e3) h3 p3) E
theorem q_asgT3 {i : Nat} {rows : List I3} (h : EvT3 K te σ H rows) (k : ∀ p xs H1, H p = none → Ex H H1 → H1 p = some (.lst xs) → Trs K H1 xs rows → tz D (σ.set i (some (.ref p))) H1) : tSeq (tAsg te (gName i)) tz D σ H :=
  h H (Ex.refl H) _ fun p xs H1 np e h1 r => k p xs H1 np e h1 r
/-- [(a, b, c)] -/
theorem et3_one {tr : TA} {a b c : Int} (h : EvA tr σ H [.int a, .int b, .int c]) : EvT3 K (tLst (tCons (tTup tr) tNil)) σ H [(a, b, c)] := fun H1 e Q q => by
  have key := h H1 e (fun vs H2 => vs.length ≤ sizeLine ∧ ∀ t, H2 t = none → [V.ref t].length ≤ sizeLine ∧ ∀ l, (upd H2 t (.tup vs)) l = none → Q (.ref l) (upd (upd H2 t (.tup vs)) l (.lst [.ref t]))) fun H2 e2 => ⟨sz_of (show 3 ≤ 100000 by decide), fun t nt => ⟨sz_of (show 1 ≤ 100000 by decide), fun l nl => by
    have eN : Ex (upd H2 t (.tup [.int a, .int b, .int c])) (upd (upd H2 t (.tup [.int a, .int b, .int c])) l (.lst [.ref t])) := Ex.new nl
    exact q l [.ref t] _ (fresh_back (e2.trans (Ex.new nt)) nl) ((e2.trans (Ex.new nt)).trans eN) upd_same (.cons ⟨t, rfl, SqT.of (eN _ _ upd_same)⟩ .nil)⟩⟩
  exact key
/-- for a, b, c in xs, by its name -/
theorem s_forT3 {a : Addr} {xs : List V} {rows : List I3} {j1 j2 j3 : Nat} (h : Ev tl σ H (.ref a)) (Pv : Nat → L2.St → Hp → Prop) (h0 : ∀ H1, Ex H H1 → Pv 0 σ H1) (hl : ∀ i σ' H', Pv i σ' H' → SqL K H' a xs ∧ Trs K H' xs rows)
    (hs : ∀ i r σ' H', rows[i]? = some r → Pv i σ' H' → tu { D with nx := Pv (i + 1), ct := Pv (i + 1), bk := D.nx } (((σ'.set j1 (some (.int r.1))).set j2 (some (.int r.2.1))).set j3 (some (.int r.2.2))) H') (hd : ∀ σ' H', Pv rows.length σ' H' → D.nx σ' H') :
    tFor (iList K tl) (gTup K 3 (gCons (gName j1) (gCons (gName j2) (gCons (gName j3) gNil)))) tu D σ H :=
  h H (Ex.refl H) _ fun H1 e => ⟨a, rfl, ⟨xs, (hl _ _ _ (h0 H1 e)).1⟩, for_list (xs := xs) Pv (h0 H1 e) (fun i σ' H' _ q => (hl _ _ _ q).1) (fun i x σ' H' hx q => by
    obtain ⟨r, t, hr, rfl, ht⟩ := trs_get (hl _ _ _ q).2 hx
    exact ⟨t, _, rfl, ht, rfl, .int r.1, [.int r.2.1, .int r.2.2], rfl, .int r.2.1, [.int r.2.2], rfl, .int r.2.2, [], rfl, rfl, hs i r σ' H' hr q⟩) (fun σ' H' q => by
    rw [Paired.length (hl _ _ _ (h0 H1 e)).2] at q
    exact hd σ' H' q)⟩
theorem q_forT3 {a : Addr} {xs : List V} {rows : List I3} {j1 j2 j3 : Nat} (h : Ev tl σ H (.ref a)) (Pv : Nat → L2.St → Hp → Prop) (h0 : ∀ H1, Ex H H1 → Pv 0 σ H1) (hl : ∀ i σ' H', Pv i σ' H' → SqL K H' a xs ∧ Trs K H' xs rows)
    (hs : ∀ i r σ' H', rows[i]? = some r → Pv i σ' H' → tu { D with nx := Pv (i + 1), ct := Pv (i + 1), bk := tz D } (((σ'.set j1 (some (.int r.1))).set j2 (some (.int r.2.1))).set j3 (some (.int r.2.2))) H') (hd : ∀ σ' H', Pv rows.length σ' H' → tz D σ' H') :
    tSeq (tFor (iList K tl) (gTup K 3 (gCons (gName j1) (gCons (gName j2) (gCons (gName j3) gNil)))) tu) tz D σ H := s_forT3 (D := { D with nx := tz D }) h Pv h0 hl hs hd
/-- over a new list of triples -/
theorem q_forT3N {rows : List I3} {j1 j2 j3 : Nat} (h : EvT3 K te σ H rows) (Pv : Addr → List V → Nat → L2.St → Hp → Prop) (h0 : ∀ p xs H1, H p = none → Ex H H1 → H1 p = some (.lst xs) → Trs K H1 xs rows → Pv p xs 0 σ H1) (hl : ∀ p xs i σ' H', Pv p xs i σ' H' → SqL K H' p xs ∧ Trs K H' xs rows)
    (hs : ∀ p xs i r σ' H', rows[i]? = some r → Pv p xs i σ' H' → tu { D with nx := Pv p xs (i + 1), ct := Pv p xs (i + 1), bk := tz D } (((σ'.set j1 (some (.int r.1))).set j2 (some (.int r.2.1))).set j3 (some (.int r.2.2))) H') (hd : ∀ p xs σ' H', Pv p xs rows.length σ' H' → tz D σ' H') :
    tSeq (tFor (iList K te) (gTup K 3 (gCons (gName j1) (gCons (gName j2) (gCons (gName j3) gNil)))) tu) tz D σ H :=
  h H (Ex.refl H) _ fun p xs H1 np e hp R => ⟨p, rfl, ⟨xs, sq_of hp⟩, for_list (xs := xs) (Pv p xs) (h0 p xs H1 np e hp R) (fun i σ' H' _ q => (hl _ _ _ _ _ q).1) (fun i x σ' H' hx q => by
    obtain ⟨r, t, hr, rfl, ht⟩ := trs_get (hl _ _ _ _ _ q).2 hx
    exact ⟨t, _, rfl, ht, rfl, .int r.1, [.int r.2.1, .int r.2.2], rfl, .int r.2.1, [.int r.2.2], rfl, .int r.2.2, [], rfl, rfl, hs p xs i r σ' H' hr q⟩) (fun σ' H' q => by
    rw [Paired.length R] at q
    exact hd p xs σ' H' q)⟩
/-- over a new list of pairs, what stood before free to change -/
theorem q_forP2 {rows : List (Int × Int)} {j1 j2 : Nat} (h : EvP K te σ H rows) (Pv : Addr → List V → Nat → L2.St → Hp → Prop) (h0 : ∀ p xs H1, H p = none → Ex H H1 → H1 p = some (.lst xs) → Prs K H1 xs rows → Pv p xs 0 σ H1) (hl : ∀ p xs i σ' H', Pv p xs i σ' H' → SqL K H' p xs ∧ Prs K H' xs rows)
    (hs : ∀ p xs i r σ' H', rows[i]? = some r → Pv p xs i σ' H' → tu { D with nx := Pv p xs (i + 1), ct := Pv p xs (i + 1), bk := tz D } ((σ'.set j1 (some (.int r.1))).set j2 (some (.int r.2))) H') (hd : ∀ p xs σ' H', Pv p xs rows.length σ' H' → tz D σ' H') :
    tSeq (tFor (iList K te) (gTup K 2 (gCons (gName j1) (gCons (gName j2) gNil))) tu) tz D σ H :=
  h H (Ex.refl H) _ fun p xs H1 np e hp R => ⟨p, rfl, ⟨xs, sq_of hp⟩, for_list (xs := xs) (Pv p xs) (h0 p xs H1 np e hp R) (fun i σ' H' _ q => (hl _ _ _ _ _ q).1) (fun i x σ' H' hx q => by
    obtain ⟨r, t, hr, rfl, ht⟩ := prs_get (hl _ _ _ _ _ q).2 hx
    exact ⟨t, _, rfl, ht, rfl, .int r.1, [.int r.2], rfl, .int r.2, [], rfl, rfl, hs p xs i r σ' H' hr q⟩) (fun σ' H' q => by
    rw [Paired.length R] at q
    exact hd p xs σ' H' q)⟩
/-- over a list of triples, a comprehension; its target three names -/
theorem el_lcT3 {a : Addr} {xs : List V} {rows : List I3} {j1 j2 j3 : Nat} (w : I3 → V) (h : Ev tl σ H (.ref a)) (hx : SqL K H a xs) (hp : Trs K H xs rows) (hz : rows.length ≤ 40000)
    (hw : ∀ x y z, wipe ((((wipe σ vs).set j1 (some x)).set j2 (some y)).set j3 (some z)) vs = wipe σ vs)
    (he : ∀ r H1, Ex H H1 → r ∈ rows → Ev te ((((wipe σ vs).set j1 (some (.int r.1))).set j2 (some (.int r.2.1))).set j3 (some (.int r.2.2))) H1 (w r)) :
    EvL (tLc (iList K tl) (gTup K 3 (gCons (gName j1) (gCons (gName j2) (gCons (gName j3) gNil)))) tYes te vs) σ H (rows.map w) := fun H0 e Q q => h H0 e _ fun H1 e1 => ⟨a, rfl, ⟨xs, ex_l (e.trans e1) hx⟩, fun Dl hD =>
  lc_list (xs := xs) (fun n H' => H1 Dl = none ∧ Ex H1 H' ∧ H' Dl = some (.lst ((rows.take n).map w))) ⟨hD, Ex.new hD, upd_same⟩ (fun n H' _ p => ex_l ((e.trans e1).trans p.2.1) hx) (fun n x H' hn p => by
    obtain ⟨p1, p2, p3⟩ := p
    obtain ⟨r, u, hr, rfl, hu⟩ := trs_get (hp.mono ((e.trans e1).trans p2)) hn
    have hm : r ∈ rows := List.mem_of_getElem? hr
    refine ⟨u, _, rfl, hu, rfl, .int r.1, [.int r.2.1, .int r.2.2], rfl, .int r.2.1, [.int r.2.2], rfl, .int r.2.2, [], rfl, rfl, hw _ _ _, ?_⟩
    refine et_yes (H := H') _ (Ex.refl _) _ fun H3 e3 => ?_
    rw [if_pos rfl]
    refine he r H1 (e.trans e1) hm H3 (p2.trans e3) _ fun H4 e4 => ⟨_, e4 Dl _ (e3 Dl _ p3), sz_lt (by rw [List.length_map, List.length_take]; omega), p1, Ex.mut ((p2.trans e3).trans e4) p1, ?_⟩
    rw [upd_same, List.take_add_one, hr, List.map_append]
    rfl) (fun H' p => by
    have q1 := p.2.2
    rw [Paired.length hp, List.take_length] at q1
    exact q Dl H' (fresh_back e1 p.1) (e1.trans p.2.1) q1)⟩
/-- all(a new list of truths) -/
theorem ev_all {bs : List Bool} (h : EvL ta σ H (bs.map V.bl)) : Ev (tCB (rAll K) (tCons ta tNil)) σ H (.bl (bs.all id)) := fun H1 e Q q =>
  h H1 e _ fun p H2 np e2 hp => ⟨p, bs, rfl, sq_of hp, q H2 e2⟩
theorem ev_int1n {b : Bool} {n : Int} (ha : Ev ta σ H (.bl b)) (hn : (if b then 1 else 0) = n) : Ev (tCB (fun xs H Q => (∃ i, xs = [.int i] ∧ Q (.int i) H) ∨ ∃ k, xs = [.bl k] ∧ Q (.int (if k then 1 else 0)) H) (tCons ta tNil)) σ H (.int n) := hn ▸ ev_int1b ha

/-! ### a dict whose keys are pairs -/
abbrev encD (e : (Int × Int) × Int) : List L2.Key × V := (kP e.1, V.int e.2)
def putI (ks : List ((Int × Int) × Int)) (k : Int × Int) (c : Int) : List ((Int × Int) × Int) := if (ks.any fun e => decide (e.1 = k)) = true then ks.map (fun e => if e.1 = k then (e.1, c) else e) else ks ++ [(k, c)]
theorem kP_eq (a b : Int × Int) : kP a = kP b ↔ a = b := by
  constructor
  · intro h
    simp only [kP, List.cons.injEq, Sum.inl.injEq, and_true] at h
    exact Prod.ext h.1 h.2
  · exact fun h => by rw [h]
theorem put_enc (ks : List ((Int × Int) × Int)) (k : Int × Int) (c : Int) : putK (ks.map encD) (kP k) (.int c) = (putI ks k c).map encD := by
  have ha : ((ks.map encD).any fun kv => decide (kv.1 = kP k)) = ks.any fun e => decide (e.1 = k) := by
    rw [List.any_map]
    congr 1
    funext e
    exact decide_eq_decide.mpr (kP_eq e.1 k)
  unfold putK putI
  rw [ha]
  split
  · rw [List.map_map, List.map_map]
    refine List.map_congr_left fun e _ => ?_
    show (if (encD e).1 = kP k then ((encD e).1, V.int c) else encD e) = encD (if e.1 = k then (e.1, c) else e)
    by_cases h : e.1 = k
    · rw [if_pos h, if_pos ((kP_eq _ _).mpr h)]
    · rw [if_neg h, if_neg fun q => h ((kP_eq _ _).mp q)]
  · rw [List.map_append]
    rfl
theorem val_enc : ∀ {ks : List ((Int × Int) × Int)} {k : Int × Int} {c : Int}, (ks.map (·.1)).Nodup → (k, c) ∈ ks → valV (ks.map encD) (kP k) = some (.int c)
  | e :: ks, k, c, hn, hm => by
    rw [List.map_cons, List.nodup_cons] at hn
    rcases List.mem_cons.mp hm with rfl | hm
    · exact valV_pos rfl
    · have ne : e.1 ≠ k := fun z => hn.1 (by rw [z]; exact List.mem_map.mpr ⟨(k, c), hm, rfl⟩)
      rw [List.map_cons, valV_neg fun z => ne ((kP_eq _ _).mp z)]
      exact val_enc hn.2 hm
theorem put_keys (ks : List ((Int × Int) × Int)) (k : Int × Int) (c : Int) (h : (ks.map (·.1)).Nodup) : ((putI ks k c).map (·.1)).Nodup ∧ ∀ e ∈ putI ks k c, e ∈ ks ∨ e = (k, c) := by
  unfold putI
  split
  · have e1 : (ks.map fun e => if e.1 = k then (e.1, c) else e).map (·.1) = ks.map (·.1) := by
      rw [List.map_map]
      refine List.map_congr_left fun e _ => ?_
      show (if e.1 = k then (e.1, c) else e).1 = e.1
      split <;> rfl
    refine ⟨by rw [e1]; exact h, fun e he => ?_⟩
    obtain ⟨f, hf, rfl⟩ := List.mem_map.mp he
    split
    · rename_i q
      rw [q]
      exact .inr rfl
    · exact .inl hf
  · rename_i q
    refine ⟨?_, fun e he => ?_⟩
    · rw [List.map_append]
      refine List.nodup_append.mpr ⟨h, by simp, fun a ha b hb e => q ?_⟩
      obtain ⟨f, hf, rfl⟩ := List.mem_map.mp ha
      have hb : b = k := by simpa using hb
      rw [List.any_eq_true]
      exact ⟨f, hf, decide_eq_true (e.trans hb)⟩
    · rcases List.mem_append.mp he with he | he
      · exact .inl he
      · exact .inr (by simpa using he)
theorem put_len (ks : List ((Int × Int) × Int)) (k : Int × Int) (c : Int) : (putI ks k c).length ≤ ks.length + 1 := by
  unfold putI
  split
  · rw [List.length_map]
    omega
  · rw [List.length_append, List.length_singleton]
    omega
/-- d[a, b] = c -/
theorem s_dput {td t1 t2 tv : TE} {d : Addr} {ks : List ((Int × Int) × Int)} {a b c : Int} (hd : H d = some (.dT (ks.map encD))) (ho : Ev td σ H (.ref d)) (hk : EvA (tCons t1 (tCons t2 tNil)) σ H [.int a, .int b]) (hv : Ev tv σ H (.int c)) (hl : ks.length < 100000)
    (k : ∀ H1, Ex H H1 → D.nx σ (upd H1 d (.dT ((putI ks (a, b) c).map encD)))) : sDPut td (tTup (tCons t1 (tCons t2 tNil))) tv D σ H :=
  hv H (Ex.refl H) _ fun H1 e1 => ho H1 e1 _ fun H2 e2 => hk H2 (e1.trans e2) _ fun H3 e3 => ⟨sz_of (show 2 ≤ 100000 by decide), fun q nq => by
    have e4 : Ex H (upd H3 q (.tup [.int a, .int b])) := ((e1.trans e2).trans e3).trans (Ex.new nq)
    have p := DPut.t (k := kP (a, b)) (v := .int c) (e4 _ _ hd) (b := q) upd_same (by rw [List.length_map]; exact sz_lt hl)
    rw [put_enc] at p
    exact ⟨d, _, rfl, p, k _ e4⟩⟩
/-- d[a, b] -/
theorem ev_dget {td t1 t2 : TE} {d : Addr} {ks : List ((Int × Int) × Int)} {a b c : Int} (hd : H d = some (.dT (ks.map encD))) (hn : (ks.map (·.1)).Nodup) (hm : ((a, b), c) ∈ ks) (ho : Ev td σ H (.ref d)) (hk : EvA (tCons t1 (tCons t2 tNil)) σ H [.int a, .int b]) : Ev (tDGet td (tTup (tCons t1 (tCons t2 tNil)))) σ H (.int c) := fun H1 e Q q =>
  ho H1 e _ fun H2 e2 => hk H2 (e.trans e2) _ fun H3 e3 => ⟨sz_of (show 2 ≤ 100000 by decide), fun t nt => by
    have e4 : Ex H (upd H3 t (.tup [.int a, .int b])) := ((e.trans e2).trans e3).trans (Ex.new nt)
    have g := DGet.t (k := kP (a, b)) (e4 _ _ hd) (b := t) upd_same
    rw [val_enc hn hm] at g
    exact ⟨d, .int c, rfl, g, q _ ((e2.trans e3).trans (Ex.new nt))⟩⟩
/-- the rows that sorted(d.keys()) and d[..] make -/
structure SortedRows (ks : List ((Int × Int) × Int)) (rows : List I3) : Prop where
  perm : (rows.map fun r => ((r.1, r.2.1), r.2.2)).Perm ks
  rise : rows.Pairwise fun x y => x.1 < y.1 ∨ x.1 = y.1 ∧ x.2.1 < y.2.1
/-- [(a, b, d[a, b]) for a, b in sorted(d.keys())] -/
theorem et3_keys {td t3 : TE} {ta1 : TE} {ta2 : TE} {d : Addr} {ks : List ((Int × Int) × Int)} {j1 j2 : Nat} (hd : H d = some (.dT (ks.map encD))) (hn : (ks.map (·.1)).Nodup) (hz : ks.length ≤ 40000) (ho : Ev td σ H (.ref d)) (hw : ∀ x y, wipe (((wipe σ vs).set j1 (some x)).set j2 (some y)) vs = wipe σ vs)
    (he : ∀ a b c H1, Ex H H1 → ((a, b), c) ∈ ks → Ev ta1 (((wipe σ vs).set j1 (some (.int a))).set j2 (some (.int b))) H1 (.int a) ∧ Ev ta2 (((wipe σ vs).set j1 (some (.int a))).set j2 (some (.int b))) H1 (.int b) ∧ Ev t3 (((wipe σ vs).set j1 (some (.int a))).set j2 (some (.int b))) H1 (.int c))
    (Q : VK) (q : ∀ rows, SortedRows ks rows → RetT K rows H Q) :
    tLc (iList K (tCB rSortKeys (tCons (tBM0 K "dict" rKeysT td) tNil))) (gTup K 2 (gCons (gName j1) (gCons (gName j2) gNil))) tYes (tTup (tCons ta1 (tCons ta2 (tCons t3 tNil)))) vs σ H Q :=
  ho H (Ex.refl H) _ fun H1 e1 => ⟨.inr (.inr (.inl ⟨rfl, .inr ⟨_, e1 _ _ hd⟩⟩)), d, _, rfl, rfl, e1 _ _ hd, fun p np => by
    have ep : Ex H1 (upd H1 p (keysO p d)) := Ex.new np
    refine ⟨p, d, ks.map fun e => (e.1, V.int e.2), rfl, upd_same, ?_, fun zs l hperm hsort hz1 nl => ?_⟩
    · rw [List.map_map]
      exact ep _ _ (e1 _ _ hd)
    rw [List.map_map] at hperm
    -- the values
    have hex : ∀ z ∈ zs, ∃ c, (z.2, c) ∈ ks := fun z hz => by
      have h1 : z.2 ∈ ks.map (·.1) := hperm.mem_iff.mp (List.mem_map_of_mem (f := (·.2)) hz)
      obtain ⟨e, he, h2⟩ := List.mem_map.mp h1
      exact ⟨e.2, by rw [← h2]; exact he⟩
    let val (k : Int × Int) : Int := ((ks.find? fun e => decide (e.1 = k)).map (·.2)).getD 0
    have hval : ∀ {k c}, (k, c) ∈ ks → val k = c := by
      intro k c hm
      have := val_enc hn hm
      have key : ∀ {ks : List ((Int × Int) × Int)}, (ks.map (·.1)).Nodup → (k, c) ∈ ks → ks.find? (fun e => decide (e.1 = k)) = some (k, c) := by
        intro ks
        induction ks with
        | nil => exact fun _ h => nomatch h
        | cons e ks ih =>
          intro hn hm
          rw [List.map_cons, List.nodup_cons] at hn
          rw [List.find?_cons]
          rcases List.mem_cons.mp hm with rfl | hm
          · rw [decide_eq_true rfl]
          · have ne : e.1 ≠ k := fun z => hn.1 (by rw [z]; exact List.mem_map.mpr ⟨(k, c), hm, rfl⟩)
            rw [decide_eq_false ne]
            exact ih hn.2 hm
      show ((ks.find? fun e => decide (e.1 = k)).map (·.2)).getD 0 = c
      rw [key hn hm]
      rfl
    have hvm : ∀ z ∈ zs, ((z.2.1, z.2.2), val z.2) ∈ ks := fun z hz => by
      obtain ⟨c, hc⟩ := hex z hz
      rw [hval hc]
      exact hc
    have hlen : zs.length = ks.length := by
      have := hperm.length_eq
      rwa [List.length_map, List.length_map] at this
    have e2 : Ex H1 (upd (upd H1 p (keysO p d)) l (.lst (zs.map fun z => V.ref z.1))) := ep.trans (Ex.new nl)
    generalize hH2 : upd (upd H1 p (keysO p d)) l (.lst (zs.map fun z => V.ref z.1)) = H2 at e2
    have hl2 : H2 l = some (.lst (zs.map fun z => V.ref z.1)) := by rw [← hH2, upd_same]
    have hz2 : ∀ z ∈ zs, H2 z.1 = some (.tup [.int z.2.1, .int z.2.2]) := fun z hz => by
      rw [← hH2]
      exact Ex.new nl _ _ (hz1 z hz)
    refine ⟨l, rfl, ⟨_, sq_of hl2⟩, fun Dl hD => ?_⟩
    refine lc_list (xs := zs.map fun z => V.ref z.1) (fun n H' => H2 Dl = none ∧ Ex H2 H' ∧ ∃ xs, H' Dl = some (.lst xs) ∧ Trs K H' xs ((zs.take n).map fun z => (z.2.1, z.2.2, val z.2))) ⟨hD, Ex.new hD, [], upd_same, .nil⟩ (fun n H' _ p => sq_of (p.2.1 _ _ hl2)) (fun n x H' hx p => ?_) (fun H' p => ?_)
    · obtain ⟨p1, p2, xs, p3, p4⟩ := p
      rw [List.getElem?_map] at hx
      obtain ⟨z, hzn, rfl⟩ := Option.map_eq_some_iff.mp hx
      have hm := List.mem_of_getElem? hzn
      have hzt := p2 _ _ (hz2 z hm)
      refine ⟨z.1, _, rfl, SqT.of hzt, rfl, .int z.2.1, [.int z.2.2], rfl, .int z.2.2, [], rfl, rfl, hw _ _, ?_⟩
      refine et_yes (H := H') _ (Ex.refl _) _ fun H3 e3 => ?_
      rw [if_pos rfl]
      have e03 : Ex H H3 := (e1.trans e2).trans (p2.trans e3)
      obtain ⟨g1, g2, g3⟩ := he z.2.1 z.2.2 (val z.2) H3 e03 (hvm z hm)
      refine g1 H3 (Ex.refl _) _ fun H4 e4 => g2 H4 e4 _ fun H5 e5 => g3 H5 (e4.trans e5) _ fun H6 e6 => ⟨sz_of (show 3 ≤ 100000 by decide), fun T nT => ?_⟩
      have e37 : Ex H' (upd H6 T (.tup [.int z.2.1, .int z.2.2, .int (val z.2)])) := (e3.trans (e4.trans (e5.trans e6))).trans (Ex.new nT)
      have hDl := e37 _ _ p3
      refine ⟨_, hDl, ?_, p1, Ex.mut (p2.trans e37) p1, xs ++ [.ref T], upd_same, ?_⟩
      · refine sz_lt ?_
        rw [Paired.length p4, List.length_map, List.length_take]
        omega
      · have et : zs.take (n + 1) = zs.take n ++ [z] := by rw [List.take_add_one, hzn]; rfl
        rw [et, List.map_append]
        exact ((p4.mono e37).upd hDl).snoc (sqt_upd hDl (SqT.of upd_same))
    · obtain ⟨p1, p2, xs, p3, p4⟩ := p
      rw [List.length_map, List.take_length] at p4
      refine q _ ⟨?_, ?_⟩ Dl xs H' (fresh_back (e1.trans e2) p1) ((e1.trans e2).trans p2) p3 p4
      · rw [List.map_map]
        have e3 : zs.map ((fun r : I3 => ((r.1, r.2.1), r.2.2)) ∘ fun z => (z.2.1, z.2.2, val z.2)) = (zs.map (·.2)).map fun k => (k, val k) := by
          rw [List.map_map]
          rfl
        rw [e3]
        have e4 : ks = (ks.map (·.1)).map fun k => (k, val k) := by
          rw [List.map_map]
          conv => lhs; rw [← List.map_id ks]
          refine List.map_congr_left fun e he => ?_
          show e = (e.1, val e.1)
          rw [hval (k := e.1) (c := e.2) he]
        have hp2 : (zs.map (·.2)).Perm (ks.map (·.1)) := hperm
        have := hp2.map fun k => (k, val k)
        rwa [← e4] at this
      · rw [List.pairwise_map]
        have hnd : (zs.map (·.2)).Nodup := by
          have hp2 : (zs.map (·.2)).Perm (ks.map (·.1)) := hperm
          exact hp2.nodup_iff.mpr hn
        have h3 := List.pairwise_map.mp hsort
        have h4 := List.pairwise_map.mp hnd
        refine (List.Pairwise.and h3 h4).imp fun {x y} h => ?_
        have h5 := SrtO.lexB_no.mp h.1
        have h6 : ¬ (x.2.1 = y.2.1 ∧ x.2.2 = y.2.2) := fun z => h.2 (Prod.ext z.1 z.2)
        show x.2.1 < y.2.1 ∨ x.2.1 = y.2.1 ∧ x.2.2 < y.2.2
        omega⟩
end
end Kp
namespace Kp
open PySem PySem.Spec PyProof.Rows L2 Evl
theorem fits_small {x : Int} (h0 : -100000 ≤ x) (h1 : x ≤ 100000) : PySem.Builtin.Range.rangeFitsLong x = true := by
  unfold PySem.Builtin.Range.rangeFitsLong
  simp only [Bool.and_eq_true, decide_eq_true_eq]
  omega
/-- range(j, n, s), n so many times s as p says -/
theorem rgC_up {j n s p : Int} (h0 : 0 ≤ j) (h1 : j < s) (hn : n = s * p) (hp : 1 ≤ p) (hb : n ≤ 50000) : RgC j n s p.toNat := by
  have hs : 1 ≤ s := by omega
  have sp : s ≤ s * p := by
    have := Int.mul_le_mul_of_nonneg_left hp (show 0 ≤ s by omega)
    omega
  have hp2 : p ≤ s * p := by
    have := Int.mul_le_mul_of_nonneg_right hs (show 0 ≤ p by omega)
    omega
  have hz : PySem.Builtin.Range.rangeSize j n s = p := by
    unfold PySem.Builtin.Range.rangeSize
    rw [if_pos (by omega), if_pos (by omega)]
    have e : n - j - 1 = (s - j - 1) + s * (p - 1) := by
      rw [Int.mul_sub, Int.mul_one]
      omega
    rw [e, Int.add_mul_ediv_left _ _ (by omega), Int.ediv_eq_zero_of_lt (by omega) (by omega)]
    omega
  refine ⟨by omega, by omega, ?_, by rw [hz]; omega⟩
  unfold PySem.Builtin.Range.small
  rw [hz, fits_small (by omega) (by omega), fits_small (by omega) (by omega), fits_small (by omega) (by omega), fits_small (by omega) (by omega), if_pos (by omega), fits_small (by omega) (by omega)]
  simp
section
variable {K : PySem.W.Frag} {σ : L2.St} {H H' : Hp} {ta tb te tl to ti : TE} {x y z v : V} {D : Ends} {tu tz : TS} {vs : List Nat}
/-- for x in range(j, n, s) -/
theorem s_forR3 {tr : TA} {i0 : Nat} {j n s : Int} {m : Nat} (h : EvA tr σ H [.int j, .int n, .int s]) (hr : RgC j n s m) (Pv : Nat → L2.St → Hp → Prop) (h0 : ∀ H1, Ex H H1 → Pv 0 σ H1)
    (hs : ∀ i σ' H', i < m → Pv i σ' H' → tu { D with nx := Pv (i + 1), ct := Pv (i + 1), bk := D.nx } (σ'.set i0 (some (.int (j + (i : Nat) * s)))) H') (hd : ∀ σ' H', Pv m σ' H' → D.nx σ' H') : tFor (iRng3 tr) (gName i0) tu D σ H :=
  h H (Ex.refl H) _ fun H1 e => ⟨j, n, s, m, rfl, hr, for_rangeC Pv (h0 H1 e) (fun i σ' H' hi p => hs i σ' H' hi p) hd⟩
/-- over a new list of pairs, a comprehension -/
theorem el_lcPN {te0 : TE} {rows : List (Int × Int)} {i j : Nat} (w : Int × Int → V) (h : EvP K te0 σ H rows) (hz : rows.length ≤ 40000)
    (hw : ∀ x y, wipe (((wipe σ vs).set i (some x)).set j (some y)) vs = wipe σ vs)
    (he : ∀ r H1, Ex H H1 → r ∈ rows → Ev te (((wipe σ vs).set i (some (.int r.1))).set j (some (.int r.2))) H1 (w r)) :
    EvL (tLc (iList K te0) (gTup K 2 (gCons (gName i) (gCons (gName j) gNil))) tYes te vs) σ H (rows.map w) := fun H0 e Q q => h H0 e _ fun a xs H1 na e1 ha pr => ⟨a, rfl, ⟨xs, sq_of ha⟩, fun Dl hD =>
  lc_list (xs := xs) (fun n H' => H1 Dl = none ∧ Ex H1 H' ∧ H' Dl = some (.lst ((rows.take n).map w))) ⟨hD, Ex.new hD, upd_same⟩ (fun n H' _ p => sq_of (p.2.1 _ _ ha)) (fun n x H' hn p => by
    obtain ⟨p1, p2, p3⟩ := p
    obtain ⟨r, u, hr, rfl, hu⟩ := prs_get (pr.mono p2) hn
    have hm : r ∈ rows := List.mem_of_getElem? hr
    refine ⟨u, _, rfl, hu, rfl, .int r.1, [.int r.2], rfl, .int r.2, [], rfl, rfl, hw _ _, ?_⟩
    refine et_yes (H := H') _ (Ex.refl _) _ fun H3 e3 => ?_
    rw [if_pos rfl]
    refine he r H1 (e.trans e1) hm H3 (p2.trans e3) _ fun H4 e4 => ⟨_, e4 Dl _ (e3 Dl _ p3), sz_lt (by rw [List.length_map, List.length_take]; omega), p1, Ex.mut ((p2.trans e3).trans e4) p1, ?_⟩
    rw [upd_same, List.take_add_one, hr, List.map_append]
    rfl) (fun H' p => by
    have q1 := p.2.2
    rw [Paired.length pr, List.take_length] at q1
    exact q Dl H' (fresh_back e1 p.1) (e1.trans p.2.1) q1)⟩
/-- x = {} -/
theorem q_asgD {i : Nat} (k : ∀ d, H d = none → tz D (σ.set i (some (.ref d))) (upd H d (.dT []))) : tSeq (tAsg tDNewT (gName i)) tz D σ H := fun d nd => k d nd
/-! == of lists of triples -/
def d3 (r : I3) : PyData := .tuple [.int r.1, .int r.2.1, .int r.2.2]
def d3L (rows : List I3) : PyData := .list (rows.map d3)
theorem d3_inj (a b : I3) (e : d3 a = d3 b) : a = b := by
  obtain ⟨a1, a2, a3⟩ := a
  obtain ⟨b1, b2, b3⟩ := b
  simp only [d3, PyData.tuple.injEq, List.cons.injEq, PyData.int.injEq, and_true] at e
  rw [e.1, e.2.1, e.2.2]
theorem d3L_sh (rows : List I3) : SeqAt.shaped (d3L rows) = true := shaped_of (lay_map _ (fun _ => rfl) rows) (Nat.le_trans (Nat.succ_le_succ (dep_map d3 1 (fun _ => Nat.le_refl 1) rows)) (by decide))
theorem d3L_eqv (rs qs : List I3) : PyData.eqv (d3L rs) (d3L qs) = decide (rs = qs) := eqv_dec d3L (fun l => by unfold d3L okD; exact okA_map _ (fun _ => rfl) l) (fun a b e => map_inj d3_inj a b (PyData.list.inj e)) rs qs
theorem dpa_trs : ∀ {xs : List V} {rows : List I3}, Trs K H xs rows → DpAll K H xs (rows.map d3)
  | _, _, .nil => .nil
  | _, _, .cons q r => by
    obtain ⟨t, rfl, q2⟩ := q
    exact .cons (.tup q2 (.cons (.int _) (.cons (.int _) (.cons (.int _) .nil)))) (dpa_trs r)
theorem dp_trs {a : Addr} {xs : List V} {rows : List I3} (h : SqL K H a xs) (p : Trs K H xs rows) : Dp K H (.ref a) (d3L rows) := .lst h (dpa_trs p)
theorem rv_ne3 {p q : Addr} {xs ys : List V} {rs qs : List I3} (h1 : SqL K H p xs) (p1 : Trs K H xs rs) (h2 : SqL K H q ys) (p2 : Trs K H ys qs) : RV (rNeD K) (.ref p) (.ref q) H (.bl (!decide (rs = qs))) :=
  rv_neD (fun _ e => dp_trs (ex_l e h1) (p1.mono e)) (fun _ e => dp_trs (ex_l e h2) (p2.mono e)) (d3L_sh _) (d3L_sh _) (by rw [d3L_eqv])
theorem sql_upd {l a : Addr} {xs : List V} {o : HO} (ne : a ≠ l) (h : SqL K H a xs) : SqL K (upd H l o) a xs := by
  rcases h with (h | ⟨o', h⟩) | h
  · exact .inl (.inl (by rw [upd_ne ne]; exact h))
  · exact .inl (.inr ⟨o', by rw [upd_ne ne]; exact h⟩)
  · exact .inr h
/-- a call upon a value and a new list of triples -/
theorem el_calVT {sp : Sp} {t0 te : TE} {v : V} {rows : List I3} {ys : List V} {E : XK} (h0 : Ev t0 σ H v) (h : EvT3 K te σ H rows) (hs : ∀ l xs H1, Ex H H1 → H1 l = some (.lst xs) → Trs K H1 xs rows → ∀ Q : VK, RetL ys H1 Q → ∀ E : XK, sp [v, .ref l] H1 Q E) : EvL (tCall sp [] E (tCons t0 (tCons te tNil))) σ H ys := fun H1 e Q q =>
  h0 H1 e _ fun H2 e2 => h H2 (e.trans e2) _ fun l xs H3 nl e3 hl R => by
    show sp ([v, .ref l] ++ []) H3 Q E
    rw [List.append_nil]
    exact hs l xs H3 ((e.trans e2).trans e3) hl R Q (fun p H4 np e4 h4 => q p H4 (fresh_back (e2.trans e3) np) ((e2.trans e3).trans e4) h4) E
/-- x = f(..), f telling some list of triples of which Pr holds -/
theorem q_asgT3any {sp : Sp} {vs : List V} {E : XK} {tr : TA} {i : Nat} {Pr : List I3 → Prop} (h : EvA tr σ H vs) (hs : ∀ H1, Ex H H1 → ∀ Q : VK, (∀ rows, Pr rows → RetT K rows H1 Q) → ∀ E : XK, sp vs H1 Q E)
    (k : ∀ rows p xs H1, Pr rows → H p = none → Ex H H1 → H1 p = some (.lst xs) → Trs K H1 xs rows → tz D (σ.set i (some (.ref p))) H1) : tSeq (tAsg (tCall sp [] E tr) (gName i)) tz D σ H :=
  h H (Ex.refl H) _ fun H1 e1 => by
    show sp (vs ++ []) H1 _ E
    rw [List.append_nil]
    exact hs H1 e1 _ (fun rows hr p xs H2 np e2 h2 R => k rows p xs H2 hr (fresh_back e1 np) (e1.trans e2) h2 R) E
/-- x = f(..), f telling some list of n ints -/
theorem q_asgAnyL {sp : Sp} {vs : List V} {E : XK} {tr : TA} {i n : Nat} (h : EvA tr σ H vs) (hs : ∀ H1, Ex H H1 → ∀ Q : VK, (∀ f : List Int, f.length = n → RetL (f.map V.int) H1 Q) → ∀ E : XK, sp vs H1 Q E)
    (k : ∀ (f : List Int) (p : Addr) (H1 : Hp), f.length = n → H p = none → Ex H H1 → H1 p = some (.lst (f.map V.int)) → tz D (σ.set i (some (.ref p))) H1) : tSeq (tAsg (tCall sp [] E tr) (gName i)) tz D σ H :=
  h H (Ex.refl H) _ fun H1 e1 => by
    show sp (vs ++ []) H1 _ E
    rw [List.append_nil]
    exact hs H1 e1 _ (fun f hf p H2 np e2 h2 => k f p H2 hf (fresh_back e1 np) (e1.trans e2) h2) E
theorem zip_add : ∀ f g : List Int, List.zipWith (fun x y => V.int (x + y)) f g = (addS f g).map V.int
  | [], _ => rfl
  | _ :: _, [] => rfl
  | x :: f, y :: g => by
    show V.int (x + y) :: List.zipWith _ f g = V.int (x + y) :: (addS f g).map V.int
    rw [zip_add f g]
end
end Kp

/-! Slices with a step, of lists; truths told from one another by is; zip over lists or tuples in a comprehension. -/
namespace Kp
open PySem PySem.Spec PyProof.Rows L2 Evl
/-- the items of xs[::k] -/
def pickV {α : Type} (xs : List α) (k : Int) : List α := (sliceRange (sliceBounds none none (some k) xs.length).1 (sliceBounds none none (some k) xs.length).2.1 (sliceBounds none none (some k) xs.length).2.2).filterMap (xs[·]?)
theorem pickV_map {α β : Type} (f : α → β) (xs : List α) (k : Int) : pickV (xs.map f) k = (pickV xs k).map f := by
  unfold pickV
  rw [List.length_map, List.map_filterMap]
  congr 1
  funext i
  rw [List.getElem?_map]
theorem vals_at : ∀ {xs : List V} {us : List Value}, Vals xs us → ∀ i : Nat, (xs[i]? = none ∧ us[i]? = none) ∨ ∃ x u, xs[i]? = some x ∧ us[i]? = some u ∧ RelV x u
  | _, _, .nil, i => .inl ⟨rfl, rfl⟩
  | _, _, .cons r rr, 0 => .inr ⟨_, _, rfl, rfl, r⟩
  | _, _, .cons r rr, i + 1 => vals_at rr i
theorem vals_pick {xs : List V} {us : List Value} (r : Vals xs us) : ∀ l : List Nat, Vals (l.filterMap (xs[·]?)) (l.filterMap (us[·]?))
  | [] => .nil
  | i :: l => by
    rcases vals_at r i with ⟨h1, h2⟩ | ⟨x, u, h1, h2, h3⟩
    · rw [List.filterMap_cons_none h1, List.filterMap_cons_none h2]
      exact vals_pick r l
    · rw [List.filterMap_cons_some h1, List.filterMap_cons_some h2]
      exact .cons h3 (vals_pick r l)
def tSlS (K : PySem.W.Frag) (te ts : TE) : TE := fun σ H Q => te σ H fun x H1 => ts σ H1 fun o H2 => ∃ (a : Addr) (xs : List V) (k : Int), x = .ref a ∧ o = .int k ∧ SqL K H2 a xs ∧ k ≠ 0 ∧ ∀ p, H2 p = none → Q (.ref p) (upd H2 p (.lst (pickV xs k)))
theorem pe_sliceS {X : Cx} {e es : Expr} {te ts : TE} {p2 pos : Pos} (he : PE X e te) (hs : PE X es ts) : PE X (.Subscript e (.Slice none none (some es) p2) pos) (tSlS X.K te ts) := by
  refine ⟨fun pins s σ H Q I h => ?_⟩
  refine Subscript_ (thn (he.run pins s σ H _ I h) fun v s1 ⟨x, H1, I1, r1, q1⟩ => ?_)
  refine wpAny_Slice ?_
  rw [evalPart_none]
  refine wpAny_pure ?_
  refine wpAny_pure ?_
  rw [evalPart_some]
  refine thn (hs.run pins s1 σ H1 _ I1 q1) fun u s2 ⟨o, H2, I2, r2, q2⟩ => ?_
  obtain ⟨a, xs, k, rfl, rfl, hx, k0, q⟩ := q2
  obtain ⟨t, rfl⟩ := r2
  have I4 : Inv X pins σ H2 { s2 with heap := s2.heap.push { cls := .type "slice", data := .fields #[.none, .none, .int k t] } } := I2.kept (t' := s2.toks) fun b ob q => Heap.get?_push_of_some _ q
  cases r1
  obtain ⟨its, r, ht, hz⟩ := I4.list hx
  have hlen := r.length
  show wpAny (model X.prog X.w) X.A (subscriptTail e (.Slice none none (some es) p2) (.ref a) (.ref s2.heap.objs.size)) (EP X pins σ Q) X.xe { s2 with heap := s2.heap.push { cls := .type "slice", data := .fields #[.none, .none, .int k t] } }
  refine tail_any (ops := [.ref a, .ref s2.heap.objs.size]) ht.isList.typeIs slot_list_getitem.lookup ?_ (by with_unfolding_all rfl)
  refine wpAny_getItem_list_slice ht.isList (Heap.IsSliceOf.new ..) .none .none (.int k t) (by simpa using k0) ?_ (by rw [List.size_toArray] <;> omega)
  have I5 := I4
  generalize hS : ({ s2 with heap := s2.heap.push { cls := .type "slice", data := .fields #[.none, .none, .int k t] } } : Shared) = s4 at *
  refine ⟨.ref s4.heap.objs.size, _, I5.laid (t' := s4.toks) (o := .lst (pickV xs k)) (fun b ob q => Heap.get?_push_of_some _ q) (Nat.le_refl _) ?_, rfl, q _ (I5.hok.fresh (Nat.le_refl _))⟩
  have hp : slicePick its.toArray none none (some k) = (pickV its k).toArray := by
    unfold slicePick pickV
    rw [List.size_toArray]
    exact congrArg List.toArray (congrArg (fun f : Nat → Option Value => List.filterMap f _) (funext fun i => by simp))
  have hv : Vals (pickV xs k) (pickV its k) := by
    unfold pickV
    rw [hlen]
    exact vals_pick r _
  have hl : (pickV xs k).length ≤ xs.length := by
    have := slicePick_size_le its.toArray none none (some k)
    rw [hp, List.size_toArray, List.size_toArray] at this
    have := hv.length
    omega
  rw [hp]
  exact ⟨Nat.le_trans hl hz, _, 0, hv, Heap.get?_push_size _ rfl⟩
section
variable {K : PySem.W.Frag} {σ : L2.St} {H : Hp} {te ts : TE}
theorem el_slS {a : Addr} {xs : List V} {k : Int} (h : Ev te σ H (.ref a)) (hs : Ev ts σ H (.int k)) (hx : SqL K H a xs) (k0 : k ≠ 0) : EvL (tSlS K te ts) σ H (pickV xs k) := fun H1 e Q q =>
  h H1 e _ fun H2 e2 => hs H2 (e.trans e2) _ fun H3 e3 => ⟨a, xs, k, rfl, rfl, ex_l ((e.trans e2).trans e3) hx, k0, fun p np => q p _ (fresh_back (e2.trans e3) np) ((e2.trans e3).trans (Ex.new np)) upd_same⟩
end
end Kp

/-! Things of any kind, told from one another part by part. -/
namespace Kp
open PySem PySem.Spec PyProof.Rows L2 Evl RZ
/- a thing made of lists, tuples and flat values that all stand as they were made -/
mutual
inductive Dq (H : Hp) : V → PyData → Prop
  | non : Dq H .non .none
  | bl (b : Bool) : Dq H (.bl b) (.bool b)
  | int (i : Int) : Dq H (.int i) (.int i)
  | str (x : Str) : Dq H (.str x) (.str x)
  | lst {a : Addr} {xs : List V} {ds : List PyData} : H a = some (.lst xs) → DqAll H xs ds → Dq H (.ref a) (.list ds)
  | tup {a : Addr} {xs : List V} {ds : List PyData} : H a = some (.tup xs) → DqAll H xs ds → Dq H (.ref a) (.tuple ds)
inductive DqAll (H : Hp) : List V → List PyData → Prop
  | nil : DqAll H [] []
  | cons {v : V} {vs : List V} {d : PyData} {ds : List PyData} : Dq H v d → DqAll H vs ds → DqAll H (v :: vs) (d :: ds)
end
mutual
theorem Dq.mono {H H' : Hp} (e : Ex H H') : ∀ {v : V} {d : PyData}, Dq H v d → Dq H' v d
  | _, _, .non => .non
  | _, _, .bl b => .bl b
  | _, _, .int i => .int i
  | _, _, .str x => .str x
  | _, _, .lst h hs => .lst (e _ _ h) (DqAll.mono e hs)
  | _, _, .tup h hs => .tup (e _ _ h) (DqAll.mono e hs)
theorem DqAll.mono {H H' : Hp} (e : Ex H H') : ∀ {vs : List V} {ds : List PyData}, DqAll H vs ds → DqAll H' vs ds
  | _, _, .nil => .nil
  | _, _, .cons h hs => .cons (h.mono e) (hs.mono e)
end
theorem DqAll.len {H : Hp} : ∀ {vs : List V} {ds : List PyData}, DqAll H vs ds → vs.length = ds.length
  | _, _, .nil => rfl
  | _, _, .cons _ hs => congrArg Nat.succ hs.len
theorem DqAll.at {H : Hp} : ∀ {vs : List V} {ds : List PyData} {i : Nat} {v : V}, DqAll H vs ds → vs[i]? = some v → ∃ d, ds[i]? = some d ∧ Dq H v d
  | _, _, 0, _, .cons h _, e => ⟨_, rfl, by cases e; exact h⟩
  | _, _, i + 1, _, .cons _ hs, e => hs.at (i := i) e
theorem dqa_ints (H : Hp) : ∀ ns : List Int, DqAll H (ns.map V.int) (ns.map PyData.int)
  | [] => .nil
  | n :: ns => .cons (.int n) (dqa_ints H ns)
theorem dq_ints {H : Hp} {a : Addr} {ns : List Int} (h : H a = some (.lst (ns.map V.int))) : Dq H (.ref a) (dI ns) := .lst h (dqa_ints H ns)
/- alike, by their data -/
mutual
def alkF : PyData → PyData → Bool
  | .list xs, .list ys => alkA xs ys
  | .tuple xs, .tuple ys => alkA xs ys
  | .int i, .int j => decide (i = j)
  | _, _ => false
def alkA : List PyData → List PyData → Bool
  | [], [] => true
  | x :: xs, y :: ys => alkF x y && alkA xs ys
  | _, _ => false
end
/- what is told: lists, tuples and whole numbers, so deep -/
mutual
def toldD : Nat → PyData → Bool
  | _, .int _ => true
  | k + 1, .list ds => toldA k ds && decide (ds.length ≤ 40000)
  | k + 1, .tuple ds => toldA k ds && decide (ds.length ≤ 40000)
  | _, _ => false
def toldA : Nat → List PyData → Bool
  | _, [] => true
  | k, d :: ds => toldD k d && toldA k ds
end
mutual
theorem alk_refl : ∀ (k : Nat) (d : PyData), toldD k d = true → alkF d d = true
  | _, .int i, _ => decide_eq_true rfl
  | k + 1, .list ds, h => by
    unfold toldD at h
    rw [Bool.and_eq_true] at h
    unfold alkF
    exact alka_refl k ds h.1
  | k + 1, .tuple ds, h => by
    unfold toldD at h
    rw [Bool.and_eq_true] at h
    unfold alkF
    exact alka_refl k ds h.1
  | 0, .list ds, h => by unfold toldD at h; exact nomatch h
  | 0, .tuple ds, h => by unfold toldD at h; exact nomatch h
  | k, .none, h => by unfold toldD at h; exact nomatch h
  | k, .bool b, h => by unfold toldD at h; exact nomatch h
  | k, .str s, h => by unfold toldD at h; exact nomatch h
theorem alka_refl : ∀ (k : Nat) (ds : List PyData), toldA k ds = true → alkA ds ds = true
  | _, [], _ => rfl
  | k, d :: ds, h => by
    unfold toldA at h
    rw [Bool.and_eq_true] at h
    unfold alkA
    rw [Bool.and_eq_true]
    exact ⟨alk_refl k d h.1, alka_refl k ds h.2⟩
end
theorem walk_zipT {K : PySem.W.Frag} {a b : Addr} {xs ys : List V} {n : Nat} (hn : n = min xs.length ys.length) : Walk (ItzT K a b) n (fun H => SqT K H a xs ∧ SqT K H b ys) (YPair (fun i => xs[i]?) (fun i => ys[i]?)) := by
  subst hn
  refine ⟨fun i _ hi q => ?_, fun _ q => ⟨xs, ys, q.1, q.2, by omega⟩, fun i H v H' _ q y => ?_⟩
  · have h1 : i < xs.length := by omega
    have h2 : i < ys.length := by omega
    exact ⟨xs, ys, xs[i], ys[i], q.1, q.2, by simp [h1], by simp [h2]⟩
  · obtain ⟨T, x, z, h1, h2, h3, h4, h5⟩ := y
    exact ⟨T, x, z, h1, h2, h3, h4 xs q.1, h5 ys q.2⟩
section
variable {K : PySem.W.Frag} {σ : L2.St} {H : Hp} {te : TE} {vs : List Nat}
/-- [e for x, y in zip(a, b)], two lists or two tuples -/
theorem el_lcZA {tg : TA} {a b : Addr} {xs ys : List V} {i j : Nat} (w : Nat → V) (h : EvA tg σ H [.ref a, .ref b]) (hab : (H a = some (.lst xs) ∧ H b = some (.lst ys)) ∨ (H a = some (.tup xs) ∧ H b = some (.tup ys))) (hl : xs.length = ys.length) (hz : xs.length ≤ 40000)
    (hw : ∀ x y, wipe (((wipe σ vs).set i (some x)).set j (some y)) vs = wipe σ vs)
    (he : ∀ n x y H1, Ex H H1 → xs[n]? = some x → ys[n]? = some y → Ev te (((wipe σ vs).set i (some x)).set j (some y)) H1 (w n)) :
    EvL (tLc (iZipA K tg) (gTup K 2 (gCons (gName i) (gCons (gName j) gNil))) tYes te vs) σ H ((List.range xs.length).map w) := fun H0 e Q q => h H0 e _ fun H1 e1 => by
  have go : ∀ {I : It} {S : Hp → Prop}, Walk I xs.length S (YPair (fun i => xs[i]?) (fun i => ys[i]?)) → (∀ H', Ex H1 H' → S H') → ∀ Dl, H1 Dl = none → ∃ W : Nat → Nat → Hp → Prop, (∃ m, W 0 m (upd H1 Dl (.lst []))) ∧ ∀ n m H', W n m H' →
      (I.stop n H' ∧ Q (.ref Dl) H') ∨ (I.go n H' ∧ ∃ N : Hp → Prop, (∀ H'', N H'' → ∃ m', m' < m ∧ W (n + 1) m' H'') ∧ ∀ v H'', I.yld n H' v H'' → (gTup K 2 (gCons (gName i) (gCons (gName j) gNil))) v (wipe σ vs) H'' fun σ' H3 => wipe σ' vs = wipe σ vs ∧ tYes σ' H3 fun b H4 => if b = true then te σ' H4 fun v' H5 => ∃ acc, H5 Dl = some (.lst acc) ∧ acc.length < sizeLine ∧ N (upd H5 Dl (.lst (acc ++ [v']))) else N H4) := fun {I S} wk hS Dl hD =>
    lc_it (n := xs.length) wk (fun n H' => H1 Dl = none ∧ Ex H1 H' ∧ H' Dl = some (.lst ((List.range n).map w))) ⟨hD, Ex.new hD, upd_same⟩ (fun n H' _ p => hS H' p.2.1) (fun n v H' H'' hn p y => by
      obtain ⟨p1, p2, p3⟩ := p
      obtain ⟨T, x, y, rfl, hT, rfl, hx, hy⟩ := y
      have e2 : Ex H' (upd H' T (.tup [x, y])) := Ex.new hT
      refine ⟨T, _, rfl, .inl (.inl upd_same), rfl, x, [y], rfl, y, [], rfl, rfl, hw _ _, ?_⟩
      refine et_yes (H := H') _ e2 _ fun H3 e3 => ?_
      show te _ H3 _
      refine he n x y H1 (e.trans e1) hx hy H3 (p2.trans (e2.trans e3)) _ fun H4 e4 => ⟨_, e4 Dl _ (e3 Dl _ (e2 Dl _ p3)), ?_, p1, Ex.mut (((p2.trans e2).trans e3).trans e4) p1, ?_⟩
      · refine sz_lt ?_
        rw [List.length_map, List.length_range]
        omega
      · rw [upd_same, List.range_succ, List.map_append]
        rfl) (fun H' p => q Dl H' (fresh_back e1 p.1) (e1.trans p.2.1) p.2.2)
  rcases hab with ⟨ha, hb⟩ | ⟨ha, hb⟩
  · exact ⟨a, b, xs, ys, rfl, .inl ⟨SqL.of ((e.trans e1) _ _ ha), SqL.of ((e.trans e1) _ _ hb), fun Dl hD => go (walk_zip (K := K) (a := a) (b := b) (xs := xs) (ys := ys) (by omega)) (fun H' e' => ⟨SqL.of (((e.trans e1).trans e') _ _ ha), SqL.of (((e.trans e1).trans e') _ _ hb)⟩) Dl hD⟩⟩
  · exact ⟨a, b, xs, ys, rfl, .inr ⟨SqT.of ((e.trans e1) _ _ ha), SqT.of ((e.trans e1) _ _ hb), fun Dl hD => go (walk_zipT (K := K) (a := a) (b := b) (xs := xs) (ys := ys) (by omega)) (fun H' e' => ⟨SqT.of (((e.trans e1).trans e') _ _ ha), SqT.of (((e.trans e1).trans e') _ _ hb)⟩) Dl hD⟩⟩
/-- len, of a list or a tuple -/
theorem ev_lenA {te : TE} {a : Addr} {xs : List V} (ha : Ev te σ H (.ref a)) (h : H a = some (.lst xs) ∨ H a = some (.tup xs)) : Ev (tCB (rLenS K) (tCons te tNil)) σ H (.int (xs.length : Int)) := fun H1 e Q q =>
  ha H1 e _ fun H2 e2 => ⟨a, xs, rfl, by
    rcases h with h | h
    · exact Or.inl (SqL.of ((e.trans e2) _ _ h))
    · exact Or.inr (SqT.of ((e.trans e2) _ _ h)), q H2 e2⟩
/-- the kind of a thing -/
def kindS : PyData → String
  | .none => "NoneType"
  | .bool _ => "bool"
  | .int _ => "int"
  | .str _ => "str"
  | .list _ => "list"
  | .tuple _ => "tuple"
  | .dict _ => "dict"
theorem dq_ty {x : V} {d : PyData} (h : Dq H x d) : ∀ H1, Ex H H1 → TyX K H1 x (.type (kindS d)) := fun H1 e => by
  cases h with
  | non => exact .base .non
  | bl b => exact .base (.bl b)
  | int i => exact .base (.int i)
  | str y => exact .base (.str y)
  | lst h _ => exact .base (.lst (e _ _ h))
  | tup h _ => exact .base (.tup (e _ _ h))
def isK (n : String) (d : PyData) : Bool := (kitB (kindS d) n).getD false
theorem kit_some (d : PyData) (n : String) (hn : n = "list" ∨ n = "tuple" ∨ n = "int" ∨ n = "bool") : kitB (kindS d) n = some (isK n d) := by
  rcases hn with rfl | rfl | rfl | rfl <;> cases d <;> (simp only [isK, kindS]; decide +kernel)
theorem ev_isD {ta : TE} {x : V} {d : PyData} {n : String} (ha : Ev ta σ H x) (h : Dq H x d) (hn : n = "list" ∨ n = "tuple" ∨ n = "int" ∨ n = "bool") : Ev (tCB (rIsi K) (tCons ta (tCons (tC (.ty n)) tNil))) σ H (.bl (isK n d)) :=
  ev_isi (b := isK n d) ha (dq_ty h) (kit_some d n hn)
end
end Kp

namespace Kp
open PySem PySem.Spec PyProof.Rows L2 Evl
/-! ### lists of new lists of numbers, without doubles -/
def RetNL (xss : List (List V)) (H : Hp) (Q : VK) : Prop := ∀ L ps H1, H L = none → Ex H H1 → H1 L = some (.lst (ps.map V.ref)) → NewL H H1 ps xss → L ∉ ps → Q (.ref L) H1
def insR (rs : List (List Int)) (x : List Int) : List (List Int) := if x ∈ rs then rs else rs ++ [x]
def ddp (l : List (List Int)) : List (List Int) := l.foldl insR []
theorem ddp_snoc (l : List (List Int)) (x : List Int) : ddp (l ++ [x]) = insR (ddp l) x := by
  unfold ddp
  rw [List.foldl_append]
  rfl
theorem ddp_len : ∀ l : List (List Int), (ddp l.reverse).length ≤ l.length
  | [] => Nat.le_refl 0
  | x :: l => by
    rw [List.reverse_cons, ddp_snoc]
    have := ddp_len l
    unfold insR
    split
    · exact Nat.le_succ_of_le this
    · rw [List.length_append]
      exact Nat.succ_le_succ this
theorem ddp_le (l : List (List Int)) : (ddp l).length ≤ l.length := by
  have := ddp_len l.reverse
  rw [List.reverse_reverse, List.length_reverse] at this
  exact this
theorem any_dI (rs : List (List Int)) (x : List Int) : (rs.map dI).any (fun z => PyData.eqv z (dI x)) = decide (x ∈ rs) := by
  induction rs with
  | nil => rfl
  | cons r rs ih =>
    rw [List.map_cons, List.any_cons, ih, dI_eqv]
    refine Bool.eq_iff_iff.mpr ?_
    rw [Bool.or_eq_true, decide_eq_true_iff, decide_eq_true_iff, decide_eq_true_iff, List.mem_cons]
    exact or_congr ⟨Eq.symm, Eq.symm⟩ Iff.rfl
section
variable {K : PySem.W.Frag} {H H' : Hp}
theorem rv_notLL {p L : Addr} {x : List Int} {ps : List Addr} {rs : List (List Int)} (h : SqL K H p (x.map V.int)) (hL : SqL K H L (ps.map V.ref)) (R : Paired (fun p ns => SqL K H p (ns.map V.int)) ps rs) : RV (rNotInD K) (.ref p) (.ref L) H (.bl (!decide (x ∈ rs))) := fun H1 e Q q =>
  ⟨dI x, rs.map dI, dp_ints (ex_l e h), dp_lists (ex_l e hL) (Paired.mapP R fun _ _ z => ex_l e z), dI_sh x, dLL_sh rs, by rw [any_dI]; exact q H1 (Ex.refl H1)⟩
theorem paired_upd {q : Addr} {o : HO} : ∀ {ps : List Addr} {xss : List (List V)}, Paired (fun p xs => H p = none ∧ H' p = some (.lst xs)) ps xss → q ∉ ps → Paired (fun p xs => H p = none ∧ upd H' q o p = some (.lst xs)) ps xss
  | _, _, .nil, _ => .nil
  | _, _, .cons a r, h => .cons ⟨a.1, by rw [upd_ne (fun e => h (by rw [← e]; exact List.mem_cons_self))]; exact a.2⟩ (paired_upd r fun m => h (List.mem_cons_of_mem _ m))
theorem NewL.upd {q : Addr} {o : HO} {ps : List Addr} {xss : List (List V)} (N : NewL H H' ps xss) (h : q ∉ ps) : NewL H (upd H' q o) ps xss := ⟨paired_upd N.1 h, N.2⟩
theorem NewL.one {p : Addr} {xs : List V} (n : H p = none) (h : H' p = some (.lst xs)) : NewL H H' [p] [xs] := ⟨.cons ⟨n, h⟩ .nil, List.nodup_cons.mpr ⟨List.not_mem_nil, List.nodup_nil⟩⟩
end
/-- walked either way: what is read tells which -/
theorem pi_or {X : Cx} {tg it : Expr} {w1 w2 : TI} (h1 : PI X tg it w1) (h2 : PI X tg it w2) : PI X tg it (fun σ H R => w1 σ H R ∨ w2 σ H R) := ⟨fun pins s σ H R I h => h.elim (h1.run pins s σ H R I) (h2.run pins s σ H R I)⟩
theorem pe_or2 {X : Cx} {e : Expr} {t1 t2 : TE} (h1 : PE X e t1) (h2 : PE X e t2) : PE X e (fun σ H Q => t1 σ H Q ∨ t2 σ H Q) := ⟨fun pins s σ H Q I h => h.elim (h1.run pins s σ H Q I) (h2.run pins s σ H Q I)⟩
section
variable {σ : L2.St} {H : Hp} {w1 w2 : TI} {g : TG} {t : TT} {te : TE} {vs : List Nat} {xs : List V}
theorem el_or1 (h : EvL (tLc w1 g t te vs) σ H xs) : EvL (tLc (fun σ H R => w1 σ H R ∨ w2 σ H R) g t te vs) σ H xs := fun H1 e Q q => .inl (h H1 e Q q)
theorem el_or2 (h : EvL (tLc w2 g t te vs) σ H xs) : EvL (tLc (fun σ H R => w1 σ H R ∨ w2 σ H R) g t te vs) σ H xs := fun H1 e Q q => .inr (h H1 e Q q)
end
theorem room65 {k : Nat} {A : Around} (r : Room k A) : A.units + 65 < cLine := by
  have := r.un
  omega
end Kp

/-! str() of things of any kind: calls where it is known that nothing is being shown. -/
namespace Kp
open PySem PySem.Spec PyProof.Rows L2 Evl RZ

/-! ### defs that are called where nothing is being shown -/
structure FnG (P : Program) (w : World) (K : PySem.W.Frag) (mg : Str → Option Value) (base : Heap) (k : Nat) (f : Addr) (fd : FuncData) (ps : List Str) (sp : Sp) : Prop where
  wid : ∀ xs h q e, sp xs h q e → xs.length = ps.length
  go : ∀ (B : Around) (fr : List Env) (st : Shared) (h : Hp) (as : Args) (zs : List Value) (xs : List V) (q : VK) (e : XK), B.guards = some [] → Room k B → Env0 P w K mg base B fr st h → BindsTo st fd as (ps.zip zs) → Vals xs zs → sp xs h q e → codeAny (model P w) B (.call (.ref f) as) (CR CX0 fr P w h st q e) st
section
variable {P : Program} {w : World} {K : PySem.W.Frag} {mg : Str → Option Value} {base : Heap} {k : Nat} {x : Str} {N ps : List Str} {sp : Sp} {st : Stmt}
theorem Fun.okG {qual : Str} {f : Addr} {fd : FuncData} (F : Fun K x qual st f fd) (S : FnScope N ps (defScope st)) (wid : ∀ xs h q e, sp xs h q e → xs.length = ps.length)
    (body : ∀ (cdv : Value) (B : Around) (fr : List Env) (s : Shared) (h : Hp) (xs : List V) (q : VK) (e : XK), Room k (B.deeper (envOfC qual (defScope st) s.heap.objs.size f cdv)) → B.guards = some [] → sp xs h q e →
      ∃ t, PSs (cxOf CX0 P w K mg base N qual (defScope st) f cdv B fr s h e).nox (defBody st) t ∧ t { nx := fun _ h' => q .non h', rt := q } (start N xs) h) : FnG P w K mg base (k + 1) f fd ps sp := by
  obtain ⟨oc, od, kV, doc, pm, an, cdv, ct, osl, rfl, lk, hcd⟩ := F.ex
  refine ⟨wid, fun B fr s h as zs xs q e g room e0 hb rel hsp => ?_⟩
  have wl : xs.length = ps.length := wid _ _ _ _ hsp
  have old : ∀ b o, base.get? b = some o → s.heap.get? b = some o := fun b o z => (e0.bs b o z).1
  have KS : K.In s.heap := e0.mod.kin.keeps old
  have kinds : ∀ y ∈ ps.zip zs, (defScope st).names.lookup y.1 = some .local ∨ ((defScope st).names.lookup y.1 = some .cell ∧ ((cellsFrom (s.heap.objs.size + 1) (defScope st).names []).lookup y.1).isSome = true) := by
    rintro ⟨y, v⟩ hy
    exact (S.par y (List.of_mem_zip hy).1).imp id fun z => ⟨z, PySem.W.cellsFrom_some _ _ _ (.inl z)⟩
  obtain ⟨t, ht, hq⟩ := body cdv B fr s h xs q e (room.deeper _) g hsp
  refine codeAny_call_function room.depth (KS _ _ lk) rfl S.co S.gen rfl (PySem.W.codeRec_of KS hcd) (hb _ _ _ _ (wpAny_newFunctionEnv_cells S.kind kinds ?_))
  intro env he s1 inc
  subst he
  refine ⟨(e0.mod.nolimit.keeps old).keeps inc.toInCall.keep, codeAny_func (wpAny_mono (ht.nox.run [] s1 (start N xs) h _ (inv_start S room.hd e0 wl rel inc) hq) (fun fl s' z => ?_) fun _ _ z => z)⟩
  have ends : ∀ {σ' : L2.St} {h' : Hp} {v : V} {u : Value}, Inv (cxOf CX0 P w K mg base N qual (defScope st) f cdv B fr s h e) [] σ' h' s' → RelV v u → q v h' → CE fr P w h s q u s' := by
    intro σ' h' v u J rv z
    exact ⟨v, h', J.os, J.bare, J.base, J.hok, rv, z⟩
  match fl, z with
  | .ret u, z =>
    obtain ⟨v, σ', h', J, rv, z⟩ := z
    exact ends J rv z
  | .next, z =>
    obtain ⟨σ', h', J, z⟩ := z
    exact ends (v := V.non) (u := Value.none) J rfl z
  | .brk, z =>
    obtain ⟨_, _, _, z⟩ := z
    exact z.elim
  | .cont, z =>
    obtain ⟨_, _, _, z⟩ := z
    exact z.elim
/-- by the name x the module holds a def that keeps the promise where nothing is being shown -/
def CalG (P : Program) (w : World) (K : PySem.W.Frag) (mg : Str → Option Value) (base : Heap) (x : Str) (k : Nat) (ps : List Str) (sp : Sp) : Prop :=
  ∃ (f : Addr) (fd : FuncData), FnG P w K mg base k f fd ps sp ∧ mg x = some (.ref f) ∧ PySem.W.keepIn K (.ref f) = true ∧ Binds K fd ps []
theorem Dfn.calG (d : Dfn K mg x ps st) (S : FnScope N ps (defScope st)) (wid : ∀ xs h q e, sp xs h q e → xs.length = ps.length)
    (body : ∀ (f : Addr) (cdv : Value) (B : Around) (fr : List Env) (s : Shared) (h : Hp) (xs : List V) (q : VK) (e : XK), Room k (B.deeper (envOfC x (defScope st) s.heap.objs.size f cdv)) → B.guards = some [] → sp xs h q e →
      ∃ t, PSs (cxOf CX0 P w K mg base N x (defScope st) f cdv B fr s h e).nox (defBody st) t ∧ t { nx := fun _ h' => q .non h', rt := q } (start N xs) h) : CalG P w K mg base x (k + 1) ps sp := by
  obtain ⟨f, fd, F, g, b⟩ := d
  exact ⟨f, fd, Fun.okG F S wid (body f), g, F.kp, b⟩
end
section
variable {X : Cx} {k : Nat} {ps : List Str} {sp : Sp} {E : XK} {x : Str} {p pos : Pos} {e : Expr} {es : List Expr} {t : TA}
theorem pe_calG (c : CalG X.prog X.w X.K X.mg X.base x k ps sp) (hr : Room k X.A) (g : X.A.guards = some []) (hg : Gl X x) (hx : Passes CX0 X E)
    (ha : PA X (e :: es) t) (hdb : (x == ("__debug__" : Str)) = false := by decide) (he : starEach (e :: es) X.env = (false, eval e X.env) :: starEach es X.env := by rfl) (hpl : (backTo pos (starEach es X.env)).any (·.1) = false := by rfl) :
    PE X (.Call (.Name x p) (e :: es) [] pos) (tCall sp [] E t) := by
  obtain ⟨f, fd, F, hm, kp, b⟩ := c
  refine ⟨fun pins s σ H Q I h => wpAny_Call_Name_kw (ld_glob I hg hm ?_ hdb)⟩
  refine PySem.W.callWith_K (h₀ := X.base) I.ok.mod.kin kp (thn (ha.run pos pins s σ H _ I h) fun us s1 hv => ?_) he hpl
  obtain ⟨vs, H1, J, r, q⟩ := hv
  have q : sp (vs ++ []) H1 Q E := q
  rw [List.append_nil] at q
  have hl : us.length = ps.length := r.length.symm.trans (F.wid _ _ _ _ q)
  have hb := b s1 us J.kIn (by rw [List.append_nil]; exact hl)
  rw [List.append_nil] at hb
  refine ⟨J.kIn, wpAny_call (codeAny_mono (F.go X.A X.stack s1 H1 ⟨us, []⟩ us vs Q E g hr J.env0 hb r q) fun rs s2 z => ?_)⟩
  match rs, z with
  | .error er, z => exact hx pins σ H1 s1 er s2 J z
  | .ok (.ret u), z => exact J.after z
  | .ok .next, z => exact z.elim
  | .ok .brk, z => exact z.elim
  | .ok .cont, z => exact z.elim
end

/-! ### str of a thing -/
section
variable {X : Cx} {pins : List (Addr × Obj)} {σ : L2.St} {H : Hp} {s : Shared}
mutual
theorem dq_reads (I : Inv X pins σ H s) : ∀ {v : V} {d : PyData} {u : Value}, Dq H v d → RelV v u → ∃ as, Reads s.heap u d as
  | _, _, _, .non, r => by
    cases r
    exact ⟨_, .none⟩
  | _, _, _, .bl b, r => by
    cases r
    exact ⟨_, .bool b⟩
  | _, _, _, .int i, r => by
    obtain ⟨t, rfl⟩ := r
    exact ⟨_, .int i t⟩
  | _, _, _, .str y, r => by
    obtain ⟨t, rfl⟩ := r
    exact ⟨_, .str y t⟩
  | _, _, _, .lst h hs, r => by
    cases r
    obtain ⟨its, rv, ⟨o, n, g, hc, _, hd⟩, _⟩ := I.list (SqL.of h)
    obtain ⟨as, R⟩ := dqa_reads I hs rv
    exact ⟨_, .list g hc hd (by rw [List.toList_toArray]; exact R)⟩
  | _, _, _, .tup h hs, r => by
    cases r
    obtain ⟨its, rv, ⟨o, g, hc, n, hd⟩, _⟩ := I.tuple (SqT.of h)
    obtain ⟨as, R⟩ := dqa_reads I hs rv
    exact ⟨_, .tuple g hc hd (by rw [List.toList_toArray]; exact R)⟩
theorem dqa_reads (I : Inv X pins σ H s) : ∀ {vs : List V} {ds : List PyData} {us : List Value}, DqAll H vs ds → Vals vs us → ∃ as, ReadsAll s.heap us ds as
  | _, _, _, .nil, r => by
    cases r
    exact ⟨_, .nil⟩
  | _, _, _, .cons h hs, r => by
    cases r with
    | cons r1 r2 =>
      obtain ⟨as, R⟩ := dq_reads I h r1
      obtain ⟨bs, R2⟩ := dqa_reads I hs r2
      exact ⟨_, .cons R R2⟩
end
end
mutual
/-- a thing without dicts -/
def noD : PyData → Bool
  | .list ds => noDA ds
  | .tuple ds => noDA ds
  | .dict _ => false
  | _ => true
def noDA : List PyData → Bool
  | [] => true
  | d :: ds => noD d && noDA ds
end
mutual
theorem dq_noD {H : Hp} : ∀ {v : V} {d : PyData}, Dq H v d → d.hasDict = false
  | _, _, .non => by simp only [PyData.hasDict]
  | _, _, .bl b => by simp only [PyData.hasDict]
  | _, _, .int i => by simp only [PyData.hasDict]
  | _, _, .str y => by simp only [PyData.hasDict]
  | _, _, .lst h hs => by
    simp only [PyData.hasDict]
    exact dqa_noD hs
  | _, _, .tup h hs => by
    simp only [PyData.hasDict]
    exact dqa_noD hs
theorem dqa_noD {H : Hp} : ∀ {vs : List V} {ds : List PyData}, DqAll H vs ds → PyData.hasDictAll ds = false
  | _, _, .nil => by simp only [PyData.hasDictAll]
  | _, _, .cons h hs => by
    simp only [PyData.hasDictAll]
    rw [dq_noD h, dqa_noD hs]
    rfl
end
mutual
/-- a bound of how long its text is -/
def shB : PyData → Nat
  | .none => 4
  | .bool _ => 5
  | .int _ => 1921
  | .str x => 10 * x.length + 2
  | .list ds => shBA ds + 3
  | .tuple ds => shBA ds + 3
  | .dict _ => 0
def shBA : List PyData → Nat
  | [] => 0
  | d :: ds => shB d + 2 + shBA ds
end
mutual
/-- a thing that may be shown: numbers of at most some hundred figures, plain signs -/
def shO : PyData → Bool
  | .int i => decide (i.natAbs.log2 < 1920)
  | .str x => x.cps.toList.all fun c => decide (c < 16 ^ 8)
  | .list ds => shOA ds
  | .tuple ds => shOA ds
  | .dict _ => false
  | _ => true
def shOA : List PyData → Bool
  | [] => true
  | d :: ds => shO d && shOA ds
end
mutual
theorem shO_able : ∀ d : PyData, shO d = true → d.showable = true
  | .none, _ => by simp only [PyData.showable]
  | .bool _, _ => by simp only [PyData.showable]
  | .int i, h => by
    simp only [PyData.showable]
    simpa only [shO] using h
  | .str _, _ => by simp only [PyData.showable]
  | .list ds, h => by
    simp only [PyData.showable]
    exact shOA_able ds (by simpa only [shO] using h)
  | .tuple ds, h => by
    simp only [PyData.showable]
    exact shOA_able ds (by simpa only [shO] using h)
  | .dict _, h => by simp only [shO] at h; exact nomatch h
theorem shOA_able : ∀ ds : List PyData, shOA ds = true → PyData.showableAll ds = true
  | [], _ => by simp only [PyData.showableAll]
  | d :: ds, h => by
    simp only [shOA, Bool.and_eq_true] at h
    simp only [PyData.showableAll]
    rw [shO_able d h.1, shOA_able ds h.2]
    rfl
end
theorem sum_two : ∀ ts : List Str, (ts.map fun t => t.length).sum + 2 * ts.length = (ts.map fun t => t.length + 2).sum
  | [] => rfl
  | t :: ts => by
    have := sum_two ts
    simp only [List.map_cons, List.sum_cons, List.length_cons]
    omega
mutual
theorem shB_len : ∀ d : PyData, shO d = true → d.shown.length ≤ shB d
  | .none, _ => by
    simp only [PyData.shown, shB]
    decide +kernel
  | .bool b, _ => by
    simp only [PyData.shown, shB]
    cases b <;> decide +kernel
  | .int i, h => by
    simp only [PyData.shown, shB]
    exact int_text_len_1921 (of_decide_eq_true (by simpa only [shO] using h))
  | .str x, h => by
    simp only [PyData.shown, shB]
    simp only [shO] at h
    exact StrLaws.reprText_len x fun c hc => of_decide_eq_true (List.all_eq_true.mp h c hc)
  | .list ds, h => by
    simp only [PyData.shown, shB]
    have h1 := listText_len_le (PyData.shownAll ds)
    have h2 := shBA_len ds (by simpa only [shO] using h)
    have h3 := sum_two (PyData.shownAll ds)
    have e : (List.map (·.length) (PyData.shownAll ds)).sum = ((PyData.shownAll ds).map fun t => t.length).sum := rfl
    omega
  | .tuple ds, h => by
    simp only [PyData.shown, shB]
    have h1 := tupleText_len_le (PyData.shownAll ds)
    have h2 := shBA_len ds (by simpa only [shO] using h)
    have h3 := sum_two (PyData.shownAll ds)
    have e : (List.map (·.length) (PyData.shownAll ds)).sum = ((PyData.shownAll ds).map fun t => t.length).sum := rfl
    omega
  | .dict _, h => by simp only [shO] at h; exact nomatch h
theorem shBA_len : ∀ ds : List PyData, shOA ds = true → ((PyData.shownAll ds).map fun t => t.length + 2).sum ≤ shBA ds
  | [], _ => by
    simp only [PyData.shownAll, shBA]
    exact Nat.le_refl _
  | d :: ds, h => by
    simp only [shOA, Bool.and_eq_true] at h
    simp only [PyData.shownAll, shBA, List.map_cons, List.sum_cons]
    have h1 := shB_len d h.1
    have h2 := shBA_len ds h.2
    omega
end
section
variable {X : Cx}
theorem room110 {k : Nat} {A : Around} (r : Room k A) : A.units + 110 < cLine := by
  have := r.un
  omega
/-- the text that str() gives -/
def strD : PyData → Str
  | .str x => x
  | d => PyData.shown d
/-- str(x): the text of the thing's data -/
def rStrD : List V → Hp → VK → Prop := fun vs H Q => ∃ (x : V) (d : PyData), vs = [x] ∧ Dq H x d ∧ shO d = true ∧ shB d ≤ 16000000 ∧ d.depth ≤ 100 ∧ Q (.str (strD d)) H
theorem cr_strD (g : X.A.guards = some []) (hu : X.A.units + 110 < cLine) : CallR X (.type "str") rStrD := by
  intro pins s σ H vs us Q I r h
  obtain ⟨x, d, rfl, hd, ok, sz, dp, q⟩ := h
  obtain ⟨u, rfl, r1⟩ := vals1 r
  have hlen := shB_len d ok
  have hz : (16000000 : Nat) ≤ sizeLine := by decide
  cases hd with
  | non =>
    cases r1
    exact P.str_of_none ⟨.str _, H, I.tok _, ⟨_, rfl⟩, q⟩
  | bl b =>
    cases r1
    refine P.str_of_bool ⟨.str _, H, I.tok _, ⟨_, rfl⟩, ?_⟩
    cases b <;> exact q
  | int i =>
    obtain ⟨t, rfl⟩ := r1
    exact P.str_of_int (of_decide_eq_true (by simpa only [shO] using ok)) ⟨.str _, H, I.tok _, ⟨_, rfl⟩, q⟩
  | str y =>
    obtain ⟨t, rfl⟩ := r1
    exact P.str_of_str ⟨.str y, H, I, ⟨t, rfl⟩, q⟩
  | lst h hs =>
    obtain ⟨as, R⟩ := dq_reads I (Dq.lst h hs) r1
    cases r1
    exact str_of_reads R (shO_able _ ok) (PyData.noDict_hsm (dq_noD (Dq.lst h hs))) g (by omega) (fun _ _ e => e) (fun h' t tk hk => ⟨.str _, H, I.kept hk, ⟨t, rfl⟩, q⟩) (by omega)
  | tup h hs =>
    obtain ⟨as, R⟩ := dq_reads I (Dq.tup h hs) r1
    cases r1
    exact str_of_reads R (shO_able _ ok) (PyData.noDict_hsm (dq_noD (Dq.tup h hs))) g (by omega) (fun _ _ e => e) (fun h' t tk hk => ⟨.str _, H, I.kept hk, ⟨t, rfl⟩, q⟩) (by omega)
end

/-! ### the end of a law whose defs show things -/
section
variable {P : Program} {w : World} {K : PySem.W.Frag} {mg mb : Str → Option Value} {k : Nat} {fa a : Addr} {fd : FuncData} {x : Str} {sp : Sp} {st : Shared} {vs : List Value} {ns : List Int}
/-- the script, tracked unless it is the module's own -/
def scrH (K : PySem.W.Frag) (a : Addr) (vs : List Value) (ns : List Int) : Hp := fun b => if b = a ∧ K.lookup a = none then some (.frz { cls := .type "list", data := .seq vs.toArray } (.lst (ns.map V.int))) else none
theorem scr_some {b : Addr} {o : HO} (h : scrH K a vs ns b = some o) : b = a ∧ K.lookup a = none ∧ o = .frz { cls := .type "list", data := .seq vs.toArray } (.lst (ns.map V.int)) := by
  unfold scrH at h
  split at h
  · next c => exact ⟨c.1, c.2, (Option.some.inj h).symm⟩
  · cases h
theorem law_G (inK : K.In st.heap) (nsM : st.heap.Ns mainGlobals mg) (nsB : st.heap.Ns builtinsNs mb) (bb : ∀ y : Str, y ≠ "__name__" → mb y = bootBuiltins y) (lim : st.heap.NoLimit) (gens : st.gens = #[])
    (scr : st.heap.get? a = some { cls := .type "list", data := .seq vs.toArray }) (its : IntsAre vs ns) (short : ns.length ≤ sizeLine) (room : Room k callerA)
    (F : ∀ base : Heap, K.In base → base.Ns mainGlobals mg → FnG P w K mg base k fa fd [x] sp) (hb : ∀ (s : Shared) (u : Value), BindsTo s fd ⟨[u], []⟩ [(x, u)])
    (hsp : ∀ H : Hp, SqL K H a (ns.map V.int) → sp [.ref a] H (fun v _ => v = .bl true) fun _ _ _ => False) :
    codeAny (model P w) callerA (.call (.ref fa) ⟨[.ref a], []⟩) (fun r s' => r = .ok (.ret (.bool true)) ∧ OldK st.heap s'.heap ∧ s'.os = st.os ∧ AllBare s'.gens) st := by
  have rel : Vals (ns.map V.int) vs := vals_ints its
  have many := its.length
  let H := scrH K a vs ns
  have free : ∀ {b : Addr} {o : Obj}, K.lookup b = some o → H b = none := by
    intro b o lb
    cases q : H b with
    | none => rfl
    | some u =>
      obtain ⟨rfl, no, _⟩ := scr_some q
      rw [no] at lb
      cases lb
  have nodict : ∀ {b : Addr} {o : Obj} {es : Array DictEntry} {ep : Nat}, st.heap.get? b = some o → o.data = .dict es ep → H b = none := by
    intro b o es ep g d
    cases q : H b with
    | none => rfl
    | some u =>
      obtain ⟨rfl, _, _⟩ := scr_some q
      rw [scr] at g
      cases g
      cases d
  have nsOf : ∀ {b : Addr} {m : Str → Option Value}, st.heap.Ns b m → (hidT st.heap H).Ns b m := by
    rintro b m ⟨o, es, ep, g, d, r⟩
    exact ⟨o, es, ep, hidT_get g (nodict g d), d, r⟩
  have inB : K.In (hidT st.heap H) := fun b o lb => hidT_get (inK b o lb) (free lb)
  have hok : HOk P w H st.heap := by
    intro b o q
    obtain ⟨rfl, _, rfl⟩ := scr_some q
    exact ⟨scr, by rw [List.length_map]; exact short, vs, _, rel, scr⟩
  have env : Env0 P w K mg (hidT st.heap H) callerA [] st H := by
    obtain ⟨mc, l1, l2⟩ := lim
    exact ⟨rfl, ⟨inB, nsOf nsM, ⟨mb, nsOf nsB, bb⟩, mc, nsOf l1, l2⟩, fun b o g => of_hidT g, Nat.le_of_eq (hidT_size _ _), trivial, fun b z => (List.not_mem_nil z).elim, hok, .of_eq gens⟩
  have sq : SqL K H a (ns.map V.int) := by
    cases lk : K.lookup a with
    | none => exact .inl (.inr ⟨_, if_pos ⟨rfl, lk⟩⟩)
    | some o =>
      have g := inK a o lk
      rw [scr] at g
      cases g
      exact .inr ⟨_, vs.toArray, _, lk, rfl, rfl, rfl, by rw [List.size_toArray, many]; exact short, by rw [List.toList_toArray]; exact rel⟩
  refine codeAny_mono ((F _ inB (nsOf nsM)).go callerA [] st H ⟨[.ref a], []⟩ [.ref a] [.ref a] _ _ rfl room env (hb st (.ref a)) (.cons rfl .nil) (hsp H sq)) fun r s' z => ?_
  match r, z with
  | .error e, z => exact z.elim
  | .ok .next, z => exact z.elim
  | .ok .brk, z => exact z.elim
  | .ok .cont, z => exact z.elim
  | .ok (.ret u), z =>
    obtain ⟨v, H', os, bare, un, hok', r', z⟩ := z
    have z : v = .bl true := z
    subst z
    have r' : u = Value.bool true := r'
    subst r'
    refine ⟨rfl, OldK.of_keep fun b o g => ?_, os, bare⟩
    cases q : H b with
    | none => exact un.keep b o g q (fun m => (List.not_mem_nil m).elim) List.not_mem_nil
    | some u =>
      obtain ⟨rfl, _, rfl⟩ := scr_some q
      obtain ⟨g2, _⟩ := hok' _ _ (un.frzs _ _ _ q)
      rw [scr] at g
      cases g
      exact g2
theorem walk_ofG {l : PySem.W.OpenLaw} {n : Nat} {q : Program} {loose : List Str} {XP : (Str → Option Value) → Heap → Prop} {YP : World → Heap → Prop} {d : DefRec} {KW : Params → PySem.W.Frag} {spw : World → Sp}
    (hn : l.most = some n) (hn2 : n ≤ sizeLine) (hdf : d.params.defaults = []) (room : Room k callerA) (hY : ∀ (w : World) (h : Heap), YP w h → (KW w.params).In h)
    (F : ∀ (w : World) (mg : Str → Option Value) (fa : Addr) (h : Heap), (KW w.params).In h → h.Ns mainGlobals mg → mg d.name = some (.ref fa) → ∃ fd : FuncData, (∀ (s : Shared) (u : Value), BindsTo s fd ⟨[u], []⟩ [(x, u)]) ∧ ∀ base : Heap, (KW w.params).In base → base.Ns mainGlobals mg → FnG l.prog w (KW w.params) mg base k fa fd [x] (spw w))
    (hsp : ∀ (w : World) (H : Hp) (a : Addr) (ns : List Int), ns.length ≤ n → SqL (KW w.params) H a (ns.map V.int) → spw w [.ref a] H (fun v _ => v = .bl true) fun _ _ _ => False) :
    PySem.W.WalkO q loose XP YP l.row.toRowW d [] (fun f vs => PySem.call f vs) := by
  refine Att.attach_call hn hdf ?_
  intro w s0 st mg mb fa o pm cd doc a vs ns G Y _ _ _ hm scr its short gens
  obtain ⟨fd, hb, hF⟩ := F w mg fa _ (hY w _ Y) G.T.g hm
  exact law_G (hY w _ Y) G.T.g G.T.b G.T.builtins G.T.nolimit gens scr its (Nat.le_trans short hn2) room hF hb fun H sq => hsp w H a ns short sq
end
end Kp

/-! Things of any kind that are made and changed: what they are made of, how long their text may be. -/
namespace Kp
open PySem PySem.Spec PyProof.Rows L2 Evl RZ

/-- the heap without these places -/
def hid (A : List Addr) (H : Hp) : Hp := fun a => if a ∈ A then none else H a
/-- these places are taken -/
def Tkn (A : List Addr) (H : Hp) : Prop := ∀ a ∈ A, H a ≠ none
section
variable {A B : List Addr} {H H' : Hp}
theorem hid_nil : hid [] H = H := funext fun a => if_neg (List.not_mem_nil)
theorem hid_ex (e : Ex H H') : Ex (hid A H) (hid A H') := fun a o h => by
  unfold hid at *
  split at h
  · cases h
  · next c =>
    rw [if_neg c]
    exact e a o h
theorem hid_out {a : Addr} (h : a ∉ A) : hid A H a = H a := if_neg h
theorem hid_upd {p : Addr} {o : HO} (h : p ∈ A) : hid A (upd H p o) = hid A H := funext fun a => by
  unfold hid
  split
  · rfl
  · next c =>
    rw [upd_ne]
    exact fun e => c (e ▸ h)
theorem hid_sub (h : ∀ a ∈ B, a ∈ A) : Ex (hid A H) (hid B H) := fun a o q => by
  unfold hid at *
  split at q
  · cases q
  · next c => rw [if_neg fun m => c (h a m)]; exact q
theorem hid_all (h : ∀ a ∈ A, H a = none) : hid A H = H := funext fun a => by
  unfold hid
  split
  · next c => rw [h a c]
  · rfl
theorem tkn_ex (e : Ex H H') (t : Tkn A H) : Tkn A H' := fun a ha => by
  have := t a ha
  cases q : H a with
  | none => exact absurd q this
  | some o => rw [e a o q]; exact fun z => nomatch z
theorem tkn_not {p : Addr} (t : Tkn A H) (h : H p = none) : p ∉ A := fun m => t p m h
theorem tkn_one {a : Addr} {o : HO} (h : H a = some o) : Tkn [a] H := fun b hb => by
  rw [List.mem_singleton.mp hb, h]
  exact fun z => nomatch z
theorem tkn_two {a b : Addr} {o q : HO} (h : H a = some o) (g : H b = some q) : Tkn [a, b] H := fun c hc => by
  rcases List.mem_cons.mp hc with e | hc
  · rw [e, h]
    exact fun z => nomatch z
  · rw [List.mem_singleton.mp hc, g]
    exact fun z => nomatch z
theorem dq_un {x : V} {d : PyData} (h : Dq (hid A H) x d) : Dq H x d := by
  have := h.mono (hid_sub (A := A) (B := []) (H := H) fun a m => (List.not_mem_nil m).elim)
  rwa [hid_nil] at this
/-- what stood before these places were taken doesn't lead to them -/
theorem dq_old {x : V} {d : PyData} (h : Dq H x d) (n : ∀ a ∈ A, H a = none) (e : Ex H H') : Dq (hid A H') x d := by
  rw [← hid_all n] at h
  exact h.mono (hid_ex e)
end
/-- its text at most b long, at most k deep -/
structure Sz (b k : Nat) (d : PyData) : Prop where
  ok : shO d = true
  len : shB d ≤ b
  dep : d.depth ≤ k
structure SzA (b k : Nat) (ds : List PyData) : Prop where
  ok : shOA ds = true
  len : shBA ds ≤ b
  dep : PyData.depthAll ds ≤ k
theorem Sz.mono {b b' k k' : Nat} {d : PyData} (h : Sz b k d) (hb : b ≤ b') (hk : k ≤ k') : Sz b' k' d := ⟨h.ok, Nat.le_trans h.len hb, Nat.le_trans h.dep hk⟩
theorem SzA.mono {b b' k k' : Nat} {d : List PyData} (h : SzA b k d) (hb : b ≤ b') (hk : k ≤ k') : SzA b' k' d := ⟨h.ok, Nat.le_trans h.len hb, Nat.le_trans h.dep hk⟩
theorem Sz.lst {b k : Nat} {ds : List PyData} (h : SzA b k ds) : Sz (b + 3) (k + 1) (.list ds) := ⟨by simpa only [shO] using h.ok, by simp only [shB]; have := h.len; omega, by simp only [PyData.depth]; have := h.dep; omega⟩
theorem Sz.tup {b k : Nat} {ds : List PyData} (h : SzA b k ds) : Sz (b + 3) (k + 1) (.tuple ds) := ⟨by simpa only [shO] using h.ok, by simp only [shB]; have := h.len; omega, by simp only [PyData.depth]; have := h.dep; omega⟩
theorem SzA.nil : SzA 0 0 [] := ⟨by simp only [shOA], by simp only [shBA]; exact Nat.le_refl _, by simp only [PyData.depthAll]; exact Nat.le_refl _⟩
theorem SzA.cons {b1 b2 k : Nat} {d : PyData} {ds : List PyData} (h : Sz b1 k d) (g : SzA b2 k ds) : SzA (b1 + 2 + b2) k (d :: ds) := ⟨by simp only [shOA, h.ok, g.ok, Bool.and_self], by simp only [shBA]; have := h.len; have := g.len; omega, by simp only [PyData.depthAll]; exact Nat.max_le.mpr ⟨h.dep, g.dep⟩⟩
theorem SzA.app {b1 b2 k : Nat} : ∀ {ds es : List PyData}, SzA b1 k ds → SzA b2 k es → SzA (b1 + b2) k (ds ++ es)
  | [], es, _, g => g.mono (by omega) (Nat.le_refl _)
  | d :: ds, es, h, g => by
    have h1 := h.ok
    have h2 := h.len
    have h3 := h.dep
    simp only [shOA, Bool.and_eq_true] at h1
    simp only [shBA] at h2
    simp only [PyData.depthAll] at h3
    have ih := SzA.app (b1 := shBA ds) (k := k) ⟨h1.2, Nat.le_refl _, (Nat.max_le.mp h3).2⟩ g
    exact (SzA.cons (b1 := shB d) ⟨h1.1, Nat.le_refl _, (Nat.max_le.mp h3).1⟩ ih).mono (by omega) (Nat.le_refl _)
theorem SzA.at {b k : Nat} : ∀ {ds : List PyData} {i : Nat} {d : PyData}, SzA b k ds → ds[i]? = some d → Sz b k d
  | d :: ds, 0, _, h, e => by
    cases e
    have h1 := h.ok
    have h2 := h.len
    have h3 := h.dep
    simp only [shOA, Bool.and_eq_true] at h1
    simp only [shBA] at h2
    simp only [PyData.depthAll] at h3
    exact ⟨h1.1, by omega, (Nat.max_le.mp h3).1⟩
  | d :: ds, i + 1, _, h, e => by
    have h1 := h.ok
    have h2 := h.len
    have h3 := h.dep
    simp only [shOA, Bool.and_eq_true] at h1
    simp only [shBA] at h2
    simp only [PyData.depthAll] at h3
    exact SzA.at (ds := ds) (i := i) ⟨h1.2, by omega, (Nat.max_le.mp h3).2⟩ e
theorem SzA.set {b c k : Nat} {d : PyData} (h : Sz c k d) : ∀ {ds : List PyData} {i : Nat}, SzA b k ds → SzA (b + c + 2) k (ds.set i d)
  | [], i, g => g.mono (by omega) (Nat.le_refl _)
  | e :: ds, 0, g => by
    have h1 := g.ok
    have h2 := g.len
    have h3 := g.dep
    simp only [shOA, Bool.and_eq_true] at h1
    simp only [shBA] at h2
    simp only [PyData.depthAll] at h3
    exact (SzA.cons h (b2 := shBA ds) ⟨h1.2, Nat.le_refl _, (Nat.max_le.mp h3).2⟩).mono (by omega) (Nat.le_refl _)
  | e :: ds, i + 1, g => by
    have h1 := g.ok
    have h2 := g.len
    have h3 := g.dep
    simp only [shOA, Bool.and_eq_true] at h1
    simp only [shBA] at h2
    simp only [PyData.depthAll] at h3
    have ih := SzA.set h (ds := ds) (i := i) (b := shBA ds) ⟨h1.2, Nat.le_refl _, (Nat.max_le.mp h3).2⟩
    exact (SzA.cons (b1 := shB e) ⟨h1.1, Nat.le_refl _, (Nat.max_le.mp h3).1⟩ ih).mono (by omega) (Nat.le_refl _)
theorem SzA.erase {b k : Nat} : ∀ {ds : List PyData} {i : Nat}, SzA b k ds → SzA b k (ds.eraseIdx i)
  | [], i, g => g
  | e :: ds, 0, g => by
    have h1 := g.ok
    have h2 := g.len
    have h3 := g.dep
    simp only [shOA, Bool.and_eq_true] at h1
    simp only [shBA] at h2
    simp only [PyData.depthAll] at h3
    exact ⟨h1.2, by show shBA ds ≤ b; omega, (Nat.max_le.mp h3).2⟩
  | e :: ds, i + 1, g => by
    have h1 := g.ok
    have h2 := g.len
    have h3 := g.dep
    simp only [shOA, Bool.and_eq_true] at h1
    simp only [shBA] at h2
    simp only [PyData.depthAll] at h3
    have ih := SzA.erase (ds := ds) (i := i) (b := shBA ds) (k := k) ⟨h1.2, Nat.le_refl _, (Nat.max_le.mp h3).2⟩
    exact (SzA.cons (b1 := shB e) ⟨h1.1, Nat.le_refl _, (Nat.max_le.mp h3).1⟩ ih).mono (by omega) (Nat.le_refl _)
theorem SzA.take {b k : Nat} : ∀ {ds : List PyData} {m : Nat}, SzA b k ds → SzA b k (ds.take m)
  | ds, 0, g => by
    rw [List.take_zero]
    exact SzA.nil.mono (Nat.zero_le _) (Nat.zero_le _)
  | [], m + 1, g => g
  | e :: ds, m + 1, g => by
    have h1 := g.ok
    have h2 := g.len
    have h3 := g.dep
    simp only [shOA, Bool.and_eq_true] at h1
    simp only [shBA] at h2
    simp only [PyData.depthAll] at h3
    have ih := SzA.take (ds := ds) (m := m) (b := shBA ds) (k := k) ⟨h1.2, Nat.le_refl _, (Nat.max_le.mp h3).2⟩
    exact (SzA.cons (b1 := shB e) ⟨h1.1, Nat.le_refl _, (Nat.max_le.mp h3).1⟩ ih).mono (by omega) (Nat.le_refl _)
theorem sz_int {i : Int} (h : i.natAbs < 2 ^ 1900) : Sz 1921 0 (.int i) := ⟨by
  simp only [shO]
  refine decide_eq_true ?_
  by_cases z : i.natAbs = 0
  · rw [z]
    decide
  · have := (Nat.log2_lt z (k := 1900)).mpr h
    omega, by simp only [shB]; exact Nat.le_refl _, by simp only [PyData.depth]; exact Nat.le_refl _⟩
theorem sz_non : Sz 4 0 .none := ⟨by simp only [shO], by simp only [shB]; exact Nat.le_refl _, by simp only [PyData.depth]; exact Nat.le_refl _⟩
theorem sz_bl (b : Bool) : Sz 5 0 (.bool b) := ⟨by simp only [shO], by simp only [shB]; exact Nat.le_refl _, by simp only [PyData.depth]; exact Nat.le_refl _⟩
theorem sz_str {x : Str} {b : Nat} (h : (x.cps.toList.all fun c => decide (c < 16 ^ 8)) = true) (hb : 10 * x.length + 2 ≤ b) : Sz b 0 (.str x) := ⟨by simp only [shO]; exact h, by simp only [shB]; exact hb, by simp only [PyData.depth]; exact Nat.le_refl _⟩
theorem sza_ints : ∀ {ns : List Int}, (∀ i ∈ ns, i.natAbs < 2 ^ 1900) → SzA (1923 * ns.length) 0 (ns.map PyData.int)
  | [], _ => SzA.nil
  | i :: ns, h => (SzA.cons (sz_int (h i List.mem_cons_self)) (sza_ints fun j hj => h j (List.mem_cons_of_mem _ hj))).mono (by rw [List.length_cons]; omega) (Nat.le_refl _)
theorem DqAll.app {H : Hp} : ∀ {xs ys : List V} {ds es : List PyData}, DqAll H xs ds → DqAll H ys es → DqAll H (xs ++ ys) (ds ++ es)
  | _, _, _, _, .nil, h => h
  | _, _, _, _, .cons a b, h => .cons a (b.app h)
theorem DqAll.take {H : Hp} : ∀ {xs : List V} {ds : List PyData} {m : Nat}, DqAll H xs ds → DqAll H (xs.take m) (ds.take m)
  | _, _, 0, _ => by
    rw [List.take_zero, List.take_zero]
    exact .nil
  | _, _, _ + 1, .nil => .nil
  | _, _, m + 1, .cons a b => .cons a (b.take (m := m))
theorem DqAll.set {H : Hp} {x : V} {d : PyData} (h : Dq H x d) : ∀ {xs : List V} {ds : List PyData} {i : Nat}, DqAll H xs ds → DqAll H (xs.set i x) (ds.set i d)
  | _, _, _, .nil => .nil
  | _, _, 0, .cons _ b => .cons h b
  | _, _, i + 1, .cons a b => .cons a (DqAll.set h (i := i) b)
theorem DqAll.erase {H : Hp} : ∀ {xs : List V} {ds : List PyData} {i : Nat}, DqAll H xs ds → DqAll H (xs.eraseIdx i) (ds.eraseIdx i)
  | _, _, _, .nil => .nil
  | _, _, 0, .cons _ b => b
  | _, _, i + 1, .cons a b => .cons a (b.erase (i := i))
section
variable {K : PySem.W.Frag} {σ : L2.St} {H : Hp} {A : List Addr} {te ta tb to ti : TE} {tr : TA} {b b2 k m n : Nat} {D : Ends} {tz : TS} {x : V} {d : PyData}
/-- it tells some thing that doesn't lead to A, so long, so deep -/
def EvS (A : List Addr) (te : TE) (σ : L2.St) (H : Hp) (b k : Nat) : Prop := ∀ H1, Ex H H1 → ∀ Q : VK, (∀ x d H2, Ex H1 H2 → Dq (hid A H2) x d → Sz b k d → Q x H2) → te σ H1 Q
def EvSA (A : List Addr) (tr : TA) (σ : L2.St) (H : Hp) (n b k : Nat) : Prop := ∀ H1, Ex H H1 → ∀ Q : List V → Hp → Prop, (∀ xs ds H2, Ex H1 H2 → DqAll (hid A H2) xs ds → SzA b k ds → xs.length = n → Q xs H2) → tr σ H1 Q
theorem EvS.mono {b' k' : Nat} (h : EvS A te σ H b k) (hb : b ≤ b') (hk : k ≤ k') : EvS A te σ H b' k' := fun H1 e Q q => h H1 e Q fun x d H2 e2 g s => q x d H2 e2 g (s.mono hb hk)
theorem EvS.ex {H1 : Hp} (h : EvS A te σ H b k) (e : Ex H H1) : EvS A te σ H1 b k := fun H2 e2 => h H2 (e.trans e2)
theorem es_val (h : Ev te σ H x) (g : ∀ H1, Ex H H1 → Dq (hid A H1) x d) (s : Sz b k d) : EvS A te σ H b k := fun H1 e Q q => h H1 e _ fun H2 e2 => q x d H2 e2 (g H2 (e.trans e2)) s
theorem es_dq (h : Ev te σ H x) (g : Dq (hid A H) x d) (s : Sz b k d) : EvS A te σ H b k := es_val h (fun H1 e => g.mono (hid_ex e)) s
theorem es_int {i : Int} (h : Ev te σ H (.int i)) (hi : i.natAbs < 2 ^ 1900) : EvS A te σ H 1921 0 := es_val h (fun _ _ => .int i) (sz_int hi)
theorem es_non (h : Ev te σ H .non) : EvS A te σ H 4 0 := es_val h (fun _ _ => .non) sz_non
theorem es_bl {z : Bool} (h : Ev te σ H (.bl z)) : EvS A te σ H 5 0 := es_val h (fun _ _ => .bl z) (sz_bl z)
theorem es_str {z : Str} (h : Ev te σ H (.str z)) (h1 : (z.cps.toList.all fun c => decide (c < 16 ^ 8)) = true) (hb : 10 * z.length + 2 ≤ b) : EvS A te σ H b 0 := es_val h (fun _ _ => .str z) (sz_str h1 hb)
theorem esa_nil : EvSA A tNil σ H 0 0 0 := fun H1 e Q q => q [] [] H1 (Ex.refl H1) .nil SzA.nil rfl
theorem esa_cons {k2 : Nat} (h : EvS A te σ H b k) (hr : EvSA A tr σ H n b2 k2) : EvSA A (tCons te tr) σ H (n + 1) (b + 2 + b2) (max k k2) := fun H1 e Q q =>
  h H1 e _ fun x d H2 e2 g s => hr H2 (e.trans e2) _ fun xs ds H3 e3 gs ss l => q (x :: xs) (d :: ds) H3 (e2.trans e3) (.cons (g.mono (hid_ex e3)) gs) (SzA.cons (s.mono (Nat.le_refl _) (Nat.le_max_left _ _)) (ss.mono (Nat.le_refl _) (Nat.le_max_right _ _))) (by rw [List.length_cons, l])
theorem es_lst (t : Tkn A H) (h : EvSA A tr σ H n b k) (hn : n ≤ 100000) : EvS A (tLst tr) σ H (b + 3) (k + 1) := fun H1 e Q q =>
  h H1 e _ fun xs ds H2 e2 gs ss l => ⟨sz_of (by omega), fun p np => q (.ref p) (.list ds) _ (e2.trans (Ex.new np)) (.lst (by rw [hid_out (tkn_not (tkn_ex (e.trans e2) t) np), upd_same]) (gs.mono (hid_ex (Ex.new np)))) (Sz.lst ss)⟩
theorem es_tup (t : Tkn A H) (h : EvSA A tr σ H n b k) (hn : n ≤ 100000) : EvS A (tTup tr) σ H (b + 3) (k + 1) := fun H1 e Q q =>
  h H1 e _ fun xs ds H2 e2 gs ss l => ⟨sz_of (by omega), fun p np => q (.ref p) (.tuple ds) _ (e2.trans (Ex.new np)) (.tup (by rw [hid_out (tkn_not (tkn_ex (e.trans e2) t) np), upd_same]) (gs.mono (hid_ex (Ex.new np)))) (Sz.tup ss)⟩
/-- [e, ..][i] -/
theorem es_pick {i : Int} (h : EvSA A tr σ H n b k) (hn : n ≤ 100000) (hi : Ev ti σ H (.int i)) (h0 : 0 ≤ i) (h1 : i < (n : Int)) : EvS A (tOp (rIxL K) (tLst tr) ti) σ H b k := fun H1 e Q q =>
  h H1 e _ fun xs ds H2 e2 gs ss l => ⟨sz_of (by omega), fun p np => by
    have eN : Ex H2 (upd H2 p (.lst xs)) := Ex.new np
    refine hi _ ((e.trans e2).trans eN) _ fun H3 e3 => ?_
    obtain ⟨j, rfl⟩ := Int.eq_ofNat_of_zero_le h0
    have hj : j < xs.length := by omega
    obtain ⟨d, hd, g⟩ := gs.at (List.getElem?_eq_getElem hj)
    exact (rv_ixL (K := K) (xs := xs) (i := (j : Int)) (sq_of (e3 _ _ upd_same)) (atI_nat (List.getElem?_eq_getElem hj))) H3 (Ex.refl _) _ fun H4 e4 => q _ d H4 ((e2.trans eN).trans (e3.trans e4)) (g.mono (hid_ex (eN.trans (e3.trans e4)))) (ss.at hd)⟩
/-- each of them so long, so deep -/
def EvSE (A : List Addr) (tr : TA) (σ : L2.St) (H : Hp) (n b k : Nat) : Prop := ∀ H1, Ex H H1 → ∀ Q : List V → Hp → Prop, (∀ xs ds H2, Ex H1 H2 → DqAll (hid A H2) xs ds → (∀ (i : Nat) (d : PyData), ds[i]? = some d → Sz b k d) → xs.length = n → Q xs H2) → tr σ H1 Q
theorem ese_nil : EvSE A tNil σ H 0 b k := fun H1 e Q q => q [] [] H1 (Ex.refl H1) .nil (fun i d h => by simp at h) rfl
theorem ese_cons {b1 k1 : Nat} (h : EvS A te σ H b1 k1) (hb : b1 ≤ b) (hk : k1 ≤ k) (hr : EvSE A tr σ H n b k) : EvSE A (tCons te tr) σ H (n + 1) b k := fun H1 e Q q =>
  h H1 e _ fun x d H2 e2 g s => hr H2 (e.trans e2) _ fun xs ds H3 e3 gs ss l => q (x :: xs) (d :: ds) H3 (e2.trans e3) (.cons (g.mono (hid_ex e3)) gs) (fun i d' h => by
    cases i with
    | zero =>
      cases h
      exact s.mono hb hk
    | succ i => exact ss i d' h) (by rw [List.length_cons, l])
/-- [e, ..][i], by the greatest of them -/
theorem es_pickE {i : Int} (h : EvSE A tr σ H n b k) (hn : n ≤ 100000) (hi : Ev ti σ H (.int i)) (h0 : 0 ≤ i) (h1 : i < (n : Int)) : EvS A (tOp (rIxL K) (tLst tr) ti) σ H b k := fun H1 e Q q =>
  h H1 e _ fun xs ds H2 e2 gs ss l => ⟨sz_of (by omega), fun p np => by
    have eN : Ex H2 (upd H2 p (.lst xs)) := Ex.new np
    refine hi _ ((e.trans e2).trans eN) _ fun H3 e3 => ?_
    obtain ⟨j, rfl⟩ := Int.eq_ofNat_of_zero_le h0
    have hj : j < xs.length := by omega
    obtain ⟨d, hd, g⟩ := gs.at (List.getElem?_eq_getElem hj)
    exact (rv_ixL (K := K) (xs := xs) (i := (j : Int)) (sq_of (e3 _ _ upd_same)) (atI_nat (List.getElem?_eq_getElem hj))) H3 (Ex.refl _) _ fun H4 e4 => q _ d H4 ((e2.trans eN).trans (e3.trans e4)) (g.mono (hid_ex (eN.trans (e3.trans e4)))) (ss _ _ hd)⟩
/-- a new list of whole numbers -/
theorem es_ints {ns : List Int} (t : Tkn A H) (h : EvL te σ H (ns.map V.int)) (hb : ∀ i ∈ ns, i.natAbs < 2 ^ 1900) : EvS A te σ H (1923 * ns.length + 3) 1 := fun H1 e Q q =>
  h H1 e _ fun p H2 np e2 hp => q (.ref p) (dI ns) H2 e2 (dq_ints (by rw [hid_out (tkn_not (tkn_ex e t) np)]; exact hp)) (Sz.lst (sza_ints hb))
/-- tuple(a list) -/
theorem es_tupOf {p : Addr} {xs : List V} {ds : List PyData} (t : Tkn A H) (h : Ev te σ H (.ref p)) (hp : H p = some (.lst xs)) (g : DqAll (hid A H) xs ds) (s : SzA b k ds) : EvS A (tCB (fun vs H Q => ∃ p ys, vs = [.ref p] ∧ ((SqL K H p ys ∧ ∀ l, H l = none → Q (.ref l) (upd H l (.tup ys))) ∨ (SqT K H p ys ∧ Q (.ref p) H))) (tCons te tNil)) σ H (b + 3) (k + 1) := fun H1 e Q q =>
  h H1 e _ fun H2 e2 => ⟨p, xs, rfl, .inl ⟨sq_of ((e.trans e2) _ _ hp), fun l nl => q (.ref l) (.tuple ds) _ (e2.trans (Ex.new nl)) (.tup (by rw [hid_out (tkn_not (tkn_ex (e.trans e2) t) nl), upd_same]) (g.mono (hid_ex ((e.trans e2).trans (Ex.new nl))))) (Sz.tup s)⟩⟩
/-! ### changing a list that is hidden -/
/-- o[i] = e -/
theorem s_setS {l : Addr} {xs : List V} {j : Nat} (hl : H l = some (.lst xs)) (ho : ∀ H1, Ex H H1 → Ev to σ H1 (.ref l)) (hi : ∀ H1, Ex H H1 → Ev ti σ H1 (.int (j : Nat))) (hj : j < xs.length) (he : EvS A te σ H b k)
    (kk : ∀ x d H1, Ex H H1 → Dq (hid A H1) x d → Sz b k d → D.nx σ (upd H1 l (.lst (xs.set j x)))) : tAsg te (gSub to ti rSetL) D σ H :=
  he H (Ex.refl H) _ fun x d H1 e1 g s => ho H1 e1 H1 (Ex.refl _) _ fun H2 e2 => hi H2 (e1.trans e2) H2 (Ex.refl _) _ fun H3 e3 => ⟨l, xs, (j : Int), j, rfl, rfl, (e1.trans (e2.trans e3)) _ _ hl, ixN_nat hj, kk x d H3 (e1.trans (e2.trans e3)) (g.mono (hid_ex (e2.trans e3))) s⟩
/-- o[i], o[j] = e, f -/
theorem s_set2S {to2 ti2 te2 : TE} {l : Addr} {xs : List V} {j j2 : Nat} (hl : H l = some (.lst xs)) (ho : ∀ H1, Ex H H1 → Ev to σ H1 (.ref l)) (hi : ∀ H1, Ex H H1 → Ev ti σ H1 (.int (j : Nat))) (hj : j < xs.length)
    (ho2 : ∀ H1 ys, H1 l = some (.lst ys) → (∀ a o, a ≠ l → H a = some o → H1 a = some o) → Ev to2 σ H1 (.ref l)) (hi2 : ∀ H1, Ev ti2 σ H1 (.int (j2 : Nat))) (hj2 : j2 < xs.length) (he : EvS A te σ H b k) (he2 : EvS A te2 σ H b k)
    (kk : ∀ x d y d2 H1, Ex H H1 → Dq (hid A H1) x d → Sz b k d → Dq (hid A H1) y d2 → Sz b k d2 → ∀ H2 ys, H2 l = some (.lst ys) → (∀ a o, a ≠ l → H1 a = some o → H2 a = some o) → ys = (xs.set j x).set j2 y → D.nx σ H2) : tAsg (tTup (tCons te (tCons te2 tNil))) (gTup K 2 (gCons (gSub to ti rSetL) (gCons (gSub to2 ti2 rSetL) gNil))) D σ H :=
  he H (Ex.refl H) _ fun x d H1 e1 g s => he2 H1 e1 _ fun y d2 H2 e2 g2 s2 => ⟨sz_of (by show 2 ≤ 100000; decide), fun T nT => by
    have eT : Ex H2 (upd H2 T (.tup [x, y])) := Ex.new nT
    refine ⟨T, [x, y], rfl, SqT.of upd_same, rfl, x, [y], rfl, ?_⟩
    have e3 := e1.trans (e2.trans eT)
    refine ho _ e3 _ (Ex.refl _) _ fun H4 e4 => hi H4 (e3.trans e4) H4 (Ex.refl _) _ fun H5 e5 => ?_
    have a5 := e3.trans (e4.trans e5)
    refine ⟨l, xs, (j : Int), j, rfl, rfl, a5 _ _ hl, ixN_nat hj, y, [], rfl, ?_⟩
    have nn : ∀ a o, a ≠ l → H5 a = some o → (upd H5 l (.lst (xs.set j x))) a = some o := fun a o n h => by rw [upd_ne n]; exact h
    refine ho2 _ (xs.set j x) upd_same (fun a o n h => nn a o n (a5 _ _ h)) _ (Ex.refl _) _ fun H6 e6 => hi2 H6 H6 (Ex.refl _) _ fun H7 e7 => ?_
    refine ⟨l, xs.set j x, (j2 : Int), j2, rfl, rfl, (e6.trans e7) _ _ upd_same, ixN_nat (by rw [List.length_set]; exact hj2), rfl, ?_⟩
    have e25 : Ex H2 H5 := eT.trans (e4.trans e5)
    exact kk x d y d2 H5 a5 (g.mono (hid_ex (e2.trans e25))) s (g2.mono (hid_ex e25)) s2 _ _ upd_same (fun a o n h => by rw [upd_ne n]; exact (e6.trans e7) _ _ (nn a o n h)) rfl⟩
/-- o.append(e) -/
theorem s_appS {l : Addr} {xs : List V} (hl : H l = some (.lst xs)) (ho : Ev to σ H (.ref l)) (he : EvS A te σ H b k) (hz : xs.length < 100000) (kk : ∀ x d H1, Ex H H1 → Dq (hid A H1) x d → Sz b k d → D.nx σ (upd H1 l (.lst (xs ++ [x])))) :
    tDrop (tBM K "list" rAppend to (tCons te tNil)) D σ H := ho H (Ex.refl H) _ fun H1 e1 =>
  ⟨Or.inl ⟨rfl, xs, sq_of (e1 l _ hl)⟩, he H1 e1 _ fun x d H2 e2 g s => ⟨l, xs, x, rfl, rfl, e2 l _ (e1 l _ hl), sz_lt hz, kk x d H2 (e1.trans e2) g s⟩⟩
/-- o.pop(i) -/
theorem s_popAt {l : Addr} {xs : List V} {j : Nat} (hl : H l = some (.lst xs)) (ho : Ev to σ H (.ref l)) (hi : Ev te σ H (.int (j : Nat))) (hj : j < xs.length) (hz : xs.length < 100000) (kk : ∀ H1, Ex H H1 → D.nx σ (upd H1 l (.lst (xs.eraseIdx j)))) :
    tDrop (tBM K "list" rPopAt to (tCons te tNil)) D σ H := ho H (Ex.refl H) _ fun H1 e1 =>
  ⟨Or.inl ⟨rfl, xs, sq_of (e1 l _ hl)⟩, hi H1 e1 _ fun H2 e2 => ⟨l, xs, (j : Int), j, xs[j], rfl, rfl, e2 l _ (e1 l _ hl), by omega, by omega, by
    unfold seqIndex?
    simp
    omega, List.getElem?_eq_getElem hj, kk H2 (e1.trans e2)⟩⟩
end
end Kp

namespace Own
open PySem PySem.Spec PyProof.Rows L2 Evl Kp
def topS (i : Nat) : Stmt := PySem.Challenge.pw_rootwheel_k62_cosine_polynomials.main.body.getD i (.Pass ⟨0, 0, 0, 0⟩)
/-! ### words of ours for the walk over readings -/
local macro_rules | `(tactic| one_place) => `(tactic| (fail_if_success (with_reducible first | refine probe ?_ | refine probeT ?_ | refine probeA ?_)); first
  | exact ev_c
  | exact ev_var rfl
  | exact ea_nil
  | (apply ea_cons <;> one_place)
  | (apply et_test; one_place)
  | (apply et_B; one_place)
  | (apply et_not; one_place)
  | (apply ev_add <;> one_place)
  | (apply ev_sub <;> one_place)
  | (apply ev_mul <;> first | one_place | (exact mulW (by omega) (by omega)))
  | (apply ev_div <;> first | one_place | (exact divW (by omega) (by omega)))
  | (apply ev_mod <;> first | one_place | omega)
  | (refine ev_pow (i := 10) (j := 6) (c := 1000000) ?_ ?_ ⟨by decide, by decide +kernel⟩ (by rfl) <;> one_place)
  | (refine ev_pow (i := 10) (j := 9) (c := 1000000000) ?_ ?_ ⟨by decide, by decide +kernel⟩ (by rfl) <;> one_place)
  | (refine ev_pow (i := 10) (j := 12) (c := 1000000000000) ?_ ?_ ⟨by decide, by decide +kernel⟩ (by rfl) <;> one_place)
  | (refine ev_pow (i := 10) (j := 18) (c := 1000000000000000000) ?_ ?_ ⟨by decide, by decide +kernel⟩ (by rfl) <;> one_place)
  | (apply ev_lt <;> one_place)
  | (apply ev_le <;> one_place)
  | (apply ev_gt <;> one_place)
  | (apply ev_ge <;> one_place)
  | (apply ev_eqI <;> one_place)
  | (apply ev_neI <;> one_place)
  | (apply ev_neg; one_place)
  | assumption)
/-! ### cosine polynomials: folded root polynomials -/
/-- the next doubled row -/
def nxD (here last : List Int) : List Int := addP (-1) (0 :: here) last
/-- one step of folding: the sum so far, the last row, this row -/
def fdS (s : List Int × List Int × List Int) (c : Int) : List Int × List Int × List Int := (addP 1 s.1 (s.2.2.map fun x => c * x), s.2.2, nxD s.2.2 s.2.1)
def foldF (f : List Int) : List Int := ((f.drop (f.length / 2 + 1)).foldl fdS ([coef f (f.length / 2)], [2], [0, 1])).1
def cosF (n : Nat) : List Int := if n = 1 then [-2, 1] else if n = 2 then [2, 1] else foldF (phi n)
/-- the k-th doubled row, as the law makes it -/
def dbS : Nat → List Int × List Int
  | 0 => ([2], [0, 1])
  | k + 1 => ((dbS k).2, nxD (dbS k).2 (dbS k).1)
def dbF (k : Nat) : List Int := (dbS k).1
def pdL (f g : List Int) : List Int := trim (mulP f g)
/-- the product of the cosine polynomials of d's divisors, those above 2 twice -/
def mdS (d : Nat) (t : List Int) (e : Nat) : List Int := if d % e = 0 then (if 2 < e then pdL (pdL t (cosF e)) (cosF e) else pdL t (cosF e)) else t
def mdF (d : Nat) : List Int := (dvL d).foldl (mdS d) [1]
def chk62 (d : Nat) : Bool := decide ((cosF d).getLast? = some 1) && (decide (mdF d = addP 1 (dbF d) [-2]) && (decide (d ≤ 2) || decide ((phi d).length % 2 = 1 ∧ (phi d).reverse = phi d)))
theorem chk62_0 : ((List.range 20).all fun i => chk62 (i + 1)) = true := by decide +kernel
theorem chk62_1 : ((List.range 10).all fun i => chk62 (i + 21)) = true := by decide +kernel
theorem chk62_2 : ((List.range 8).all fun i => chk62 (i + 31)) = true := by decide +kernel
theorem chk62_3 : ((List.range 6).all fun i => chk62 (i + 39)) = true := by decide +kernel
theorem chk62_4 : ((List.range 4).all fun i => chk62 (i + 45)) = true := by decide +kernel
theorem chk62_5 : ((List.range 4).all fun i => chk62 (i + 49)) = true := by decide +kernel
theorem chk62_6 : ((List.range 3).all fun i => chk62 (i + 53)) = true := by decide +kernel
theorem chk62_7 : ((List.range 3).all fun i => chk62 (i + 56)) = true := by decide +kernel
theorem chk62_8 : ((List.range 2).all fun i => chk62 (i + 59)) = true := by decide +kernel
theorem chk62_at {d : Nat} (h1 : 1 ≤ d) (h2 : d ≤ 60) : chk62 d = true := by
  have key : ∀ k m, k ≤ d - 1 → d - 1 < k + m → ((List.range m).all fun i => chk62 (i + (k + 1))) = true → chk62 d = true := fun k m a b h => by
    have h := List.all_eq_true.mp h (d - 1 - k) (List.mem_range.mpr (by omega))
    rwa [show d - 1 - k + (k + 1) = d by omega] at h
  by_cases c0 : d - 1 < 20
  · exact key 0 20 (by omega) (by omega) chk62_0
  by_cases c1 : d - 1 < 30
  · exact key 20 10 (by omega) (by omega) chk62_1
  by_cases c2 : d - 1 < 38
  · exact key 30 8 (by omega) (by omega) chk62_2
  by_cases c3 : d - 1 < 44
  · exact key 38 6 (by omega) (by omega) chk62_3
  by_cases c4 : d - 1 < 48
  · exact key 44 4 (by omega) (by omega) chk62_4
  by_cases c5 : d - 1 < 52
  · exact key 48 4 (by omega) (by omega) chk62_5
  by_cases c6 : d - 1 < 55
  · exact key 52 3 (by omega) (by omega) chk62_6
  by_cases c7 : d - 1 < 58
  · exact key 55 3 (by omega) (by omega) chk62_7
  exact key 58 2 (by omega) (by omega) chk62_8

/-! ### numbers of bounded size -/
def Bd (b : Nat) (l : List Int) : Prop := ∀ m, (coef l m).natAbs < 2 ^ b
theorem mulB {i j : Int} {a b : Nat} (hi : i.natAbs < 2 ^ a) (hj : j.natAbs < 2 ^ b) (h : a + b ≤ 900000) : CMulW i j :=
  wide_mul (a := a + 1) (b := b + 1) (Nat.lt_of_lt_of_le hi (Nat.pow_le_pow_right (by decide) (Nat.le_succ a))) (Nat.lt_of_lt_of_le hj (Nat.pow_le_pow_right (by decide) (Nat.le_succ b))) (Nat.succ_pos _) (Nat.succ_pos _) (by omega)
theorem Bd.at {b : Nat} {l : List Int} {i : Nat} {x : Int} (h : Bd b l) (hi : l[i]? = some x) : x.natAbs < 2 ^ b := by
  have := h i
  rwa [coef_of hi] at this
theorem Bd.of {b : Nat} {l : List Int} (h : ∀ x ∈ l, x.natAbs < 2 ^ b) : Bd b l := fun m => by
  by_cases q : m < l.length
  · rw [coef_lt q]
    exact h _ (List.getElem_mem q)
  · rw [coef_ge (by omega)]
    exact Nat.two_pow_pos b
/- trimmed: slots 0 numbers, 1 many; calls  -/
abbrev s_trimmed : Stmt := topS 9
theorem sc_trimmed : FnScope ["numbers", "many"] ["numbers"] (defScope s_trimmed) := ⟨rfl, rfl, rfl, by decide +kernel, rfl, by decide +kernel, by decide +kernel⟩

def spTrim (K : PySem.W.Frag) : Sp := fun vs H Q _ => ∃ (a : Addr) (ns : List Int), vs = [.ref a] ∧ SqL K H a (ns.map V.int) ∧ ns.length ≤ 50000 ∧ RetL ((trim ns).map V.int) H Q
/- plus: slots 0 f, 1 g, 2 total, 3 at, 4 number; calls trimmed -/
abbrev s_plus : Stmt := topS 10
theorem sc_plus : FnScope ["f", "g", "total", "at", "number"] ["f", "g"] (defScope s_plus) := ⟨rfl, rfl, rfl, by decide +kernel, rfl, by decide +kernel, by decide +kernel⟩

def spPlus (K : PySem.W.Frag) : Sp := fun vs H Q _ => ∃ (a b : Addr) (f g : List Int), vs = [.ref a, .ref b] ∧ SqL K H a (f.map V.int) ∧ SqL K H b (g.map V.int) ∧ f.length ≤ 2000 ∧ g.length ≤ 2000 ∧ RetL ((addP 1 f g).map V.int) H Q
/- minus: slots 0 f, 1 g, 2 number; calls plus -/
abbrev s_minus : Stmt := topS 11
theorem sc_minus : FnScope ["f", "g", "number"] ["f", "g"] (defScope s_minus) := ⟨rfl, rfl, rfl, by decide +kernel, rfl, by decide +kernel, by decide +kernel⟩

def spMinus (K : PySem.W.Frag) : Sp := fun vs H Q _ => ∃ (a b : Addr) (f g : List Int), vs = [.ref a, .ref b] ∧ SqL K H a (f.map V.int) ∧ SqL K H b (g.map V.int) ∧ f.length ≤ 2000 ∧ g.length ≤ 2000 ∧ RetL ((addP (0 - 1) f g).map V.int) H Q
theorem Bd.drop {n : Nat} {f : List Int} (h : Bd n f) (i : Nat) : Bd n (f.drop i) := fun m => by
  have e : coef (f.drop i) m = coef f (i + m) := by
    unfold coef
    rw [List.getD_eq_getElem?_getD, List.getElem?_drop, List.getD_eq_getElem?_getD]
  rw [e]
  exact h _
section
variable {P : Program} {w : World} {K : PySem.W.Frag} {mg : Str → Option Value} {base : Heap}
theorem cal_trimmed (nb : Nb mg) (d : Dfn K mg "trimmed" ["numbers"] s_trimmed) : Cal P w K mg base CX0 "trimmed" 1 ["numbers"] (spTrim K) := by
  refine d.cal sc_trimmed (fun vs H Q E h => ?_) (fun f cdv A outer s H vs Q E hr h => ?_)
  · obtain ⟨a, ns, rfl, _⟩ := h
    rfl
  · obtain ⟨a, ns, rfl, hS, hz, q⟩ := h
    refine ⟨_, (pss_cons (ps_set (i := 1) sc_trimmed.nd rfl (.inl rfl) (pe_callB call_len_seq (by rfl) nb.len PySem.boot_len (pa_cons (pv 0) pa_nil)))
      (pss_cons (ps_while PassesOwn.never (PW.pt (pw_and (pt_cmpR op_gt (pv 1) pe_int (nomark _)) (pw_and1 (pt_cmpR op_eq (pe_ix ix_list (pv 0) (pe_op op_sub (pv 1) pe_int) (fun _ _ => rfl)) pe_int (nomark _))))) (pss_one (ps_aug (i := 1) sc_trimmed.nd rfl (.inl rfl) pe_int ip_sub)))
      (pss_one (ps_ret (pe_slice sl_list (pv 0) po_none (po_some (pv 1))))))), ?_⟩
    refine q_asg (v := .int ((ns.length : Nat) : Int)) (ev_is (ev_len (ev_var rfl) hS) (by rw [List.length_map])) fun H1 e1 => ?_
    refine q_while (fun m σ' H' => ∃ x : Int, σ' = [some (.ref a), some (.int x)] ∧ x = (m : Int) ∧ m ≤ ns.length ∧ tlen ns m = tlen ns ns.length ∧ Ex H H') ns.length ⟨_, rfl, rfl, Nat.le_refl _, rfl, e1⟩ fun m σ' H' hW => ?_
    obtain ⟨x, rfl, rfl, hm, ht, e2⟩ := hW
    refine ⟨decide ((0 : Int) < (m : Int)) && decide (coef ns (m - 1) = 0), et_and (by one_place) fun hb => et_test (ev_eqI (ev_ixI (j := m - 1) (ex_l e2 hS) (ev_var rfl) (ev_is (by one_place) ?_) (coef_get ?_)) ev_c), fun hb H3 e3 => ?_, fun hb H3 e3 => ?_⟩
    · have := of_decide_eq_true hb
      congr 1
      omega
    · have := of_decide_eq_true hb
      omega
    · rw [Bool.and_eq_true, decide_eq_true_iff, decide_eq_true_iff] at hb
      obtain ⟨m', rfl⟩ : ∃ m', m = m' + 1 := ⟨m - 1, by omega⟩
      refine ⟨_, fun σ2 H2 hN => ⟨m', Nat.lt_succ_self _, hN⟩, ?_⟩
      refine s_aug (a := ((m' + 1 : Nat) : Int)) (b := 1) rfl (by one_place) fun H4 e4 => ⟨_, rfl, by omega, by omega, ?_, (e2.trans e3).trans e4⟩
      rw [← ht]
      show _ = (if coef ns m' = 0 then tlen ns m' else m' + 1)
      rw [Nat.add_sub_cancel] at hb
      rw [if_pos hb.2]
    · have hst : tlen ns ns.length = m := by
        rw [← ht]
        cases m with
        | zero => rfl
        | succ m' =>
          rw [Bool.and_eq_false_iff, decide_eq_false_iff_not, decide_eq_false_iff_not] at hb
          rcases hb with hb | hb
          · omega
          · show (if coef ns m' = 0 then tlen ns m' else m' + 1) = m' + 1
            rw [Nat.add_sub_cancel] at hb
            rw [if_neg hb]
      refine s_retL (xs := (trim ns).map V.int) (el_is (el_sl (by one_place) eo_none (eo_some (by one_place)) (ex_l (e2.trans e3) hS)) ?_) fun p H4 np e4 hp => q.go (e2.trans e3) np e4 hp
      rw [cut_take, ← List.map_take]
      unfold trim
      rw [hst]
theorem cal_plus (nb : Nb mg) (c_trimmed : Cal P w K mg base CX0 "trimmed" 1 ["numbers"] (spTrim K)) (d : Dfn K mg "plus" ["f", "g"] s_plus) : Cal P w K mg base CX0 "plus" 2 ["f", "g"] (spPlus K) := by
  refine d.cal sc_plus (fun vs H Q E h => ?_) (fun fa cdv A outer s H vs Q E hr h => ?_)
  · obtain ⟨a, b, f, g, rfl, _⟩ := h
    rfl
  · obtain ⟨a, b, f, g, rfl, hF, hG, zf, zg, q⟩ := h
    refine ⟨_, (pss_cons (ps_set (i := 2) sc_plus.nd rfl (.inl rfl) (pe_op op_rep (pe_lst (pa_cons pe_int pa_nil)) (pe_callB (call_max2 rfl) (by rfl) nb.max (by decide +kernel) (pa_cons (pe_callB call_len_seq (by rfl) nb.len PySem.boot_len (pa_cons (pv 0) pa_nil)) (pa_cons (pe_callB call_len_seq (by rfl) nb.len PySem.boot_len (pa_cons (pv 1) pa_nil)) pa_nil)))))
      (pss_cons (ps_for PassesOwn.never rfl (pi_enum (by rfl) nb.enumerate (pa_cons (pv 0) pa_nil)) (pg_tup (by rfl) (pgs_cons (pg_name (i := 3) sc_plus.nd rfl (.inl rfl)) (pgs_cons (pg_name (i := 4) sc_plus.nd rfl (.inl rfl)) pgs_nil))) (pss_one (ps_augS (pv 2) (pv 3) get_list (pv 4) ip_add set_list)))
      (pss_cons (ps_for PassesOwn.never rfl (pi_enum (by rfl) nb.enumerate (pa_cons (pv 1) pa_nil)) (pg_tup (by rfl) (pgs_cons (pg_name (i := 3) sc_plus.nd rfl (.inl rfl)) (pgs_cons (pg_name (i := 4) sc_plus.nd rfl (.inl rfl)) pgs_nil))) (pss_one (ps_augS (pv 2) (pv 3) get_list (pv 4) ip_add set_list)))
      (pss_one (ps_ret (pe_cal c_trimmed (hr.mono (by first | decide | omega)) (by rfl) pass0 (pa_cons (pv 2) pa_nil))))))), ?_⟩
    have hmax : (if ((g.map V.int).length : Int) > ((f.map V.int).length : Int) then ((g.map V.int).length : Int) else ((f.map V.int).length : Int)) = ((max f.length g.length : Nat) : Int) := by
      rw [List.length_map, List.length_map]
      split <;> omega
    refine q_asgL (xs := (List.replicate (max f.length g.length) (0 : Int)).map V.int) (el_is (el_rep (k := ((max f.length g.length : Nat) : Int)) (el_lst (by one_place) (by decide)) (ev_is (ev_max2 (ev_len (ev_var rfl) hF) (ev_len (ev_var rfl) hG)) (by rw [hmax])) (by omega) (by omega)) (by rw [List.map_replicate, Int.toNat_natCast])) fun t H1 nt e1 h1 => ?_
    refine q_forE (xs := f.map V.int) (by one_place) (ex_l e1 hF) (fun i σ' H' => ∃ (T : List Int) (x y : Option V), σ' = [some (.ref a), some (.ref b), some (.ref t), x, y] ∧ Ex H H' ∧ H' t = some (.lst (T.map V.int)) ∧ T.length = max f.length g.length ∧ ∀ m, m < T.length → coef T m = if m < i then coef f m else 0)
      (fun H2 e2 => ⟨_, none, none, rfl, e1.trans e2, e2 _ _ h1, List.length_replicate, fun m _ => coef_rep⟩) (fun i σ' H' _ hp => ?_) (fun i x σ' H' hx hp H2 e2 => ?_) (fun σ' H' hp => ?_)
    · obtain ⟨_, _, _, _, e3, _⟩ := hp
      exact ex_l e3 hF
    · obtain ⟨T, x', y', rfl, e3, h3, hT, hc⟩ := hp
      obtain ⟨z, hz, rfl⟩ := map_get hx
      have hi := (List.getElem?_eq_some_iff.mp hz).1
      refine s_augL (j := i) (e2 _ _ h3) (by one_place) (by one_place) (coef_get (by omega)) (by one_place) fun H4 e4 => ⟨_, _, _, rfl, Ex.mut ((e3.trans e2).trans e4) nt, upd_same, by rw [List.length_set]; exact hT, fun m hm => ?_⟩
      rw [List.length_set] at hm
      rw [coef_set (by omega), hc m hm, hc i (by omega), if_neg (Nat.lt_irrefl i)]
      by_cases e : m = i
      · subst e
        rw [if_pos rfl, if_pos (by omega), coef_of hz]
        omega
      · rw [if_neg e]
        split <;> split <;> first | rfl | omega
    · obtain ⟨T, x', y', rfl, e3, h3, hT, hc⟩ := hp
      rw [List.length_map] at hc
      refine q_forE (xs := g.map V.int) (by one_place) (ex_l e3 hG) (fun i σ' H' => ∃ (T : List Int) (x y : Option V), σ' = [some (.ref a), some (.ref b), some (.ref t), x, y] ∧ Ex H H' ∧ H' t = some (.lst (T.map V.int)) ∧ T.length = max f.length g.length ∧ ∀ m, m < T.length → coef T m = coef f m + if m < i then coef g m else 0)
        (fun H2 e2 => ⟨_, _, _, rfl, e3.trans e2, e2 _ _ h3, hT, fun m hm => ?_⟩) (fun i σ' H' _ hp => ?_) (fun i x σ' H' hx hp H2 e2 => ?_) (fun σ' H' hp => ?_)
      · rw [hc m hm, if_neg (Nat.not_lt_zero m)]
        split
        · omega
        · rw [coef_ge (by omega)]
          rfl
      · obtain ⟨_, _, _, _, e3, _⟩ := hp
        exact ex_l e3 hG
      · obtain ⟨T, x', y', rfl, e3, h3, hT, hc⟩ := hp
        obtain ⟨z, hz, rfl⟩ := map_get hx
        have hi := (List.getElem?_eq_some_iff.mp hz).1
        refine s_augL (j := i) (e2 _ _ h3) (by one_place) (by one_place) (coef_get (by omega)) (by one_place) fun H4 e4 => ⟨_, _, _, rfl, Ex.mut ((e3.trans e2).trans e4) nt, upd_same, by rw [List.length_set]; exact hT, fun m hm => ?_⟩
        rw [List.length_set] at hm
        rw [coef_set (by omega), hc m hm, hc i (by omega), if_neg (Nat.lt_irrefl i)]
        by_cases e : m = i
        · subst e
          rw [if_pos rfl, if_pos (by omega), coef_of hz]
          omega
        · rw [if_neg e]
          split <;> split <;> first | rfl | omega
      · obtain ⟨T, x', y', rfl, e3, h3, hT, hc⟩ := hp
        rw [List.length_map] at hc
        have eT : T = addL 1 f g := mkL_of hT fun m hm => by
          rw [hc m (by omega)]
          split
          · omega
          · rw [coef_ge (show g.length ≤ m by omega)]
            omega
        refine s_retL (xs := (addP 1 f g).map V.int) (el_cal (by one_place) fun H1 e1 Q k E => ⟨t, T, rfl, SqL.of (e1 _ _ h3), by omega, by rw [eT]; exact k⟩) fun p H4 np e4 hp => q.go e3 np e4 hp
theorem cal_minus (nb : Nb mg) (c_plus : Cal P w K mg base CX0 "plus" 2 ["f", "g"] (spPlus K)) (d : Dfn K mg "minus" ["f", "g"] s_minus) : Cal P w K mg base CX0 "minus" 3 ["f", "g"] (spMinus K) := by
  refine d.cal sc_minus (fun vs H Q E h => ?_) (fun fa cdv A outer s H vs Q E hr h => ?_)
  · obtain ⟨a, b, f, g, rfl, _⟩ := h
    rfl
  · obtain ⟨a, b, f, g, rfl, hF, hG, zf, zg, q⟩ := h
    refine ⟨_, (pss_one (ps_ret (pe_cal c_plus (hr.mono (by first | decide | omega)) (by rfl) pass0 (pa_cons (pv 0) (pa_cons (pe_lc (own := [("number", 2)]) (g := gName 2) (tt := tYes) (by rfl) sc_minus.nd (pi_list (pv 1)) (blkOk_by (N := ["f", "g", "number"]) (sc := defScope s_minus) (by decide +kernel)) (fun _ _ _ _ _ => (pg_name (i := 2) sc_minus.nd rfl (Or.inl rfl))) (fun _ _ _ _ _ => pts_nil) (fun _ _ _ _ _ => (pe_un un_neg (pv 2)))) pa_nil))))), ?_⟩
    have hN : EvL (tLc (iList K (tVar 1)) (gName 2) tYes (tUn (rU fun i => .int (-i)) (tVar 2)) [2]) (L2.start ["f", "g", "number"] [.ref a, .ref b]) H ((g.map fun x => -x).map V.int) :=
      el_is (el_lcI (ns := g) (fun _ => true) (fun x => .int (-x)) (ev_var rfl) hG (by omega) (fun _ => rfl) (fun r H1 e1 _ => et_yes) (fun r H1 e1 _ _ => by one_place)) (by rw [filter_yes, List.map_map]; rfl)
    refine ⟨_, rfl, hN H (Ex.refl H) _ fun p H2 np e2 hp => ⟨a, p, f, g.map (fun x => -x), rfl, ex_l e2 hF, SqL.of hp, zf, by rw [List.length_map]; exact zg, ?_⟩⟩
    rw [addP_neg]
    exact fun r H3 nr e3 hr' => q r H3 (fresh_back e2 nr) (e2.trans e3) hr'
end

/-! ### one polynomial parted by another -/
def Good (g : List Int) : Prop := g ≠ [] ∧ coef g (g.length - 1) = 1
/-- q and r are what is told of f by g -/
structure Ovr (b : Nat) (f g q r : List Int) : Prop where
  tq : Tr q
  tr : Tr r
  lr : r.length < g.length
  lq : q.length ≤ f.length
  bq : Bd b q
  br : Bd b r
  is : ∀ m, coef f m = coef r m + cv q g q.length m
theorem Bd.mono {a b : Nat} {l : List Int} (h : Bd a l) (e : a ≤ b) : Bd b l := fun m => Nat.lt_of_lt_of_le (h m) (Nat.pow_le_pow_right (by decide) e)
/-- behind k turns of T: R is left, h the heads -/
structure OvT (n b T k : Nat) (f g R h : List Int) : Prop where
  lR : R.length = f.length - k
  lh : h.length = k
  kT : k ≤ T
  bR : Bd (n + k * (b + 1)) R
  bh : Bd (n + T * (b + 1)) h
  k0 : k = 0 → R = f
  k1 : 0 < k → coef h 0 = coef f (f.length - 1)
  is : ∀ m, coef f m = coef R m + cv (List.replicate (T - k) 0 ++ h.reverse) g T m
theorem coef_rev {h : List Int} {j : Nat} (hj : j < h.length) : coef h.reverse j = coef h (h.length - 1 - j) := by
  rw [coef_lt (by rw [List.length_reverse]; exact hj), List.getElem_reverse, coef_lt (by omega)]
theorem ovT_zero {n b T : Nat} {f g : List Int} (bf : Bd n f) : OvT n b T 0 f g f [] where
  lR := rfl
  lh := rfl
  kT := Nat.zero_le _
  bR := bf.mono (by omega)
  bh := fun m => by
    rw [coef_nil]
    exact Nat.two_pow_pos _
  k0 := fun _ => rfl
  k1 := fun h => absurd h (Nat.lt_irrefl _)
  is := fun m => by
    rw [cv_none T fun j _ => ?_]
    · omega
    · rw [List.reverse_nil, List.append_nil, coef_rep]
theorem natAbs_sub_lt {x y z : Int} {a b : Nat} (hx : x.natAbs < 2 ^ a) (hy : y.natAbs < 2 ^ a) (hz : z.natAbs < 2 ^ b) : (x - y * z).natAbs < 2 ^ (a + (b + 1)) := by
  have h1 : (x - y * z).natAbs ≤ x.natAbs + y.natAbs * z.natAbs := by
    have := Int.natAbs_sub_le x (y * z)
    rw [Int.natAbs_mul] at this
    exact this
  have h2 : y.natAbs * z.natAbs ≤ 2 ^ a * 2 ^ b := Nat.mul_le_mul (by omega) (by omega)
  have h3 : 2 ^ a * 2 ^ b = 2 ^ (a + b) := (Nat.pow_add 2 a b).symm
  have h4 : 2 ^ (a + (b + 1)) = 2 ^ (a + b) * 2 := by rw [← Nat.add_assoc, Nat.pow_succ]
  have h5 : 2 ^ a ≤ 2 ^ (a + b) := Nat.pow_le_pow_right (by decide) (by omega)
  omega
/-- one turn -/
theorem ovT_step {n b k : Nat} {f g R h R2 : List Int} {x : Int} (bg : Bd b g) (g1 : coef g (g.length - 1) = 1) (g0 : g ≠ []) (hg : g.length ≤ R.length) (o : OvT n b (f.length + 1 - g.length) k f g R h) (hx : coef R (R.length - 1) = x) (l2 : R2.length = R.length - 1)
    (h2 : ∀ m, m < R.length - 1 → coef R2 m = coef R m - if R.length - g.length ≤ m then x * coef g (m - (R.length - g.length)) else 0) : OvT n b (f.length + 1 - g.length) (k + 1) f g R2 (h ++ [x]) := by
  have lg := List.length_pos_iff.mpr g0
  have hR := o.lR
  have hk := o.kT
  have hl := o.lh
  have bx : x.natAbs < 2 ^ (n + k * (b + 1)) := by rw [← hx]; exact o.bR _
  have hs : R.length - g.length = f.length + 1 - g.length - (k + 1) := by omega
  refine ⟨by omega, by rw [List.length_append, List.length_singleton, hl], by omega, fun m => ?_, fun m => ?_, fun q => absurd q (Nat.succ_ne_zero _), fun _ => ?_, fun m => ?_⟩
  · by_cases q : m < R.length - 1
    · rw [h2 m q, Nat.add_mul, Nat.one_mul, ← Nat.add_assoc]
      split
      · exact natAbs_sub_lt (o.bR m) bx (bg _)
      · rw [Int.sub_zero]
        exact Nat.lt_of_lt_of_le (o.bR m) (Nat.pow_le_pow_right (by decide) (by omega))
    · rw [coef_ge (by omega)]
      exact Nat.two_pow_pos _
  · rw [coef_app]
    split
    · exact o.bh m
    · by_cases q : m - h.length = 0
      · rw [q]
        show x.natAbs < _
        refine Nat.lt_of_lt_of_le bx (Nat.pow_le_pow_right (by decide) ?_)
        have : k * (b + 1) ≤ (f.length + 1 - g.length) * (b + 1) := Nat.mul_le_mul_right _ hk
        omega
      · rw [coef_ge (by rw [List.length_singleton]; omega)]
        exact Nat.two_pow_pos _
  · rw [coef_app]
    by_cases q : 0 < k
    · rw [if_pos (by omega)]
      exact o.k1 q
    · rw [if_neg (by omega), hl, show 0 - k = 0 by omega]
      have e := o.k0 (by omega)
      rw [e] at hx
      show x = _
      exact hx.symm
  · -- the new head stands at its place
    have hc := cv_set (a := List.replicate (f.length + 1 - g.length - k) 0 ++ h.reverse) (b := List.replicate (f.length + 1 - g.length - (k + 1)) 0 ++ (h ++ [x]).reverse) (g := g) (m := m) (s := f.length + 1 - g.length - (k + 1)) (x := x)
      (by rw [coef_app, List.length_replicate, if_pos (by omega), coef_rep]) (by rw [coef_app, List.length_replicate, if_neg (Nat.lt_irrefl _), Nat.sub_self, List.reverse_append]; rfl)
      (fun j hj => by
        rw [coef_app, coef_app, List.length_replicate, List.length_replicate, coef_rep, coef_rep]
        by_cases q : j < f.length + 1 - g.length - (k + 1)
        · rw [if_pos q, if_pos (by omega)]
        · rw [if_neg q, if_neg (by omega), List.reverse_append]
          show coef ([x] ++ h.reverse) _ = _
          rw [coef_app, if_neg (by rw [List.length_singleton]; omega), List.length_singleton]
          congr 1
          omega)
      (f.length + 1 - g.length) (by omega)
    rw [hc, o.is m, ← hs]
    by_cases q : m < R.length - 1
    · rw [h2 m q]
      omega
    · rw [coef_ge (show R2.length ≤ m by omega), if_pos (by omega)]
      by_cases e : m = R.length - 1
      · subst e
        rw [hx, show R.length - 1 - (R.length - g.length) = g.length - 1 by omega, g1]
        omega
      · rw [coef_ge (show R.length ≤ m by omega), coef_ge (show g.length ≤ m - (R.length - g.length) by omega)]
        omega
/-- the end -/
theorem ovT_end {n b k : Nat} {f g R h : List Int} (tf : Tr f) (g0 : g ≠ []) (hg : R.length < g.length) (o : OvT n b (f.length + 1 - g.length) k f g R h) : Ovr (n + (f.length + 1 - g.length) * (b + 1)) f g h.reverse (trim R) := by
  have hR := o.lR
  have hk := o.kT
  have hl := o.lh
  have lg := List.length_pos_iff.mpr g0
  have kT : k = f.length + 1 - g.length := by omega
  refine ⟨fun hn => ?_, tr_trim R, ?_, by rw [List.length_reverse]; omega, fun m => ?_, fun m => ?_, fun m => ?_⟩
  · have hp : 0 < h.length := by
      have := List.length_pos_iff.mpr hn
      rw [List.length_reverse] at this
      exact this
    rw [List.length_reverse, coef_rev (by omega), show h.length - 1 - (h.length - 1) = 0 by omega, o.k1 (by omega)]
    exact tf fun e => by
      rw [e, List.length_nil] at kT
      omega
  · rw [trim_len]
    have := tlen_le R R.length
    omega
  · by_cases q : m < h.length
    · rw [coef_rev q]
      exact o.bh _
    · rw [coef_ge (by rw [List.length_reverse]; omega)]
      exact Nat.two_pow_pos _
  · rw [coef_trim]
    have := o.bR m
    rw [kT] at this
    exact this
  · have e := o.is m
    rw [coef_trim, List.length_reverse, hl, kT]
    rw [kT, Nat.sub_self] at e
    exact e

def RetU2 (q r : List Int) (H : Hp) (Q : VK) : Prop := ∀ t a b H1, H t = none → H a = none → H b = none → a ≠ b → Ex H H1 → H1 t = some (.tup [.ref a, .ref b]) → H1 a = some (.lst (q.map V.int)) → H1 b = some (.lst (r.map V.int)) → Q (.ref t) H1
/- over: slots 0 f, 1 g, 2 low, 3 rest, 4 heads, 5 head, 6 start, 7 at, 8 number; calls trimmed -/
abbrev s_over : Stmt := topS 12
theorem sc_over : FnScope ["f", "g", "low", "rest", "heads", "head", "start", "at", "number"] ["f", "g"] (defScope s_over) := ⟨rfl, rfl, rfl, by decide +kernel, rfl, by decide +kernel, by decide +kernel⟩

def spOver (K : PySem.W.Frag) (C : Addr) : Sp := fun vs H Q E => ∃ (a b : Addr) (f g : List Int), vs = [.ref a, .ref b] ∧ SqL K H a (f.map V.int) ∧ SqL K H b (g.map V.int) ∧ f.length ≤ 450 ∧ g.length ≤ 450 ∧ Tr f ∧ Bd 1000 f ∧ Bd 1000 g ∧
  (Good g → ∀ q r, Ovr 460000 f g q r → RetU2 q r H Q) ∧ (¬ Good g → ∀ H1, Ex H H1 → E (.ref C) none H1)
section
variable {P : Program} {w : World} {K : PySem.W.Frag} {mg : Str → Option Value} {base : Heap} {C : Addr}
theorem cal_over (nb : Nb mg) (x_NoPart : OwnX K mg "NoPart" C) (c_trimmed : Cal P w K mg base CX0 "trimmed" 1 ["numbers"] (spTrim K)) (d : Dfn K mg "over" ["f", "g"] s_over) : Cal P w K mg base (L2.CX P w) "over" 2 ["f", "g"] (spOver K C) := by
  refine d.calX sc_over (fun vs H Q E h => ?_) (fun fa cdv A outer s H vs Q E hr h => ?_)
  · obtain ⟨a, b, f, g, rfl, _⟩ := h
    rfl
  · obtain ⟨a, b, f, g, rfl, hF, hG, zf, zg, tf, bf, bg, kG, kB⟩ := h
    refine ⟨_, (pss_cons (ps_if (PW.pt (pw_or (pt_cmpR op_eq (pe_callB call_len_seq (by rfl) nb.len PySem.boot_len (pa_cons (pv 1) pa_nil)) pe_int (nomark _)) (pw_or1 (pt_cmpR op_ne (pe_ix ix_list (pv 1) (pe_un un_neg pe_int) (fun _ _ => rfl)) pe_int (nomark _))))) (pss_one (ps_raise rfl (takes_of rfl rfl rfl rfl) (pmk_of x_NoPart rfl))) pss_nil)
      (pss_cons (ps_set (i := 2) sc_over.nd rfl (.inl rfl) (pe_slice sl_list (pv 1) po_none (po_some (pe_un un_neg pe_int))))
      (pss_cons (ps_set (i := 3) sc_over.nd rfl (.inl rfl) (pe_callTy call_list_of (by rfl) nb.list (by decide +kernel) (pa_cons (pv 0) pa_nil)))
      (pss_cons (ps_set (i := 4) sc_over.nd rfl (.inl rfl) (pe_lst pa_nil))
      (pss_cons (ps_while (passes_of rfl) (pt_cmpR op_ge (pe_callB call_len_seq (by rfl) nb.len PySem.boot_len (pa_cons (pv 3) pa_nil)) (pe_callB call_len_seq (by rfl) nb.len PySem.boot_len (pa_cons (pv 1) pa_nil)) (nomark _)) (pss_cons (ps_set (i := 5) sc_over.nd rfl (.inl rfl) (pe_bm0 PySem.F.plainAttrs_list PySem.F.slot_list_pop PySem.F.type_list_pop mt_pop (pv 3)))
      (pss_cons (ps_expr (pe_bm PySem.F.plainAttrs_list PySem.F.slot_list_append PySem.F.type_list_append mt_append (pv 4) (pa_cons (pv 5) pa_nil)))
      (pss_cons (ps_set (i := 6) sc_over.nd rfl (.inl rfl) (pe_op op_sub (pe_callB call_len_seq (by rfl) nb.len PySem.boot_len (pa_cons (pv 3) pa_nil)) (pe_callB call_len_seq (by rfl) nb.len PySem.boot_len (pa_cons (pv 2) pa_nil))))
      (pss_one (ps_for (passes_of rfl) rfl (pi_enum (by rfl) nb.enumerate (pa_cons (pv 2) pa_nil)) (pg_tup (by rfl) (pgs_cons (pg_name (i := 7) sc_over.nd rfl (.inl rfl)) (pgs_cons (pg_name (i := 8) sc_over.nd rfl (.inl rfl)) pgs_nil))) (pss_one (ps_augS (pv 3) (pe_op op_add (pv 6) (pv 7)) get_list (pe_op op_mulW (pv 5) (pv 8)) ip_sub set_list))))))))
      (pss_cons (ps_expr (pe_bm0 PySem.F.plainAttrs_list PySem.F.slot_list_reverse PySem.F.type_list_reverse mt_reverse (pv 4)))
      (pss_one (ps_ret (pe_tup (pa_cons (pv 4) (pa_cons (pe_cal c_trimmed (hr.mono (by first | decide | omega)) (by rfl) pass0 (pa_cons (pv 3) pa_nil)) pa_nil))))))))))), ?_⟩
    refine q_when (b := decide (((g.length : Nat) : Int) = 0) || !decide (coef g (g.length - 1) = 1)) (et_or (et_test (ev_eqI (ev_is (ev_len (ev_var rfl) hG) (by rw [List.length_map])) ev_c)) fun hb => et_test (ev_neI (ev_op (ev_var rfl) (ev_neg ev_c) (rv_ixL hG (atI_last ?_))) ev_c)) (fun hb H1 e1 => ?_) (fun hb H1 e1 => ?_)
    · have hb := of_decide_eq_false hb
      rw [List.length_map, List.getElem?_map, coef_get (by omega)]
      rfl
    · refine kB (fun hg => ?_) H1 e1
      have lg := List.length_pos_iff.mpr hg.1
      rw [Bool.or_eq_true] at hb
      rcases hb with hb | hb
      · have := of_decide_eq_true hb
        omega
      · rw [decide_eq_true hg.2] at hb
        exact nomatch hb
    · rw [Bool.or_eq_false_iff] at hb
      obtain ⟨hb1, hb2⟩ := hb
      have hb1 := of_decide_eq_false hb1
      have g0 : g ≠ [] := fun e => by
        rw [e] at hb1
        exact hb1 rfl
      have g1 : coef g (g.length - 1) = 1 := by
        rw [Bool.not_eq_false'] at hb2
        exact of_decide_eq_true hb2
      have lg := List.length_pos_iff.mpr g0
      have kG := kG ⟨g0, g1⟩
      clear kB hb1 hb2
      refine q_asgL (xs := (g.take (g.length - 1)).map V.int) (el_is (el_sl (ev_var rfl) eo_none (eo_some (ev_neg ev_c)) (ex_l e1 hG)) ?_) fun pl H2 nl e2 h2 => ?_
      · show cutV _ none (some (-1)) = _
        rw [cut_init, List.length_map, List.map_take]
      refine q_asgL (xs := f.map V.int) (el_list (ev_var rfl) (ex_l (e1.trans e2) hF)) fun pr H3 nr e3 h3 => ?_
      refine q_asgL (xs := ([] : List Int).map V.int) (el_lst ea_nil (by decide)) fun ph H4 nh e4 h4 => ?_
      have a2 := e1.trans e2
      have a3 := a2.trans e3
      have fr : H pr = none := fresh_back a2 nr
      have fh : H ph = none := fresh_back a3 nh
      have fr2 : H2 pr = none := nr
      have fh2 : H2 ph = none := fresh_back e3 nh
      have nrh : pr ≠ ph := ne_of_none h3 nh
      -- the loop: what stands of H2 stands; rest and heads are new
      refine q_while (fun m σ' H' => ∃ (k : Nat) (R h : List Int) (x5 x6 x7 x8 : Option V), σ' = [some (.ref a), some (.ref b), some (.ref pl), some (.ref pr), some (.ref ph), x5, x6, x7, x8] ∧ Ex H2 H' ∧ H' pr = some (.lst (R.map V.int)) ∧ H' ph = some (.lst (h.map V.int)) ∧ OvT 1000 1000 (f.length + 1 - g.length) k f g R h ∧ m = R.length)
        f.length ⟨0, f, [], none, none, none, none, rfl, e3.trans e4, e4 _ _ h3, h4, ovT_zero bf, rfl⟩ fun m σ' H' hW => ?_
      obtain ⟨k, R, h, x5, x6, x7, x8, rfl, e5, hr5, hh5, o, rfl⟩ := hW
      refine ⟨decide (((g.length : Nat) : Int) ≤ ((R.length : Nat) : Int)), et_test (ev_ge (ev_is (ev_len (ev_var rfl) (SqL.of hr5)) (by rw [List.length_map])) (ev_is (ev_len (ev_var rfl) (ex_l (a2.trans e5) hG)) (by rw [List.length_map]))), fun hb H6 e6 => ?_, fun hb H6 e6 => ?_⟩
      · have hgR : g.length ≤ R.length := by
          have := of_decide_eq_true hb
          omega
        have lRf : R.length ≤ f.length := by
          have := o.lR
          omega
        have lh := o.lh
        have kT := o.kT
        refine ⟨_, fun σ2 H2' hN => ⟨R.length - 1, by omega, hN⟩, ?_⟩
        obtain ⟨x, hx⟩ : ∃ x, coef R (R.length - 1) = x := ⟨_, rfl⟩
        have hR : R = R.take (R.length - 1) ++ [x] := by
          refine ext_of (by rw [List.length_append, List.length_take, List.length_singleton]; omega) fun m hm => ?_
          rw [coef_app, List.length_take, coef_take]
          by_cases q : m < R.length - 1
          · rw [if_pos (by omega), if_pos q]
          · rw [if_neg (by omega), show m = R.length - 1 by omega, hx, show R.length - 1 - min (R.length - 1) R.length = 0 by omega]
            rfl
        have hp : H6 pr = some (.lst ((R.take (R.length - 1)).map V.int ++ [V.int x])) := by
          rw [e6 _ _ hr5, ← List.map_singleton, ← List.map_append, ← hR]
        refine q_asgPop hp (ev_var rfl) fun H7 e7 => ?_
        have e57 : Ex H2 (upd H7 pr (.lst ((R.take (R.length - 1)).map V.int))) := Ex.mut ((e5.trans e6).trans e7) fr2
        have h7 : upd H7 pr (.lst ((R.take (R.length - 1)).map V.int)) ph = some (.lst (h.map V.int)) := by
          rw [upd_ne nrh.symm]
          exact e7 _ _ (e6 _ _ hh5)
        have r7 : upd H7 pr (.lst ((R.take (R.length - 1)).map V.int)) pr = some (.lst ((R.take (R.length - 1)).map V.int)) := upd_same
        generalize upd H7 pr (.lst ((R.take (R.length - 1)).map V.int)) = G7 at *
        refine q_app h7 (ev_var rfl) (ev_var rfl) (by rw [List.length_map]; omega) fun H8 e8 => ?_
        have e58 : Ex H2 (upd H8 ph (.lst (h.map V.int ++ [V.int x]))) := Ex.mut (e57.trans e8) fh2
        have r8 : upd H8 ph (.lst (h.map V.int ++ [V.int x])) pr = some (.lst ((R.take (R.length - 1)).map V.int)) := by
          rw [upd_ne nrh]
          exact e8 _ _ r7
        have h8 : upd H8 ph (.lst (h.map V.int ++ [V.int x])) ph = some (.lst ((h ++ [x]).map V.int)) := by
          rw [upd_same, List.map_append]
          rfl
        generalize upd H8 ph (.lst (h.map V.int ++ [V.int x])) = G8 at *
        clear h7 r7 e57
        refine q_asg (v := .int ((R.length - g.length : Nat) : Int)) (ev_is (ev_sub (ev_len (ev_var rfl) (SqL.of r8)) (ev_len (ev_var rfl) (SqL.of (e58 _ _ h2)))) ?_) fun H9 e9 => ?_
        · rw [List.length_map, List.length_map, List.length_take, List.length_take]
          congr 1
          omega
        refine s_forE (xs := (g.take (g.length - 1)).map V.int) (by one_place) (SqL.of ((e58.trans e9) _ _ h2)) (fun i σ' H' => ∃ (R2 : List Int) (y7 y8 : Option V), σ' = [some (.ref a), some (.ref b), some (.ref pl), some (.ref pr), some (.ref ph), some (.int x), some (.int ((R.length - g.length : Nat) : Int)), y7, y8] ∧ Ex H2 H' ∧ H' pr = some (.lst (R2.map V.int)) ∧ H' ph = some (.lst ((h ++ [x]).map V.int)) ∧ R2.length = R.length - 1 ∧ ∀ m, m < R.length - 1 → coef R2 m = coef R m - if R.length - g.length ≤ m ∧ m < R.length - g.length + i then x * coef g (m - (R.length - g.length)) else 0)
          (fun H10 e10 => ⟨R.take (R.length - 1), _, _, rfl, (e58.trans e9).trans e10, (e9.trans e10) _ _ r8, (e9.trans e10) _ _ h8, by rw [List.length_take]; omega, fun m hm => ?_⟩) (fun i σ' H' _ hp => ?_) (fun i z σ' H' hz hp H10 e10 => ?_) (fun σ' H' hp => ?_)
        · rw [coef_take, if_pos hm, if_neg (by omega), Int.sub_zero]
        · obtain ⟨_, _, _, _, e10, _⟩ := hp
          exact SqL.of (e10 _ _ h2)
        · obtain ⟨R2, y7, y8, rfl, e11, r11, h11, l11, c11⟩ := hp
          obtain ⟨z, hy, rfl⟩ := map_get hz
          have hi := (List.getElem?_eq_some_iff.mp hy).1
          rw [List.length_take] at hi
          have hzg : coef g i = z := by
            rw [← coef_of hy, coef_take, if_pos (by omega)]
          have bx : x.natAbs < 2 ^ (1000 + k * (1000 + 1)) := by rw [← hx]; exact o.bR _
          have kb : k * (1000 + 1) ≤ 451 * (1000 + 1) := Nat.mul_le_mul_right _ (by omega)
          refine s_augL (j := R.length - g.length + i) (f := fun i j => i - j) (a := coef R2 (R.length - g.length + i)) (b := x * z) (e10 _ _ r11) (by one_place) (ev_is (by one_place) (by rfl)) (coef_get (by omega)) (ev_mul (ev_var rfl) (ev_var rfl) (mulB bx (by rw [← hzg]; exact bg i) (by omega))) fun H12 e12 => ?_
          refine ⟨R2.set (R.length - g.length + i) (coef R2 (R.length - g.length + i) - x * z), _, _, rfl, Ex.mut ((e11.trans e10).trans e12) fr2, upd_same, ?_, by rw [List.length_set]; exact l11, fun m hm => ?_⟩
          · rw [upd_ne nrh.symm]
            exact e12 _ _ (e10 _ _ h11)
          · rw [coef_set (by omega), c11 m hm, c11 (R.length - g.length + i) (by omega)]
            by_cases e : m = R.length - g.length + i
            · subst e
              rw [if_pos rfl, if_neg (by omega), if_pos (by omega), Nat.add_sub_cancel_left, hzg]
              omega
            · rw [if_neg e]
              split <;> split <;> first | rfl | omega
        · obtain ⟨R2, y7, y8, rfl, e11, r11, h11, l11, c11⟩ := hp
          rw [List.length_map, List.length_take] at c11
          refine ⟨k + 1, R2, h ++ [x], _, _, _, _, rfl, e11, r11, h11, ovT_step bg g1 g0 hgR o hx l11 fun m hm => ?_, l11.symm⟩
          rw [c11 m hm]
          congr 1
          by_cases q : R.length - g.length ≤ m
          · rw [if_pos q, if_pos (by omega)]
          · rw [if_neg q, if_neg (by omega)]
      · have hgR : R.length < g.length := by
          have := of_decide_eq_false hb
          omega
        have lRf : R.length ≤ f.length := by
          have := o.lR
          omega
        refine q_rev (e6 _ _ hh5) (ev_var rfl) fun H7 e7 => ?_
        have e57 : Ex H2 (upd H7 ph (.lst (h.map V.int).reverse)) := Ex.mut ((e5.trans e6).trans e7) fh2
        have r7 : upd H7 ph (.lst (h.map V.int).reverse) pr = some (.lst (R.map V.int)) := by
          rw [upd_ne nrh]
          exact e7 _ _ (e6 _ _ hr5)
        have h7 : upd H7 ph (.lst (h.map V.int).reverse) ph = some (.lst (h.reverse.map V.int)) := by
          rw [upd_same, List.map_reverse]
        generalize upd H7 ph (.lst (h.map V.int).reverse) = G7 at *
        refine s_retVL (ys := (trim R).map V.int) (ev_var rfl) (el_cal (by one_place) fun H8 e8 Q k' E => ⟨pr, R, rfl, SqL.of (e8 _ _ r7), by omega, k'⟩) fun t q H8 nt nq e8 ht hq => ?_
        have ov := ovT_end tf g0 hgR o
        have hT : (f.length + 1 - g.length) * (1000 + 1) ≤ 451 * (1000 + 1) := Nat.mul_le_mul_right _ (by omega)
        exact kG h.reverse (trim R) { ov with bq := ov.bq.mono (by omega), br := ov.br.mono (by omega) } t ph q H8 (fresh_back (a2.trans e57) nt) fh (fresh_back (a2.trans e57) nq) (ne_of_none h7 nq) ((a2.trans e57).trans e8) ht (e8 _ _ h7) hq
end

/- at_power: slots 0 f, 1 k, 2 spread, 3 at, 4 number; calls  -/
abbrev s_at_power : Stmt := topS 13
theorem sc_at_power : FnScope ["f", "k", "spread", "at", "number"] ["f", "k"] (defScope s_at_power) := ⟨rfl, rfl, rfl, by decide +kernel, rfl, by decide +kernel, by decide +kernel⟩

def spAtP (K : PySem.W.Frag) : Sp := fun vs H Q _ => ∃ (a : Addr) (f : List Int) (k : Nat), vs = [.ref a, .int (k : Nat)] ∧ SqL K H a (f.map V.int) ∧ f.length ≤ 500 ∧ 1 ≤ k ∧ k ≤ 1000 ∧ (f.length - 1) * k ≤ 50000 ∧ RetL ((atP f k).map V.int) H Q
section
variable {P : Program} {w : World} {K : PySem.W.Frag} {mg : Str → Option Value} {base : Heap}
theorem cal_atP (nb : Nb mg) (d : Dfn K mg "at_power" ["f", "k"] s_at_power) : Cal P w K mg base CX0 "at_power" 1 ["f", "k"] (spAtP K) := by
  refine d.cal sc_at_power (fun vs H Q E h => ?_) (fun fa cdv A outer s H vs Q E hr h => ?_)
  · obtain ⟨a, f, k, rfl, _⟩ := h
    rfl
  · obtain ⟨a, f, k, rfl, hF, zf, k1, k0, k2, q⟩ := h
    refine ⟨_, (pss_cons (ps_if (pt_cmpR op_eq (pe_callB call_len_seq (by rfl) nb.len PySem.boot_len (pa_cons (pv 0) pa_nil)) pe_int (nomark _)) (pss_one (ps_ret (pe_lst pa_nil))) pss_nil)
      (pss_cons (ps_set (i := 2) sc_at_power.nd rfl (.inl rfl) (pe_op op_rep (pe_lst (pa_cons pe_int pa_nil)) (pe_op op_add (pe_op op_mulW (pe_op op_sub (pe_callB call_len_seq (by rfl) nb.len PySem.boot_len (pa_cons (pv 0) pa_nil)) pe_int) (pv 1)) pe_int)))
      (pss_cons (ps_for PassesOwn.never rfl (pi_enum (by rfl) nb.enumerate (pa_cons (pv 0) pa_nil)) (pg_tup (by rfl) (pgs_cons (pg_name (i := 3) sc_at_power.nd rfl (.inl rfl)) (pgs_cons (pg_name (i := 4) sc_at_power.nd rfl (.inl rfl)) pgs_nil))) (pss_one (ps_asg (pv 4) (pg_sub (pv 2) (pe_op op_mulW (pv 3) (pv 1)) set_list))))
      (pss_one (ps_ret (pv 2)))))), ?_⟩
    refine q_when (b := decide (((f.length : Nat) : Int) = 0)) (et_test (ev_eqI (ev_is (ev_len (ev_var rfl) hF) (by rw [List.length_map])) ev_c)) (fun hb H1 e1 => ?_) (fun hb H1 e1 => ?_)
    · refine s_retL (xs := (atP f k).map V.int) (el_is (el_lst ea_nil (by decide)) ?_) fun p H4 np e4 hp => q.go e1 np e4 hp
      unfold atP
      rw [if_pos (List.eq_nil_of_length_eq_zero (by have := of_decide_eq_true hb; omega))]
      rfl
    · have hb := of_decide_eq_false hb
      have hlk := k2
      have ecast : (((f.length - 1 : Nat) : Int)) * (k : Int) = (((f.length - 1) * k : Nat) : Int) := rfl
      refine q_asgL (xs := (List.replicate ((f.length - 1) * k + 1) (0 : Int)).map V.int) (el_is (el_rep (k := (((f.length - 1) * k + 1 : Nat) : Int)) (el_lst (by one_place) (by decide)) (ev_is (ev_add (ev_mul (ev_sub (ev_is (ev_len (ev_var rfl) (ex_l e1 hF)) (by rw [List.length_map])) ev_c) (ev_var rfl) (mulW (by omega) (by omega))) ev_c) ?_) (by omega) (by omega)) (by rw [List.map_replicate, Int.toNat_natCast])) fun t H2 nt e2 h2 => ?_
      · rw [show ((f.length : Nat) : Int) - 1 = ((f.length - 1 : Nat) : Int) by omega]
        rfl
      refine q_forE (xs := f.map V.int) (by one_place) (ex_l (e1.trans e2) hF) (fun i σ' H' => ∃ (T : List Int) (x y : Option V), σ' = [some (.ref a), some (.int (k : Nat)), some (.ref t), x, y] ∧ Ex H1 H' ∧ H' t = some (.lst (T.map V.int)) ∧ T.length = (f.length - 1) * k + 1 ∧ ∀ m, m < T.length → coef T m = if m % k = 0 ∧ m / k < i then coef f (m / k) else 0)
        (fun H3 e3 => ⟨_, none, none, rfl, e2.trans e3, e3 _ _ h2, List.length_replicate, fun m _ => ?_⟩) (fun i σ' H' _ hp => ?_) (fun i x σ' H' hx hp H3 e3 => ?_) (fun σ' H' hp => ?_)
      · rw [coef_rep, if_neg fun h => Nat.not_lt_zero _ h.2]
      · obtain ⟨_, _, _, _, e3, _⟩ := hp
        exact ex_l (e1.trans e3) hF
      · obtain ⟨T, x1, x2, rfl, e4, h4, hT, hc⟩ := hp
        obtain ⟨z, hz, rfl⟩ := map_get hx
        have hi := (List.getElem?_eq_some_iff.mp hz).1
        have hik : i * k ≤ (f.length - 1) * k := Nat.mul_le_mul_right k (by omega)
        refine s_setI (j := i * k) (b := z) (e3 _ _ h4) (by one_place) (ev_is (by one_place) (by rfl)) (by omega) (by one_place) fun H5 e5 => ⟨_, _, _, rfl, Ex.mut ((e4.trans e3).trans e5) nt, upd_same, by rw [List.length_set]; exact hT, fun m hm => ?_⟩
        rw [List.length_set] at hm
        rw [coef_set (by omega), hc m hm]
        by_cases e : m = i * k
        · subst e
          rw [if_pos rfl, Nat.mul_mod_left, Nat.mul_div_cancel _ (by omega), if_pos ⟨rfl, Nat.lt_succ_self i⟩, coef_of hz]
        · rw [if_neg e]
          have e2 : ¬ (m % k = 0 ∧ m / k = i) := fun ⟨p1, p2⟩ => e (by
            have := Nat.div_add_mod m k
            rw [p1, p2, Nat.add_zero, Nat.mul_comm] at this
            exact this.symm)
          split <;> split <;> first | rfl | omega
      · obtain ⟨T, x1, x2, rfl, e4, h4, hT, hc⟩ := hp
        rw [List.length_map] at hc
        refine s_ret (v := .ref t) (by one_place) fun H5 e5 => q t H5 (fresh_back e1 nt) (e1.trans (e4.trans e5)) ?_
        rw [e5 _ _ h4]
        unfold atP
        rw [if_neg (by
          intro h
          rw [h] at hb
          exact hb rfl), mkL_of hT fun m hm => ?_]
        rw [hc m (by omega)]
        unfold pw
        by_cases e : m % k = 0
        · rw [if_pos e]
          split
          · rfl
          · rw [coef_ge (show f.length ≤ m / k by omega)]
        · rw [if_neg e, if_neg (by omega)]
end

/- parted: slots 0 n, 1 rows, 2 left, 3 p, 4 times; calls  -/
abbrev s_parted : Stmt := topS 7
theorem sc_parted : FnScope ["n", "rows", "left", "p", "times"] ["n"] (defScope s_parted) := ⟨rfl, rfl, rfl, by decide +kernel, rfl, by decide +kernel, by decide +kernel⟩

def spParted (K : PySem.W.Frag) : Sp := fun vs H Q _ => ∃ n : Int, vs = [.int n] ∧ 1 ≤ n ∧ n ≤ 1000000000 ∧ RetP K (partedF n) H Q
section
variable {P : Program} {w : World} {K : PySem.W.Frag} {mg : Str → Option Value} {base : Heap}
theorem cal_parted (nb : Nb mg) (d : Dfn K mg "parted" ["n"] s_parted) : Cal P w K mg base CX0 "parted" 1 ["n"] (spParted K) := by
  refine d.cal sc_parted (fun vs H Q E h => ?_) (fun f cdv A outer s H vs Q E hr h => ?_)
  · obtain ⟨a, rfl, _⟩ := h
    rfl
  · obtain ⟨n, rfl, n1, n2, q⟩ := h
    refine ⟨_, (pss_cons (ps_set (i := 1) sc_parted.nd rfl (.inl rfl) (pe_lst pa_nil))
      (pss_cons (ps_set (i := 2) sc_parted.nd rfl (.inl rfl) (pv 0))
      (pss_cons (ps_set (i := 3) sc_parted.nd rfl (.inl rfl) pe_int)
      (pss_cons (ps_while PassesOwn.never (pt_cmpR op_le (pe_op op_mulW (pv 3) (pv 3)) (pv 2) (nomark _)) (pss_cons (ps_set (i := 4) sc_parted.nd rfl (.inl rfl) pe_int)
      (pss_cons (ps_while PassesOwn.never (pt_cmpR op_eq (pe_op op_mod (pv 2) (pv 3)) pe_int (nomark _)) (pss_cons (ps_aug (i := 2) sc_parted.nd rfl (.inl rfl) (pv 3) (pip_of iop_fdivW))
      (pss_one (ps_aug (i := 4) sc_parted.nd rfl (.inl rfl) pe_int ip_add))))
      (pss_cons (ps_if (pt_cmpR op_gt (pv 4) pe_int (nomark _)) (pss_one (ps_expr (pe_bm PySem.F.plainAttrs_list PySem.F.slot_list_append PySem.F.type_list_append mt_append (pv 1) (pa_cons (pe_tup (pa_cons (pv 3) (pa_cons (pv 4) pa_nil))) pa_nil)))) pss_nil)
      (pss_one (ps_aug (i := 3) sc_parted.nd rfl (.inl rfl) pe_int ip_add))))))
      (pss_cons (ps_if (pt_cmpR op_gt (pv 2) pe_int (nomark _)) (pss_one (ps_expr (pe_bm PySem.F.plainAttrs_list PySem.F.slot_list_append PySem.F.type_list_append mt_append (pv 1) (pa_cons (pe_tup (pa_cons (pv 2) (pa_cons pe_int pa_nil))) pa_nil)))) pss_nil)
      (pss_one (ps_ret (pv 1)))))))), ?_⟩
    refine q_asgL (xs := []) (el_lst ea_nil (by decide)) fun a H1 ha e1 h1 => ?_
    refine q_asg (v := .int n) (by one_place) fun H2 e2 => ?_
    refine q_asg (v := .int 2) (by one_place) fun H3 e3 => ?_
    refine q_while (fun m σ' H' => ∃ (p l : Int) (rows : List (Int × Int)) (xs : List V) (x : Option V), σ' = [some (.int n), some (.ref a), some (.int l), some (.int p), x] ∧ 2 ≤ p ∧ p ≤ 40000 ∧ 0 < l ∧ l ≤ n ∧ l < p + m ∧
      pLoop m p l rows = pLoop n.toNat 2 n [] ∧ Ex H H' ∧ H' a = some (.lst xs) ∧ Prs K H' xs rows ∧ (rows.length : Int) + 2 ≤ p) n.toNat
      ⟨2, n, [], [], none, rfl, by omega, by omega, by omega, by omega, by omega, rfl, (e1.trans e2).trans e3, e3 _ _ (e2 _ _ h1), .nil, by decide⟩ fun m σ' H' hW => ?_
    obtain ⟨p, l, rows, xs, x, rfl, p1, p2, l1, l2, lm, eL, e4, h4, pr, hlen⟩ := hW
    refine ⟨decide (p * p ≤ l), by one_place, fun hb H5 e5 => ?_, fun hb H5 e5 => ?_⟩
    · have hpp := of_decide_eq_true hb
      have hp3 := sq_le hpp (by omega)
      cases m with
      | zero =>
        have : 2 * p ≤ p * p := Int.mul_le_mul_of_nonneg_right p1 (by omega)
        omega
      | succ m =>
        rw [pLoop_go hpp] at eL
        refine ⟨_, fun σ2 H2 hN => ⟨m, Nat.lt_succ_self m, hN⟩, ?_⟩
        refine q_asg (v := .int 0) (by one_place) fun H6 e6 => ?_
        refine q_while (fun k σ' H' => ∃ u t : Int, σ' = [some (.int n), some (.ref a), some (.int u), some (.int p), some (.int t)] ∧ 0 < u ∧ u ≤ l ∧ u < 2 ^ k ∧ strip p k u t = strip p 64 l 0 ∧ Ex H6 H') 64
          ⟨l, 0, rfl, l1, Int.le_refl _, by omega, rfl, Ex.refl _⟩ fun k σ' H' hW => ?_
        obtain ⟨u, t, rfl, u1, u2, uk, eS, e7⟩ := hW
        refine ⟨decide (u % p = 0), by one_place, fun hb H8 e8 => ?_, fun hb H8 e8 => ?_⟩
        · have hd := of_decide_eq_true hb
          cases k with
          | zero =>
            rw [Int.pow_zero] at uk
            omega
          | succ k =>
            obtain ⟨v1, v2, v3⟩ := half_lt p1 u1 uk hd
            rw [strip_go hd] at eS
            refine ⟨_, fun σ2 H2 hN => ⟨k, Nat.lt_succ_self k, hN⟩, ?_⟩
            refine ⟨.int u, rfl, .int p, rfl, u, p, rfl, rfl, divW (by omega) (by omega), ?_⟩
            refine s_aug (a := t) (b := 1) rfl (by one_place) fun H10 e10 => ?_
            exact ⟨u / p, t + 1, rfl, v1, by omega, v2, eS, (e7.trans e8).trans e10⟩
        · have hd := of_decide_eq_false hb
          rw [strip_stop hd] at eS
          rw [← eS] at eL
          have h8 := e8 _ _ (e7 _ _ (e6 _ _ (e5 _ _ h4)))
          have e68 := e6.trans (e7.trans e8)
          have pr8 := pr.mono (e5.trans e68)
          refine q_when (b := decide (0 < t)) (by one_place) (fun hb H9 e9 => ?_) (fun hb H9 e9 => ?_)
          · have ht := of_decide_eq_true hb
            rw [if_pos ht] at eL
            refine s_appU (ys := [.int p, .int t]) (e9 _ _ h8) (by one_place) (eu_tup (by one_place) (by show 2 ≤ 100000; decide)) (by rw [Paired.length pr]; omega) fun tp H10 htp e10 h10 => ?_
            have h10a := e10 _ _ (e9 _ _ h8)
            refine s_aug (a := p) (b := 1) rfl (by one_place) fun H11 e11 => ?_
            refine ⟨p + 1, u, rows ++ [(p, t)], xs ++ [.ref tp], _, rfl, by omega, by omega, u1, by omega, by omega, eL, ?_, e11 _ _ upd_same, ?_, ?_⟩
            · exact (Ex.mut (((e4.trans e5).trans e68).trans (e9.trans e10)) ha).trans e11
            · exact (((pr8.mono (e9.trans e10)).upd h10a).snoc (sqt_upd h10a (SqT.of h10))).mono e11
            · rw [List.length_append, List.length_singleton]
              omega
          · have ht := of_decide_eq_false hb
            rw [if_neg ht] at eL
            refine s_aug (a := p) (b := 1) rfl (by one_place) fun H11 e11 => ?_
            exact ⟨p + 1, u, rows, xs, _, rfl, by omega, by omega, u1, by omega, by omega, eL, ((e4.trans e5).trans e68).trans (e9.trans e11), e11 _ _ (e9 _ _ h8), pr8.mono (e9.trans e11), by omega⟩
    · have hpp := of_decide_eq_false hb
      rw [pLoop_stop hpp] at eL
      refine q_when (b := decide (1 < l)) (by one_place) (fun hb H6 e6 => ?_) (fun hb H6 e6 => ?_)
      · have hl := of_decide_eq_true hb
        refine s_appU (ys := [.int l, .int 1]) (e6 _ _ (e5 _ _ h4)) (by one_place) (eu_tup (by one_place) (by show 2 ≤ 100000; decide)) (by rw [Paired.length pr]; omega) fun tp H10 htp e10 h10 => ?_
        have h10a := e10 _ _ (e6 _ _ (e5 _ _ h4))
        show tRet (tVar 1) _ _ _
        refine s_ret (v := .ref a) (by one_place) fun H11 e11 => ?_
        refine q a (xs ++ [.ref tp]) H11 ha ((Ex.mut (((e4.trans e5).trans e6).trans e10) ha).trans e11) (e11 _ _ upd_same) ?_
        unfold partedF
        rw [← eL, if_pos hl]
        exact (((pr.mono ((e5.trans e6).trans e10)).upd h10a).snoc (sqt_upd h10a (SqT.of h10))).mono e11
      · have hl := of_decide_eq_false hb
        refine s_ret (v := .ref a) (by one_place) fun H11 e11 => ?_
        refine q a xs H11 ha (((e4.trans e5).trans e6).trans e11) (e11 _ _ (e6 _ _ (e5 _ _ h4))) ?_
        unfold partedF
        rw [← eL, if_neg hl]
        exact pr.mono ((e5.trans e6).trans e11)
end

/-! ### root polynomials -/
theorem cv_more {q g : List Int} {m : Nat} : ∀ {N : Nat}, q.length ≤ N → cv q g N m = cv q g q.length m
  | N, h => by
    induction N with
    | zero =>
      have : q.length = 0 := by omega
      rw [this]
    | succ N ih =>
      by_cases e : q.length = N + 1
      · rw [e]
      · rw [cv, ih (by omega), coef_ge (show q.length ≤ N by omega), Int.zero_mul]
        split <;> omega
theorem cv_tail {a b g : List Int} {i m : Nat} : ∀ {N : Nat}, i ≤ N → (∀ j, i ≤ j → coef a j = coef b j) → cv a g N m - cv a g i m = cv b g N m - cv b g i m
  | N, h, e => by
    induction N with
    | zero =>
      have : i = 0 := by omega
      subst this
      omega
    | succ N ih =>
      by_cases q : i = N + 1
      · subst q
        omega
      · have := ih (by omega)
        rw [cv, cv, e N (by omega)]
        omega
theorem ovr_uniq {b : Nat} {f g q r q0 : List Int} (o : Ovr b f g q r) (hg : Good g) (t0 : Tr q0) (e : ∀ m, coef f m = cv q0 g q0.length m) : q = q0 ∧ r = [] := by
  obtain ⟨g0, g1⟩ := hg
  have lg := List.length_pos_iff.mpr g0
  have key : ∀ k i : Nat, max q.length q0.length ≤ i + k → coef q i = coef q0 i := by
    intro k
    induction k with
    | zero =>
      intro i hi
      rw [coef_ge (show q.length ≤ i by omega), coef_ge (show q0.length ≤ i by omega)]
    | succ k ih =>
      intro i hi
      have hr : coef r (i + (g.length - 1)) = 0 := coef_ge (by have := o.lr; omega)
      have e1 := o.is (i + (g.length - 1))
      rw [hr, e, Int.zero_add] at e1
      have e2 := cv_tail (a := q) (b := q0) (g := g) (i := i + 1) (m := i + (g.length - 1)) (N := max (i + 1) (max q.length q0.length)) (by omega) fun j hj => ih j (by omega)
      rw [cv_more (q := q) (by omega), cv_more (q := q0) (by omega)] at e2
      have e3 : cv q g (i + 1) (i + (g.length - 1)) = coef q i := by
        rw [cv, cv_far _ _ _ i (by omega), if_pos (by omega), Nat.add_sub_cancel_left, g1]
        omega
      have e4 : cv q0 g (i + 1) (i + (g.length - 1)) = coef q0 i := by
        rw [cv, cv_far _ _ _ i (by omega), if_pos (by omega), Nat.add_sub_cancel_left, g1]
        omega
      rw [e3, e4] at e2
      omega
  have hq : q = q0 := tr_uniq o.tq t0 fun m => key (max q.length q0.length) m (by omega)
  refine ⟨hq, tr_uniq o.tr Tr.nil fun m => ?_⟩
  have := o.is m
  rw [e, hq] at this
  rw [coef_nil]
  omega
theorem bd_of_l1 {f : List Int} (h : l1 f < BB) : Bd 256 f := fun m => Nat.lt_of_le_of_lt (coef_l1 f m) h
/-- parted with nothing left -/
def spOverX (K : PySem.W.Frag) : Sp := fun vs H Q _ => ∃ (a b : Addr) (q g : List Int), vs = [.ref a, .ref b] ∧ SqL K H a ((mulK q g).map V.int) ∧ SqL K H b (g.map V.int) ∧ (mulK q g).length ≤ 450 ∧ g.length ≤ 450 ∧ Tr q ∧ Tr (mulK q g) ∧ Bd 1000 (mulK q g) ∧ Bd 1000 g ∧ Good g ∧ RetU2 q [] H Q
theorem overX_of {K : PySem.W.Frag} {C : Addr} {vs : List V} {H : Hp} {Q : VK} {E : XK} (h : spOverX K vs H Q E) : spOver K C vs H Q (fun _ _ _ => False) := by
  obtain ⟨a, b, q, g, rfl, h1, h2, l1, l2, tq, tf, bf, bg, hg, k⟩ := h
  refine ⟨a, b, mulK q g, g, rfl, h1, h2, l1, l2, tf, bf, bg, fun _ q' r o => ?_, fun n => absurd hg n⟩
  obtain ⟨rfl, rfl⟩ := ovr_uniq o hg tq (fun m => coef_mulK q g m)
  exact k
section
variable {σ : L2.St} {H : Hp} {ta : TA} {K : PySem.W.Frag} {E : XK} {i : Nat} {tz : TS} {D : Ends}
/-- x = over(..)[0] -/
theorem q_asgOv0 {te tf : TE} {q g : List Int} {b : Addr} (h1 : EvL te σ H ((mulK q g).map V.int)) (hb : Ev tf σ H (.ref b)) (h2 : SqL K H b (g.map V.int)) (l1 : (mulK q g).length ≤ 450) (l2 : g.length ≤ 450) (tq : Tr q) (tf' : Tr (mulK q g)) (bf : Bd 1000 (mulK q g)) (bg : Bd 1000 g) (hg : Good g)
    (k : ∀ p H1, H p = none → Ex H H1 → H1 p = some (.lst (q.map V.int)) → tz D (σ.set i (some (.ref p))) H1) : tSeq (tAsg (tOp (rIxT K) (tCall (spOverX K) [] E (tCons te (tCons tf tNil))) (tC (.int 0))) (gName i)) tz D σ H :=
  h1 H (Ex.refl H) _ fun a H1 na e1 ha => hb H1 e1 _ fun H2 e2 => by
    refine ⟨a, b, q, g, rfl, SqL.of (e2 _ _ ha), ex_l (e1.trans e2) h2, l1, l2, tq, tf', bf, bg, hg, fun t p1 p2 H3 nt n1 n2 _ e3 ht h1 h2 => ?_⟩
    exact ⟨t, _, 0, .ref p1, rfl, rfl, SqT.of ht, atI_nat (j := 0) rfl, k p1 H3 (fresh_back (e1.trans e2) n1) ((e1.trans e2).trans e3) h1⟩
end
/- root_poly: slots 0 n, 1 f, 2 left, 3 p, 4 _; calls parted, over, at_power -/
abbrev s_root_poly : Stmt := topS 15
theorem sc_root_poly : FnScope ["n", "f", "left", "p", "_"] ["n"] (defScope s_root_poly) := ⟨rfl, rfl, rfl, by decide +kernel, rfl, by decide +kernel, by decide +kernel⟩

def spRoot : Sp := fun vs H Q _ => ∃ n : Nat, vs = [.int (n : Nat)] ∧ 1 ≤ n ∧ n ≤ 420 ∧ RetL ((phi n).map V.int) H Q
section
variable {P : Program} {w : World} {K : PySem.W.Frag} {mg : Str → Option Value} {base : Heap}
theorem cal_root (nb : Nb mg) (c_parted : Cal P w K mg base CX0 "parted" 1 ["n"] (spParted K)) (c_over : Cal P w K mg base CX0 "over" 2 ["f", "g"] (spOverX K)) (c_at_power : Cal P w K mg base CX0 "at_power" 1 ["f", "k"] (spAtP K)) (d : Dfn K mg "root_poly" ["n"] s_root_poly) : Cal P w K mg base CX0 "root_poly" 3 ["n"] spRoot := by
  refine d.cal sc_root_poly (fun vs H Q E h => ?_) (fun fa cdv A outer s H vs Q E hr h => ?_)
  · obtain ⟨n, rfl, _⟩ := h
    rfl
  · obtain ⟨n, rfl, n1, n2, q⟩ := h
    refine ⟨_, (pss_cons (ps_set (i := 1) sc_root_poly.nd rfl (.inl rfl) (pe_lst (pa_cons (pe_un un_neg pe_int) (pa_cons pe_int pa_nil))))
      (pss_cons (ps_set (i := 2) sc_root_poly.nd rfl (.inl rfl) (pv 0))
      (pss_cons (ps_for PassesOwn.never rfl (pi_list (pe_cal c_parted (hr.mono (by first | decide | omega)) (by rfl) pass0 (pa_cons (pv 0) pa_nil))) (pg_tup (by rfl) (pgs_cons (pg_name (i := 3) sc_root_poly.nd rfl (.inl rfl)) (pgs_cons (pg_name (i := 4) sc_root_poly.nd rfl (.inl rfl)) pgs_nil))) (pss_cons (ps_set (i := 1) sc_root_poly.nd rfl (.inl rfl) (pe_ix ix_tup (pe_cal c_over (hr.mono (by first | decide | omega)) (by rfl) pass0 (pa_cons (pe_cal c_at_power (hr.mono (by first | decide | omega)) (by rfl) pass0 (pa_cons (pv 1) (pa_cons (pv 3) pa_nil))) (pa_cons (pv 1) pa_nil))) pe_int (fun _ _ => rfl)))
      (pss_one (ps_aug (i := 2) sc_root_poly.nd rfl (.inl rfl) (pv 3) (pip_of iop_fdivW)))))
      (pss_one (ps_ret (pe_cal c_at_power (hr.mono (by first | decide | omega)) (by rfl) pass0 (pa_cons (pv 1) (pa_cons (pv 2) pa_nil)))))))), ?_⟩
    refine q_asgL (xs := ([-1, 1] : List Int).map V.int) (el_lst (by one_place) (by show 2 ≤ 100000; decide)) fun f0 H1 nf e1 h1 => ?_
    refine q_asg (v := .int (n : Nat)) (by one_place) fun H2 e2 => ?_
    refine q_forP (rows := partedF n) (ep_cal (by one_place) fun H3 e3 Q k E => ⟨n, rfl, by omega, by omega, k⟩) (fun H0 i σ' H' => ∃ (f : Addr) (F : List Int) (l : Nat) (x y : Option V), σ' = [some (.int (n : Nat)), some (.ref f), some (.int (l : Nat)), x, y] ∧ Ex H H' ∧ Ex H0 H' ∧ H' f = some (.lst (F.map V.int)) ∧ StP ((partedF n).drop i) F ∧ ((partedF n).drop i).foldl (fun f r => stepF f r.1.toNat) F = GF n ∧ ((partedF n).drop i).foldl (fun l r => l / r.1.toNat) l = LF n)
      (fun H3 e3 => ⟨f0, _, n, none, none, rfl, (e1.trans e2).trans e3, Ex.refl _, e3 _ _ (e2 _ _ h1), stP0 n1 n2, rfl, rfl⟩) (fun H0 i σ' H' hp => ?_) (fun H0 i r σ' H' e0 hr hp => ?_) (fun H0 σ' H' e0 hp => ?_)
    · obtain ⟨_, _, _, _, _, _, _, e, _⟩ := hp
      exact e
    · obtain ⟨f, F, l, x, y, rfl, e3, e4, h4, st, eF, eL⟩ := hp
      have hi := (List.getElem?_eq_some_iff.mp hr).1
      have hri : (partedF n)[i] = r := (List.getElem?_eq_some_iff.mp hr).2
      obtain ⟨r2, r3⟩ := rows_bd n1 n2 (List.mem_of_getElem? hr)
      have ed : (partedF n).drop i = r :: (partedF n).drop (i + 1) := by rw [List.drop_eq_getElem_cons hi, hri]
      rw [ed] at st eF eL
      obtain ⟨c1, c2, c3, c4, c5, c6, c7⟩ := chk_step st.chk st.mon
      have st2 := st.step r2
      have er : r.1 = ((r.1.toNat : Nat) : Int) := by omega
      have la : (atP F r.1.toNat).length = (F.length - 1) * r.1.toNat + 1 := atP_len st.mon.ne
      have lF := st.len
      refine q_asgOv0 (q := stepF F r.1.toNat) (g := F) (b := f) (el_cal (vs := [.ref f, .int ((r.1.toNat : Nat) : Int)]) (ea_cons (by one_place) (ea_cons (ev_is (ev_var rfl) (by rw [← er])) ea_nil)) fun H5 e5 Q k E => ⟨f, F, r.1.toNat, rfl, SqL.of (e5 _ _ h4), by omega, by omega, by omega, by omega, by rw [← c3]; exact k⟩) (by one_place) (SqL.of h4) (by rw [c3]; omega) (by omega) st2.mon.tr (by rw [c3]; exact (st.mon.atP (by omega)).tr) (by rw [c3]; exact (bd_of_l1 (Nat.lt_of_le_of_lt (atP_l1 (by omega) st.mon.tr) st.bd)).mono (by decide)) ((bd_of_l1 st.bd).mono (by decide)) ⟨st.mon.ne, st.mon.one⟩ fun p H5 np e5 h5 => ?_
      refine ⟨.int (l : Nat), rfl, .int r.1, rfl, (l : Nat), r.1, rfl, rfl, divW (by omega) (by omega), ?_⟩
      refine ⟨p, _, l / r.1.toNat, some (.int r.1), some (.int r.2), ?_, e3.trans e5, e4.trans e5, h5, st2, eF, eL⟩
      have : ((l : Nat) : Int) / r.1 = ((l / r.1.toNat : Nat) : Int) := by rw [Int.natCast_ediv, ← er]
      show [some (V.int (n : Nat)), some (V.ref p), some (V.int (((l : Nat) : Int) / r.1)), some (.int r.1), some (.int r.2)] = _
      rw [this]
    · obtain ⟨f, F, l, x, y, rfl, e3, e4, h4, st, eF, eL⟩ := hp
      rw [List.drop_length] at st eF eL
      have eF : F = GF n := eF
      have eL : l = LF n := eL
      subst eF eL
      have a1 := LF_pos n1 n2
      have a2 := LF_le n
      have a3 := st.len
      refine s_retL (xs := (phi n).map V.int) (el_cal (by one_place) fun H5 e5 Q k E => ⟨f, GF n, LF n, rfl, SqL.of (e5 _ _ h4), by omega, a1, by omega, ?_, k⟩) fun p H5 np e5 hp => q.go e3 np e5 hp
      have a4 := phi_len n1 n2
      have a5 := phi_le n1 n2
      omega
end

/-! ### cosine polynomials, of the program -/
def chkDb (i : Nat) : Bool := decide ((dbS i).1.length ≤ 60 ∧ (dbS i).2.length ≤ 60) && ((dbS i).2.all fun x => decide (x.natAbs < 2 ^ 200))
theorem chkDb_all : ((List.range 40).all chkDb) = true := by decide +kernel
theorem db_at {i : Nat} (h : i < 40) : (dbS i).1.length ≤ 60 ∧ (dbS i).2.length ≤ 60 ∧ ∀ x ∈ (dbS i).2, x.natAbs < 2 ^ 200 := by
  have t := List.all_eq_true.mp chkDb_all i (List.mem_range.mpr h)
  unfold chkDb at t
  rw [Bool.and_eq_true] at t
  exact ⟨(of_decide_eq_true t.1).1, (of_decide_eq_true t.1).2, fun x hx => of_decide_eq_true (List.all_eq_true.mp t.2 x hx)⟩
theorem addP_le (c : Int) (f g : List Int) : (addP c f g).length ≤ max f.length g.length := by
  unfold addP trim addL
  rw [List.length_take, mkL_len]
  omega
def fdI (f : List Int) (i : Nat) : List Int × List Int × List Int := ((f.drop (f.length / 2 + 1)).take i).foldl fdS ([coef f (f.length / 2)], [2], [0, 1])
theorem fdI_step {f : List Int} {i : Nat} {c : Int} (h : (f.drop (f.length / 2 + 1))[i]? = some c) : fdI f (i + 1) = fdS (fdI f i) c := by
  unfold fdI
  rw [List.take_add_one, h]
  show ((((f.drop (f.length / 2 + 1)).take i) ++ [c]).foldl fdS _) = _
  rw [List.foldl_append]
  rfl
theorem fdI_db (f : List Int) : ∀ i, i ≤ (f.drop (f.length / 2 + 1)).length → (fdI f i).2 = dbS i
  | 0, _ => by
    unfold fdI
    rw [List.take_zero]
    rfl
  | i + 1, h => by
    have ih := fdI_db f i (by omega)
    rw [fdI_step (List.getElem?_eq_getElem (by omega))]
    show ((fdI f i).2.2, nxD (fdI f i).2.2 (fdI f i).2.1) = _
    rw [ih]
    rfl
theorem fdI_le (f : List Int) : ∀ i, i ≤ (f.drop (f.length / 2 + 1)).length → i ≤ 39 → (fdI f i).1.length ≤ 60
  | 0, _, _ => by
    unfold fdI
    rw [List.take_zero]
    exact (by decide : 1 ≤ 60)
  | i + 1, h, l => by
    have ih := fdI_le f i (by omega) (by omega)
    have db := fdI_db f i (by omega)
    have b := db_at (i := i) (by omega)
    rw [fdI_step (List.getElem?_eq_getElem (by omega))]
    show (addP 1 (fdI f i).1 ((fdI f i).2.2.map fun x => _ * x)).length ≤ _
    refine Nat.le_trans (addP_le _ _ _) ?_
    rw [List.length_map, db]
    omega
theorem cut_drop62 (xs : List V) (m : Nat) : cutV xs (some (m : Int)) none = xs.drop m := by
  have e : HT.sIx xs.length 0 (some (m : Int)) = min m xs.length := by
    unfold HT.sIx
    simp
    omega
  have e2 : HT.sIx xs.length xs.length none = xs.length := by
    unfold HT.sIx
    rfl
  unfold cutV
  rw [e, e2]
  by_cases c : m ≤ xs.length
  · rw [Nat.min_eq_left c, List.take_of_length_le (by rw [List.length_drop]; exact Nat.le_refl _)]
  · rw [Nat.min_eq_right (by omega), List.drop_of_length_le (Nat.le_refl _), List.drop_of_length_le (by omega), List.take_nil]
section
variable {σ : L2.St} {H : Hp} {t1 t2 : TE} {D : Ends} {x : V} {ys : List V} {i j : Nat}
theorem el_cat62 {l : Addr} {xs : List V} (ha : EvL t1 σ H xs) (hb : ∀ H1, Ex H H1 → Ev t2 σ H1 (.ref l)) (hl : H l = some (.lst ys)) (hz : xs.length + ys.length ≤ 100000) : EvL (tOp rCat t1 t2) σ H (xs ++ ys) := fun H1 e Q q =>
  ha H1 e _ fun p H2 np e2 hp => hb H2 (e.trans e2) H2 (Ex.refl H2) _ fun H3 e3 => ⟨p, l, xs, ys, rfl, rfl, e3 p _ hp, (e.trans (e2.trans e3)) _ _ hl, sz_of hz, fun l hl => q l _ (fresh_back (e2.trans e3) hl) ((e2.trans e3).trans (Ex.new hl)) upd_same⟩
theorem s_parVL (h1 : Ev t1 σ H x) (h2 : ∀ H1, Ex H H1 → EvL t2 σ H1 ys) (k : ∀ p H1, H p = none → Ex H H1 → H1 p = some (.lst ys) → D.nx ((σ.set i (some x)).set j (some (.ref p))) H1) : tPar i j (tCons t1 (tCons t2 tNil)) D σ H :=
  h1 H (Ex.refl H) _ fun H1 e1 => h2 H1 e1 H1 (Ex.refl H1) _ fun p H2 np e2 hp => ⟨x, .ref p, rfl, k p H2 (fresh_back e1 np) (e1.trans e2) hp⟩
end
/- next_doubled: slots 0 here, 1 last; calls minus -/
abbrev s_next_doubled : Stmt := topS 17
theorem sc_next_doubled : FnScope ["here", "last"] ["here", "last"] (defScope s_next_doubled) := ⟨rfl, rfl, rfl, by decide +kernel, rfl, by decide +kernel, by decide +kernel⟩

def spNx : Sp := fun vs H Q _ => ∃ (a b : Addr) (f g : List Int), vs = [.ref a, .ref b] ∧ H a = some (.lst (f.map V.int)) ∧ H b = some (.lst (g.map V.int)) ∧ f.length ≤ 1000 ∧ g.length ≤ 1000 ∧ RetL ((nxD f g).map V.int) H Q
section
variable {P : Program} {w : World} {K : PySem.W.Frag} {mg : Str → Option Value} {base : Heap} {C : Addr}
theorem cal_nx62 {l : Nat} (nb : Nb mg) (c_minus : Cal P w K mg base CX0 "minus" l ["f", "g"] (spMinus K)) (d : Dfn K mg "next_doubled" ["here", "last"] s_next_doubled) : Cal P w K mg base CX0 "next_doubled" (l + 1) ["here", "last"] spNx := by
  refine d.cal sc_next_doubled (fun vs H Q E h => ?_) (fun fa cdv A outer s H vs Q E hr h => ?_)
  · obtain ⟨a, b, f, g, rfl, _⟩ := h
    rfl
  · obtain ⟨a, b, f, g, rfl, hA, hB, lf, lg, q⟩ := h
    refine ⟨_, (pss_one (ps_ret (pe_cal c_minus (hr.mono (by first | decide | omega)) (by rfl) pass0 (pa_cons (pe_op op_cat (pe_lst (pa_cons pe_int pa_nil)) (pv 0)) (pa_cons (pv 1) pa_nil))))), ?_⟩
    exact s_retL (el_calL (xs := (0 :: f).map V.int) (vs := [.ref b]) (el_is (el_cat62 (el_lst (vs := [.int 0]) (by one_place) (by decide)) (fun _ _ => ev_var rfl) hA (by rw [List.length_singleton, List.length_map]; omega)) rfl) (by one_place) fun p H1 e1 hp Q kk E => ⟨p, b, 0 :: f, g, rfl, SqL.of hp, SqL.of (e1 _ _ hB), by rw [List.length_cons]; omega, by omega, kk⟩) fun p H1 np e1 h1 => q p H1 np e1 h1
end
theorem pick_rev (ns : List Int) : pickV ns (-1) = ns.reverse := by
  unfold pickV
  rw [PySem.W.krv_bounds]
  show (sliceRange ((ns.length : Int) - 1) (-1) (-1)).filterMap (ns[·]?) = _
  rw [PySem.W.krv_sliceRange, PySem.W.krv_range, List.filterMap_reverse]
  congr 1
  refine List.ext_getElem? fun i => ?_
  have key : ∀ l : List Int, (List.range l.length).filterMap (l[·]?) = l := by
    intro l
    induction l with
    | nil => rfl
    | cons x l ih =>
      rw [List.length_cons, List.range_succ_eq_map]
      show x :: List.filterMap (fun i => (x :: l)[i]?) (List.map Nat.succ (List.range l.length)) = x :: l
      rw [List.filterMap_map]
      exact congrArg (x :: ·) ih
  rw [key]

section
variable {σ : L2.St} {H : Hp}
theorem el_calVL62 {sp : Sp} {t0 te : TE} {v : V} {xs ys : List V} {E : XK} (h0 : Ev t0 σ H v) (h : EvL te σ H xs) (hs : ∀ l H1, Ex H H1 → H1 l = some (.lst xs) → ∀ Q : VK, RetL ys H1 Q → ∀ E : XK, sp [v, .ref l] H1 Q E) : EvL (tCall sp [] E (tCons t0 (tCons te tNil))) σ H ys := fun H1 e Q q =>
  h0 H1 e _ fun H2 e2 => h H2 (e.trans e2) _ fun l H3 nl e3 hl => by
    show sp ([v, .ref l] ++ []) H3 Q E
    rw [List.append_nil]
    exact hs l H3 ((e.trans e2).trans e3) hl Q (fun p H4 np e4 h4 => q p H4 (fresh_back (e2.trans e3) np) ((e2.trans e3).trans e4) h4) E
end
/- folded: slots 0 f, 1 middle, 2 g, 3 last, 4 here, 5 number, 6 part; calls plus, next_doubled -/
abbrev s_folded : Stmt := topS 18
theorem sc_folded : FnScope ["f", "middle", "g", "last", "here", "number", "part"] ["f"] (defScope s_folded) := ⟨rfl, rfl, rfl, by decide +kernel, rfl, by decide +kernel, by decide +kernel⟩

def spFd (C : Addr) : Sp := fun vs H Q E => ∃ (a : Addr) (f : List Int), vs = [.ref a] ∧ H a = some (.lst (f.map V.int)) ∧ f.length % 2 = 1 ∧ f.reverse = f ∧ f.length ≤ 75 ∧ Bd 256 f ∧ RetL ((foldF f).map V.int) H Q
section
variable {P : Program} {w : World} {K : PySem.W.Frag} {mg : Str → Option Value} {base : Heap} {C : Addr}
theorem cal_fd62 (nb : Nb mg) (x_NoFold : OwnX K mg "NoFold" C) (c_plus : Cal P w K mg base CX0 "plus" 2 ["f", "g"] (spPlus K)) (c_next_doubled : Cal P w K mg base CX0 "next_doubled" 4 ["here", "last"] spNx) (d : Dfn K mg "folded" ["f"] s_folded) : Cal P w K mg base (L2.CX P w) "folded" 5 ["f"] (spFd C) := by
  refine d.calX sc_folded (fun vs H Q E h => ?_) (fun fa cdv A outer s H vs Q E hr h => ?_)
  · obtain ⟨a, f, rfl, _⟩ := h
    rfl
  · obtain ⟨a, f, rfl, hA, odd, rv, len, bf, q⟩ := h
    refine ⟨_, (pss_cons (ps_if (pt_cmpR op_eq (pe_callB call_len_seq (by rfl) nb.len PySem.boot_len (pa_cons (pv 0) pa_nil)) pe_int (nomark _)) (pss_one (ps_ret (pe_lst pa_nil))) pss_nil)
      (pss_cons (ps_if (PW.pt (pw_or (pt_cmpR op_eq (pe_op op_mod (pe_callB call_len_seq (by rfl) nb.len PySem.boot_len (pa_cons (pv 0) pa_nil)) pe_int) pe_int (nomark _)) (pw_or1 (pt_cmpR (op_neD hr.units) (pv 0) (pe_sliceS (pv 0) (pe_un un_neg pe_int)) (nomark _))))) (pss_one (ps_raise rfl (takes_of rfl rfl rfl rfl) (pmk_of x_NoFold rfl))) pss_nil)
      (pss_cons (ps_set (i := 1) sc_folded.nd rfl (.inl rfl) (pe_op op_fdivW (pe_callB call_len_seq (by rfl) nb.len PySem.boot_len (pa_cons (pv 0) pa_nil)) pe_int))
      (pss_cons (ps_set (i := 2) sc_folded.nd rfl (.inl rfl) (pe_lst (pa_cons (pe_ix ix_list (pv 0) (pv 1) (fun _ _ => rfl)) pa_nil)))
      (pss_cons (ps_set (i := 3) sc_folded.nd rfl (.inl rfl) (pe_lst (pa_cons pe_int pa_nil)))
      (pss_cons (ps_set (i := 4) sc_folded.nd rfl (.inl rfl) (pe_lst (pa_cons pe_int (pa_cons pe_int pa_nil))))
      (pss_cons (ps_for (passes_of rfl) rfl (pi_list (pe_slice sl_list (pv 0) (po_some (pe_op op_add (pv 1) pe_int)) po_none)) (pg_name (i := 5) sc_folded.nd rfl (.inr rfl)) (pss_cons (ps_set (i := 2) sc_folded.nd rfl (.inl rfl) (pe_cal c_plus (hr.mono (by first | decide | omega)) (by rfl) pass0 (pa_cons (pv 2) (pa_cons (pe_lc (own := [("part", 6)]) (g := gName 6) (tt := tYes) (by rfl) sc_folded.nd (pi_list (pv 4)) (blkOk_by (N := ["f", "middle", "g", "last", "here", "number", "part"]) (sc := defScope s_folded) (by decide +kernel)) (fun _ _ _ _ _ => (pg_name (i := 6) sc_folded.nd rfl (Or.inl rfl))) (fun _ _ _ _ _ => pts_nil) (fun _ _ _ _ _ => (pe_op op_mulW (pv 5) (pv 6)))) pa_nil))))
      (pss_one (ps_par (i := 3) (j := 4) (by rfl) sc_folded.nd rfl rfl (by decide) (by rfl) (by rfl) (pa_cons (pv 4) (pa_cons (pe_cal c_next_doubled (hr.mono (by first | decide | omega)) (by rfl) pass0 (pa_cons (pv 4) (pa_cons (pv 3) pa_nil))) pa_nil)) (by rfl)))))
      (pss_one (ps_ret (pv 2)))))))))), ?_⟩
    have hl : ∀ {σ : L2.St} {H' : Hp}, Ex H H' → σ[0]? = some (some (.ref a)) → Ev (tCB (rLenS K) (tCons (tVar 0) tNil)) σ H' (.int (f.length : Nat)) := fun e hs => ev_is (ev_len (ev_var hs) (SqL.of (e _ _ hA))) (by rw [List.length_map])
    refine q_when (b := false) (et_is (et_test (ev_eqI (hl (Ex.refl _) rfl) ev_c)) (decide_eq_false (by omega))) (fun hb => nomatch hb) (fun _ H1 e1 => ?_)
    refine q_when (b := false) (et_is (et_or (et_test (ev_eqI (ev_mod (hl e1 rfl) ev_c (by decide)) ev_c)) fun _ => et_test (ev_opL (xs := (pickV f (-1)).map V.int) (ev_var rfl) (el_is (el_slS (xs := f.map V.int) (k := -1) (ev_var rfl) (ev_neg ev_c) (SqL.of (e1 _ _ hA)) (by decide)) (pickV_map _ _ _)) fun u H4 hu e4 => rv_neI (ns := f) (ms := pickV f (-1)) (SqL.of ((e1.trans e4) _ _ hA)) (SqL.of hu))) (by rw [pick_rev, rv, decide_eq_true rfl, decide_eq_false (by omega)]; rfl)) (fun hb => nomatch hb) (fun _ H2 e2 => ?_)
    have e12 := e1.trans e2
    have mid : f.length / 2 < f.length := by omega
    refine q_asg (v := .int ((f.length / 2 : Nat) : Int)) (ev_is (ev_div (hl e12 rfl) ev_c (divW (by decide) (by decide))) (by rw [Int.natCast_ediv]; rfl)) fun H3 e3 => ?_
    refine q_asgL (xs := ([coef f (f.length / 2)] : List Int).map V.int) (el_lst (vs := [.int (coef f (f.length / 2))]) (ea_cons (ev_ixI (j := f.length / 2) (SqL.of ((e12.trans e3) _ _ hA)) (ev_var rfl) (ev_var rfl) (coef_get mid)) ea_nil) (by show 1 ≤ 100000; decide)) fun g H4 ng e4 h4 => ?_
    refine q_asgL (xs := ([2] : List Int).map V.int) (el_lst (vs := [.int 2]) (by one_place) (by decide)) fun la H5 nl e5 h5 => ?_
    refine q_asgL (xs := ([0, 1] : List Int).map V.int) (el_lst (vs := [.int 0, .int 1]) (by one_place) (by decide)) fun he H6 nh e6 h6 => ?_
    have e36 := (e3.trans e4).trans (e5.trans e6)
    have hA6 := (e12.trans e36) _ _ hA
    have dl : (f.drop (f.length / 2 + 1)).length ≤ 37 := by
      rw [List.length_drop]
      omega
    refine q_forNLn (xs := (f.drop (f.length / 2 + 1)).map V.int) (el_is (el_sl (ev_var rfl) (eo_some (ev_is (ev_add (ev_var rfl) ev_c) (show V.int (((f.length / 2 : Nat) : Int) + 1) = V.int ((f.length / 2 + 1 : Nat) : Int) by rw [Int.natCast_add]; rfl))) eo_none (SqL.of hA6)) (by rw [cut_drop62, List.map_drop]))
      (fun p i σ' H' => ∃ (gr lr hr : Addr) (y5 : Option V), σ' = [some (.ref a), some (.int ((f.length / 2 : Nat) : Int)), some (.ref gr), some (.ref lr), some (.ref hr), y5, none] ∧ Ex H6 H' ∧ H' p = some (.lst ((f.drop (f.length / 2 + 1)).map V.int)) ∧ H2 gr = none ∧ H' gr = some (.lst ((fdI f i).1.map V.int)) ∧ H' lr = some (.lst ((fdI f i).2.1.map V.int)) ∧ H' hr = some (.lst ((fdI f i).2.2.map V.int)))
      (fun p H7 np e7 hp => ⟨g, la, he, none, rfl, e7, hp, fresh_back e3 ng, (e5.trans (e6.trans e7)) _ _ h4, (e6.trans e7) _ _ h5, e7 _ _ h6⟩) (fun p i σ' H' _ hp => ?_) (fun p i x σ' H7 hx hp => ?_) (fun p σ' H7 hp => ?_)
    · obtain ⟨_, _, _, _, _, _, hp, _⟩ := hp
      exact SqL.of hp
    · obtain ⟨gr, lr, hr, y5, rfl, e7, hp, ngr, hg, hll, hh⟩ := hp
      obtain ⟨c, hc, rfl⟩ := map_get hx
      have il := (List.getElem?_eq_some_iff.mp hc).1
      have db := fdI_db f i (by omega)
      have b := db_at (i := i) (by omega)
      have gl := fdI_le f i (by omega) (by omega)
      have st := fdI_step hc
      have cb : c.natAbs < 2 ^ 256 := by
        rw [List.getElem?_drop] at hc
        have := bf (f.length / 2 + 1 + i)
        rwa [coef_of hc] at this
      rw [db] at hll hh
      have e26 := e36.trans e7
      refine q_asgL (xs := (addP 1 (fdI f i).1 ((dbS i).2.map fun x => c * x)).map V.int) (el_calVL62 (v := .ref gr) (xs := ((dbS i).2.map fun x => c * x).map V.int) (by one_place) (el_is (el_lcI (ns := (dbS i).2) (fun _ => true) (fun x => .int (c * x)) (ev_var rfl) (SqL.of hh) (by omega) (fun _ => rfl) (fun _ _ _ _ => et_yes) fun x H8 e8 hx _ => ev_mul (ev_var rfl) (ev_var rfl) (mulW (Nat.lt_of_lt_of_le cb (Nat.pow_le_pow_right (by decide) (by decide))) (Nat.lt_of_lt_of_le (b.2.2 x hx) (Nat.pow_le_pow_right (by decide) (by decide))))) (by rw [filter_yes, List.map_map]; rfl)) fun l H8 e8 hl Q kk E => ⟨gr, l, (fdI f i).1, _, rfl, SqL.of (e8 _ _ hg), SqL.of hl, by omega, by rw [List.length_map]; omega, kk⟩) fun g2 H8 ng2 e8 h8 => ?_
      refine s_parVL (ys := (nxD (dbS i).2 (dbS i).1).map V.int) (ev_var rfl) (fun H9 e9 => el_cal (vs := [.ref hr, .ref lr]) (by one_place) fun H10 e10 Q kk E => ⟨hr, lr, (dbS i).2, (dbS i).1, rfl, (e8.trans (e9.trans e10)) _ _ hh, (e8.trans (e9.trans e10)) _ _ hll, by omega, by omega, kk⟩) fun nx H9 nnx e9 h9 => ?_
      have st2 : fdI f (i + 1) = (addP 1 (fdI f i).1 ((dbS i).2.map fun x => c * x), (dbS i).2, nxD (dbS i).2 (dbS i).1) := by
        rw [st]
        unfold fdS
        rw [db]
      refine ⟨g2, hr, nx, _, rfl, e7.trans (e8.trans e9), (e8.trans e9) _ _ hp, fresh_back e26 ng2, ?_, ?_, ?_⟩
      · rw [st2]
        exact e9 _ _ h8
      · rw [st2]
        exact (e8.trans e9) _ _ hh
      · rw [st2]
        exact h9
    · obtain ⟨gr, lr, hr, y5, rfl, e7, hp, ngr, hg, hll, hh⟩ := hp
      rw [List.length_map] at hg
      have ff : (fdI f (f.drop (f.length / 2 + 1)).length).1 = foldF f := by
        unfold fdI foldF
        rw [List.take_length]
      rw [ff] at hg
      exact s_ret (v := .ref gr) (by one_place) fun H8 e8 => q gr H8 (fresh_back e12 ngr) ((e12.trans e36).trans (e7.trans e8)) (e8 _ _ hg)
end
/- cosine_poly: slots 0 n; calls folded, root_poly -/
abbrev s_cosine_poly : Stmt := topS 20
theorem sc_cosine_poly : FnScope ["n"] ["n"] (defScope s_cosine_poly) := ⟨rfl, rfl, rfl, by decide +kernel, rfl, by decide +kernel, by decide +kernel⟩

theorem phi_odd {d : Nat} (h1 : 3 ≤ d) (h2 : d ≤ 60) : (phi d).length % 2 = 1 ∧ (phi d).reverse = phi d := by
  have t := chk62_at (show 1 ≤ d by omega) h2
  unfold chk62 at t
  rw [Bool.and_eq_true, Bool.and_eq_true, Bool.or_eq_true] at t
  rcases t.2.2 with t | t
  · have := of_decide_eq_true t
    omega
  · exact of_decide_eq_true t
def spCp : Sp := fun vs H Q _ => ∃ n : Nat, vs = [.int (n : Nat)] ∧ 1 ≤ n ∧ n ≤ 60 ∧ RetL ((cosF n).map V.int) H Q
section
variable {P : Program} {w : World} {K : PySem.W.Frag} {mg : Str → Option Value} {base : Heap} {C : Addr}
theorem cal_cp62 (nb : Nb mg) (c_folded : Cal P w K mg base CX0 "folded" 5 ["f"] (fun vs H Q _ => spFd C vs H Q (fun _ _ _ => False))) (c_root_poly : Cal P w K mg base CX0 "root_poly" 3 ["n"] spRoot) (d : Dfn K mg "cosine_poly" ["n"] s_cosine_poly) : Cal P w K mg base CX0 "cosine_poly" 6 ["n"] spCp := by
  refine d.cal sc_cosine_poly (fun vs H Q E h => ?_) (fun fa cdv A outer s H vs Q E hr h => ?_)
  · obtain ⟨n, rfl, _⟩ := h
    rfl
  · obtain ⟨n, rfl, n1, n2, q⟩ := h
    refine ⟨_, (pss_cons (ps_if (pt_cmpR op_eq (pv 0) pe_int (nomark _)) (pss_one (ps_ret (pe_lst (pa_cons (pe_un un_neg pe_int) (pa_cons pe_int pa_nil))))) pss_nil)
      (pss_cons (ps_if (pt_cmpR op_eq (pv 0) pe_int (nomark _)) (pss_one (ps_ret (pe_lst (pa_cons pe_int (pa_cons pe_int pa_nil))))) pss_nil)
      (pss_one (ps_ret (pe_cal c_folded (hr.mono (by first | decide | omega)) (by rfl) pass0 (pa_cons (pe_cal c_root_poly (hr.mono (by first | decide | omega)) (by rfl) pass0 (pa_cons (pv 0) pa_nil)) pa_nil)))))), ?_⟩
    refine q_when (b := decide ((n : Int) = 1)) (et_test (ev_eqI (ev_var rfl) ev_c)) (fun hb H1 e1 => ?_) (fun hb H1 e1 => ?_)
    · have hb := of_decide_eq_true hb
      exact s_retL (xs := (cosF n).map V.int) (el_is (el_lst (vs := [.int (-2), .int 1]) (ea_cons (ev_neg ev_c) (ea_cons ev_c ea_nil)) (by show 2 ≤ 100000; decide)) (by unfold cosF; rw [if_pos (show n = 1 by omega)]; rfl)) fun p H2 np e2 h2 => q p H2 (fresh_back e1 np) (e1.trans e2) h2
    · have hb := of_decide_eq_false hb
      refine q_when (b := decide ((n : Int) = 2)) (et_test (ev_eqI (ev_var rfl) ev_c)) (fun hb2 H2 e2 => ?_) (fun hb2 H2 e2 => ?_)
      · have hb2 := of_decide_eq_true hb2
        exact s_retL (xs := (cosF n).map V.int) (el_is (el_lst (vs := [.int 2, .int 1]) (by one_place) (by show 2 ≤ 100000; decide)) (by unfold cosF; rw [if_neg (show ¬ n = 1 by omega), if_pos (show n = 2 by omega)]; rfl)) fun p H3 np e3 h3 => q p H3 (fresh_back (e1.trans e2) np) ((e1.trans e2).trans e3) h3
      · have hb2 := of_decide_eq_false hb2
        have po := phi_odd (show 3 ≤ n by omega) n2
        have pl := phi_le n1 (show n ≤ 420 by omega)
        exact s_retL (xs := (cosF n).map V.int) (el_is (el_calL (xs := (phi n).map V.int) (vs := []) (el_cal (vs := [.int (n : Nat)]) (by one_place) fun H3 e3 Q kk E => ⟨n, rfl, n1, by omega, kk⟩) ea_nil fun p H3 e3 hp Q kk E => ⟨p, phi n, rfl, hp, po.1, po.2, by omega, bd_of_l1 (phi_bd n1 (by omega)), kk⟩) (by unfold cosF; rw [if_neg (show ¬ n = 1 by omega), if_neg (show ¬ n = 2 by omega)])) fun p H3 np e3 h3 => q p H3 (fresh_back (e1.trans e2) np) ((e1.trans e2).trans e3) h3
end

/-! ### how the rows come out: primes, rising, their product -/
def Prm (p : Nat) : Prop := 2 ≤ p ∧ ∀ d, d ∣ p → d = 1 ∨ d = p
def stripN (p : Nat) : Nat → Nat → Nat × Nat
  | 0, l => (l, 0)
  | m + 1, l => if l % p = 0 then ((stripN p m (l / p)).1, (stripN p m (l / p)).2 + 1) else (l, 0)
theorem strip_cast (p : Nat) : ∀ (m l : Nat) (t : Int), Kp.strip (p : Int) m (l : Int) t = (((stripN p m l).1 : Int), t + ((stripN p m l).2 : Int))
  | 0, l, t => by
    show ((l : Int), t) = ((l : Int), t + 0)
    rw [Int.add_zero]
  | m + 1, l, t => by
    unfold Kp.strip stripN
    by_cases h : l % p = 0
    · rw [if_pos h, if_pos (show (l : Int) % (p : Int) = 0 by omega)]
      have := strip_cast p m (l / p) (t + 1)
      rw [show ((l / p : Nat) : Int) = (l : Int) / (p : Int) from Int.natCast_ediv l p] at this
      rw [this]
      show (_, t + 1 + _) = (_, t + ((_ + 1 : Nat) : Int))
      congr 1
      omega
    · rw [if_neg h, if_neg (show ¬ (l : Int) % (p : Int) = 0 by omega)]
      show ((l : Int), t) = ((l : Int), t + 0)
      rw [Int.add_zero]
theorem stripN_spec {p : Nat} (hp : 2 ≤ p) : ∀ (m l : Nat), 0 < l → l < 2 ^ m → l = (stripN p m l).1 * p ^ (stripN p m l).2 ∧ ¬ p ∣ (stripN p m l).1 ∧ 0 < (stripN p m l).1
  | 0, l, h0, h1 => by
    rw [Nat.pow_zero] at h1
    omega
  | m + 1, l, h0, h1 => by
    unfold stripN
    by_cases h : l % p = 0
    · rw [if_pos h]
      have e := Nat.div_add_mod l p
      rw [h, Nat.add_zero] at e
      have l0 : 0 < l / p := Nat.pos_of_ne_zero fun z => by
        rw [z, Nat.mul_zero] at e
        omega
      have l1 : 2 * (l / p) ≤ p * (l / p) := Nat.mul_le_mul_right _ hp
      rw [Nat.pow_succ] at h1
      obtain ⟨a1, a2, a3⟩ := stripN_spec hp m (l / p) l0 (by omega)
      refine ⟨?_, a2, a3⟩
      show l = (stripN p m (l / p)).1 * p ^ ((stripN p m (l / p)).2 + 1)
      rw [Nat.pow_succ, ← Nat.mul_assoc, ← a1, Nat.mul_comm]
      exact e.symm
    · rw [if_neg h]
      refine ⟨by rw [Nat.pow_zero, Nat.mul_one], fun z => h (Nat.mod_eq_zero_of_dvd z), h0⟩
def pLoopN : Nat → Nat → Nat → List (Nat × Nat) → Nat × List (Nat × Nat)
  | 0, _, l, rows => (l, rows)
  | m + 1, p, l, rows => if p * p ≤ l then pLoopN m (p + 1) (stripN p 64 l).1 (if 0 < (stripN p 64 l).2 then rows ++ [(p, (stripN p 64 l).2)] else rows) else (l, rows)
def castR (r : Nat × Nat) : Int × Int := ((r.1 : Int), (r.2 : Int))
theorem pLoop_cast : ∀ (m p l : Nat) (rows : List (Nat × Nat)), pLoop m (p : Int) (l : Int) (rows.map castR) = (((pLoopN m p l rows).1 : Int), (pLoopN m p l rows).2.map castR)
  | 0, _, _, _ => rfl
  | m + 1, p, l, rows => by
    unfold pLoop pLoopN
    by_cases h : p * p ≤ l
    · rw [if_pos h, if_pos (show (p : Int) * (p : Int) ≤ (l : Int) by exact_mod_cast h), strip_cast]
      simp only
      rw [Int.zero_add]
      by_cases h2 : 0 < (stripN p 64 l).2
      · rw [if_pos h2, if_pos (show (0 : Int) < ((stripN p 64 l).2 : Int) by omega)]
        have := pLoop_cast m (p + 1) (stripN p 64 l).1 (rows ++ [(p, (stripN p 64 l).2)])
        rw [List.map_append] at this
        exact this
      · rw [if_neg h2, if_neg (show ¬ (0 : Int) < ((stripN p 64 l).2 : Int) by omega)]
        exact pLoop_cast m (p + 1) (stripN p 64 l).1 rows
    · rw [if_neg h, if_neg (show ¬ (p : Int) * (p : Int) ≤ (l : Int) by exact_mod_cast h)]
def partedN (n : Nat) : List (Nat × Nat) := if 1 < (pLoopN n 2 n []).1 then (pLoopN n 2 n []).2 ++ [((pLoopN n 2 n []).1, 1)] else (pLoopN n 2 n []).2
theorem parted_cast (n : Nat) : partedF (n : Int) = (partedN n).map castR := by
  unfold partedF partedN
  have := pLoop_cast n 2 n []
  rw [Int.toNat_natCast]
  rw [show pLoop n 2 (n : Int) [] = pLoop n ((2 : Nat) : Int) (n : Int) (([] : List (Nat × Nat)).map castR) from rfl, this]
  simp only
  by_cases h : 1 < (pLoopN n 2 n []).1
  · rw [if_pos h, if_pos (show (1 : Int) < _ by omega), List.map_append]
    rfl
  · rw [if_neg h, if_neg (show ¬ (1 : Int) < _ by omega)]
def prodR : List (Nat × Nat) → Nat
  | [] => 1
  | r :: rows => r.1 ^ r.2 * prodR rows
theorem prodR_snoc : ∀ (rows : List (Nat × Nat)) (r : Nat × Nat), prodR (rows ++ [r]) = prodR rows * r.1 ^ r.2
  | [], r => by
    show r.1 ^ r.2 * 1 = 1 * r.1 ^ r.2
    omega
  | q :: rows, r => by
    show q.1 ^ q.2 * prodR (rows ++ [r]) = q.1 ^ q.2 * prodR rows * r.1 ^ r.2
    rw [prodR_snoc rows r, Nat.mul_assoc]
/-- rows of primes below p, rising, once or oftener each -/
def Rows (p : Nat) (rows : List (Nat × Nat)) : Prop := (∀ r ∈ rows, Prm r.1 ∧ 1 ≤ r.2 ∧ r.1 < p) ∧ rows.Pairwise fun a b => a.1 < b.1
theorem Rows.snoc {p q k : Nat} {rows : List (Nat × Nat)} (h : Rows p rows) (hp : Prm p) (hk : 1 ≤ k) (hq : p < q) : Rows q (rows ++ [(p, k)]) := by
  refine ⟨fun r hr => ?_, ?_⟩
  · rcases List.mem_append.mp hr with hr | hr
    · obtain ⟨a, b, c⟩ := h.1 r hr
      exact ⟨a, b, by omega⟩
    · rw [List.mem_singleton.mp hr]
      exact ⟨hp, hk, hq⟩
  · rw [List.pairwise_append]
    refine ⟨h.2, List.pairwise_singleton .., fun a ha b hb => ?_⟩
    rw [List.mem_singleton.mp hb]
    exact (h.1 a ha).2.2
theorem Rows.mono {p q : Nat} {rows : List (Nat × Nat)} (h : Rows p rows) (hq : p ≤ q) : Rows q rows := ⟨fun r hr => by
  obtain ⟨a, b, c⟩ := h.1 r hr
  exact ⟨a, b, by omega⟩, h.2⟩
/-- nothing from 2 on below p divides l -/
def Low (p l : Nat) : Prop := ∀ d, 2 ≤ d → d < p → ¬ d ∣ l
theorem prm_of_low {p l : Nat} (hl : Low p l) (hp : 2 ≤ p) (hd : p ∣ l) : Prm p := ⟨hp, fun d h => by
  by_cases h1 : d = 1
  · exact .inl h1
  · by_cases h2 : d = p
    · exact .inr h2
    · have := Nat.le_of_dvd (by omega) h
      have d0 : d ≠ 0 := fun z => by
        rw [z] at h
        have := Nat.eq_zero_of_zero_dvd h
        omega
      exact absurd (Nat.dvd_trans h hd) (hl d (by omega) (by omega))⟩
theorem prm_of_sq {p l : Nat} (hl : Low p l) (h1 : 1 < l) (hs : l < p * p) : Prm l := ⟨h1, fun d h => by
  obtain ⟨k, hk⟩ := h
  by_cases hd1 : d = 1
  · exact .inl hd1
  · refine .inr ?_
    have d0 : d ≠ 0 := fun z => by
      rw [z, Nat.zero_mul] at hk
      omega
    have k0 : k ≠ 0 := fun z => by
      rw [z, Nat.mul_zero] at hk
      omega
    by_cases hk1 : k = 1
    · rw [hk, hk1, Nat.mul_one]
    · exfalso
      have a1 : ¬ d < p := fun z => hl d (by omega) z ⟨k, hk⟩
      have a2 : ¬ k < p := fun z => hl k (by omega) z ⟨d, by rw [hk, Nat.mul_comm]⟩
      have := Nat.mul_le_mul (show p ≤ d by omega) (show p ≤ k by omega)
      omega⟩
theorem pLoopN_spec : ∀ (m p l : Nat) (rows : List (Nat × Nat)), 2 ≤ p → 0 < l → l < 2 ^ 64 → l < p + m → Low p l → Rows p rows →
    Rows (p + m + 1) (pLoopN m p l rows).2 ∧ 0 < (pLoopN m p l rows).1 ∧ prodR (pLoopN m p l rows).2 * (pLoopN m p l rows).1 = prodR rows * l ∧ (1 < (pLoopN m p l rows).1 → Prm (pLoopN m p l rows).1 ∧ Rows (pLoopN m p l rows).1 (pLoopN m p l rows).2)
  | 0, p, l, rows, hp, h0, h64, hm, hl, hr => by
    refine ⟨hr.mono (by omega), h0, rfl, fun h1 => ?_⟩
    exact absurd (Nat.dvd_refl l) (hl l h1 (by omega))
  | m + 1, p, l, rows, hp, h0, h64, hm, hl, hr => by
    unfold pLoopN
    by_cases h : p * p ≤ l
    · rw [if_pos h]
      obtain ⟨s1, s2, s3⟩ := stripN_spec hp 64 l h0 h64
      generalize (stripN p 64 l).1 = l' at *
      generalize (stripN p 64 l).2 = k at *
      have hdl : l' ∣ l := ⟨p ^ k, s1⟩
      have hll := Nat.le_of_dvd h0 hdl
      have hl' : Low (p + 1) l' := fun d d1 d2 z => by
        by_cases e : d = p
        · subst e
          exact s2 z
        · exact hl d d1 (by omega) (Nat.dvd_trans z hdl)
      by_cases hk : 0 < k
      · rw [if_pos hk]
        have pp : Prm p := prm_of_low hl hp ⟨l' * p ^ (k - 1), by
          rw [s1, Nat.mul_left_comm, ← Nat.pow_succ']
          congr 2
          omega⟩
        obtain ⟨a1, a2, a3, a4⟩ := pLoopN_spec m (p + 1) l' (rows ++ [(p, k)]) (by omega) s3 (by omega) (by omega) hl' (hr.snoc pp hk (Nat.lt_succ_self p))
        refine ⟨a1.mono (by omega), a2, ?_, a4⟩
        rw [a3, prodR_snoc, Nat.mul_assoc]
        congr 1
        rw [Nat.mul_comm]
        exact s1.symm
      · rw [if_neg hk]
        have k0 : k = 0 := by omega
        subst k0
        rw [Nat.pow_zero, Nat.mul_one] at s1
        obtain ⟨a1, a2, a3, a4⟩ := pLoopN_spec m (p + 1) l' rows (by omega) s3 (by omega) (by omega) hl' (hr.mono (Nat.le_succ p))
        refine ⟨a1.mono (by omega), a2, ?_, a4⟩
        rw [a3, s1]
    · rw [if_neg h]
      refine ⟨hr.mono (by omega), h0, rfl, fun h1 => ⟨prm_of_sq hl h1 (by omega), ⟨fun r hr' => ?_, hr.2⟩⟩⟩
      obtain ⟨b1, b2, b3⟩ := hr.1 r hr'
      refine ⟨b1, b2, ?_⟩
      have : ¬ l < p := fun z => hl l h1 z (Nat.dvd_refl l)
      omega
theorem parted_spec {n : Nat} (h0 : 0 < n) (h64 : n < 2 ^ 64) : (∃ p, Rows p (partedN n)) ∧ prodR (partedN n) = n := by
  obtain ⟨a1, a2, a3, a4⟩ := pLoopN_spec n 2 n [] (Nat.le_refl 2) h0 h64 (by omega) (fun d d1 d2 => by omega) ⟨(fun _ h => nomatch h), List.Pairwise.nil⟩
  unfold partedN
  split
  · rename_i h1
    obtain ⟨b1, b2⟩ := a4 h1
    refine ⟨⟨_, b2.snoc b1 (Nat.le_refl 1) (Nat.lt_succ_self _)⟩, ?_⟩
    rw [prodR_snoc, Nat.pow_one, a3]
    show 1 * n = n
    omega
  · rename_i h1
    refine ⟨⟨_, a1⟩, ?_⟩
    have e : (pLoopN n 2 n []).1 = 1 := by omega
    rw [e, Nat.mul_one] at a3
    rw [a3]
    show 1 * n = n
    omega
theorem prm_cop {p m : Nat} (hp : Prm p) (h : ¬ p ∣ m) : Nat.Coprime p m := by
  have g := Nat.gcd_dvd_left p m
  rcases hp.2 _ g with e | e
  · exact e
  · have := Nat.gcd_dvd_right p m
    rw [e] at this
    exact absurd this h
theorem prm_ndvd_prod {p : Nat} (hp : Prm p) : ∀ {rows : List (Nat × Nat)}, (∀ r ∈ rows, Prm r.1) → (∀ r ∈ rows, r.1 ≠ p) → ¬ p ∣ prodR rows
  | [], _, _ => fun z => by
    have := Nat.le_of_dvd (by decide) z
    have := hp.1
    show False
    simp only [prodR] at *
    omega
  | r :: rows, h1, h2 => fun z => by
    have c : Nat.Coprime p (r.1 ^ r.2) := Nat.Coprime.pow_right _ (prm_cop hp fun d => by
      rcases (h1 r (List.mem_cons_self ..)).2 p d with e | e
      · have := hp.1
        omega
      · exact h2 r (List.mem_cons_self ..) e.symm)
    exact prm_ndvd_prod hp (fun q hq => h1 q (List.mem_cons_of_mem _ hq)) (fun q hq => h2 q (List.mem_cons_of_mem _ hq)) (c.dvd_of_dvd_mul_left z)
/-- the divisors of m times a power of a prime that doesn't divide m -/
theorem dvd_mul_pow {p m : Nat} (hp : Prm p) (hm : ¬ p ∣ m) : ∀ (e d : Nat), d ∣ m * p ^ e ↔ ∃ j d', j ≤ e ∧ d' ∣ m ∧ d = p ^ j * d'
  | 0, d => by
    rw [Nat.pow_zero, Nat.mul_one]
    refine ⟨fun h => ⟨0, d, Nat.le_refl 0, h, by rw [Nat.pow_zero, Nat.one_mul]⟩, fun ⟨j, d', h1, h2, h3⟩ => ?_⟩
    have : j = 0 := by omega
    subst this
    rw [Nat.pow_zero, Nat.one_mul] at h3
    rw [h3]
    exact h2
  | e + 1, d => by
    refine ⟨fun h => ?_, fun ⟨j, d', h1, h2, h3⟩ => ?_⟩
    · by_cases hd : p ∣ d
      · obtain ⟨d1, rfl⟩ := hd
        have h' : d1 ∣ m * p ^ e := by
          rw [Nat.pow_succ, ← Nat.mul_assoc, Nat.mul_comm _ p] at h
          exact Nat.dvd_of_mul_dvd_mul_left (by have := hp.1; omega) h
        obtain ⟨j, d', a1, a2, a3⟩ := (dvd_mul_pow hp hm e d1).mp h'
        exact ⟨j + 1, d', by omega, a2, by rw [a3, Nat.pow_succ, Nat.mul_comm (p ^ j) p, Nat.mul_assoc]⟩
      · have c : Nat.Coprime d (p ^ (e + 1)) := Nat.Coprime.pow_right _ (prm_cop hp hd).symm
        exact ⟨0, d, Nat.zero_le _, c.dvd_of_dvd_mul_right h, by rw [Nat.pow_zero, Nat.one_mul]⟩
    · rw [h3, Nat.mul_comm]
      exact Nat.mul_dvd_mul h2 (Nat.pow_dvd_pow p h1)

/-! ### all divisors: as products of the primes, as the program tells them -/
def turnsN (p : Nat) (told : List Nat) : Nat → List Nat × List Nat
  | 0 => (told, told)
  | t + 1 => ((turnsN p told t).1 ++ ((turnsN p told t).2.map fun d => p * d).filter fun d => !decide (d ∈ (turnsN p told t).1), (turnsN p told t).2.map fun d => p * d)
def allStep (told : List Nat) (r : Nat × Nat) : List Nat := (turnsN r.1 told r.2).1
def allN (n : Nat) : List Nat := (partedN n).foldl allStep [1]
theorem map_nodup {α β : Type} {f : α → β} (hf : ∀ a b, f a = f b → a = b) : ∀ {l : List α}, l.Nodup → (l.map f).Nodup
  | [], _ => List.nodup_nil
  | a :: l, h => by
    rw [List.nodup_cons] at h
    rw [List.map_cons, List.nodup_cons]
    refine ⟨fun z => ?_, map_nodup hf h.2⟩
    obtain ⟨b, hb, e⟩ := List.mem_map.mp z
    rw [hf _ _ e] at hb
    exact h.1 hb
theorem filter_nodup {α : Type} (f : α → Bool) {l : List α} (h : l.Nodup) : (l.filter f).Nodup := List.Pairwise.filter f h
theorem turns_spec {p m : Nat} (hp : Prm p) (hm : ¬ p ∣ m) {told : List Nat} (h1 : told.Nodup) (h2 : ∀ x, x ∈ told ↔ x ∣ m) : ∀ t, (turnsN p told t).1.Nodup ∧ (∀ x, x ∈ (turnsN p told t).1 ↔ x ∣ m * p ^ t) ∧ (turnsN p told t).2 = told.map fun d => p ^ t * d
  | 0 => by
    refine ⟨h1, fun x => by rw [Nat.pow_zero, Nat.mul_one]; exact h2 x, ?_⟩
    show told = _
    simp
  | t + 1 => by
    obtain ⟨a1, a2, a3⟩ := turns_spec hp hm h1 h2 t
    have hmore : (turnsN p told (t + 1)).2 = told.map fun d => p ^ (t + 1) * d := by
      show (turnsN p told t).2.map (fun d => p * d) = _
      rw [a3, List.map_map]
      refine List.map_congr_left fun d _ => ?_
      show p * (p ^ t * d) = _
      rw [Nat.pow_succ, Nat.mul_comm (p ^ t) p, Nat.mul_assoc]
    have hmore' : ((turnsN p told t).2.map fun d => p * d) = told.map fun d => p ^ (t + 1) * d := hmore
    have hpos : 0 < p ^ (t + 1) := Nat.pow_pos (by have := hp.1; omega)
    refine ⟨?_, fun x => ?_, hmore⟩
    · show ((turnsN p told t).1 ++ ((turnsN p told t).2.map fun d => p * d).filter fun d => !decide (d ∈ (turnsN p told t).1)).Nodup
      rw [hmore', List.nodup_append]
      refine ⟨a1, filter_nodup _ (map_nodup (fun a b e => Nat.eq_of_mul_eq_mul_left hpos e) h1), fun a ha b hb e => ?_⟩
      subst e
      have := (List.mem_filter.mp hb).2
      rw [decide_eq_true ha] at this
      exact absurd this (by decide)
    · show x ∈ ((turnsN p told t).1 ++ ((turnsN p told t).2.map fun d => p * d).filter fun d => !decide (d ∈ (turnsN p told t).1)) ↔ _
      rw [hmore', List.mem_append, List.mem_filter, List.mem_map, dvd_mul_pow hp hm]
      constructor
      · rintro (h | ⟨⟨d, hd, rfl⟩, _⟩)
        · obtain ⟨j, d', b1, b2, b3⟩ := (dvd_mul_pow hp hm t x).mp ((a2 x).mp h)
          exact ⟨j, d', by omega, b2, b3⟩
        · exact ⟨t + 1, d, Nat.le_refl _, (h2 d).mp hd, rfl⟩
      · rintro ⟨j, d', b1, b2, rfl⟩
        by_cases hx : p ^ j * d' ∈ (turnsN p told t).1
        · exact .inl hx
        · refine .inr ⟨?_, by rw [decide_eq_false hx]; rfl⟩
          have hj : j = t + 1 := by
            refine Nat.le_antisymm b1 (Nat.lt_of_not_le fun z => hx ((a2 _).mpr ?_))
            exact (dvd_mul_pow hp hm t _).mpr ⟨j, d', z, b2, rfl⟩
          subst hj
          exact ⟨d', (h2 d').mpr b2, rfl⟩
theorem all_spec : ∀ (rows : List (Nat × Nat)) (told : List Nat) (m : Nat), (∀ r ∈ rows, Prm r.1) → rows.Pairwise (fun a b => a.1 < b.1) → (∀ r ∈ rows, ¬ r.1 ∣ m) → told.Nodup → (∀ x, x ∈ told ↔ x ∣ m) →
    (rows.foldl allStep told).Nodup ∧ ∀ x, x ∈ rows.foldl allStep told ↔ x ∣ m * prodR rows
  | [], told, m, _, _, _, h4, h5 => ⟨h4, fun x => by
    show x ∈ told ↔ x ∣ m * 1
    rw [Nat.mul_one]
    exact h5 x⟩
  | r :: rows, told, m, h1, h2, h3, h4, h5 => by
    have hp := h1 r (List.mem_cons_self ..)
    rw [List.pairwise_cons] at h2
    obtain ⟨a1, a2, _⟩ := turns_spec hp (h3 r (List.mem_cons_self ..)) h4 h5 r.2
    have := all_spec rows (allStep told r) (m * r.1 ^ r.2) (fun q hq => h1 q (List.mem_cons_of_mem _ hq)) h2.2 (fun q hq z => ?_) a1 a2
    · rw [List.foldl_cons]
      refine ⟨this.1, fun x => ?_⟩
      rw [this.2 x]
      show x ∣ m * r.1 ^ r.2 * prodR rows ↔ x ∣ m * (r.1 ^ r.2 * prodR rows)
      rw [Nat.mul_assoc]
    · have hq1 := h1 q (List.mem_cons_of_mem _ hq)
      have lt := h2.1 q hq
      have c : Nat.Coprime q.1 (r.1 ^ r.2) := Nat.Coprime.pow_right _ (prm_cop hq1 fun d => by
        rcases hp.2 _ d with e | e
        · have := hq1.1
          omega
        · omega)
      exact h3 q (List.mem_cons_of_mem _ hq) (c.dvd_of_dvd_mul_right z)
theorem allN_spec {n : Nat} (h0 : 0 < n) (h64 : n < 2 ^ 64) : (allN n).Nodup ∧ ∀ x, x ∈ allN n ↔ x ∣ n := by
  obtain ⟨⟨p, hr1, hr2⟩, hprod⟩ := parted_spec h0 h64
  have := all_spec (partedN n) [1] 1 (fun r hr => (hr1 r hr).1) hr2 (fun r hr z => by
    have := Nat.le_of_dvd (by decide) z
    have := (hr1 r hr).1.1
    omega) (by simp) (fun x => by rw [List.mem_singleton, Nat.dvd_one])
  rw [hprod, Nat.one_mul] at this
  exact this
def lowN (n : Nat) : List Nat := ((List.range (PySem.Float64.isqrt n)).filter fun i => decide (n % (1 + i) = 0)).map fun i => 1 + i
def highN (n : Nat) : List Nat := ((lowN n).reverse.filter fun d => !decide (d * d = n)).map fun d => n / d
def divN (n : Nat) : List Nat := lowN n ++ highN n
theorem low_mem (n x : Nat) : x ∈ lowN n ↔ 0 < x ∧ x ≤ PySem.Float64.isqrt n ∧ x ∣ n := by
  unfold lowN
  rw [List.mem_map]
  constructor
  · rintro ⟨i, hi, rfl⟩
    rw [List.mem_filter, List.mem_range, decide_eq_true_iff] at hi
    exact ⟨by omega, by omega, Nat.dvd_of_mod_eq_zero hi.2⟩
  · rintro ⟨h1, h2, h3⟩
    refine ⟨x - 1, ?_, by omega⟩
    rw [List.mem_filter, List.mem_range, decide_eq_true_iff]
    refine ⟨by omega, ?_⟩
    rw [show 1 + (x - 1) = x by omega]
    exact Nat.mod_eq_zero_of_dvd h3
theorem pairwise_map_of {α β : Type} {R : α → α → Prop} {S : β → β → Prop} {f : α → β} (h : ∀ a b, R a b → S (f a) (f b)) {l : List α} (hl : l.Pairwise R) : (l.map f).Pairwise S := by
  rw [List.pairwise_map]
  exact hl.imp fun {a b} r => h a b r
theorem low_pw (n : Nat) : (lowN n).Pairwise (· < ·) := pairwise_map_of (R := (· < ·)) (fun a b h => by omega) (List.Pairwise.filter _ List.pairwise_lt_range)
theorem div_mem {n : Nat} (h0 : 0 < n) (x : Nat) : x ∈ divN n ↔ x ∣ n := by
  obtain ⟨r1, r2⟩ := isqrt_ok n
  unfold divN highN
  rw [List.mem_append, low_mem, List.mem_map]
  constructor
  · rintro (⟨_, _, h⟩ | ⟨d, hd, rfl⟩)
    · exact h
    · rw [List.mem_filter, List.mem_reverse, low_mem] at hd
      exact Nat.div_dvd_of_dvd hd.1.2.2
  · intro h
    have x0 : 0 < x := Nat.pos_of_dvd_of_pos h h0
    by_cases hx : x ≤ PySem.Float64.isqrt n
    · exact .inl ⟨x0, hx, h⟩
    · refine .inr ⟨n / x, ?_, Nat.div_div_self h (by omega)⟩
      obtain ⟨k, rfl⟩ := h
      rw [Nat.mul_div_cancel_left k x0, List.mem_filter, List.mem_reverse, low_mem]
      have k0 : 0 < k := Nat.pos_of_ne_zero fun z => by
        rw [z, Nat.mul_zero] at h0
        omega
      refine ⟨⟨k0, Nat.le_of_not_lt fun z => ?_, ⟨x, Nat.mul_comm x k⟩⟩, ?_⟩
      · have := Nat.mul_le_mul (show PySem.Float64.isqrt (x * k) + 1 ≤ x by omega) (show PySem.Float64.isqrt (x * k) + 1 ≤ k by omega)
        omega
      · rw [decide_eq_false]
        · rfl
        · intro e
          have : k = x := Nat.eq_of_mul_eq_mul_right k0 e
          subst this
          have := Nat.mul_le_mul (show PySem.Float64.isqrt (k * k) + 1 ≤ k by omega) (show PySem.Float64.isqrt (k * k) + 1 ≤ k by omega)
          omega
theorem div_anti {n a b : Nat} (h0 : 0 < n) (ha : a ∣ n) (hb : b ∣ n) (h : a < b) : n / b < n / a := by
  obtain ⟨k, rfl⟩ := ha
  obtain ⟨j, e⟩ := hb
  have a0 : 0 < a := Nat.pos_of_ne_zero fun z => by
    rw [z, Nat.zero_mul] at h0
    omega
  rw [Nat.mul_div_cancel_left k a0, e, Nat.mul_div_cancel_left j (by omega)]
  refine Nat.lt_of_not_le fun z => ?_
  have k0 : 0 < k := Nat.pos_of_ne_zero fun y => by
    rw [y, Nat.mul_zero] at h0
    omega
  have h1 : a * k < b * k := Nat.mul_lt_mul_of_pos_right h k0
  have h2 := Nat.mul_le_mul_left b z
  omega
theorem div_pw {n : Nat} (h0 : 0 < n) : (divN n).Pairwise (· < ·) := by
  obtain ⟨r1, r2⟩ := isqrt_ok n
  unfold divN highN
  rw [List.pairwise_append]
  refine ⟨low_pw n, ?_, fun a ha b hb => ?_⟩
  · rw [List.pairwise_map]
    refine List.Pairwise.filter _ ?_
    rw [List.pairwise_reverse]
    exact List.Pairwise.imp_of_mem (fun {a b} ha hb h => div_anti h0 ((low_mem n a).mp ha).2.2 ((low_mem n b).mp hb).2.2 h) (low_pw n)
  · obtain ⟨d, hd, rfl⟩ := List.mem_map.mp hb
    rw [List.mem_filter, List.mem_reverse, low_mem] at hd
    rw [low_mem] at ha
    obtain ⟨⟨d0, d1, k, hk⟩, d3⟩ := hd
    have hkk : n / d = k := by rw [hk, Nat.mul_div_cancel_left k d0]
    rw [hkk]
    refine Nat.lt_of_not_le fun z => ?_
    have e1 : k ≤ PySem.Float64.isqrt n := by omega
    have e2 := Nat.mul_le_mul d1 e1
    have e3 : d * k = n := hk.symm
    have e4 : n = PySem.Float64.isqrt n * PySem.Float64.isqrt n := by omega
    have e5 : d = PySem.Float64.isqrt n := Nat.le_antisymm d1 (Nat.le_of_not_lt fun y => by
      have y1 : d * k ≤ d * PySem.Float64.isqrt n := Nat.mul_le_mul_left d e1
      have y2 : d * PySem.Float64.isqrt n < PySem.Float64.isqrt n * PySem.Float64.isqrt n := Nat.mul_lt_mul_of_pos_right y (by omega)
      omega)
    have e6 : d * d = n := by rw [e5]; exact e4.symm
    rw [decide_eq_true e6] at d3
    exact absurd d3 (by decide)
theorem strict_uniq : ∀ {a b : List Int}, a.Pairwise (· < ·) → b.Pairwise (· < ·) → (∀ x, x ∈ a ↔ x ∈ b) → a = b
  | [], [], _, _, _ => rfl
  | [], y :: b, _, _, h => absurd ((h y).mpr (List.mem_cons_self ..)) (by simp)
  | x :: a, [], _, _, h => absurd ((h x).mp (List.mem_cons_self ..)) (by simp)
  | x :: a, y :: b, ha, hb, h => by
    rw [List.pairwise_cons] at ha hb
    have e : x = y := by
      rcases List.mem_cons.mp ((h x).mp (List.mem_cons_self ..)) with e | m
      · exact e
      · rcases List.mem_cons.mp ((h y).mpr (List.mem_cons_self ..)) with e | m2
        · exact e.symm
        · have := hb.1 x m
          have := ha.1 y m2
          omega
    subst e
    congr 1
    refine strict_uniq ha.2 hb.2 fun z => ⟨fun hz => ?_, fun hz => ?_⟩
    · rcases List.mem_cons.mp ((h z).mp (List.mem_cons_of_mem _ hz)) with e | m
      · have := ha.1 z hz
        omega
      · exact m
    · rcases List.mem_cons.mp ((h z).mpr (List.mem_cons_of_mem _ hz)) with e | m
      · have := hb.1 z hz
        omega
      · exact m
def castI (l : List Nat) : List Int := l.map fun d : Nat => (d : Int)
theorem sorted_all {n : Nat} (h0 : 0 < n) (h64 : n < 2 ^ 64) {ns : List Int} (hp : ns.Perm (castI (allN n))) (hs : ns.Pairwise (· ≤ ·)) : ns = castI (divN n) := by
  obtain ⟨a1, a2⟩ := allN_spec h0 h64
  have nd : ns.Nodup := hp.nodup_iff.mpr (map_nodup (fun a b e => by omega) a1)
  refine strict_uniq ?_ (pairwise_map_of (R := (· < ·)) (fun a b h => by omega) (div_pw h0)) fun x => ?_
  · exact (List.Pairwise.and hs nd).imp fun {a b} h => by
      have := h.1
      have := h.2
      omega
  · rw [hp.mem_iff]
    unfold castI
    rw [List.mem_map, List.mem_map]
    constructor
    · rintro ⟨d, hd, rfl⟩
      exact ⟨d, (div_mem h0 d).mpr ((a2 d).mp hd), rfl⟩
    · rintro ⟨d, hd, rfl⟩
      exact ⟨d, (a2 d).mpr ((div_mem h0 d).mp hd), rfl⟩

/-! ### their readings -/
theorem len_le_of_sub : ∀ {a b : List Nat}, a.Nodup → (∀ x, x ∈ a → x ∈ b) → a.length ≤ b.length
  | [], _, _, _ => Nat.zero_le _
  | x :: a, b, h1, h2 => by
    rw [List.nodup_cons] at h1
    have hx := h2 x (List.mem_cons_self ..)
    have := len_le_of_sub (a := a) (b := b.erase x) h1.2 fun y hy => by
      have hne : y ≠ x := fun e => h1.1 (e ▸ hy)
      exact (List.mem_erase_of_ne hne).mpr (h2 y (List.mem_cons_of_mem _ hy))
    rw [List.length_erase_of_mem hx] at this
    have pos : 0 < b.length := List.length_pos_of_mem hx
    rw [List.length_cons]
    omega
theorem sq1000 {n : Nat} (h : n ≤ 1000000) : Float64.isqrt n ≤ 1000 := by
  refine Nat.le_of_not_lt fun z => ?_
  have := (isqrt_ok n).1
  have := Nat.mul_le_mul (show 1001 ≤ Float64.isqrt n by omega) (show 1001 ≤ Float64.isqrt n by omega)
  omega
theorem low_len {n : Nat} (h : n ≤ 1000000) : (lowN n).length ≤ 1000 := by
  unfold lowN
  rw [List.length_map]
  have h1 := List.length_filter_le (fun i => decide (n % (1 + i) = 0)) (List.range (Float64.isqrt n))
  rw [List.length_range] at h1
  have := sq1000 h
  omega
theorem high_len {n : Nat} (h : n ≤ 1000000) : (highN n).length ≤ 1000 := by
  unfold highN
  rw [List.length_map]
  have h1 := List.length_filter_le (fun d => !decide (d * d = n)) (lowN n).reverse
  rw [List.length_reverse] at h1
  have := low_len h
  omega
theorem div_len {n : Nat} (h : n ≤ 1000000) : (divN n).length ≤ 2000 := by
  unfold divN
  rw [List.length_append]
  have := low_len h
  have := high_len h
  omega
theorem castI_filter (f : Nat → Bool) (g : Int → Bool) (h : ∀ d : Nat, g (d : Int) = f d) : ∀ l : List Nat, (castI l).filter g = castI (l.filter f)
  | [] => rfl
  | d :: l => by
    show ((d : Int) :: castI l).filter g = _
    rw [List.filter_cons, List.filter_cons, h, castI_filter f g h l]
    split <;> rfl
theorem castI_len (l : List Nat) : (castI l).length = l.length := by
  unfold castI
  rw [List.length_map]
theorem castI_rev (l : List Nat) : (castI l).reverse = castI l.reverse := by
  unfold castI
  rw [List.map_reverse]
theorem castI_mem {l : List Nat} {x : Int} (h : x ∈ castI l) : ∃ d, d ∈ l ∧ x = (d : Int) := by
  obtain ⟨d, h1, h2⟩ := List.mem_map.mp h
  exact ⟨d, h1, h2.symm⟩
theorem castI_in (l : List Nat) (d : Nat) : ((d : Int) ∈ castI l) ↔ d ∈ l := by
  constructor
  · intro h
    obtain ⟨e, h1, h2⟩ := castI_mem h
    have : d = e := by omega
    rw [this]
    exact h1
  · intro h
    exact List.mem_map.mpr ⟨d, h, rfl⟩
/- divisors: slots 0 n, 1 low, 2 high, 3 d; calls  -/
abbrev s_divisors : Stmt := topS 6
theorem sc_divisors : FnScope ["n", "low", "high", "d"] ["n"] (defScope s_divisors) := ⟨rfl, rfl, rfl, by decide +kernel, rfl, by decide +kernel, by decide +kernel⟩

def spDivs : Sp := fun vs H Q _ => ∃ n : Nat, vs = [.int (n : Nat)] ∧ 1 ≤ n ∧ n ≤ 1000000 ∧ RetL ((castI (divN n)).map V.int) H Q
section
variable {P : Program} {w : World} {K : PySem.W.Frag} {mg : Str → Option Value} {base : Heap}
theorem cal_divisors (nb : Nb mg) (nb_isqrt : mg "isqrt" = some (.builtin "math.isqrt")) (d : Dfn K mg "divisors" ["n"] s_divisors) : Cal P w K mg base CX0 "divisors" 1 ["n"] spDivs := by
  refine d.cal sc_divisors (fun vs H Q E h => ?_) (fun f cdv A outer s H vs Q E hr h => ?_)
  · obtain ⟨a, rfl, _⟩ := h
    rfl
  · obtain ⟨n, rfl, n1, n2, q⟩ := h
    refine ⟨_, (pss_cons (ps_setLc (i := 1) (own := [("d", 3)]) (g := gName 3) (by rfl) sc_divisors.nd rfl rfl (sw_true rfl rfl rfl (by decide +kernel)) (pi_range2 (by rfl) nb.range (pa_cons pe_int (pa_cons (pe_op op_add (pe_callBfun cr_isqrt (by rfl) nb_isqrt (pa_cons (pv 0) pa_nil)) pe_int) pa_nil))) (blkOk_by (N := ["n", "low", "high", "d"]) (sc := defScope s_divisors) (by decide +kernel)) (fun _ _ _ _ _ => (pg_name (i := 3) sc_divisors.nd rfl (Or.inl rfl))) (fun _ _ _ _ _ => pts_one (pt_cmpR op_eq (pe_op op_mod (pv 0) (pv 3)) pe_int (nomark _))) (fun _ _ _ _ _ => (pv 3)))
      (pss_cons (ps_setLc (i := 2) (own := [("d", 3)]) (g := gName 3) (by rfl) sc_divisors.nd rfl rfl (sw_true rfl rfl rfl (by decide +kernel)) (pi_reversed (by rfl) nb.reversed (pa_cons (pv 1) pa_nil)) (blkOk_by (N := ["n", "low", "high", "d"]) (sc := defScope s_divisors) (by decide +kernel)) (fun _ _ _ _ _ => (pg_name (i := 3) sc_divisors.nd rfl (Or.inl rfl))) (fun _ _ _ _ _ => pts_one (pt_cmpR op_ne (pe_op op_mulW (pv 3) (pv 3)) (pv 0) (nomark _))) (fun _ _ _ _ _ => (pe_op op_fdivW (pv 0) (pv 3))))
      (pss_one (ps_ret (pe_op op_cat (pv 1) (pv 2)))))), ?_⟩
    have hsq := sq1000 n2
    refine q_asgL (xs := (castI (lowN n)).map V.int) (el_is (el_lcR2 (lo := 1) (hi := (Float64.isqrt n : Int) + 1) (fun i => decide (n % (1 + i) = 0)) (fun i => .int (1 + (i : Int))) (ea_cons ev_c (ea_cons (ev_add (ev_isqrt (ev_var rfl) (by omega)) ev_c) ea_nil)) (by omega) (fun _ => rfl) (fun i H1 e1 hi => ?_) (fun i H1 e1 hi hf => ev_var rfl)) ?_) fun a H1 na e1 h1 => ?_
    · refine et_is (et_test (ev_eqI (ev_mod (i := (n : Int)) (j := 1 + (i : Int)) (ev_var rfl) (ev_var rfl) (by omega)) ev_c)) ?_
      rw [Bool.eq_iff_iff, decide_eq_true_iff, decide_eq_true_iff]
      have : ((n % (1 + i) : Nat) : Int) = (n : Int) % (1 + (i : Int)) := by
        rw [Int.natCast_emod]
        rfl
      omega
    · rw [show ((Float64.isqrt n : Int) + 1 - 1).toNat = Float64.isqrt n by omega]
      unfold castI lowN
      rw [List.map_map, List.map_map]
      refine List.map_congr_left fun i _ => ?_
      show V.int (1 + (i : Int)) = V.int ((1 + i : Nat) : Int)
      congr 1
    refine q_asgL (xs := (castI (highN n)).map V.int) (el_is (el_lcV (ns := castI (lowN n)) (fun x => !decide (x * x = (n : Int))) (fun x => .int ((n : Int) / x)) (by one_place) (SqL.of h1) (by rw [castI_len]; have := low_len n2; omega) (fun _ => rfl) (fun r H2 e2 hr => ?_) (fun r H2 e2 hr hf => ?_)) ?_) fun b H2 nb' e2 h2 => ?_
    · obtain ⟨x, hx, rfl⟩ := castI_mem hr
      have hx2 := (low_mem n x).mp hx
      exact et_test (ev_neI (ev_mul (ev_var rfl) (ev_var rfl) (mulW (by omega) (by omega))) (ev_var rfl))
    · obtain ⟨x, hx, rfl⟩ := castI_mem hr
      have hx2 := (low_mem n x).mp hx
      exact ev_div (ev_var rfl) (ev_var rfl) (divW (by omega) (by omega))
    · rw [castI_rev, castI_filter (fun d => !decide (d * d = n)) _ fun d => by
        rw [Bool.eq_iff_iff, Bool.not_eq_true', Bool.not_eq_true', decide_eq_false_iff_not, decide_eq_false_iff_not]
        constructor
        · intro h e
          exact h (by exact_mod_cast e)
        · intro h e
          exact h (by exact_mod_cast e)]
      unfold castI highN
      rw [List.map_map, List.map_map, List.map_map]
      refine List.map_congr_left fun i _ => ?_
      show V.int ((n : Int) / (i : Int)) = V.int ((n / i : Nat) : Int)
      rw [Int.natCast_ediv]
    refine s_retL (xs := (castI (divN n)).map V.int) (el_is (el_cat2 (ev_var rfl) (e2 _ _ h1) (ev_var rfl) h2 (by rw [List.length_map, List.length_map, castI_len, castI_len]; have := low_len n2; have := high_len n2; omega)) ?_) fun p H3 np e3 hp => q.go (e1.trans e2) np e3 hp
    unfold divN castI
    rw [List.map_append, List.map_append]
end

/- cosine_polys: slots 0 n, 1 d; calls divisors, cosine_poly -/
abbrev s_cosine_polys : Stmt := topS 19
theorem sc_cosine_polys : FnScope ["n", "d"] ["n"] (defScope s_cosine_polys) := ⟨rfl, rfl, rfl, by decide +kernel, rfl, by decide +kernel, by decide +kernel⟩

def cosRows (n : Nat) : List (Int × List Int) := (castI (dvL n)).map fun d => (d, cosF d.toNat)
def spCps : Sp := fun vs H Q _ => ∃ n : Nat, vs = [.int (n : Nat)] ∧ 1 ≤ n ∧ n ≤ 60 ∧ RetRws (cosRows n) H Q
theorem divN_eq {n : Nat} (h : 1 ≤ n) : divN n = dvL n := rise_uniq (div_pw (by omega)) (dvL_rise n) fun x => by rw [div_mem (by omega), dvL_mem h]
theorem dvL_len (n : Nat) : (dvL n).length ≤ n := by
  unfold dvL dvs
  rw [List.length_map]
  have := List.length_filter_le (fun i => decide (n % (i + 1) = 0)) (List.range n)
  rw [List.length_range] at this
  exact this
theorem castI_dv {n : Nat} (h1 : 1 ≤ n) {x : Int} (hx : x ∈ castI (dvL n)) : ∃ d : Nat, x = (d : Int) ∧ 1 ≤ d ∧ d ≤ n := by
  obtain ⟨d, hd, rfl⟩ := castI_mem hx
  have hd := (dvL_mem h1).mp hd
  exact ⟨d, rfl, Nat.pos_of_dvd_of_pos hd (by omega), Nat.le_of_dvd (by omega) hd⟩
section
variable {P : Program} {w : World} {K : PySem.W.Frag} {mg : Str → Option Value} {base : Heap}
theorem cal_cps62 (nb : Nb mg) (c_divisors : Cal P w K mg base CX0 "divisors" 1 ["n"] spDivs) (c_cosine_poly : Cal P w K mg base CX0 "cosine_poly" 6 ["n"] spCp) (d : Dfn K mg "cosine_polys" ["n"] s_cosine_polys) : Cal P w K mg base CX0 "cosine_polys" 7 ["n"] spCps := by
  refine d.cal sc_cosine_polys (fun vs H Q E h => ?_) (fun fa cdv A outer s H vs Q E hr h => ?_)
  · obtain ⟨n, rfl, _⟩ := h
    rfl
  · obtain ⟨n, rfl, n1, n2, q⟩ := h
    refine ⟨_, (pss_one (ps_ret (pe_lc (own := [("d", 1)]) (g := gName 1) (tt := tYes) (by rfl) sc_cosine_polys.nd (pi_list (pe_cal c_divisors (hr.mono (by first | decide | omega)) (by rfl) pass0 (pa_cons (pv 0) pa_nil))) (blkOk_by (N := ["n", "d"]) (sc := defScope s_cosine_polys) (by decide +kernel)) (fun _ _ _ _ _ => (pg_name (i := 1) sc_cosine_polys.nd rfl (Or.inl rfl))) (fun _ _ _ _ _ => pts_nil) (fun _ _ _ _ _ => (pe_tup (pa_cons (pv 1) (pa_cons (pe_cal c_cosine_poly (hr.mono (by first | decide | omega)) (by rfl) pass0 (pa_cons (pv 1) pa_nil)) pa_nil))))))), ?_⟩
    refine (evR_lc (ns := castI (dvL n)) (fun d => cosF d.toNat) (el_cal (by one_place) fun H5 e5 Q k E => ⟨n, rfl, n1, by omega, by rw [divN_eq n1]; exact k⟩) (by rw [castI_len]; have := dvL_len n; omega) (fun _ => rfl) fun r H1 e1 hr => ?_) H (Ex.refl H) _ fun p ts H2 np e2 h2 R => q.go (Ex.refl H) np e2 h2 R
    obtain ⟨d, rfl, d1, d2⟩ := castI_dv n1 hr
    exact ⟨by one_place, el_cal (by one_place) fun H5 e5 Q k E => ⟨d, rfl, d1, by omega, by rw [Int.toNat_natCast] at k; exact k⟩⟩
end

/-! ### the law's own polynomials -/
/- _law_trim: slots 0 _law_row; calls  -/
abbrev s__law_trim : Stmt := topS 24
theorem sc__law_trim : FnScope ["_law_row"] ["_law_row"] (defScope s__law_trim) := ⟨rfl, rfl, rfl, by decide +kernel, rfl, by decide +kernel, by decide +kernel⟩

section
variable {P : Program} {w : World} {K : PySem.W.Frag} {mg : Str → Option Value} {base : Heap}
theorem cal_lt62 (nb : Nb mg) (d : Dfn K mg "_law_trim" ["_law_row"] s__law_trim) : Cal P w K mg base CX0 "_law_trim" 1 ["_law_row"] (spTrim K) := by
  refine d.cal sc__law_trim (fun vs H Q E h => ?_) (fun fa cdv A outer s H vs Q E hr h => ?_)
  · obtain ⟨a, ns, rfl, _⟩ := h
    rfl
  · obtain ⟨a, ns, rfl, hS, hz, q⟩ := h
    refine ⟨_, (pss_cons (ps_set (i := 0) sc__law_trim.nd rfl (.inl rfl) (pe_callTy call_list_of (by rfl) nb.list (by decide +kernel) (pa_cons (pv 0) pa_nil)))
      (pss_cons (ps_while PassesOwn.never (PW.pt (pw_and (pt_cmpR (op_neD hr.units) (pv 0) (pe_lst pa_nil) (nomark _)) (pw_and1 (pt_cmpR op_eq (pe_ix ix_list (pv 0) (pe_un un_neg pe_int) (fun _ _ => rfl)) pe_int (nomark _))))) (pss_one (ps_expr (pe_bm0 PySem.F.plainAttrs_list PySem.F.slot_list_pop PySem.F.type_list_pop mt_pop (pv 0)))))
      (pss_one (ps_ret (pv 0))))), ?_⟩
    refine q_asgL (xs := ns.map V.int) (el_list (ev_var rfl) hS) fun r H1 nr e1 h1 => ?_
    refine q_while (fun k σ' H' => ∃ T : List Int, σ' = [some (.ref r)] ∧ k = T.length ∧ T.length ≤ ns.length ∧ trim T = trim ns ∧ Ex H H' ∧ H' r = some (.lst (T.map V.int))) ns.length ⟨ns, rfl, rfl, Nat.le_refl _, rfl, e1, h1⟩ fun k σ' H2 hW => ?_
    obtain ⟨T, rfl, hk, lT, tT, e2, h2⟩ := hW
    refine ⟨!decide (T = []) && decide (coef T (T.length - 1) = 0), et_and (et_test (ev_opL (xs := []) (ev_var rfl) (el_lst ea_nil (by decide)) fun u H3 hu e3 => rv_neI (ns := T) (ms := []) (SqL.of (e3 _ _ h2)) (SqL.of hu))) fun hb => et_test (ev_eqI (ev_op (ev_var rfl) (ev_neg ev_c) (rv_ixL (v := .int (coef T (T.length - 1))) (SqL.of h2) (atI_last ?_))) ev_c), fun hb H3 e3 => ?_, fun hb H3 e3 => ?_⟩
    · have ne : T ≠ [] := by simpa using hb
      have := List.length_pos_iff.mpr ne
      rw [List.length_map, List.getElem?_map, coef_get (by omega)]
      rfl
    · rw [Bool.and_eq_true] at hb
      have ne : T ≠ [] := by simpa using hb.1
      have z := of_decide_eq_true hb.2
      have pos := List.length_pos_iff.mpr ne
      have sp : T = T.dropLast ++ [coef T (T.length - 1)] := by
        conv => lhs; rw [← List.dropLast_concat_getLast ne]
        congr 2
        rw [List.getLast_eq_getElem, coef_lt (by omega)]
      refine ⟨_, fun σ2 H4 hN => ⟨T.length - 1, by omega, hN⟩, ?_⟩
      have h3 := e3 _ _ h2
      rw [sp, List.map_append] at h3
      refine s_pop (xs := T.dropLast.map V.int) (y := .int (coef T (T.length - 1))) h3 (ev_var rfl) fun H4 e4 => ⟨T.dropLast, rfl, by rw [List.length_dropLast], by rw [List.length_dropLast]; omega, ?_, ?_, upd_same⟩
      · rw [← tT]
        refine trim_ext fun m => ?_
        conv => rhs; rw [sp]
        rw [coef_app, List.length_dropLast, z]
        split
        · rfl
        · rw [coef_ge (by rw [List.length_dropLast]; omega)]
          cases m - (T.length - 1) with
          | zero => rfl
          | succ j => rfl
      · exact Ex.mut (e2.trans (e3.trans e4)) nr
    · have tr : trim T = T := by
        refine trim_of_tr fun ne => ?_
        rw [Bool.and_eq_false_iff] at hb
        rcases hb with hb | hb
        · have : T = [] := by simpa using hb
          exact absurd this ne
        · exact of_decide_eq_false hb
      rw [tr] at tT
      exact s_ret (v := .ref r) (by one_place) fun H4 e4 => q r H4 nr (e2.trans (e3.trans e4)) (by rw [← tT]; exact (e3.trans e4) _ _ h2)
end
/- _law_sum_of: slots 0 _law_one, 1 _law_other, 2 _law_many, 3 _law_row, 4 _law_k; calls _law_trim -/
abbrev s__law_sum_of : Stmt := topS 25
theorem sc__law_sum_of : FnScope ["_law_one", "_law_other", "_law_many", "_law_row", "_law_k"] ["_law_one", "_law_other"] (defScope s__law_sum_of) := ⟨rfl, rfl, rfl, by decide +kernel, rfl, by decide +kernel, by decide +kernel⟩

def spSo62 (K : PySem.W.Frag) : Sp := fun vs H Q _ => ∃ (a b : Addr) (f g : List Int), vs = [.ref a, .ref b] ∧ SqL K H a (f.map V.int) ∧ SqL K H b (g.map V.int) ∧ f.length ≤ 1000 ∧ g.length ≤ 1000 ∧ RetL ((addP 1 f g).map V.int) H Q
section
variable {P : Program} {w : World} {K : PySem.W.Frag} {mg : Str → Option Value} {base : Heap}
theorem ev_sum62 {σ : L2.St} {H : Hp} {te : TE} {ns : List Int} (h : EvL te σ H (ns.map V.int)) : Ev (tCB (rSum K) (tCons te tNil)) σ H (.int ns.sum) := fun H1 e Q q =>
  h H1 e _ fun p H2 np e2 hp => ⟨p, ns, rfl, SqL.of hp, q H2 e2⟩
theorem cut_one (f : List Int) (k : Nat) : ∃ l : List Int, cutV (f.map V.int) (some (k : Int)) (some ((k + 1 : Nat) : Int)) = l.map V.int ∧ l.sum = coef f k := by
  refine ⟨(f.drop (min k f.length)).take (min (k + 1) f.length - min k f.length), ?_, ?_⟩
  · unfold cutV
    rw [HT.sIx_nat, HT.sIx_nat, List.length_map, List.map_take, List.map_drop]
  · by_cases c : k < f.length
    · rw [Nat.min_eq_left (by omega), Nat.min_eq_left (by omega), show k + 1 - k = 1 by omega, List.drop_eq_getElem_cons c, coef_lt c, List.take_succ_cons, List.take_zero, List.sum_cons, List.sum_nil, Int.add_zero]
    · rw [Nat.min_eq_right (by omega), Nat.min_eq_right (by omega), Nat.sub_self, List.take_zero, coef_ge (by omega)]
      rfl
theorem cal_so62 (nb : Nb mg) (c__law_trim : Cal P w K mg base CX0 "_law_trim" 1 ["_law_row"] (spTrim K)) (d : Dfn K mg "_law_sum_of" ["_law_one", "_law_other"] s__law_sum_of) : Cal P w K mg base CX0 "_law_sum_of" 2 ["_law_one", "_law_other"] (spSo62 K) := by
  refine d.cal sc__law_sum_of (fun vs H Q E h => ?_) (fun fa cdv A outer s H vs Q E hr h => ?_)
  · obtain ⟨a, b, f, g, rfl, _⟩ := h
    rfl
  · obtain ⟨a, b, f, g, rfl, hA, hB, lf, lg, q⟩ := h
    refine ⟨_, (pss_cons (ps_set (i := 2) sc__law_sum_of.nd rfl (.inl rfl) (pe_callB (call_max2 rfl) (by rfl) nb.max (by decide +kernel) (pa_cons (pe_callB call_len_seq (by rfl) nb.len PySem.boot_len (pa_cons (pv 0) pa_nil)) (pa_cons (pe_callB call_len_seq (by rfl) nb.len PySem.boot_len (pa_cons (pv 1) pa_nil)) pa_nil))))
      (pss_cons (ps_set (i := 3) sc__law_sum_of.nd rfl (.inl rfl) (pe_op op_rep (pe_lst (pa_cons pe_int pa_nil)) (pv 2)))
      (pss_cons (ps_for PassesOwn.never rfl (pi_range1 (by rfl) nb.range (pa_cons (pv 2) pa_nil)) (pg_name (i := 4) sc__law_sum_of.nd rfl (.inl rfl)) (pss_one (ps_asg (pe_op op_add (pe_callB (cr_sum rfl) (by rfl) nb.sum (by decide +kernel) (pa_cons (pe_slice sl_list (pv 0) (po_some (pv 4)) (po_some (pe_op op_add (pv 4) pe_int))) pa_nil)) (pe_callB (cr_sum rfl) (by rfl) nb.sum (by decide +kernel) (pa_cons (pe_slice sl_list (pv 1) (po_some (pv 4)) (po_some (pe_op op_add (pv 4) pe_int))) pa_nil))) (pg_sub (pv 3) (pv 4) set_list))))
      (pss_one (ps_ret (pe_cal c__law_trim (hr.mono (by first | decide | omega)) (by rfl) pass0 (pa_cons (pv 3) pa_nil))))))), ?_⟩
    refine q_asg (v := .int ((max f.length g.length : Nat) : Int)) (ev_is (ev_max2 (i := (f.length : Int)) (j := (g.length : Int)) (ev_is (ev_len (ev_var rfl) hA) (by rw [List.length_map])) (ev_is (ev_len (ev_var rfl) hB) (by rw [List.length_map]))) (by congr 1; split <;> omega)) fun H1 e1 => ?_
    obtain ⟨m, hm⟩ : ∃ m, max f.length g.length = m := ⟨_, rfl⟩
    rw [hm]
    refine q_asgL (xs := (List.replicate m (0 : Int)).map V.int) (el_is (el_rep (k := (m : Nat)) (x := .int 0) (el_lst (by one_place) (by decide)) (ev_var rfl) (by omega) (by omega)) (by rw [List.map_replicate, Int.toNat_natCast])) fun t H2 nt e2 h2 => ?_
    have e12 := e1.trans e2
    refine q_forR1 (n := (m : Int)) (by one_place) (by omega) (fun i σ' H' => ∃ (T : List Int) (y : Option V), σ' = [some (.ref a), some (.ref b), some (.int (m : Nat)), some (.ref t), y] ∧ Ex H H' ∧ H' t = some (.lst (T.map V.int)) ∧ T.length = m ∧ ∀ j, coef T j = if j < i then coef f j + coef g j else 0)
      (fun H3 e3 => ⟨_, none, rfl, e12.trans e3, e3 _ _ h2, List.length_replicate, fun j => by rw [coef_rep, if_neg (by omega)]⟩) (fun i σ' H' hi hp => ?_) (fun σ' H' hp => ?_)
    · obtain ⟨T, y, rfl, e3, h3, lT, cT⟩ := hp
      obtain ⟨l1, c1, s1⟩ := cut_one f i
      obtain ⟨l2, c2, s2⟩ := cut_one g i
      refine s_setI (j := i) (b := coef f i + coef g i) h3 (ev_var rfl) (ev_var rfl) (by omega) (ev_is (ev_add (ev_sum62 (ns := l1) (el_is (el_sl (ev_var rfl) (eo_some (ev_var rfl)) (eo_some (ev_is (ev_add (ev_var rfl) ev_c) (show V.int ((i : Int) + 1) = V.int ((i + 1 : Nat) : Int) by rw [Int.natCast_add]; rfl))) (ex_l e3 hA)) c1)) (ev_sum62 (ns := l2) (el_is (el_sl (ev_var rfl) (eo_some (ev_var rfl)) (eo_some (ev_is (ev_add (ev_var rfl) ev_c) (show V.int ((i : Int) + 1) = V.int ((i + 1 : Nat) : Int) by rw [Int.natCast_add]; rfl))) (ex_l e3 hB)) c2))) (by rw [s1, s2])) fun H4 e4 => ⟨_, _, rfl, Ex.mut (e3.trans e4) (fresh_back e1 nt), upd_same, by rw [List.length_set]; exact lT, fun j => ?_⟩
      rw [coef_set (by omega), cT j]
      by_cases c : j = i
      · rw [if_pos c, if_pos (by omega), c]
      · rw [if_neg c]
        by_cases c2 : j < i
        · rw [if_pos c2, if_pos (by omega)]
        · rw [if_neg c2, if_neg (by omega)]
    · obtain ⟨T, y, rfl, e3, h3, lT, cT⟩ := hp
      rw [Int.toNat_natCast] at cT
      have eT : trim T = addP 1 f g := by
        unfold addP
        refine trim_ext fun j => ?_
        rw [cT j, coef_addL]
        split
        · omega
        · rw [coef_ge (l := f) (by omega), coef_ge (l := g) (by omega)]
          omega
      exact s_retL (el_cal (vs := [.ref t]) (by one_place) fun H4 e4 Q kk E => ⟨t, T, rfl, SqL.of (e4 _ _ h3), by omega, kk⟩) fun p H4 np e4 h4 => q p H4 (fresh_back e3 np) (e3.trans e4) (by rw [← eT]; exact h4)
end
/- _law_product: slots 0 _law_one, 1 _law_other, 2 _law_row, 3 _law_i, 4 _law_k; calls _law_trim -/
abbrev s__law_product : Stmt := topS 26
theorem sc__law_product : FnScope ["_law_one", "_law_other", "_law_row", "_law_i", "_law_k"] ["_law_one", "_law_other"] (defScope s__law_product) := ⟨rfl, rfl, rfl, by decide +kernel, rfl, by decide +kernel, by decide +kernel⟩

def spPd62 (K : PySem.W.Frag) : Sp := fun vs H Q _ => ∃ (a b : Addr) (f g : List Int) (n m : Nat), vs = [.ref a, .ref b] ∧ SqL K H a (f.map V.int) ∧ SqL K H b (g.map V.int) ∧ f.length ≤ 4000 ∧ g.length ≤ 1000 ∧ Bd n f ∧ Bd m g ∧ n + m ≤ 900000 ∧ RetL ((pdL f g).map V.int) H Q
section
variable {P : Program} {w : World} {K : PySem.W.Frag} {mg : Str → Option Value} {base : Heap}
/-- what stands at m when the first i of f, and of f's i-th the first j of g, are gone through -/
theorem cal_pd62 (nb : Nb mg) (c__law_trim : Cal P w K mg base CX0 "_law_trim" 1 ["_law_row"] (spTrim K)) (d : Dfn K mg "_law_product" ["_law_one", "_law_other"] s__law_product) : Cal P w K mg base CX0 "_law_product" 2 ["_law_one", "_law_other"] (spPd62 K) := by
  refine d.cal sc__law_product (fun vs H Q E h => ?_) (fun fa cdv A outer s H vs Q E hr h => ?_)
  · obtain ⟨a, b, f, g, n, m, rfl, _⟩ := h
    rfl
  · obtain ⟨a, b, f, g, n, m, rfl, hA, hB, lf, lg, bf, bg, nm, q⟩ := h
    refine ⟨_, (pss_cons (ps_set (i := 2) sc__law_product.nd rfl (.inl rfl) (pe_op op_rep (pe_lst (pa_cons pe_int pa_nil)) (pe_op op_add (pe_callB call_len_seq (by rfl) nb.len PySem.boot_len (pa_cons (pv 0) pa_nil)) (pe_callB call_len_seq (by rfl) nb.len PySem.boot_len (pa_cons (pv 1) pa_nil)))))
      (pss_cons (ps_for PassesOwn.never rfl (pi_range1 (by rfl) nb.range (pa_cons (pe_callB call_len_seq (by rfl) nb.len PySem.boot_len (pa_cons (pv 0) pa_nil)) pa_nil)) (pg_name (i := 3) sc__law_product.nd rfl (.inl rfl)) (pss_one (ps_for PassesOwn.never rfl (pi_range1 (by rfl) nb.range (pa_cons (pe_callB call_len_seq (by rfl) nb.len PySem.boot_len (pa_cons (pv 1) pa_nil)) pa_nil)) (pg_name (i := 4) sc__law_product.nd rfl (.inl rfl)) (pss_one (ps_asg (pe_op op_add (pe_ix ix_list (pv 2) (pe_op op_add (pv 3) (pv 4)) (fun _ _ => rfl)) (pe_op op_mulW (pe_ix ix_list (pv 0) (pv 3) (fun _ _ => rfl)) (pe_ix ix_list (pv 1) (pv 4) (fun _ _ => rfl)))) (pg_sub (pv 2) (pe_op op_add (pv 3) (pv 4)) set_list))))))
      (pss_one (ps_ret (pe_cal c__law_trim (hr.mono (by first | decide | omega)) (by rfl) pass0 (pa_cons (pv 2) pa_nil)))))), ?_⟩
    have hlA : ∀ {σ : L2.St} {H' : Hp}, Ex H H' → σ[0]? = some (some (.ref a)) → Ev (tCB (rLenS K) (tCons (tVar 0) tNil)) σ H' (.int (f.length : Nat)) := fun e hs => ev_is (ev_len (ev_var hs) (ex_l e hA)) (by rw [List.length_map])
    have hlB : ∀ {σ : L2.St} {H' : Hp}, Ex H H' → σ[1]? = some (some (.ref b)) → Ev (tCB (rLenS K) (tCons (tVar 1) tNil)) σ H' (.int (g.length : Nat)) := fun e hs => ev_is (ev_len (ev_var hs) (ex_l e hB)) (by rw [List.length_map])
    refine q_asgL (xs := (List.replicate (f.length + g.length) (0 : Int)).map V.int) (el_is (el_rep (k := ((f.length + g.length : Nat) : Int)) (x := .int 0) (el_lst (by one_place) (by decide)) (ev_is (ev_add (hlA (Ex.refl _) rfl) (hlB (Ex.refl _) rfl)) (by rw [Int.natCast_add])) (by omega) (by omega)) (by rw [List.map_replicate, Int.toNat_natCast])) fun t H1 nt e1 h1 => ?_
    refine q_forR1 (n := (f.length : Int)) (ea_cons (hlA e1 rfl) ea_nil) (by omega) (fun i σ' H' => ∃ (T : List Int) (y3 y4 : Option V), σ' = [some (.ref a), some (.ref b), some (.ref t), y3, y4] ∧ Ex H H' ∧ H' t = some (.lst (T.map V.int)) ∧ T.length = f.length + g.length ∧ ∀ k, coef T k = cv f g i k)
      (fun H2 e2 => ⟨_, none, none, rfl, e1.trans e2, e2 _ _ h1, List.length_replicate, fun k => by rw [coef_rep]; rfl⟩) (fun i σ' H2 hi hp => ?_) (fun σ' H2 hp => ?_)
    · obtain ⟨T, y3, y4, rfl, e2, h2, lT, cT⟩ := hp
      refine s_forR1 (n := (g.length : Int)) (ea_cons (hlB e2 rfl) ea_nil) (by omega) (fun j σ' H' => ∃ (T : List Int) (y4 : Option V), σ' = [some (.ref a), some (.ref b), some (.ref t), some (.int (i : Nat)), y4] ∧ Ex H H' ∧ H' t = some (.lst (T.map V.int)) ∧ T.length = f.length + g.length ∧ ∀ k, coef T k = cv f g i k + if i ≤ k ∧ k - i < j then coef f i * coef g (k - i) else 0)
        (fun H3 e3 => ⟨T, _, rfl, e2.trans e3, e3 _ _ h2, lT, fun k => by rw [cT k, if_neg (by omega), Int.add_zero]⟩) (fun j σ' H3 hj hp => ?_) (fun σ' H3 hp => ?_)
      · obtain ⟨T, y4, rfl, e3, h3, lT, cT⟩ := hp
        refine s_setI (j := i + j) (b := coef T (i + j) + coef f i * coef g j) h3 (ev_var rfl) (ev_is (ev_add (ev_var rfl) (ev_var rfl)) (by rw [Int.natCast_add])) (by omega) (ev_add (ev_ixI (j := i + j) (SqL.of h3) (ev_var rfl) (ev_is (ev_add (ev_var rfl) (ev_var rfl)) (by rw [Int.natCast_add])) (coef_get (by omega))) (ev_mul (ev_ixI (j := i) (ex_l e3 hA) (ev_var rfl) (ev_var rfl) (coef_get (by omega))) (ev_ixI (j := j) (ex_l e3 hB) (ev_var rfl) (ev_var rfl) (coef_get (by omega))) (mulB (bf i) (bg j) nm))) fun H4 e4 => ⟨_, _, rfl, Ex.mut (e3.trans e4) nt, upd_same, by rw [List.length_set]; exact lT, fun k => ?_⟩
        rw [coef_set (by omega)]
        by_cases c : k = i + j
        · rw [if_pos c, c, cT, if_neg (by omega), if_pos (by omega), Int.add_zero, Nat.add_sub_cancel_left]
        · rw [if_neg c, cT]
          congr 1
          by_cases c2 : i ≤ k ∧ k - i < j
          · rw [if_pos c2, if_pos (by omega)]
          · rw [if_neg c2, if_neg (by omega)]
      · obtain ⟨T, y4, rfl, e3, h3, lT, cT⟩ := hp
        rw [Int.toNat_natCast] at cT
        refine ⟨T, _, _, rfl, e3, h3, lT, fun k => ?_⟩
        rw [cT k]
        show _ = cv f g i k + if i ≤ k then coef f i * coef g (k - i) else 0
        congr 1
        by_cases c : i ≤ k
        · rw [if_pos c]
          by_cases c2 : k - i < g.length
          · rw [if_pos ⟨c, c2⟩]
          · rw [if_neg (fun z => c2 z.2), coef_ge (l := g) (by omega), Int.mul_zero]
        · rw [if_neg c, if_neg (fun z => c z.1)]
    · obtain ⟨T, y3, y4, rfl, e2, h2, lT, cT⟩ := hp
      rw [Int.toNat_natCast] at cT
      have eT : trim T = pdL f g := by
        unfold pdL
        exact trim_ext fun k => by rw [cT k, coef_mulP]
      exact s_retL (el_cal (vs := [.ref t]) (by one_place) fun H4 e4 Q kk E => ⟨t, T, rfl, SqL.of (e4 _ _ h2), by omega, kk⟩) fun p H4 np e4 h4 => q p H4 (fresh_back e2 np) (e2.trans e4) (by rw [← eT]; exact h4)
end

/- _law_whole: slots 0 _law_thing; calls  -/
abbrev s__law_whole : Stmt := topS 27
theorem sc__law_whole : FnScope ["_law_thing"] ["_law_thing"] (defScope s__law_whole) := ⟨rfl, rfl, rfl, by decide +kernel, rfl, by decide +kernel, by decide +kernel⟩

def spWh62 : Sp := fun vs H Q _ => ∃ i : Int, vs = [.int i] ∧ RetV (.bl true) H Q
section
variable {P : Program} {w : World} {K : PySem.W.Frag} {mg : Str → Option Value} {base : Heap}
theorem cal_wh62 (nb : Nb mg) (d : Dfn K mg "_law_whole" ["_law_thing"] s__law_whole) : Cal P w K mg base CX0 "_law_whole" 1 ["_law_thing"] spWh62 := by
  refine d.cal sc__law_whole (fun vs H Q E h => ?_) (fun fa cdv A outer s H vs Q E hr h => ?_)
  · obtain ⟨i, rfl, _⟩ := h
    rfl
  · obtain ⟨i, rfl, q⟩ := h
    refine ⟨_, (pss_one (ps_ret (pe_and (pe_callB call_isi (by rfl) nb.isinstance (by decide +kernel) (pa_cons (pv 0) (pa_cons (pe_bltn (v := .ty "int") (by rfl) nb.int (by decide +kernel) rfl) pa_nil))) (pe_one (pe_not (pe_callB call_isi (by rfl) nb.isinstance (by decide +kernel) (pa_cons (pv 0) (pa_cons (pe_bltn (v := .ty "bool") (by rfl) nb.bool (by decide +kernel) rfl) pa_nil)))))))), ?_⟩
    exact s_ret (v := .bl true) (ev_is (ev_andV (ev_isi (b := true) (ev_var rfl) tx_int (by decide +kernel)) fun _ => ev_notV (ev_isi (b := false) (ev_var rfl) tx_int (by decide +kernel))) rfl) fun H1 e1 => q H1 e1
end
/- _law_is_poly: slots 0 _law_thing, 1 _law_one; calls  -/
abbrev s__law_is_poly : Stmt := topS 28
theorem sc__law_is_poly : FnScope ["_law_thing", "_law_one"] ["_law_thing"] (defScope s__law_is_poly) := ⟨rfl, rfl, rfl, by decide +kernel, rfl, by decide +kernel, by decide +kernel⟩

def spIp62 (K : PySem.W.Frag) : Sp := fun vs H Q _ => ∃ (a : Addr) (f : List Int), vs = [.ref a] ∧ H a = some (.lst (f.map V.int)) ∧ f ≠ [] ∧ f.length ≤ 1000 ∧ coef f (f.length - 1) ≠ 0 ∧ RetV (.bl true) H Q
section
variable {P : Program} {w : World} {K : PySem.W.Frag} {mg : Str → Option Value} {base : Heap}
theorem cal_ip62 (nb : Nb mg) (d : Dfn K mg "_law_is_poly" ["_law_thing"] s__law_is_poly) : Cal P w K mg base CX0 "_law_is_poly" 1 ["_law_thing"] (spIp62 K) := by
  refine d.cal sc__law_is_poly (fun vs H Q E h => ?_) (fun fa cdv A outer s H vs Q E hr h => ?_)
  · obtain ⟨a, f, rfl, _⟩ := h
    rfl
  · obtain ⟨a, f, rfl, hA, ne, lf, hl, q⟩ := h
    refine ⟨_, (pss_cons (ps_if (pt_not (pt_val (pe_callB call_isi (by rfl) nb.isinstance (by decide +kernel) (pa_cons (pv 0) (pa_cons (pe_bltn (v := .ty "list") (by rfl) nb.list (by decide +kernel) rfl) pa_nil))))) (pss_one (ps_ret pe_bl)) pss_nil)
      (pss_cons (ps_if (pt_cmpR (op_neD hr.units) (pe_lc (own := [("_law_one", 1)]) (g := gName 1) (tt := (tOr (tB (tCB (rIsi K) (tCons (tVar 1) (tCons (tC (.ty "bool")) tNil)))) (tNot (tB (tCB (rIsi K) (tCons (tVar 1) (tCons (tC (.ty "int")) tNil))))))) (by rfl) sc__law_is_poly.nd (pi_list (pv 0)) (blkOk_by (N := ["_law_thing", "_law_one"]) (sc := defScope s__law_is_poly) (by decide +kernel)) (fun _ _ _ _ _ => (pg_name (i := 1) sc__law_is_poly.nd rfl (Or.inl rfl))) (fun _ _ _ _ _ => pts_one (PW.pt (pw_or (pt_val (pe_callB call_isi (by rfl) nb.isinstance (by decide +kernel) (pa_cons (pv 1) (pa_cons (pe_bltn (v := .ty "bool") (by rfl) nb.bool (by decide +kernel) rfl) pa_nil)))) (pw_or1 (pt_not (pt_val (pe_callB call_isi (by rfl) nb.isinstance (by decide +kernel) (pa_cons (pv 1) (pa_cons (pe_bltn (v := .ty "int") (by rfl) nb.int (by decide +kernel) rfl) pa_nil))))))))) (fun _ _ _ _ _ => (pv 1))) (pe_lst pa_nil) (nomark _)) (pss_one (ps_ret pe_bl)) pss_nil)
      (pss_one (ps_ret (pe_or (pe_cmpR (op_eqD hr.units) (pv 0) (pe_lst pa_nil) (nomark _)) (pe_one (pe_cmpR op_ne (pe_ix ix_list (pv 0) (pe_un un_neg pe_int) (fun _ _ => rfl)) pe_int (nomark _)))))))), ?_⟩
    have pos := List.length_pos_iff.mpr ne
    refine q_when (b := false) (et_is (et_not (et_B (ev_isi (b := true) (ev_var rfl) (tx_lst hA) (by decide +kernel)))) rfl) (fun hb => nomatch hb) (fun _ H1 e1 => ?_)
    refine q_when (b := false) (et_test (ev_opLL (xs := []) (ys := []) (el_is (el_lcI (ns := f) (fun _ => false) (fun i => .int i) (ev_var rfl) (SqL.of (e1 _ _ hA)) (by omega) (fun _ => rfl) (fun i H6 e6 hi => et_is (et_or (et_B (ev_isi (b := false) (ev_var rfl) tx_int (by decide +kernel))) fun _ => et_not (et_B (ev_isi (b := true) (ev_var rfl) tx_int (by decide +kernel)))) rfl) fun i H6 e6 hi hf => nomatch hf) (by rw [List.filter_eq_nil_iff.mpr (fun _ _ => by decide)]; rfl)) (el_lst ea_nil (by decide)) fun u v H6 hu hv e6 => rv_neI (ns := []) (ms := []) (SqL.of hu) (SqL.of hv))) (fun hb => nomatch hb) (fun _ H2 e2 => ?_)
    have h2 := (e1.trans e2) _ _ hA
    exact s_ret (v := .bl true) (ev_is (ev_orV (ev_opL (xs := []) (ev_var rfl) (el_lst ea_nil (by decide)) fun u H3 hu e3 => rv_eqI (ns := f) (ms := []) (SqL.of (e3 _ _ h2)) (SqL.of hu)) fun _ => ev_neI (i := coef f (f.length - 1)) (j := 0) (ev_op (ev_var rfl) (ev_neg ev_c) (rv_ixL (v := .int (coef f (f.length - 1))) (SqL.of h2) (atI_last (by rw [List.length_map, List.getElem?_map, coef_get (by omega)]; rfl)))) ev_c) (by rw [decide_eq_false hl, decide_eq_false ne]; rfl)) fun H3 e3 => q H3 ((e1.trans e2).trans e3)
end
/- _law_divisors: slots 0 _law_n_here, 1 _law_d; calls  -/
abbrev s__law_divisors : Stmt := topS 30
theorem sc__law_divisors : FnScope ["_law_n_here", "_law_d"] ["_law_n_here"] (defScope s__law_divisors) := ⟨rfl, rfl, rfl, by decide +kernel, rfl, by decide +kernel, by decide +kernel⟩

section
variable {P : Program} {w : World} {K : PySem.W.Frag} {mg : Str → Option Value} {base : Heap}
def spDv62 : Sp := fun vs H Q _ => ∃ n : Nat, vs = [.int (n : Nat)] ∧ 1 ≤ n ∧ n ≤ 60 ∧ RetL ((castI (dvL n)).map V.int) H Q
theorem cal_dv62 (nb : Nb mg) (d : Dfn K mg "_law_divisors" ["_law_n_here"] s__law_divisors) : Cal P w K mg base CX0 "_law_divisors" 1 ["_law_n_here"] spDv62 := by
  refine d.cal sc__law_divisors (fun vs H Q E h => ?_) (fun fa cdv A outer s H vs Q E hr h => ?_)
  · obtain ⟨n, rfl, _⟩ := h
    rfl
  · obtain ⟨n, rfl, n1, n2, q⟩ := h
    refine ⟨_, (pss_one (ps_ret (pe_lc (own := [("_law_d", 1)]) (g := gName 1) (by rfl) sc__law_divisors.nd (pi_range2 (by rfl) nb.range (pa_cons pe_int (pa_cons (pe_op op_add (pv 0) pe_int) pa_nil))) (blkOk_by (N := ["_law_n_here", "_law_d"]) (sc := defScope s__law_divisors) (by decide +kernel)) (fun _ _ _ _ _ => (pg_name (i := 1) sc__law_divisors.nd rfl (Or.inl rfl))) (fun _ _ _ _ _ => pts_one (pt_cmpR op_eq (pe_op op_mod (pv 0) (pv 1)) pe_int (nomark _))) (fun _ _ _ _ _ => (pv 1))))), ?_⟩
    refine s_retL (xs := (castI (dvL n)).map V.int) (el_is (el_lcR2 (lo := 1) (hi := (n : Int) + 1) (fun i => decide ((n : Int) % (1 + (i : Int)) = 0)) (fun i => .int (1 + (i : Int))) (by one_place) (by omega) (fun _ => rfl) (fun i H2 e2 hi => by one_place) (fun i H2 e2 hi _ => ev_var rfl)) ?_) q
    unfold castI dvL dvs
    rw [List.map_map, List.map_map, show ((n : Int) + 1 - 1).toNat = n by omega]
    have ef : (List.range n).filter (fun i : Nat => decide ((n : Int) % (1 + (i : Int)) = 0)) = (List.range n).filter fun i : Nat => decide (n % (i + 1) = 0) := by
      congr 1
      funext i
      refine decide_eq_decide.mpr ?_
      rw [show (1 + (i : Int)) = ((i + 1 : Nat) : Int) by omega]
      omega
    rw [ef]
    refine List.map_congr_left fun i _ => ?_
    show V.int (1 + (i : Int)) = V.int ((i + 1 : Nat) : Int)
    congr 1
    omega
end

/- _law_n: slots 0 _law_number, 1 _law_most, 2 _law_some; calls  -/
abbrev s__law_n : Stmt := topS 32
theorem sc__law_n : FnScope ["_law_number", "_law_most", "_law_some"] ["_law_number", "_law_most", "_law_some"] (defScope s__law_n) := ⟨rfl, rfl, rfl, by decide +kernel, rfl, by decide +kernel, by decide +kernel⟩

def spN62 (K : PySem.W.Frag) : Sp := fun vs H Q _ => ∃ (z : Int) (a : Addr), vs = [.int z, .int 60, .ref a] ∧ SqL K H a (([30, 36, 42, 45, 48, 54, 60] : List Int).map V.int) ∧ ∀ n : Nat, 1 ≤ n → n ≤ 60 → RetV (.int (n : Nat)) H Q
section
variable {P : Program} {w : World} {K : PySem.W.Frag} {mg : Str → Option Value} {base : Heap}
theorem cal_n62 (nb : Nb mg) (d : Dfn K mg "_law_n" ["_law_number", "_law_most", "_law_some"] s__law_n) : Cal P w K mg base CX0 "_law_n" 1 ["_law_number", "_law_most", "_law_some"] (spN62 K) := by
  refine d.cal sc__law_n (fun vs H Q E h => ?_) (fun fa cdv A outer s H vs Q E hr h => ?_)
  · obtain ⟨z, a, rfl, _⟩ := h
    rfl
  · obtain ⟨z, a, rfl, hA, q⟩ := h
    refine ⟨_, (pss_cons (ps_if (pt_cmpR op_eq (pe_op op_mod (pv 0) pe_int) pe_int (nomark _)) (pss_one (ps_ret (pe_ix ix_list (pv 2) (pe_op op_mod (pe_op op_fdivW (pv 0) pe_int) (pe_callB call_len_seq (by rfl) nb.len PySem.boot_len (pa_cons (pv 2) pa_nil))) (fun _ _ => rfl)))) pss_nil)
      (pss_one (ps_ret (pe_op op_add pe_int (pe_op op_mod (pe_op op_fdivW (pv 0) pe_int) (pv 1)))))), ?_⟩
    refine q_when (b := decide (z % 8 = 5)) (et_test (ev_eqI (ev_mod (ev_var rfl) ev_c (by decide)) ev_c)) (fun hb H1 e1 => ?_) (fun hb H1 e1 => ?_)
    · obtain ⟨j, hj, j7⟩ : ∃ j : Nat, (j : Int) = z / 8 % 7 ∧ j < 7 := ⟨(z / 8 % 7).toNat, by omega, by omega⟩
      obtain ⟨n, hn, n1, n2⟩ : ∃ n : Nat, ([30, 36, 42, 45, 48, 54, 60] : List Int)[j]? = some (n : Int) ∧ 1 ≤ n ∧ n ≤ 60 := by
        have c : j = 0 ∨ j = 1 ∨ j = 2 ∨ j = 3 ∨ j = 4 ∨ j = 5 ∨ j = 6 := by omega
        rcases c with rfl | rfl | rfl | rfl | rfl | rfl | rfl
        · exact ⟨30, rfl, by decide, by decide⟩
        · exact ⟨36, rfl, by decide, by decide⟩
        · exact ⟨42, rfl, by decide, by decide⟩
        · exact ⟨45, rfl, by decide, by decide⟩
        · exact ⟨48, rfl, by decide, by decide⟩
        · exact ⟨54, rfl, by decide, by decide⟩
        · exact ⟨60, rfl, by decide, by decide⟩
      exact s_ret (v := .int (n : Nat)) (ev_ixI (j := j) (b := (n : Int)) (ex_l e1 hA) (ev_var rfl) (ev_is (ev_mod (ev_div (ev_var rfl) ev_c (divW (by decide) (by decide))) (ev_is (ev_len (ev_var rfl) (ex_l e1 hA)) (show _ = V.int 7 from rfl)) (by decide)) (by rw [hj])) hn) fun H2 e2 => q n n1 n2 H2 (e1.trans e2)
    · obtain ⟨n, hn, n1, n2⟩ : ∃ n : Nat, (n : Int) = 1 + z / 8 % 60 ∧ 1 ≤ n ∧ n ≤ 60 := ⟨(1 + z / 8 % 60).toNat, by omega, by omega, by omega⟩
      exact s_ret (v := .int (n : Nat)) (ev_is (ev_add ev_c (ev_mod (ev_div (ev_var rfl) ev_c (divW (by decide) (by decide))) (ev_var rfl) (by decide))) (by rw [hn])) fun H2 e2 => q n n1 n2 H2 (e1.trans e2)
end

/-! ### lists of new lists, made of others -/
section
open RZ
variable {K : PySem.W.Frag} {σ : L2.St} {H : Hp} {te tl : TE} {D : Ends} {tu tz : TS}
/-- x = [a new list for each of a list] -/
theorem q_asgLcNL {L : Addr} {qs : List Addr} {yss : List (List V)} {i j : Nat} {vs : List Nat} (hv : Ev tl σ H (.ref L)) (hL : SqL K H L (qs.map V.ref)) (hz : qs.length ≤ 40000) (hn : yss.length = qs.length) (hw : ∀ x, wipe ((wipe σ vs).set j (some x)) vs = wipe σ vs)
    (he : ∀ (n : Nat) q ys H1, Ex H H1 → qs[n]? = some q → yss[n]? = some ys → EvL te ((wipe σ vs).set j (some (.ref q))) H1 ys)
    (k : ∀ Dl ps H1, H Dl = none → Ex H H1 → H1 Dl = some (.lst (ps.map V.ref)) → NewL H H1 ps yss → Dl ∉ ps → tz D (σ.set i (some (.ref Dl))) H1) : tSeq (tAsg (tLc (iList K tl) (gName j) tYes te vs) (gName i)) tz D σ H :=
  hv H (Ex.refl H) _ fun H1 e1 => ⟨L, rfl, ⟨qs.map V.ref, ex_l e1 hL⟩, fun Dl hD =>
    lc_it (n := (qs.map V.ref).length) walk_list (fun n H' => H1 Dl = none ∧ Ex H1 H' ∧ ∃ ps, H' Dl = some (.lst (ps.map V.ref)) ∧ Dl ∉ ps ∧ NewL H1 H' ps (yss.take n)) ⟨hD, Ex.new hD, [], upd_same, List.not_mem_nil, NewL.nil⟩ (fun n H' _ p => ex_l (e1.trans p.2.1) hL) (fun n v H' H'' hn' p y => by
      obtain ⟨p1, p2, ps, p3, p4, N⟩ := p
      obtain ⟨rfl, y⟩ := y
      rw [List.getElem?_map] at y
      obtain ⟨q, hq, rfl⟩ := Option.map_eq_some_iff.mp y
      have hnq := (List.getElem?_eq_some_iff.mp hq).1
      obtain ⟨ys, hys⟩ : ∃ ys, yss[n]? = some ys := ⟨yss[n]'(by omega), List.getElem?_eq_getElem (by omega)⟩
      refine ⟨hw _, ?_⟩
      refine et_yes _ (Ex.refl _) _ fun H3 e3 => ?_
      show te _ H3 _
      have pl := N.len
      rw [List.length_take] at pl
      refine he n q ys H3 (e1.trans (p2.trans e3)) hq hys H3 (Ex.refl H3) _ fun r H4 nr e4 h4 => ⟨ps.map V.ref, e4 Dl _ (e3 Dl _ p3), sz_lt (by rw [List.length_map]; omega), p1, Ex.mut ((p2.trans e3).trans e4) p1, ps ++ [r], ?_, ?_, ?_⟩
      · rw [upd_same, List.map_append]
        rfl
      · intro m
        rcases List.mem_append.mp m with m | m
        · exact p4 m
        · exact ne_of_none (e3 Dl _ p3) nr (List.mem_singleton.mp m)
      · rw [List.take_add_one, hys]
        refine NewL.upd ((N.mono e3).app (p2.trans e3) (NewL.one nr h4) e4) fun m => ?_
        rcases List.mem_append.mp m with m | m
        · exact p4 m
        · exact ne_of_none (e3 Dl _ p3) nr (List.mem_singleton.mp m)) (fun H' p => by
      obtain ⟨p1, p2, ps, p3, p4, N⟩ := p
      rw [List.length_map, List.take_of_length_le (by omega)] at N
      exact k Dl ps H' (fresh_back e1 p1) (e1.trans p2) p3 (N.back e1) p4)⟩
/-- it tells a new list of new lists -/
def EvNLv (te : TE) (σ : L2.St) (H : Hp) (yss : List (List V)) : Prop := ∀ H1, Ex H H1 → ∀ Q : VK, RetNL yss H1 Q → te σ H1 Q
/-- two lists, as arguments -/
def EvAB (tg : TA) (σ : L2.St) (H : Hp) (A B : List V) : Prop := ∀ H1, Ex H H1 → ∀ Q : List V → Hp → Prop, (∀ a b H2, Ex H1 H2 → H2 a = some (.lst A) → H2 b = some (.lst B) → Q [.ref a, .ref b] H2) → tg σ H1 Q
theorem eab_of {t1 t2 : TE} {A B : List V} (h1 : EvL t1 σ H A) (h2 : EvL t2 σ H B) : EvAB (tCons t1 (tCons t2 tNil)) σ H A B := fun H1 e Q q =>
  h1 H1 e _ fun a H2 na e2 ha => h2 H2 (e.trans e2) _ fun b H3 nb e3 hb => q a b H3 (e2.trans e3) (e3 _ _ ha) hb
/-- [a new list for x, y in zip(a, b)] -/
theorem enl_lcZ {tg : TA} {A B : List V} {yss : List (List V)} {i j : Nat} {vs : List Nat} (h : EvAB tg σ H A B) (hl : A.length = B.length) (hy : yss.length = A.length) (hz : A.length ≤ 40000) (hw : ∀ x y, wipe (((wipe σ vs).set i (some x)).set j (some y)) vs = wipe σ vs)
    (he : ∀ (n : Nat) x y ys H1, Ex H H1 → A[n]? = some x → B[n]? = some y → yss[n]? = some ys → EvL te (((wipe σ vs).set i (some x)).set j (some y)) H1 ys) :
    EvNLv (tLc (iZip K tg) (gTup K 2 (gCons (gName i) (gCons (gName j) gNil))) tYes te vs) σ H yss := fun H0 e Q q => h H0 e _ fun a b H1 e1 ha hb => ⟨a, b, A, B, rfl, SqL.of ha, SqL.of hb, fun Dl hD =>
  lc_it (n := A.length) (walk_zip (by omega)) (fun n H' => H1 Dl = none ∧ Ex H1 H' ∧ ∃ ps, H' Dl = some (.lst (ps.map V.ref)) ∧ Dl ∉ ps ∧ NewL H1 H' ps (yss.take n)) ⟨hD, Ex.new hD, [], upd_same, List.not_mem_nil, NewL.nil⟩ (fun n H' _ p => ⟨SqL.of (p.2.1 _ _ ha), SqL.of (p.2.1 _ _ hb)⟩) (fun n v H' H'' hn p y => by
    obtain ⟨p1, p2, ps, p3, p4, N⟩ := p
    obtain ⟨T, x, y, rfl, hT, rfl, hx, hy'⟩ := y
    obtain ⟨ys, hys⟩ : ∃ ys, yss[n]? = some ys := ⟨yss[n]'(by omega), List.getElem?_eq_getElem (by omega)⟩
    have e2 : Ex H' (upd H' T (.tup [x, y])) := Ex.new hT
    refine ⟨T, _, rfl, .inl (.inl upd_same), rfl, x, [y], rfl, y, [], rfl, rfl, hw _ _, ?_⟩
    refine et_yes (H := H') _ e2 _ fun H3 e3 => ?_
    show te _ H3 _
    have pl := N.len
    rw [List.length_take] at pl
    have a3 := e2.trans e3
    refine he n x y ys H3 ((e.trans e1).trans (p2.trans a3)) hx hy' hys H3 (Ex.refl H3) _ fun r H4 nr e4 h4 => ⟨ps.map V.ref, e4 Dl _ (a3 Dl _ p3), sz_lt (by rw [List.length_map]; omega), p1, Ex.mut ((p2.trans a3).trans e4) p1, ps ++ [r], ?_, ?_, ?_⟩
    · rw [upd_same, List.map_append]
      rfl
    · intro m
      rcases List.mem_append.mp m with m | m
      · exact p4 m
      · exact ne_of_none (a3 Dl _ p3) nr (List.mem_singleton.mp m)
    · rw [List.take_add_one, hys]
      refine NewL.upd ((N.mono a3).app (p2.trans a3) (NewL.one nr h4) e4) fun m => ?_
      rcases List.mem_append.mp m with m | m
      · exact p4 m
      · exact ne_of_none (a3 Dl _ p3) nr (List.mem_singleton.mp m)) (fun H' p => by
    obtain ⟨p1, p2, ps, p3, p4, N⟩ := p
    rw [List.take_of_length_le (by omega)] at N
    exact q Dl ps H' (fresh_back e1 p1) (e1.trans p2) p3 (N.back e1) p4)⟩
/-- for x in a new list of new lists -/
theorem q_forNLv {yss : List (List V)} {j : Nat} (h : EvNLv te σ H yss) (Pv : Hp → Nat → L2.St → Hp → Prop) (h0 : ∀ H1, Ex H H1 → Pv H1 0 σ H1) (hl : ∀ H1 i σ' H', Pv H1 i σ' H' → Ex H1 H')
    (hs : ∀ H1 i p ys σ' H', Ex H H1 → yss[i]? = some ys → H' p = some (.lst ys) → Pv H1 i σ' H' → tu { D with nx := Pv H1 (i + 1), ct := Pv H1 (i + 1), bk := tz D } (σ'.set j (some (.ref p))) H') (hd : ∀ H1 σ' H', Ex H H1 → Pv H1 yss.length σ' H' → tz D σ' H') : tSeq (tFor (iList K te) (gName j) tu) tz D σ H :=
  h H (Ex.refl H) _ fun L ps H1 nL e1 hL N _ => ⟨L, rfl, ⟨ps.map V.ref, sq_of hL⟩, for_list (xs := ps.map V.ref) (D := { D with nx := tz D }) (Pv H1) (h0 H1 e1) (fun i σ' H' _ p => sq_of (hl _ _ _ _ p _ _ hL)) (fun i x σ' H' hx p => by
    rw [List.getElem?_map] at hx
    obtain ⟨q, hq, rfl⟩ := Option.map_eq_some_iff.mp hx
    obtain ⟨ys, hys, _, hyq⟩ := Kp.paired_get N.1 hq
    exact hs H1 i q ys σ' H' e1 hys (hl _ _ _ _ p _ _ hyq) p) (fun σ' H' p => by
    rw [List.length_map, N.len] at p
    exact hd H1 σ' H' e1 p)⟩
/-- x = a new list of new lists, the last row -/
theorem s_asgNLv {yss : List (List V)} {i : Nat} (h : EvNLv te σ H yss) (k : ∀ L ps H1, H L = none → Ex H H1 → H1 L = some (.lst (ps.map V.ref)) → NewL H H1 ps yss → L ∉ ps → D.nx (σ.set i (some (.ref L))) H1) : tAsg te (gName i) D σ H := h H (Ex.refl H) _ k
theorem enl_cal {sp : Sp} {vs : List V} {E : XK} {ta : TA} {yss : List (List V)} (h : EvA ta σ H vs) (hs : ∀ H1, Ex H H1 → ∀ Q : VK, RetNL yss H1 Q → ∀ E : XK, sp vs H1 Q E) : EvNLv (tCall sp [] E ta) σ H yss := fun H1 e Q q =>
  h H1 e _ fun H2 e2 => by
    show sp (vs ++ []) H2 Q E
    rw [List.append_nil]
    exact hs H2 (e.trans e2) Q (fun L ps H3 nL e3 hL N nm => q L ps H3 (fresh_back e2 nL) (e2.trans e3) hL (N.back e2) nm) E
end

theorem atI_snd {α : Type} {xs : List α} {v : α} (h2 : 2 ≤ xs.length) (h : xs[xs.length - 2]? = some v) : atI xs (-2) = some v := by
  unfold atI ixN
  rw [if_neg (by omega), if_pos (by omega)]
  show xs[((-2 : Int) + (xs.length : Int)).toNat]? = some v
  rw [show ((-2 : Int) + (xs.length : Int)).toNat = xs.length - 2 by omega]
  exact h
theorem coef_neg62 (g : List Int) (m : Nat) : coef (g.map fun x => 0 - x) m = 0 - coef g m := by
  by_cases h : m < g.length
  · rw [coef_lt (by rw [List.length_map]; exact h), coef_lt h, List.getElem_map]
  · rw [coef_ge (by rw [List.length_map]; omega), coef_ge (by omega)]
    rfl
theorem nx_add (f g : List Int) : addP 1 f (g.map fun x => 0 - x) = addP (-1) f g := by
  unfold addP
  refine trim_ext fun m => ?_
  rw [coef_addL, coef_addL, coef_neg62]
  omega
def dbR (i : Nat) : List (List V) := (List.range i).map fun j => (dbF j).map V.int
theorem dbR_snoc (i : Nat) : dbR (i + 1) = dbR i ++ [(dbF i).map V.int] := by
  unfold dbR
  rw [List.range_succ, List.map_append]
  rfl
theorem dbF_next (i : Nat) : dbF (i + 2) = nxD (dbF (i + 1)) (dbF i) := rfl
theorem db_len {i : Nat} (h : i < 62) : (dbF i).length ≤ 70 := by
  have t : ((List.range 62).all fun i => decide ((dbF i).length ≤ 70)) = true := by decide +kernel
  exact of_decide_eq_true (List.all_eq_true.mp t i (List.mem_range.mpr h))
section
variable {σ : L2.St} {H : Hp} {tg : TA} {A B ys : List V} {E : XK}
theorem el_calAB {sp : Sp} (h : EvAB tg σ H A B) (hs : ∀ a b H1, Ex H H1 → H1 a = some (.lst A) → H1 b = some (.lst B) → ∀ Q : VK, RetL ys H1 Q → ∀ E : XK, sp [.ref a, .ref b] H1 Q E) : EvL (tCall sp [] E tg) σ H ys := fun H1 e Q q =>
  h H1 e _ fun a b H2 e2 ha hb => by
    show sp ([.ref a, .ref b] ++ []) H2 Q E
    rw [List.append_nil]
    exact hs a b H2 (e.trans e2) ha hb Q (fun p H3 np e3 h3 => q p H3 (fresh_back e2 np) (e2.trans e3) h3) E
end
/- _law_doubled_row: slots 0 _law_k, 1 _law_rows, 2 _law_again, 3 _law_number; calls _law_sum_of -/
abbrev s__law_doubled_row : Stmt := topS 29
theorem sc__law_doubled_row : FnScope ["_law_k", "_law_rows", "_law_again", "_law_number"] ["_law_k"] (defScope s__law_doubled_row) := ⟨rfl, rfl, rfl, by decide +kernel, rfl, by decide +kernel, by decide +kernel⟩

def spDr62 : Sp := fun vs H Q _ => ∃ k : Nat, vs = [.int (k : Nat)] ∧ k ≤ 60 ∧ RetL ((dbF k).map V.int) H Q
section
variable {P : Program} {w : World} {K : PySem.W.Frag} {mg : Str → Option Value} {base : Heap}
theorem cal_dr62 (nb : Nb mg) (c__law_sum_of : Cal P w K mg base CX0 "_law_sum_of" 2 ["_law_one", "_law_other"] (spSo62 K)) (d : Dfn K mg "_law_doubled_row" ["_law_k"] s__law_doubled_row) : Cal P w K mg base CX0 "_law_doubled_row" 3 ["_law_k"] spDr62 := by
  refine d.cal sc__law_doubled_row (fun vs H Q E h => ?_) (fun fa cdv A outer s H vs Q E hr h => ?_)
  · obtain ⟨k, rfl, _⟩ := h
    rfl
  · obtain ⟨k, rfl, k2, q⟩ := h
    refine ⟨_, (pss_cons (ps_set (i := 1) sc__law_doubled_row.nd rfl (.inl rfl) (pe_lst (pa_cons (pe_lst (pa_cons pe_int pa_nil)) (pa_cons (pe_lst (pa_cons pe_int (pa_cons pe_int pa_nil))) pa_nil))))
      (pss_cons (ps_for PassesOwn.never rfl (pi_range1 (by rfl) nb.range (pa_cons (pv 0) pa_nil)) (pg_name (i := 2) sc__law_doubled_row.nd rfl (.inl rfl)) (pss_one (ps_expr (pe_bm PySem.F.plainAttrs_list PySem.F.slot_list_append PySem.F.type_list_append mt_append (pv 1) (pa_cons (pe_cal c__law_sum_of (hr.mono (by first | decide | omega)) (by rfl) pass0 (pa_cons (pe_op op_cat (pe_lst (pa_cons pe_int pa_nil)) (pe_ix ix_list (pv 1) (pe_un un_neg pe_int) (fun _ _ => rfl))) (pa_cons (pe_lc (own := [("_law_number", 3)]) (g := gName 3) (tt := tYes) (by rfl) sc__law_doubled_row.nd (pi_list (pe_ix ix_list (pv 1) (pe_un un_neg pe_int) (fun _ _ => rfl))) (blkOk_by (N := ["_law_k", "_law_rows", "_law_again", "_law_number"]) (sc := defScope s__law_doubled_row) (by decide +kernel)) (fun _ _ _ _ _ => (pg_name (i := 3) sc__law_doubled_row.nd rfl (Or.inl rfl))) (fun _ _ _ _ _ => pts_nil) (fun _ _ _ _ _ => (pe_op op_sub pe_int (pv 3)))) pa_nil))) pa_nil)))))
      (pss_one (ps_ret (pe_ix ix_list (pv 1) (pv 0) (fun _ _ => rfl)))))), ?_⟩
    refine q_asgNL (xss := dbR 2) (enl_cons (xs := ([2] : List Int).map V.int) (el_lst (vs := [.int 2]) (by one_place) (by decide)) (enl_cons (xs := ([0, 1] : List Int).map V.int) (el_lst (vs := [.int 0, .int 1]) (by one_place) (by decide)) enl_nil)) (by decide) fun L ps H1 nL e1 hL N nm => ?_
    refine q_forR1 (n := (k : Int)) (by one_place) (by omega) (fun i σ' H' => ∃ (ps : List Addr) (y : Option V), σ' = [some (.int (k : Nat)), some (.ref L), y, none] ∧ Ex H H' ∧ H' L = some (.lst (ps.map V.ref)) ∧ L ∉ ps ∧ NewL H H' ps (dbR (i + 2)))
      (fun H2 e2 => ⟨ps, none, rfl, e1.trans e2, e2 _ _ hL, nm, N.mono e2⟩) (fun i σ' H2 hi hp => ?_) (fun σ' H2 hp => ?_)
    · obtain ⟨ps, y, rfl, e2, h2, nm, N⟩ := hp
      have pl : ps.length = i + 2 := by
        rw [N.len]
        unfold dbR
        rw [List.length_map, List.length_range]
      obtain ⟨p, hp⟩ : ∃ p, ps[i + 1]? = some p := ⟨ps[i + 1]'(by omega), List.getElem?_eq_getElem (by omega)⟩
      obtain ⟨r, hr⟩ : ∃ r, ps[i]? = some r := ⟨ps[i]'(by omega), List.getElem?_eq_getElem (by omega)⟩
      have at' : ∀ {j : Nat}, j < i + 2 → (dbR (i + 2))[j]? = some ((dbF j).map V.int) := fun h => by
        unfold dbR
        rw [List.getElem?_map, List.getElem?_range h]
        rfl
      obtain ⟨ys, hys, np, hpc⟩ := Kp.paired_get N.1 hp
      rw [at' (by omega)] at hys
      cases hys
      obtain ⟨zs, hzs, nr, hrc⟩ := Kp.paired_get N.1 hr
      rw [at' (by omega)] at hzs
      cases hzs
      have l1 := db_len (i := i + 1) (by omega)
      have l0 := db_len (i := i) (by omega)
      refine s_appL (ys := (dbF (i + 2)).map V.int) h2 (ev_var rfl) (el_calAB (A := (0 :: dbF (i + 1)).map V.int) (B := ((dbF i).map fun x => 0 - x).map V.int) (eab_of (el_is (el_cat62 (ys := (dbF (i + 1)).map V.int) (el_lst (vs := [.int 0]) (by one_place) (by decide)) (fun H3 e3 => ev_op (ev_var rfl) (ev_neg ev_c) (rv_ixL (v := .ref p) (SqL.of (e3 _ _ h2)) (atI_last (by rw [List.length_map, List.getElem?_map, pl, show i + 2 - 1 = i + 1 by omega, hp]; rfl)))) hpc (by rw [List.length_singleton, List.length_map]; omega)) rfl) (el_is (el_lcI (ns := dbF i) (fun _ => true) (fun x => .int (0 - x)) (ev_op (ev_var rfl) (ev_neg ev_c) (rv_ixL (v := .ref r) (SqL.of h2) (atI_snd (by rw [List.length_map]; omega) (by rw [List.length_map, List.getElem?_map, pl, show i + 2 - 2 = i by omega, hr]; rfl)))) (SqL.of hrc) (by omega) (fun _ => rfl) (fun _ _ _ _ => et_yes) fun x H8 e8 hx _ => ev_sub ev_c (ev_var rfl)) (by rw [filter_yes, List.map_map]; rfl))) fun a b H3 e3 ha hb Q kk E => ⟨a, b, 0 :: dbF (i + 1), (dbF i).map fun x => 0 - x, rfl, SqL.of ha, SqL.of hb, by rw [List.length_cons]; omega, by rw [List.length_map]; omega, by rw [nx_add]; exact kk⟩) (by rw [List.length_map]; omega) fun t H3 nt e3 ht => ⟨ps ++ [t], _, rfl, Ex.mut (e2.trans e3) nL, by rw [upd_same, List.map_append]; rfl, ?_, ?_⟩
      · intro m
        rcases List.mem_append.mp m with m | m
        · exact nm m
        · exact ne_of_none h2 nt (List.mem_singleton.mp m)
      · rw [show i + 1 + 2 = i + 2 + 1 by omega, dbR_snoc]
        refine NewL.upd (N.app e2 (NewL.one nt ht) e3) fun m => ?_
        rcases List.mem_append.mp m with m | m
        · exact nm m
        · exact ne_of_none h2 nt (List.mem_singleton.mp m)
    · obtain ⟨ps, y, rfl, e2, h2, nm, N⟩ := hp
      rw [Int.toNat_natCast] at N
      have pl : ps.length = k + 2 := by
        rw [N.len]
        unfold dbR
        rw [List.length_map, List.length_range]
      obtain ⟨p, hp⟩ : ∃ p, ps[k]? = some p := ⟨ps[k]'(by omega), List.getElem?_eq_getElem (by omega)⟩
      obtain ⟨ys, hys, np, hpc⟩ := Kp.paired_get N.1 hp
      have at' : (dbR (k + 2))[k]? = some ((dbF k).map V.int) := by
        unfold dbR
        rw [List.getElem?_map, List.getElem?_range (by omega)]
        rfl
      rw [at'] at hys
      cases hys
      exact s_ret (v := .ref p) (ev_op (ev_var rfl) (ev_var rfl) (rv_ixL (v := .ref p) (SqL.of h2) (atI_nat (by rw [List.getElem?_map, hp]; rfl)))) fun H3 e3 => q p H3 np (e2.trans e3) (e3 _ _ hpc)
end

/- _law_mix: slots 0 _law_cell, 1 _law_k, 2 _law_time, 3 _law_number; calls  -/
abbrev s__law_mix : Stmt := topS 23
theorem sc__law_mix : FnScope ["_law_cell", "_law_k", "_law_time", "_law_number"] ["_law_cell", "_law_k"] (defScope s__law_mix) := ⟨rfl, rfl, rfl, by decide +kernel, rfl, by decide +kernel, by decide +kernel⟩

/-- the law's own mixing of a cell -/
def divs : Nat → Int → Int
  | 0, c => c
  | n + 1, c => divs n c / 1000000
def mix0 (c k : Int) : Int := (c % 1000003 + k * k * 7919 + k) * 48271 % 2147483629
def mix1 (c k : Int) : Int := mix0 c k * mix0 c k % 2147483587
def mix (c k : Int) : Int := if 1000000000000000000 ≤ c then divs k.toNat (c % (1000000000000000000000000000000000000000000000000000000000000 : Int) ^ 20) % 1000000 else mix1 c k * (mix1 c k + 2) % 2147483579 / 7
theorem mix_nn (c k : Int) : 0 ≤ mix c k := by
  unfold mix
  split
  · omega
  · omega
theorem mix_le (c k : Int) : mix c k ≤ 306783369 := by
  unfold mix
  split
  · omega
  · omega
def spMix : Sp := fun vs H Q _ => ∃ c k : Int, vs = [.int c, .int k] ∧ 0 ≤ k ∧ k ≤ 100 ∧ RetV (.int (mix c k)) H Q
section
variable {P : Program} {w : World} {K : PySem.W.Frag} {mg : Str → Option Value} {base : Heap}
theorem cal_mix (nb : Nb mg) (d : Dfn K mg "_law_mix" ["_law_cell", "_law_k"] s__law_mix) : Cal P w K mg base CX0 "_law_mix" 1 ["_law_cell", "_law_k"] spMix := by
  refine d.cal sc__law_mix (fun vs H Q E h => ?_) (fun f cdv A outer s H vs Q E hr h => ?_)
  · obtain ⟨c, k, rfl, _⟩ := h
    rfl
  · obtain ⟨c, k, rfl, h0, h1, q⟩ := h
    refine ⟨_, (pss_cons (ps_if (pt_cmpR op_ge (pv 0) (pe_op op_powW pe_int pe_int) (nomark _)) (pss_cons (ps_set (i := 0) sc__law_mix.nd rfl (.inl rfl) (pe_op op_mod (pv 0) (pe_op op_powW (pe_op op_powW pe_int pe_int) pe_int)))
      (pss_cons (ps_for PassesOwn.never rfl (pi_range1 (by rfl) nb.range (pa_cons (pv 1) pa_nil)) (pg_name (i := 2) sc__law_mix.nd rfl (.inl rfl)) (pss_one (ps_set (i := 0) sc__law_mix.nd rfl (.inl rfl) (pe_op op_fdivW (pv 0) (pe_op op_powW pe_int pe_int)))))
      (pss_one (ps_ret (pe_op op_mod (pv 0) (pe_op op_powW pe_int pe_int)))))) pss_nil)
      (pss_cons (ps_set (i := 3) sc__law_mix.nd rfl (.inl rfl) (pe_op op_mod (pe_op op_mulW (pe_op op_add (pe_op op_add (pe_op op_mod (pv 0) pe_int) (pe_op op_mulW (pe_op op_mulW (pv 1) (pv 1)) pe_int)) (pv 1)) pe_int) pe_int))
      (pss_cons (ps_set (i := 3) sc__law_mix.nd rfl (.inl rfl) (pe_op op_mod (pe_op op_mulW (pv 3) (pv 3)) pe_int))
      (pss_one (ps_ret (pe_op op_fdivW (pe_op op_mod (pe_op op_mulW (pv 3) (pe_op op_add (pv 3) pe_int)) pe_int) pe_int)))))), ?_⟩
    refine q_when (b := decide (1000000000000000000 ≤ c)) (by one_place) (fun hb H1 e1 => ?_) (fun hb H1 e1 => ?_)
    · refine q_asg (v := .int (c % (1000000000000000000000000000000000000000000000000000000000000 : Int) ^ 20)) (ev_mod (by one_place) (ev_pow (i := 1000000000000000000000000000000000000000000000000000000000000) (ev_pow (i := 10) (by one_place) (by one_place) ⟨by decide, by decide +kernel⟩ (by rfl)) (by one_place) ⟨by decide, by decide +kernel⟩ rfl) (Int.pow_pos (by decide))) fun H2 e2 => ?_
      refine q_forR1 (n := k) (by one_place) (by omega) (fun i σ' H' => ∃ x, σ' = [some (.int (divs i (c % (1000000000000000000000000000000000000000000000000000000000000 : Int) ^ 20))), some (.int k), x, none] ∧ Ex H H') (fun H3 e3 => ⟨none, rfl, (e1.trans e2).trans e3⟩) (fun i σ' H' hi hp => ?_) (fun σ' H' hp => ?_)
      · obtain ⟨x, rfl, e4⟩ := hp
        refine s_asg (v := .int (divs (i + 1) (c % (1000000000000000000000000000000000000000000000000000000000000 : Int) ^ 20))) (ev_is (by one_place) rfl) fun H5 e5 => ⟨_, rfl, e4.trans e5⟩
      · obtain ⟨x, rfl, e4⟩ := hp
        refine s_ret (v := .int (mix c k)) (ev_is (by one_place) ?_) fun H5 e5 => q _ (e4.trans e5)
        unfold mix
        rw [if_pos (of_decide_eq_true hb)]
    · have b0 : 0 ≤ mix0 c k := by
        unfold mix0
        omega
      have b1 : mix0 c k < 2147483629 := by
        unfold mix0
        omega
      have b2 : 0 ≤ mix1 c k := by
        unfold mix1
        omega
      have b3 : mix1 c k < 2147483587 := by
        unfold mix1
        omega
      have b4 : 0 ≤ k * k := Int.mul_nonneg h0 h0
      have b5 : k * k ≤ 100 * 100 := Int.mul_le_mul h1 h1 h0 (by decide)
      refine q_asg (v := .int (mix0 c k)) (by one_place) fun H2 e2 => ?_
      refine q_asg (v := .int (mix1 c k)) (by one_place) fun H3 e3 => ?_
      refine s_ret (v := .int (mix c k)) (ev_is (by one_place) ?_) fun H5 e5 => q _ (((e1.trans e2).trans e3).trans e5)
      unfold mix
      rw [if_neg (of_decide_eq_false hb)]
end

/-! ### the law's judge of cosine polynomials -/
def chkC62 (d : Nat) : Bool := decide ((cosF d).length ≤ 31) && ((cosF d).all fun x => decide (x.natAbs < 2 ^ 64))
theorem chkC62_all : ((List.range 60).all fun i => chkC62 (i + 1)) = true := by decide +kernel
theorem cosF_at {d : Nat} (h1 : 1 ≤ d) (h2 : d ≤ 60) : (cosF d).length ≤ 31 ∧ Bd 64 (cosF d) := by
  have t := List.all_eq_true.mp chkC62_all (d - 1) (List.mem_range.mpr (by omega))
  rw [Nat.sub_add_cancel h1] at t
  unfold chkC62 at t
  rw [Bool.and_eq_true] at t
  exact ⟨of_decide_eq_true t.1, Bd.of fun x hx => of_decide_eq_true (List.all_eq_true.mp t.2 x hx)⟩
theorem cosF_last {d : Nat} (h1 : 1 ≤ d) (h2 : d ≤ 60) : cosF d ≠ [] ∧ coef (cosF d) ((cosF d).length - 1) = 1 := by
  have t := chk62_at h1 h2
  unfold chk62 at t
  rw [Bool.and_eq_true] at t
  have t := of_decide_eq_true t.1
  generalize cosF d = l at *
  have ne : l ≠ [] := fun e => by
    rw [e] at t
    cases t
  have pos := List.length_pos_iff.mpr ne
  refine ⟨ne, ?_⟩
  rw [List.getLast?_eq_getElem?] at t
  exact coef_of t
theorem mdF_eq {d : Nat} (h1 : 1 ≤ d) (h2 : d ≤ 60) : mdF d = addP 1 (dbF d) [-2] := by
  have t := chk62_at h1 h2
  unfold chk62 at t
  rw [Bool.and_eq_true, Bool.and_eq_true] at t
  exact of_decide_eq_true t.2.1
theorem mdS_skip {d : Nat} {t : List Int} {e : Nat} (h : ¬ d % e = 0) : mdS d t e = t := by
  unfold mdS
  rw [if_neg h]
theorem mdS_fold (d : Nat) : ∀ (l : List Nat) (t : List Int), l.foldl (mdS d) t = (l.filter fun e => decide (d % e = 0)).foldl (mdS d) t
  | [], _ => rfl
  | e :: l, t => by
    by_cases h : d % e = 0
    · rw [List.filter_cons_of_pos (by exact decide_eq_true h)]
      show l.foldl (mdS d) (mdS d t e) = (l.filter fun e => decide (d % e = 0)).foldl (mdS d) (mdS d t e)
      exact mdS_fold d l _
    · rw [List.filter_cons_of_neg (by rw [decide_eq_false h]; decide)]
      show l.foldl (mdS d) (mdS d t e) = _
      rw [mdS_skip h]
      exact mdS_fold d l _
theorem dvL_filter {n d : Nat} (h1 : 1 ≤ n) (hd : d ∣ n) : (dvL n).filter (fun e => decide (d % e = 0)) = dvL d := by
  have d1 : 1 ≤ d := Nat.pos_of_dvd_of_pos hd (by omega)
  refine rise_uniq ((dvL_rise n).filter _) (dvL_rise d) fun x => ?_
  rw [List.mem_filter, dvL_mem h1, dvL_mem d1]
  constructor
  · intro h
    exact Nat.dvd_of_mod_eq_zero (of_decide_eq_true h.2)
  · intro h
    exact ⟨Nat.dvd_trans h hd, decide_eq_true (Nat.mod_eq_zero_of_dvd h)⟩
def mdI (n d i : Nat) : List Int := ((dvL n).take i).foldl (mdS d) [1]
theorem mdI_step {n d i e : Nat} (h : (dvL n)[i]? = some e) : mdI n d (i + 1) = mdS d (mdI n d i) e := by
  unfold mdI
  rw [List.take_add_one, h]
  show ((((dvL n).take i) ++ [e]).foldl (mdS d) _) = _
  rw [List.foldl_append]
  rfl
theorem mdI_end {n d : Nat} (h1 : 1 ≤ n) (hd : d ∣ n) : mdI n d (dvL n).length = mdF d := by
  unfold mdI mdF
  rw [List.take_length, mdS_fold, dvL_filter h1 hd]
theorem cv_bd62 {a b : Nat} {f g : List Int} (hf : Bd a f) (hg : Bd b g) (m : Nat) : ∀ i, (cv f g i m).natAbs < 2 ^ (a + b + i)
  | 0 => Nat.two_pow_pos _
  | i + 1 => by
    have h1 := cv_bd62 hf hg m i
    have h2 := Nat.mul_lt_mul'' (hf i) (hg (m - i))
    rw [← Int.natAbs_mul, ← Nat.pow_add] at h2
    have h3 : 2 ^ (a + b) ≤ 2 ^ (a + b + i) := Nat.pow_le_pow_right (by decide) (by omega)
    have h4 : 2 ^ (a + b + (i + 1)) = 2 * 2 ^ (a + b + i) := by
      rw [show a + b + (i + 1) = a + b + i + 1 by omega, Nat.pow_succ, Nat.mul_comm]
    show (cv f g i m + if i ≤ m then coef f i * coef g (m - i) else 0).natAbs < _
    split <;> omega
theorem mulP_le62 (f g : List Int) : (mulP f g).length ≤ f.length + g.length := by
  unfold mulP
  split
  · exact Nat.zero_le _
  · rw [mkL_len]
    omega
theorem trim_le62 (l : List Int) : (trim l).length ≤ l.length := by
  rw [trim_len]
  exact tlen_le l _
theorem pdL_len {f g : List Int} : (pdL f g).length ≤ f.length + g.length := by
  unfold pdL
  have := trim_le62 (mulP f g)
  have := mulP_le62 f g
  omega
theorem pdL_bd {a b : Nat} {f g : List Int} (hf : Bd a f) (hg : Bd b g) : Bd (a + b + f.length) (pdL f g) := fun m => by
  unfold pdL
  rw [coef_trim, coef_mulP]
  exact cv_bd62 hf hg m _
/-- so long and so great what is made may be behind i rows -/
def MdOk (i : Nat) (t : List Int) : Prop := t.length ≤ 1 + 62 * i ∧ Bd (1 + 7700 * i) t
theorem Bd.le {a b : Nat} {l : List Int} (h : Bd a l) (q : a ≤ b) : Bd b l := fun m => Nat.lt_of_lt_of_le (h m) (Nat.pow_le_pow_right (by decide) q)
theorem mdS_ok {d e i : Nat} {t : List Int} (h : MdOk i t) (hi : i < 60) (e1 : 1 ≤ e) (e2 : e ≤ 60) : MdOk (i + 1) (mdS d t e) := by
  have c := cosF_at e1 e2
  have l1 := pdL_len (f := t) (g := cosF e)
  have b1 := pdL_bd h.2 c.2
  have l2 := pdL_len (f := pdL t (cosF e)) (g := cosF e)
  have b2 := pdL_bd b1 c.2
  have hl := h.1
  unfold mdS
  split
  · split
    · exact ⟨by omega, b2.le (by omega)⟩
    · exact ⟨by omega, b1.le (by omega)⟩
  · exact ⟨by omega, h.2.le (by omega)⟩
theorem mdI_ok {n d : Nat} (h1 : 1 ≤ n) (h2 : n ≤ 60) : ∀ i, i ≤ (dvL n).length → MdOk i (mdI n d i)
  | 0, _ => by
    unfold mdI
    rw [List.take_zero]
    exact ⟨by show 1 ≤ 1 + 62 * 0; omega, Bd.of fun x hx => by rw [List.mem_singleton.mp hx]; decide⟩
  | i + 1, h => by
    have l := dvL_len n
    obtain ⟨e, he⟩ : ∃ e, (dvL n)[i]? = some e := ⟨(dvL n)[i]'(by omega), List.getElem?_eq_getElem (by omega)⟩
    have m := (dvL_mem h1).mp (List.mem_of_getElem? he)
    rw [mdI_step he]
    exact mdS_ok (mdI_ok h1 h2 i (by omega)) (by omega) (Nat.pos_of_dvd_of_pos m (by omega)) (by have := Nat.le_of_dvd (by omega) m; omega)
theorem cut_last62 {xs l : List V} {v : V} (h : xs = l ++ [v]) : cutV xs (some (-1)) none = [v] := by
  have e : HT.sIx xs.length 0 (some (-1)) = xs.length - 1 := by
    have : xs.length = l.length + 1 := by rw [h, List.length_append, List.length_singleton]
    unfold HT.sIx
    simp
    omega
  have e2 : HT.sIx xs.length xs.length none = xs.length := by
    unfold HT.sIx
    rfl
  unfold cutV
  rw [e, e2, h, List.length_append, List.length_singleton, Nat.add_sub_cancel, List.drop_left, List.take_of_length_le (by rw [List.length_singleton]; omega)]
theorem cosRows_get {n i : Nat} {r : Int × List Int} (h1 : 1 ≤ n) (h2 : n ≤ 60) (h : (cosRows n)[i]? = some r) : ∃ d : Nat, (dvL n)[i]? = some d ∧ r = ((d : Int), cosF d) ∧ d ∣ n ∧ 1 ≤ d ∧ d ≤ 60 := by
  unfold cosRows castI at h
  rw [List.map_map, List.getElem?_map] at h
  obtain ⟨d, hd, rfl⟩ := Option.map_eq_some_iff.mp h
  have m := (dvL_mem h1).mp (List.mem_of_getElem? hd)
  exact ⟨d, hd, rfl, m, Nat.pos_of_dvd_of_pos m (by omega), by have := Nat.le_of_dvd (by omega) m; omega⟩
theorem cosRows_len (n : Nat) : (cosRows n).length = (dvL n).length := by
  unfold cosRows castI
  rw [List.length_map, List.length_map]
theorem cosRows_fst (n : Nat) : (cosRows n).map (fun r => V.int r.1) = (castI (dvL n)).map V.int := by
  unfold cosRows
  rw [List.map_map]
  rfl
section
variable {K : PySem.W.Frag} {σ : L2.St} {H : Hp} {te tl : TE} {D : Ends} {tu tz : TS} {vs : List Nat}
/-- for r in rows, by their name -/
theorem q_forRwN {a : Addr} {p : Addr} {H0 : Hp} {ts : List Addr} {rows : List (Int × List Int)} {j : Nat} (h : Ev tl σ H (.ref a)) (hx : H a = some (.lst (ts.map V.ref))) (hp : RwsN p H0 H ts rows) (Pv : Nat → L2.St → Hp → Prop) (h0 : ∀ H1, Ex H H1 → Pv 0 σ H1) (hl : ∀ i σ' H', Pv i σ' H' → Ex H H')
    (hs : ∀ (i : Nat) (r : Int × List Int) (t q : Addr) (σ' : L2.St) (H' : Hp), rows[i]? = some r → H' t = some (.tup [.int r.1, .ref q]) → H' q = some (.lst (r.2.map V.int)) → Pv i σ' H' → tu { D with nx := Pv (i + 1), ct := Pv (i + 1), bk := tz D } (σ'.set j (some (.ref t))) H') (hd : ∀ σ' H', Pv rows.length σ' H' → tz D σ' H') :
    tSeq (tFor (iList K tl) (gName j) tu) tz D σ H :=
  q_forLn (xs := ts.map V.ref) h (SqL.of hx) Pv h0 (fun i σ' H' _ q => SqL.of (hl _ _ _ q _ _ hx)) (fun i x σ' H' hx q => by
    rw [List.getElem?_map] at hx
    obtain ⟨t, ht, rfl⟩ := Option.map_eq_some_iff.mp hx
    obtain ⟨r, hr, qq, _, _, _, h3, h4⟩ := Kp.paired_get (hp.mono (hl _ _ _ q)) ht
    exact hs i r t qq σ' H' hr h3 h4 q) (fun σ' H' q => by
    have hln : (ts.map V.ref).length = rows.length := by rw [List.length_map]; exact Paired.length hp
    rw [hln] at q
    exact hd σ' H' q)
/-- for a, b in rows, by their name -/
theorem q_forRwP {a : Addr} {p : Addr} {H0 : Hp} {ts : List Addr} {rows : List (Int × List Int)} {j1 j2 : Nat} (h : Ev tl σ H (.ref a)) (hx : H a = some (.lst (ts.map V.ref))) (hp : RwsN p H0 H ts rows) (Pv : Nat → L2.St → Hp → Prop) (h0 : ∀ H1, Ex H H1 → Pv 0 σ H1) (hl : ∀ i σ' H', Pv i σ' H' → Ex H H')
    (hs : ∀ (i : Nat) (r : Int × List Int) (q : Addr) (σ' : L2.St) (H' : Hp), rows[i]? = some r → H' q = some (.lst (r.2.map V.int)) → Pv i σ' H' → tu { D with nx := Pv (i + 1), ct := Pv (i + 1), bk := tz D } ((σ'.set j1 (some (.int r.1))).set j2 (some (.ref q))) H') (hd : ∀ σ' H', Pv rows.length σ' H' → tz D σ' H') :
    tSeq (tFor (iList K tl) (gTup K 2 (gCons (gName j1) (gCons (gName j2) gNil))) tu) tz D σ H :=
  h H (Ex.refl H) _ fun H1 e => ⟨a, rfl, ⟨ts.map V.ref, SqL.of (e _ _ hx)⟩, for_list (xs := ts.map V.ref) Pv (h0 H1 e) (fun i σ' H' _ q => SqL.of (hl _ _ _ q _ _ hx)) (fun i x σ' H' hx q => by
    rw [List.getElem?_map] at hx
    obtain ⟨t, ht, rfl⟩ := Option.map_eq_some_iff.mp hx
    obtain ⟨r, hr, qq, _, _, _, h3, h4⟩ := Kp.paired_get (hp.mono (hl _ _ _ q)) ht
    exact ⟨t, _, rfl, SqT.of h3, rfl, .int r.1, [.ref qq], rfl, .ref qq, [], rfl, rfl, hs i r qq σ' H' hr h4 q⟩) (fun σ' H' q => by
    have hln : (ts.map V.ref).length = rows.length := by rw [List.length_map]; exact Paired.length hp
    rw [hln] at q
    exact hd σ' H' q)⟩
theorem given_map {α : Type} (rows : List α) (w : α → V) (v : Nat → V) (h : ∀ i r, rows[i]? = some r → v i = w r) : given rows.length (fun _ => true) v = rows.map w := by
  unfold given
  rw [filter_yes]
  refine List.ext_getElem? fun i => ?_
  rw [List.getElem?_map, List.getElem?_map]
  by_cases c : i < rows.length
  · rw [List.getElem?_range c, List.getElem?_eq_getElem c]
    exact congrArg some (h i _ (List.getElem?_eq_getElem c))
  · rw [List.getElem?_eq_none (by rw [List.length_range]; omega), List.getElem?_eq_none (by omega)]
    rfl
/-- [e of r for r in rows] -/
theorem el_lcRwN {a : Addr} {p : Addr} {H0 : Hp} {ts : List Addr} {rows : List (Int × List Int)} {j : Nat} (w : Int × List Int → V) (h : Ev tl σ H (.ref a)) (hx : H a = some (.lst (ts.map V.ref))) (hp : RwsN p H0 H ts rows) (hz : rows.length ≤ 40000) (hw : ∀ x, wipe ((wipe σ vs).set j (some x)) vs = wipe σ vs)
    (he : ∀ (i : Nat) (r : Int × List Int) (t q : Addr) (H1 : Hp), Ex H H1 → rows[i]? = some r → H1 t = some (.tup [.int r.1, .ref q]) → Ev te ((wipe σ vs).set j (some (.ref t))) H1 (w r)) : EvL (tLc (iList K tl) (gName j) tYes te vs) σ H (rows.map w) := by
  have hln : (ts.map V.ref).length = rows.length := by rw [List.length_map]; exact Paired.length hp
  refine el_is (el_lcL (xs := ts.map V.ref) (fun _ => true) (fun i => match rows[i]? with | some r => w r | none => .non) h (SqL.of hx) (by omega) hw (fun _ _ _ _ _ => et_yes) (fun i x H1 e hx _ => ?_)) ?_
  · rw [List.getElem?_map] at hx
    obtain ⟨t, ht, rfl⟩ := Option.map_eq_some_iff.mp hx
    obtain ⟨r, hr, qq, _, _, _, h3, h4⟩ := Kp.paired_get (hp.mono e) ht
    rw [hr]
    exact he i r t qq H1 e hr h3
  · rw [hln]
    exact given_map rows w _ fun i r hr => by rw [hr]
end
/- _law_are: slots 0 _law_n_here, 1 _law_thing, 2 _law_row, 3 _law_d, 4 _law_f, 5 _law_made, 6 _law_e, 7 _law_g; calls _law_is_poly, _law_whole, _law_divisors, _law_product, _law_sum_of, _law_doubled_row -/
abbrev s__law_are : Stmt := topS 31
theorem sc__law_are : FnScope ["_law_n_here", "_law_thing", "_law_row", "_law_d", "_law_f", "_law_made", "_law_e", "_law_g"] ["_law_n_here", "_law_thing"] (defScope s__law_are) := ⟨rfl, rfl, rfl, by decide +kernel, rfl, by decide +kernel, by decide +kernel⟩

def spAre62 : Sp := fun vs H Q _ => ∃ (n : Nat) (p : Addr) (ts : List Addr) (H0 : Hp), vs = [.int (n : Nat), .ref p] ∧ 1 ≤ n ∧ n ≤ 60 ∧ H p = some (.lst (ts.map V.ref)) ∧ RwsN p H0 H ts (cosRows n) ∧ RetV (.bl true) H Q
section
variable {P : Program} {w : World} {K : PySem.W.Frag} {mg : Str → Option Value} {base : Heap}
theorem cal_ar62 (nb : Nb mg) (c__law_whole : Cal P w K mg base CX0 "_law_whole" 1 ["_law_thing"] spWh62) (c__law_is_poly : Cal P w K mg base CX0 "_law_is_poly" 1 ["_law_thing"] (spIp62 K)) (c__law_divisors : Cal P w K mg base CX0 "_law_divisors" 1 ["_law_n_here"] spDv62) (c__law_product : Cal P w K mg base CX0 "_law_product" 2 ["_law_one", "_law_other"] (spPd62 K)) (c__law_sum_of : Cal P w K mg base CX0 "_law_sum_of" 2 ["_law_one", "_law_other"] (spSo62 K)) (c__law_doubled_row : Cal P w K mg base CX0 "_law_doubled_row" 3 ["_law_k"] spDr62) (d : Dfn K mg "_law_are" ["_law_n_here", "_law_thing"] s__law_are) : Cal P w K mg base CX0 "_law_are" 4 ["_law_n_here", "_law_thing"] spAre62 := by
  refine d.cal sc__law_are (fun vs H Q E h => ?_) (fun fa cdv A outer s H vs Q E hr h => ?_)
  · obtain ⟨n, p, ts, H0, rfl, _⟩ := h
    rfl
  · obtain ⟨n, p, ts, H0, rfl, n1, n2, hp, hR, q⟩ := h
    refine ⟨_, (pss_cons (ps_if (pt_not (pt_val (pe_callB call_isi (by rfl) nb.isinstance (by decide +kernel) (pa_cons (pv 1) (pa_cons (pe_bltn (v := .ty "list") (by rfl) nb.list (by decide +kernel) rfl) pa_nil))))) (pss_one (ps_ret pe_bl)) pss_nil)
      (pss_cons (ps_for PassesOwn.never rfl (pi_list (pv 1)) (pg_name (i := 2) sc__law_are.nd rfl (.inl rfl)) (pss_one (ps_if (PW.pt (pw_or (pt_not (pt_val (pe_callB call_isi (by rfl) nb.isinstance (by decide +kernel) (pa_cons (pv 2) (pa_cons (pe_bltn (v := .ty "tuple") (by rfl) nb.tuple (by decide +kernel) rfl) pa_nil))))) (pw_or (pt_cmpR op_ne (pe_callB call_len_seq (by rfl) nb.len PySem.boot_len (pa_cons (pv 2) pa_nil)) pe_int (nomark _)) (pw_or (pt_not (pt_val (pe_cal c__law_whole (hr.mono (by first | decide | omega)) (by rfl) pass0 (pa_cons (pe_ix ix_tup (pv 2) pe_int (fun _ _ => rfl)) pa_nil)))) (pw_or1 (pt_not (pt_val (pe_cal c__law_is_poly (hr.mono (by first | decide | omega)) (by rfl) pass0 (pa_cons (pe_ix ix_tup (pv 2) pe_int (fun _ _ => rfl)) pa_nil))))))))) (pss_one (ps_ret pe_bl)) pss_nil)))
      (pss_cons (ps_if (pt_cmpR (op_neD hr.units) (pe_lc (own := [("_law_row", 2)]) (g := gName 2) (tt := tYes) (te := (tOp (rIxT K) (tVar 2) (tC (.int 0)))) (by rfl) sc__law_are.nd (pi_list (pv 1)) (blkOk_by (N := ["_law_n_here", "_law_thing", "_law_row", "_law_d", "_law_f", "_law_made", "_law_e", "_law_g"]) (sc := defScope s__law_are) (by decide +kernel)) (fun _ _ _ _ _ => (pg_name (i := 2) sc__law_are.nd rfl (Or.inl rfl))) (fun _ _ _ _ _ => pts_nil) (fun _ _ _ _ _ => (pe_ix ix_tup (pv 2) pe_int (fun _ _ => rfl)))) (pe_cal c__law_divisors (hr.mono (by first | decide | omega)) (by rfl) pass0 (pa_cons (pv 0) pa_nil)) (nomark _)) (pss_one (ps_ret pe_bl)) pss_nil)
      (pss_cons (ps_for PassesOwn.never rfl (pi_list (pv 1)) (pg_tup (by rfl) (pgs_cons (pg_name (i := 3) sc__law_are.nd rfl (.inl rfl)) (pgs_cons (pg_name (i := 4) sc__law_are.nd rfl (.inl rfl)) pgs_nil))) (pss_cons (ps_set (i := 5) sc__law_are.nd rfl (.inl rfl) (pe_lst (pa_cons pe_int pa_nil)))
      (pss_cons (ps_for PassesOwn.never rfl (pi_list (pv 1)) (pg_tup (by rfl) (pgs_cons (pg_name (i := 6) sc__law_are.nd rfl (.inl rfl)) (pgs_cons (pg_name (i := 7) sc__law_are.nd rfl (.inl rfl)) pgs_nil))) (pss_cons (ps_if (pt_cmpR op_eq (pe_op op_mod (pv 3) (pv 6)) pe_int (nomark _)) (pss_one (ps_set (i := 5) sc__law_are.nd rfl (.inl rfl) (pe_cal c__law_product (hr.mono (by first | decide | omega)) (by rfl) pass0 (pa_cons (pv 5) (pa_cons (pv 7) pa_nil))))) pss_nil)
      (pss_one (ps_if (PW.pt (pw_and (pt_cmpR op_eq (pe_op op_mod (pv 3) (pv 6)) pe_int (nomark _)) (pw_and1 (pt_cmpR op_gt (pv 6) pe_int (nomark _))))) (pss_one (ps_set (i := 5) sc__law_are.nd rfl (.inl rfl) (pe_cal c__law_product (hr.mono (by first | decide | omega)) (by rfl) pass0 (pa_cons (pv 5) (pa_cons (pv 7) pa_nil))))) pss_nil))))
      (pss_one (ps_if (PW.pt (pw_or (pt_cmpR (op_neD hr.units) (pe_slice sl_list (pv 4) (po_some (pe_un un_neg pe_int)) po_none) (pe_lst (pa_cons pe_int pa_nil)) (nomark _)) (pw_or1 (pt_cmpR (op_neD hr.units) (pv 5) (pe_cal c__law_sum_of (hr.mono (by first | decide | omega)) (by rfl) pass0 (pa_cons (pe_cal c__law_doubled_row (hr.mono (by first | decide | omega)) (by rfl) pass0 (pa_cons (pv 3) pa_nil)) (pa_cons (pe_lst (pa_cons (pe_un un_neg pe_int) pa_nil)) pa_nil))) (nomark _))))) (pss_one (ps_ret pe_bl)) pss_nil)))))
      (pss_one (ps_ret pe_bl)))))), ?_⟩
    have rl := cosRows_len n
    have dl := dvL_len n
    refine q_when (b := false) (et_is (et_not (et_B (ev_isi (b := true) (ev_var rfl) (tx_lst hp) (by decide +kernel)))) rfl) (fun hb => nomatch hb) (fun _ H1 e1 => ?_)
    refine q_forRwN (rows := cosRows n) (ev_var rfl) (e1 _ _ hp) (hR.mono e1) (fun i σ' H' => ∃ x2, σ' = [some (.int (n : Nat)), some (.ref p), x2, none, none, none, none, none] ∧ Ex H1 H') (fun H2 e2 => ⟨_, rfl, e2⟩) (fun i σ' H' h => h.choose_spec.2) (fun i r t qq σ' H2 hr h3 h4 hP => ?_) (fun σ' H2 hP => ?_)
    · obtain ⟨x2, rfl, e2⟩ := hP
      obtain ⟨d, hd, rfl, dn, d1, d2⟩ := cosRows_get n1 n2 hr
      have cl := cosF_at d1 d2
      have ce := cosF_last d1 d2
      refine s_when (b := false) (et_is (et_or (et_not (et_B (ev_isi (b := true) (ev_var rfl) (tx_tup h3) (by decide +kernel)))) fun _ => et_or (et_test (ev_neI (i := 2) (j := 2) (ev_lenT (ev_var rfl) (SqT.of h3)) ev_c)) fun _ => et_or (et_not (et_B (ev_cal (vs := [.int (d : Nat)]) (z := .bl true) (ea_cons (ev_ixT (j := 0) (SqT.of h3) (ev_var rfl) ev_c rfl) ea_nil) fun H7 e7 Q kk E => ⟨_, rfl, kk⟩))) fun _ => et_not (et_B (ev_cal (vs := [.ref qq]) (z := .bl true) (ea_cons (ev_ixT (j := 1) (SqT.of h3) (ev_var rfl) ev_c rfl) ea_nil) fun H7 e7 Q kk E => ⟨qq, cosF d, rfl, e7 _ _ h4, ce.1, by omega, by rw [ce.2]; decide, kk⟩))) (by rw [decide_eq_true rfl]; rfl)) (fun hb => nomatch hb) (fun _ H3 e3 => ⟨_, rfl, e2.trans e3⟩)
    · obtain ⟨x2, rfl, e2⟩ := hP
      have e12 := e1.trans e2
      have hp2 := e12 _ _ hp
      have hR2 := hR.mono e12
      refine q_when (b := false) (et_is (et_test (ev_opLL (xs := (castI (dvL n)).map V.int) (ys := (castI (dvL n)).map V.int) (el_is (el_lcRwN (fun r => .int r.1) (ev_var rfl) hp2 hR2 (by omega) (fun _ => rfl) fun i r t qq H7 e7 hr h3 => ev_ixT (j := 0) (SqT.of h3) (ev_var rfl) ev_c rfl) (cosRows_fst n)) (el_cal (vs := [.int (n : Nat)]) (by one_place) fun H7 e7 Q kk E => ⟨n, rfl, n1, n2, kk⟩) fun u v H6 hu hv e6 => rv_neI (SqL.of hu) (SqL.of hv))) (by rw [decide_eq_true rfl]; rfl)) (fun hb => nomatch hb) (fun _ H3 e3 => ?_)
      have e13 := e12.trans e3
      refine q_forRwP (rows := cosRows n) (ev_var rfl) (e13 _ _ hp) (hR.mono e13) (fun i σ' H' => ∃ x3 x4 x5 x6 x7, σ' = [some (.int (n : Nat)), some (.ref p), x2, x3, x4, x5, x6, x7] ∧ Ex H3 H') (fun H4 e4 => ⟨_, _, _, _, _, rfl, e4⟩) (fun i σ' H' h => by obtain ⟨_, _, _, _, _, _, e⟩ := h; exact e) (fun i r qq σ' H4 hr h4 hP => ?_) (fun σ' H4 hP => ?_)
      · obtain ⟨x3, x4, x5, x6, x7, rfl, e4⟩ := hP
        obtain ⟨d, hd, rfl, dn, d1, d2⟩ := cosRows_get n1 n2 hr
        have cl := cosF_at d1 d2
        have ce := cosF_last d1 d2
        have hp4 := (e13.trans e4) _ _ hp
        have hR4 := hR.mono (e13.trans e4)
        refine q_asgL (xs := ([1] : List Int).map V.int) (el_lst (vs := [.int 1]) (by one_place) (by decide)) fun m0 H5 nm0 e5 h5 => ?_
        refine q_forRwP (rows := cosRows n) (ev_var rfl) (e5 _ _ hp4) (hR4.mono e5) (fun i σ' H' => ∃ (m : Addr) (x6 x7 : Option V), σ' = [some (.int (n : Nat)), some (.ref p), x2, some (.int (d : Nat)), some (.ref qq), some (.ref m), x6, x7] ∧ Ex H5 H' ∧ H' m = some (.lst ((mdI n d i).map V.int))) (fun H6 e6 => ⟨m0, _, _, rfl, e6, e6 _ _ h5⟩) (fun i σ' H' h => by obtain ⟨_, _, _, _, e, _⟩ := h; exact e) (fun j r qe σ' H6 hr2 h6 hP => ?_) (fun σ' H6 hP => ?_)
        · obtain ⟨m, x6, x7, rfl, e6, hm⟩ := hP
          obtain ⟨e, he, rfl, en, ee1, ee2⟩ := cosRows_get n1 n2 hr2
          have jl := (List.getElem?_eq_some_iff.mp he).1
          have ok := mdI_ok (d := d) n1 n2 j (by omega)
          have ce2 := cosF_at ee1 ee2
          have okl := ok.1
          have st := mdI_step (d := d) he
          have pl := pdL_len (f := mdI n d j) (g := cosF e)
          have tm : ∀ {σ : L2.St} {H' : Hp}, σ[3]? = some (some (.int (d : Nat))) → σ[6]? = some (some (.int (e : Nat))) → EvT (tTest (tOp rEq (tOp (rI (fun _ j => 0 < j) fun i j => .int (i % j)) (tVar 3) (tVar 6)) (tC (.int 0)))) σ H' (decide ((d : Int) % (e : Int) = 0)) := fun h1 h2 => et_test (ev_eqI (ev_mod (ev_var h1) (ev_var h2) (by omega)) ev_c)
          refine q_when (b := decide ((d : Int) % (e : Int) = 0)) (tm rfl rfl) (fun hb H7 e7 => ?_) (fun hb H7 e7 => ?_)
          · have hb : d % e = 0 := by
              have := of_decide_eq_true hb
              omega
            refine s_asgL (xs := (pdL (mdI n d j) (cosF e)).map V.int) (el_cal (vs := [.ref m, .ref qe]) (by one_place) fun H8 e8 Q kk E => ⟨m, qe, mdI n d j, cosF e, 1 + 7700 * j, 64, rfl, SqL.of ((e7.trans e8) _ _ hm), SqL.of ((e7.trans e8) _ _ h6), by omega, by omega, ok.2, ce2.2, by omega, kk⟩) fun m2 H8 nm2 e8 h8 => ?_
            refine s_when (b := decide (2 < e)) (et_is (et_and (tm rfl rfl) fun _ => et_test (ev_gt (ev_var rfl) ev_c)) (by rw [decide_eq_true (show (d : Int) % (e : Int) = 0 by omega), Bool.true_and]; exact decide_eq_decide.mpr (by omega))) (fun hb2 H9 e9 => ?_) (fun hb2 H9 e9 => ?_)
            · have hb2 := of_decide_eq_true hb2
              refine s_asgL (xs := (pdL (pdL (mdI n d j) (cosF e)) (cosF e)).map V.int) (el_cal (vs := [.ref m2, .ref qe]) (by one_place) fun H10 e10 Q kk E => ⟨m2, qe, pdL (mdI n d j) (cosF e), cosF e, _, 64, rfl, SqL.of ((e9.trans e10) _ _ h8), SqL.of (((e7.trans e8).trans (e9.trans e10)) _ _ h6), by omega, by omega, pdL_bd ok.2 ce2.2, ce2.2, by omega, kk⟩) fun m3 H10 nm3 e10 h10 => ⟨m3, _, _, rfl, (e6.trans e7).trans (e8.trans (e9.trans e10)), ?_⟩
              rw [st]
              unfold mdS
              rw [if_pos hb, if_pos hb2]
              exact h10
            · have hb2 := of_decide_eq_false hb2
              refine ⟨m2, _, _, rfl, (e6.trans e7).trans (e8.trans e9), ?_⟩
              rw [st]
              unfold mdS
              rw [if_pos hb, if_neg hb2]
              exact e9 _ _ h8
          · have hb : ¬ d % e = 0 := by
              have := of_decide_eq_false hb
              omega
            refine s_when (b := false) (et_is (et_and (tm rfl rfl) fun _ => et_test (ev_gt (ev_var rfl) ev_c)) (by rw [decide_eq_false (show ¬ (d : Int) % (e : Int) = 0 by omega)]; rfl)) (fun hb2 => nomatch hb2) (fun _ H8 e8 => ⟨m, _, _, rfl, (e6.trans e7).trans e8, ?_⟩)
            rw [st, mdS_skip hb]
            exact (e7.trans e8) _ _ hm
        · obtain ⟨m, x6, x7, rfl, e6, hm⟩ := hP
          rw [rl, mdI_end n1 dn, mdF_eq d1 d2] at hm
          have hq := (e5.trans e6) _ _ h4
          have dbl := db_len (i := d) (by omega)
          refine s_when (b := false) (et_is (et_or (et_test (ev_opLL (xs := ([1] : List Int).map V.int) (ys := ([1] : List Int).map V.int) (el_is (el_sl (ev_var rfl) (eo_some (ev_neg ev_c)) eo_none (SqL.of hq)) (cut_last62 (l := (cosF d).dropLast.map V.int) (v := V.int 1) ?_)) (el_lst (vs := [.int 1]) (by one_place) (by decide)) fun u v H7 hu hv e7 => rv_neI (SqL.of hu) (SqL.of hv))) fun _ => et_test (ev_opL (xs := (addP 1 (dbF d) [-2]).map V.int) (ev_var rfl) (el_calAB (A := (dbF d).map V.int) (B := ([-2] : List Int).map V.int) (eab_of (el_cal (vs := [.int (d : Nat)]) (by one_place) fun H7 e7 Q kk E => ⟨d, rfl, d2, kk⟩) (el_lst (vs := [.int (-2)]) (ea_cons (ev_neg ev_c) ea_nil) (by show 1 ≤ 100000; decide))) fun a b H7 e7 ha hb Q kk E => ⟨a, b, dbF d, [-2], rfl, SqL.of ha, SqL.of hb, by omega, by decide, kk⟩) fun u H7 hu e7 => rv_neI (SqL.of (e7 _ _ hm)) (SqL.of hu))) (by rw [decide_eq_true rfl, decide_eq_true rfl]; rfl)) (fun hb => nomatch hb) (fun _ H7 e7 => ⟨_, _, _, _, _, rfl, (e4.trans e5).trans (e6.trans e7)⟩)
          have pos := List.length_pos_iff.mpr ce.1
          conv => lhs; rw [← List.dropLast_concat_getLast ce.1]
          rw [List.map_append]
          congr 2
          rw [List.getLast_eq_getElem, ← coef_lt (by omega), ce.2]
          rfl
      · obtain ⟨x3, x4, x5, x6, x7, rfl, e4⟩ := hP
        exact s_ret (v := .bl true) ev_c fun H5 e5 => q H5 ((e13.trans e4).trans e5)
end

/-! ### the law of k62 -/
theorem dvL_last62 {n : Nat} (h : 1 ≤ n) : (dvL n)[(dvL n).length - 1]? = some n := by
  obtain ⟨k, hk, e⟩ := List.mem_iff_getElem.mp ((dvL_mem h).mpr (Nat.dvd_refl n))
  have hl : (dvL n).length - 1 < (dvL n).length := by omega
  rw [List.getElem?_eq_getElem hl]
  have hd := (dvL_mem h).mp (List.getElem_mem hl)
  have hle := Nat.le_of_dvd (by omega) hd
  by_cases z : k = (dvL n).length - 1
  · subst z
    rw [e]
  · have := List.pairwise_iff_getElem.mp (dvL_rise n) k ((dvL n).length - 1) hk hl (by omega)
    omega
theorem cosRows_last {n : Nat} (h : 1 ≤ n) : 1 ≤ (cosRows n).length ∧ (cosRows n)[(cosRows n).length - 1]? = some ((n : Int), cosF n) := by
  have l := cosRows_len n
  have e := dvL_last62 h
  have pos : (dvL n).length - 1 < (dvL n).length := (List.getElem?_eq_some_iff.mp e).1
  refine ⟨by omega, ?_⟩
  rw [l]
  unfold cosRows castI
  rw [List.map_map, List.getElem?_map, e]
  rfl
def distB : List (List Int) → Bool
  | [] => true
  | x :: xs => (xs.all fun y => decide (x ≠ y)) && distB xs
theorem distB_pw : ∀ {l : List (List Int)}, distB l = true → l.Pairwise (· ≠ ·)
  | [], _ => .nil
  | x :: xs, h => by
    unfold distB at h
    rw [Bool.and_eq_true] at h
    exact .cons (fun y hy => of_decide_eq_true (List.all_eq_true.mp h.1 y hy)) (distB_pw h.2)
theorem cosF_dist : distB ((List.range 60).map fun i => cosF (i + 1)) = true := by decide +kernel
theorem cosF_ne {d e : Nat} (d1 : 1 ≤ d) (d2 : d ≤ 60) (e1 : 1 ≤ e) (e2 : e ≤ 60) (h : d ≠ e) : cosF d ≠ cosF e := by
  have key : ∀ {d e : Nat}, 1 ≤ d → e ≤ 60 → d < e → cosF d ≠ cosF e := fun {d e} d1 e2 h => by
    have p := List.pairwise_iff_getElem.mp (distB_pw cosF_dist) (d - 1) (e - 1) (by rw [List.length_map, List.length_range]; omega) (by rw [List.length_map, List.length_range]; omega) (by omega)
    rw [List.getElem_map, List.getElem_map, List.getElem_range, List.getElem_range, Nat.sub_add_cancel d1, Nat.sub_add_cancel (by omega)] at p
    exact p
  rcases Nat.lt_or_gt_of_ne h with h | h
  · exact key d1 e2 h
  · exact (key e1 d2 h).symm
section
variable {K : PySem.W.Frag} {σ : L2.St} {H : Hp} {te tl t0 : TE} {D : Ends} {tu tz : TS} {vs : List Nat} {E : XK} {z : V}
theorem q_asgN62 {i : Nat} {c : Int} (h0 : Ev t0 σ H (.int c)) (hl : EvL tl σ H (([30, 36, 42, 45, 48, 54, 60] : List Int).map V.int)) (k : ∀ n : Nat, 1 ≤ n → n ≤ 60 → ∀ H1, Ex H H1 → tz D (σ.set i (some (.int (n : Nat)))) H1) :
    tSeq (tAsg (tCall (spN62 K) [] E (tCons t0 (tCons (tC (.int 60)) (tCons tl tNil)))) (gName i)) tz D σ H :=
  h0 H (Ex.refl H) _ fun H1 e1 => hl H1 e1 _ fun a H2 na e2 ha => by
    show spN62 K ([.int c, .int 60, .ref a] ++ []) H2 _ E
    exact ⟨c, a, rfl, SqL.of ha, fun n n1 n2 H3 e3 => k n n1 n2 H3 ((e1.trans e2).trans e3)⟩
/-- for d, f in rows: f.append(3), the rows' lists unlike -/
theorem q_forRwAp {p : Addr} {H0 Hm : Hp} {ts : List Addr} {rows : List (Int × List Int)} {j1 j2 : Nat} {c : Int} (h : Ev tl σ H (.ref p)) (np : H0 p = none) (hm : Hm p = some (.lst (ts.map V.ref))) (R : RwsN p H0 Hm ts rows) (e0 : Ex H0 Hm) (em : Ex Hm H) (hl : ∀ r ∈ rows, r.2.length < 50000) (hd : ∀ (m i : Nat) (r s : Int × List Int), rows[m]? = some r → rows[i]? = some s → m ≠ i → r.2 ≠ s.2) (hj : j1 < σ.length) (hj2 : j2 < σ.length) (hne : j1 ≠ j2)
    (k : ∀ x y H1, Ex H0 H1 → H1 p = some (.lst (ts.map V.ref)) → (∀ a o, Hm a = none → H a = some o → H1 a = some o) → RwsN p H0 H1 ts (rows.map fun r => (r.1, r.2 ++ [c])) → tz D ((σ.set j1 x).set j2 y) H1) :
    tSeq (tFor (iList K tl) (gTup K 2 (gCons (gName j1) (gCons (gName j2) gNil))) (tDrop (tBM K "list" rAppend (tVar j2) (tCons (tC (.int c)) tNil)))) tz D σ H :=
  h H (Ex.refl H) _ fun H1 e1 => ⟨p, rfl, ⟨_, sq_of (e1 _ _ (em _ _ hm))⟩, for_list (xs := ts.map V.ref) (D := { D with nx := tz D })
    (fun i σ' H' => (∃ x y, σ' = (σ.set j1 x).set j2 y) ∧ Ex H0 H' ∧ H' p = some (.lst (ts.map V.ref)) ∧ (∀ a o, Hm a = none → H a = some o → H' a = some o) ∧ ∀ (m : Nat) (t : Addr) (r : Int × List Int), ts[m]? = some t → rows[m]? = some r → ∃ q, q ≠ p ∧ H0 t = none ∧ H0 q = none ∧ Hm q = some (.lst (r.2.map V.int)) ∧ H' t = some (.tup [.int r.1, .ref q]) ∧ H' q = some (.lst ((if m < i then r.2 ++ [c] else r.2).map V.int)))
    ⟨⟨σ[j1], σ[j2], by rw [List.set_getElem_self hj, List.set_getElem_self hj2]⟩, e0.trans (em.trans e1), e1 _ _ (em _ _ hm), fun a o _ ho => e1 _ _ ho, fun m t r ht hr => by
      obtain ⟨s, hs, q, z1, z2, z3, z4, z5⟩ := Kp.paired_get R ht
      rw [hr] at hs
      cases hs
      exact ⟨q, z1, z2, z3, z5, e1 _ _ (em _ _ z4), by rw [if_neg (Nat.not_lt_zero m)]; exact e1 _ _ (em _ _ z5)⟩⟩
    (fun i σ' H' _ p => sq_of p.2.2.1) (fun i x σ' H' hx hp => by
      obtain ⟨⟨y1, y2, rfl⟩, p2, p3, p5, p4⟩ := hp
      rw [List.getElem?_map] at hx
      obtain ⟨t, ht, rfl⟩ := Option.map_eq_some_iff.mp hx
      obtain ⟨r, hr, _⟩ := Kp.paired_get R ht
      obtain ⟨q, qp, nt, nq, hq, h1, h2⟩ := p4 i t r ht hr
      rw [if_neg (Nat.lt_irrefl i)] at h2
      have ll := hl r (List.mem_of_getElem? hr)
      refine ⟨t, _, rfl, .inl (.inl h1), rfl, .int r.1, [.ref q], rfl, .ref q, [], rfl, rfl, ?_⟩
      refine s_app h2 (ev_var ?_) ev_c (by rw [List.length_map]; omega) fun H3 e3 => ⟨⟨some (.int r.1), some (.ref q), ?_⟩, Ex.mut (p2.trans e3) nq, ?_, fun a o na ho => ?_, fun m u s hu hs => ?_⟩
      · rw [List.getElem?_set_self (by rw [List.length_set, List.length_set, List.length_set]; exact hj2)]
      · rw [List.set_comm _ _ hne.symm, List.set_set, List.set_set]
      · rw [upd_ne qp.symm]
        exact e3 _ _ p3
      · rw [upd_ne (show a ≠ q from fun z => by rw [z, hq] at na; cases na)]
        exact e3 _ _ (p5 a o na ho)
      · obtain ⟨q', z1, z2, z3, z4, z5, z6⟩ := p4 m u s hu hs
        have nt : u ≠ q := ne_of z5 h2 (by intro z; cases z)
        by_cases e : m = i
        · subst e
          rw [ht] at hu
          cases hu
          rw [hr] at hs
          cases hs
          rw [h1] at z5
          cases z5
          refine ⟨q, z1, z2, z3, z4, by rw [upd_ne nt]; exact e3 _ _ h1, ?_⟩
          rw [upd_same, if_pos (Nat.lt_succ_self _), List.map_append]
          rfl
        · have qq : q' ≠ q := fun z => by
            rw [z, hq] at z4
            exact hd m i s r hs hr e (map_inj (fun _ _ => V.int.inj) _ _ (HO.lst.inj (Option.some.inj z4))).symm
          refine ⟨q', z1, z2, z3, z4, by rw [upd_ne nt]; exact e3 _ _ z5, ?_⟩
          rw [upd_ne qq]
          have c : (m < i + 1) = (m < i) := by
            apply propext
            omega
          simp only [c]
          exact e3 _ _ z6) (fun σ' H' p => by
      obtain ⟨⟨y1, y2, rfl⟩, p2, p3, p5, p4⟩ := p
      refine k y1 y2 H' p2 p3 p5 ?_
      have hlen := Paired.length R
      have : ∀ (us : List Addr) (ss : List (Int × List Int)) (b : Nat), us.length = ss.length → (∀ (m : Nat) (t : Addr) (r : Int × List Int), us[m]? = some t → ss[m]? = some r → ∃ q, q ≠ p ∧ H0 t = none ∧ H0 q = none ∧ H' t = some (.tup [.int r.1, .ref q]) ∧ H' q = some (.lst ((r.2 ++ [c]).map V.int))) → RwsN p H0 H' us (ss.map fun r => (r.1, r.2 ++ [c])) := by
        intro us
        induction us with
        | nil =>
          intro ss b l _
          cases ss with
          | nil => exact .nil
          | cons s ss => cases l
        | cons u us ih =>
          intro ss b l g
          cases ss with
          | nil => cases l
          | cons s ss => exact .cons (g 0 u s rfl rfl) (ih ss b (Nat.succ.inj l) fun m t r ht hr => g (m + 1) t r ht hr)
      refine this ts rows 0 hlen fun m t r ht hr => ?_
      obtain ⟨q, z1, z2, z3, z4, z5, z6⟩ := p4 m t r ht hr
      rw [if_pos (by rw [List.length_map]; exact (List.getElem?_eq_some_iff.mp ht).1)] at z6
      exact ⟨q, z1, z2, z3, z5, z6⟩)⟩
/-- [f for d, f in rows if ..], none of them -/
theorem el_lcRwNo {a p : Addr} {H0 : Hp} {ts : List Addr} {rows : List (Int × List Int)} {i j : Nat} {tt : TT} (h : Ev tl σ H (.ref a)) (hx : H a = some (.lst (ts.map V.ref))) (hp : RwsN p H0 H ts rows)
    (hw : ∀ x y, wipe (((wipe σ vs).set i (some x)).set j (some y)) vs = wipe σ vs)
    (ht : ∀ r q H1, Ex H H1 → r ∈ rows → H1 q = some (.lst (r.2.map V.int)) → EvT tt (((wipe σ vs).set i (some (.int r.1))).set j (some (.ref q))) H1 false) :
    EvL (tLc (iList K tl) (gTup K 2 (gCons (gName i) (gCons (gName j) gNil))) tt te vs) σ H [] := fun H2 e Q q => h H2 e _ fun H1 e1 => ⟨a, rfl, ⟨ts.map V.ref, SqL.of ((e.trans e1) _ _ hx)⟩, fun Dl hD =>
  lc_list (xs := ts.map V.ref) (fun n H' => H1 Dl = none ∧ Ex H1 H' ∧ H' Dl = some (.lst [])) ⟨hD, Ex.new hD, upd_same⟩ (fun n H' _ p => SqL.of (((e.trans e1).trans p.2.1) _ _ hx)) (fun n x H' hn p => by
    obtain ⟨p1, p2, p3⟩ := p
    rw [List.getElem?_map] at hn
    obtain ⟨t, ht', rfl⟩ := Option.map_eq_some_iff.mp hn
    obtain ⟨r, hr, qq, _, _, _, h3, h4⟩ := Kp.paired_get (hp.mono ((e.trans e1).trans p2)) ht'
    have hm : r ∈ rows := List.mem_of_getElem? hr
    refine ⟨t, _, rfl, SqT.of h3, rfl, .int r.1, [.ref qq], rfl, .ref qq, [], rfl, rfl, hw _ _, ?_⟩
    refine ht r qq H' ((e.trans e1).trans p2) hm h4 H' (Ex.refl H') _ fun H3 e3 => ?_
    show H1 Dl = none ∧ Ex H1 H3 ∧ H3 Dl = some (.lst [])
    exact ⟨p1, p2.trans e3, e3 _ _ p3⟩) (fun H' p => q Dl H' (fresh_back e1 p.1) (e1.trans p.2.1) p.2.2)⟩
theorem q_clear62 {l : Addr} {xs : List V} (hl : H l = some (.lst xs)) (ha : Ev te σ H (.ref l)) (k : ∀ H1, Ex H H1 → tz D σ (upd H1 l (.lst []))) :
    tSeq (tDrop (tBM0 K "list" rClear te)) tz D σ H := ha H (Ex.refl H) _ fun H1 e1 =>
  ⟨Or.inl ⟨rfl, _, sq_of (e1 l _ hl)⟩, l, xs, rfl, rfl, e1 l _ hl, k H1 e1⟩
theorem ev_calVR62 {sp : Sp} {v : V} {rows : List (Int × List Int)} (h0 : Ev t0 σ H v) (h : EvR te σ H rows) (hs : ∀ p ts H0 H1, Ex H H1 → H1 p = some (.lst (ts.map V.ref)) → RwsN p H0 H1 ts rows → ∀ Q : VK, RetV z H1 Q → ∀ E : XK, sp [v, .ref p] H1 Q E) : Ev (tCall sp [] E (tCons t0 (tCons te tNil))) σ H z := fun H1 e Q q =>
  h0 H1 e _ fun H2 e2 => h H2 (e.trans e2) _ fun p ts H3 np e3 hp R => by
    show sp ([v, .ref p] ++ []) H3 Q E
    rw [List.append_nil]
    exact hs p ts H2 H3 ((e.trans e2).trans e3) hp R Q (fun H4 e4 => q H4 ((e2.trans e3).trans e4)) E
theorem ev_strD62 {x : V} {d : PyData} (h : Ev te σ H x) (g : Dq H x d) (s : Sz 16000000 50 d) : Ev (tCB rStrD (tCons te tNil)) σ H (.str (strD d)) := fun H1 e Q q =>
  h H1 e _ fun H2 e2 => ⟨x, d, rfl, g.mono (e.trans e2), s.ok, s.len, Nat.le_trans s.dep (by decide), q H2 e2⟩
end
theorem sz_cosF {n : Nat} (n1 : 1 ≤ n) (n2 : n ≤ 60) : Sz 16000000 50 (dI (cosF n)) := by
  have c := cosF_at n1 n2
  refine (Sz.lst (sza_ints (ns := cosF n) fun i hi => ?_)).mono (by omega) (by decide)
  obtain ⟨m, hm⟩ := List.mem_iff_getElem?.mp hi
  have := c.2 m
  rw [coef_of hm] at this
  exact Nat.lt_of_lt_of_le this (Nat.pow_le_pow_right (by decide) (by decide))
theorem cut_two62 {xs l : List V} {u v : V} (h : xs = l ++ [u, v]) : cutV xs (some (-2)) none = [u, v] := by
  have e : HT.sIx xs.length 0 (some (-2)) = xs.length - 2 := by
    have : xs.length = l.length + 2 := by rw [h, List.length_append]; rfl
    unfold HT.sIx
    simp
    omega
  have e2 : HT.sIx xs.length xs.length none = xs.length := by
    unfold HT.sIx
    rfl
  unfold cutV
  rw [e, e2, h, List.length_append]
  show (List.take (l.length + 2 - (l.length + 2 - 2)) (List.drop (l.length + 2 - 2) (l ++ [u, v]))) = _
  rw [Nat.add_sub_cancel, List.drop_left, List.take_of_length_le (by show 2 ≤ _; omega)]
/- law: slots 0 _law_script, 1 _law_cell, 2 _law_n_here, 3 _law_got, 4 _law_last, 5 _law_one, 6 _law_d, 7 _law_f; calls _law_n, _law_mix, cosine_polys, _law_are, cosine_poly -/
abbrev s_law : Stmt := topS 33
theorem sc_law : FnScope ["_law_script", "_law_cell", "_law_n_here", "_law_got", "_law_last", "_law_one", "_law_d", "_law_f"] ["_law_script"] (defScope s_law) := ⟨rfl, rfl, rfl, by decide +kernel, rfl, by decide +kernel, by decide +kernel⟩

def spLaw (K : PySem.W.Frag) : Sp := fun vs H Q _ => ∃ (a : Addr) (ns : List Int), vs = [.ref a] ∧ SqL K H a (ns.map V.int) ∧ ns.length ≤ 63 ∧ ∀ H', Q (.bl true) H'
section
variable {P : Program} {w : World} {K : PySem.W.Frag} {mg : Str → Option Value} {base : Heap} {C C2 : Addr}
theorem law_ok {f : Addr} {fd : FuncData} (F : Fun K "law" "law" s_law f fd) (nb : Nb mg) (nb_isqrt : mg "isqrt" = some (.builtin "math.isqrt")) (z_ValueError : mg "ValueError" = none) (hv : PySem.W.kitOne K (.ref C) (.type "ValueError") = some true) (x_NoPart : OwnX K mg "NoPart" C) {Wc : Addr} (x_WheelError : GlX mg "WheelError" Wc) (hex : PySem.W.exmOne K (.ref C) (.ref Wc) = some true) (x_NoFold : OwnX K mg "NoFold" C2)
    (d_divisors : Dfn K mg "divisors" ["n"] s_divisors) (d_parted : Dfn K mg "parted" ["n"] s_parted) (d_trimmed : Dfn K mg "trimmed" ["numbers"] s_trimmed) (d_plus : Dfn K mg "plus" ["f", "g"] s_plus) (d_minus : Dfn K mg "minus" ["f", "g"] s_minus) (d_over : Dfn K mg "over" ["f", "g"] s_over) (d_at_power : Dfn K mg "at_power" ["f", "k"] s_at_power) (d_root_poly : Dfn K mg "root_poly" ["n"] s_root_poly)
    (d_next_doubled : Dfn K mg "next_doubled" ["here", "last"] s_next_doubled) (d_folded : Dfn K mg "folded" ["f"] s_folded) (d_cosine_polys : Dfn K mg "cosine_polys" ["n"] s_cosine_polys) (d_cosine_poly : Dfn K mg "cosine_poly" ["n"] s_cosine_poly)
    (d__law_mix : Dfn K mg "_law_mix" ["_law_cell", "_law_k"] s__law_mix) (d__law_trim : Dfn K mg "_law_trim" ["_law_row"] s__law_trim) (d__law_sum_of : Dfn K mg "_law_sum_of" ["_law_one", "_law_other"] s__law_sum_of) (d__law_product : Dfn K mg "_law_product" ["_law_one", "_law_other"] s__law_product) (d__law_whole : Dfn K mg "_law_whole" ["_law_thing"] s__law_whole) (d__law_is_poly : Dfn K mg "_law_is_poly" ["_law_thing"] s__law_is_poly) (d__law_doubled_row : Dfn K mg "_law_doubled_row" ["_law_k"] s__law_doubled_row) (d__law_divisors : Dfn K mg "_law_divisors" ["_law_n_here"] s__law_divisors) (d__law_are : Dfn K mg "_law_are" ["_law_n_here", "_law_thing"] s__law_are) (d__law_n : Dfn K mg "_law_n" ["_law_number", "_law_most", "_law_some"] s__law_n) :
    FnG P w K mg base 8 f fd ["_law_script"] (spLaw K) := by
  have c_trimmed : Cal P w K mg base CX0 "trimmed" 1 ["numbers"] (spTrim K) := cal_trimmed nb d_trimmed
  have c_over : Cal P w K mg base CX0 "over" 2 ["f", "g"] (spOverX K) := (cal_over nb x_NoPart c_trimmed d_over).calm.imp fun vs H Q E h => overX_of h
  have c_root_poly : Cal P w K mg base CX0 "root_poly" 3 ["n"] spRoot := cal_root nb (cal_parted nb d_parted) c_over (cal_atP nb d_at_power) d_root_poly
  have c_plus : Cal P w K mg base CX0 "plus" 2 ["f", "g"] (spPlus K) := cal_plus nb c_trimmed d_plus
  have c_nx : Cal P w K mg base CX0 "next_doubled" 4 ["here", "last"] spNx := cal_nx62 nb (cal_minus nb c_plus d_minus) d_next_doubled
  have c_folded : Cal P w K mg base CX0 "folded" 5 ["f"] (fun vs H Q _ => spFd C2 vs H Q (fun _ _ _ => False)) := (cal_fd62 nb x_NoFold c_plus c_nx d_folded).calm
  have c_cosine_poly : Cal P w K mg base CX0 "cosine_poly" 6 ["n"] spCp := cal_cp62 nb c_folded c_root_poly d_cosine_poly
  have c_cosine_polys : Cal P w K mg base CX0 "cosine_polys" 7 ["n"] spCps := cal_cps62 nb (cal_divisors nb nb_isqrt d_divisors) c_cosine_poly d_cosine_polys
  have c__law_mix : Cal P w K mg base CX0 "_law_mix" 1 ["_law_cell", "_law_k"] spMix := cal_mix nb d__law_mix
  have c__law_trim : Cal P w K mg base CX0 "_law_trim" 1 ["_law_row"] (spTrim K) := cal_lt62 nb d__law_trim
  have c__law_sum_of : Cal P w K mg base CX0 "_law_sum_of" 2 ["_law_one", "_law_other"] (spSo62 K) := cal_so62 nb c__law_trim d__law_sum_of
  have c__law_are : Cal P w K mg base CX0 "_law_are" 4 ["_law_n_here", "_law_thing"] spAre62 := cal_ar62 nb (cal_wh62 nb d__law_whole) (cal_ip62 nb d__law_is_poly) (cal_dv62 nb d__law_divisors) (cal_pd62 nb c__law_trim d__law_product) c__law_sum_of (cal_dr62 nb c__law_sum_of d__law_doubled_row) d__law_are
  have c__law_n : Cal P w K mg base CX0 "_law_n" 1 ["_law_number", "_law_most", "_law_some"] (spN62 K) := cal_n62 nb d__law_n
  refine Fun.okG F sc_law (fun vs H Q E h => ?_) (fun cdv A outer s H vs Q E hr hg h => ?_)
  · obtain ⟨a, ns, rfl, _⟩ := h
    rfl
  · obtain ⟨a, ns, rfl, hS, hlen, q⟩ := h
    refine ⟨_, (pss_cons (ps_for PassesOwn.never rfl (pi_list (pe_op op_cat (pe_lst (pa_cons pe_int (pa_cons pe_int pa_nil))) (pe_slice sl_list (pv 0) po_none (po_some pe_int)))) (pg_name (i := 1) sc_law.nd rfl (.inl rfl)) (pss_cons (ps_set (i := 2) sc_law.nd rfl (.inl rfl) (pe_cal c__law_n (hr.mono (by first | decide | omega)) (by rfl) pass0 (pa_cons (pe_cal c__law_mix (hr.mono (by first | decide | omega)) (by rfl) pass0 (pa_cons (pv 1) (pa_cons pe_int pa_nil))) (pa_cons pe_int (pa_cons (pe_lst (pa_cons pe_int (pa_cons pe_int (pa_cons pe_int (pa_cons pe_int (pa_cons pe_int (pa_cons pe_int (pa_cons pe_int pa_nil)))))))) pa_nil)))))
      (pss_cons (ps_set (i := 3) sc_law.nd rfl (.inl rfl) (pe_cal c_cosine_polys (hr.mono (by first | decide | omega)) (by rfl) pass0 (pa_cons (pv 2) pa_nil)))
      (pss_cons (ps_if (pt_not (pt_val (pe_cal c__law_are (hr.mono (by first | decide | omega)) (by rfl) pass0 (pa_cons (pv 2) (pa_cons (pv 3) pa_nil))))) (pss_one (ps_ret pe_bl)) pss_nil)
      (pss_cons (ps_set (i := 4) sc_law.nd rfl (.inl rfl) (pe_callTy call_list_of (by rfl) nb.list (by decide +kernel) (pa_cons (pe_ix ix_tup (pe_ix ix_list (pv 3) (pe_un un_neg pe_int) (fun _ _ => rfl)) pe_int (fun _ _ => rfl)) pa_nil)))
      (pss_cons (ps_set (i := 5) sc_law.nd rfl (.inl rfl) (pe_cal c_cosine_poly (hr.mono (by first | decide | omega)) (by rfl) pass0 (pa_cons (pv 2) pa_nil)))
      (pss_cons (ps_if (PW.pt (pw_or (pt_not (pt_val (pe_callB call_isi (by rfl) nb.isinstance (by decide +kernel) (pa_cons (pv 5) (pa_cons (pe_bltn (v := .ty "list") (by rfl) nb.list (by decide +kernel) rfl) pa_nil))))) (pw_or (pt_cmpR (op_neD hr.units) (pv 5) (pv 4) (nomark _)) (pw_or1 (pt_cmpR op_ne (pe_callTy (cr_strD hg (room110 hr)) (by rfl) nb.str (by decide +kernel) (pa_cons (pv 5) pa_nil)) (pe_callTy (cr_strD hg (room110 hr)) (by rfl) nb.str (by decide +kernel) (pa_cons (pv 4) pa_nil)) (nomark _)))))) (pss_one (ps_ret pe_bl)) pss_nil)
      (pss_cons (ps_expr (pe_bm PySem.F.plainAttrs_list PySem.F.slot_list_append PySem.F.type_list_append mt_append (pv 5) (pa_cons pe_int pa_nil)))
      (pss_cons (ps_for PassesOwn.never rfl (pi_list (pv 3)) (pg_tup (by rfl) (pgs_cons (pg_name (i := 6) sc_law.nd rfl (.inl rfl)) (pgs_cons (pg_name (i := 7) sc_law.nd rfl (.inl rfl)) pgs_nil))) (pss_one (ps_expr (pe_bm PySem.F.plainAttrs_list PySem.F.slot_list_append PySem.F.type_list_append mt_append (pv 7) (pa_cons pe_int pa_nil)))))
      (pss_cons (ps_if (pt_cmpR (op_neD hr.units) (pe_lc (own := [("_law_d", 6), ("_law_f", 7)]) (g := gTup K 2 (gCons (gName 6) (gCons (gName 7) gNil))) (tt := (tTest (tOp (rNeD K) (tSl (rSlL K) (tVar 7) (tPart (tUn (rU fun i => .int (-i)) (tC (.int 2)))) tNoPart) (tLst (tCons (tC (.int 1)) (tCons (tC (.int 3)) tNil)))))) (by rfl) sc_law.nd (pi_list (pv 3)) (blkOk_by (N := ["_law_script", "_law_cell", "_law_n_here", "_law_got", "_law_last", "_law_one", "_law_d", "_law_f"]) (sc := defScope s_law) (by decide +kernel)) (fun _ _ _ _ _ => (pg_tup (by rfl) (pgs_cons (pg_name (i := 6) sc_law.nd rfl (Or.inl rfl)) (pgs_cons (pg_name (i := 7) sc_law.nd rfl (Or.inl rfl)) pgs_nil)))) (fun _ _ _ _ _ => pts_one (pt_cmpR (op_neD hr.units) (pe_slice sl_list (pv 7) (po_some (pe_un un_neg pe_int)) po_none) (pe_lst (pa_cons pe_int (pa_cons pe_int pa_nil))) (nomark _))) (fun _ _ _ _ _ => (pv 7))) (pe_lst pa_nil) (nomark _)) (pss_one (ps_ret pe_bl)) pss_nil)
      (pss_cons (ps_expr (pe_bm0 PySem.F.plainAttrs_list PySem.F.slot_list_clear PySem.F.type_list_clear mt_clear (pv 3)))
      (pss_one (ps_if (PW.pt (pw_or (pt_not (pt_val (pe_cal c__law_are (hr.mono (by first | decide | omega)) (by rfl) pass0 (pa_cons (pv 2) (pa_cons (pe_cal c_cosine_polys (hr.mono (by first | decide | omega)) (by rfl) pass0 (pa_cons (pv 2) pa_nil)) pa_nil))))) (pw_or1 (pt_cmpR (op_neD hr.units) (pe_cal c_cosine_poly (hr.mono (by first | decide | omega)) (by rfl) pass0 (pa_cons (pv 2) pa_nil)) (pv 4) (nomark _))))) (pss_one (ps_ret pe_bl)) pss_nil)))))))))))))
      (pss_one (ps_ret pe_bl))), ?_⟩
    have hz : ([V.int 0, V.int 7] ++ cutV (ns.map V.int) none (some 6)).length ≤ 65 := by
      have := cutV_length (ns.map V.int) none (some 6)
      rw [List.length_map] at this
      rw [List.length_append]
      show 2 + _ ≤ 65
      omega
    refine q_forNLn (xs := [V.int 0, V.int 7] ++ cutV (ns.map V.int) none (some 6)) (el_cat (el_lst (vs := [V.int 0, V.int 7]) (by one_place) (by decide)) (el_sl (by one_place) eo_none (eo_some ev_c) hS) (by rw [List.length_append] at hz; omega))
      (fun p i σ' H' => ∃ x1 x2 x3 x4 x5 x6 x7, σ' = [some (.ref a), x1, x2, x3, x4, x5, x6, x7] ∧ H' p = some (.lst ([V.int 0, V.int 7] ++ cutV (ns.map V.int) none (some 6))))
      (fun p H1 np e1 hp => ⟨none, none, none, none, none, none, none, rfl, hp⟩) (fun p i σ' H' _ hp => ?_) (fun p i x σ' H0 hx hp => ?_) (fun p σ' H' hp => ?_)
    · obtain ⟨_, _, _, _, _, _, _, _, hp⟩ := hp
      exact SqL.of hp
    · obtain ⟨x1, x2, x3, x4, x5, x6, x7, rfl, hp⟩ := hp
      obtain ⟨c, rfl⟩ : ∃ c, x = V.int c := by
        rcases List.mem_append.mp (List.mem_of_getElem? hx) with h | h
        · rcases List.mem_cons.mp h with h | h
          · exact ⟨0, h⟩
          · exact ⟨7, List.mem_singleton.mp h⟩
        · exact int_of_mem (cut_mem h)
      refine q_asgN62 (c := mix c 0) (ev_cal (vs := [.int c, .int 0]) (by one_place) fun H1 e1 Q k E => ⟨c, 0, rfl, by decide, by decide, k⟩) (el_lst (vs := [.int 30, .int 36, .int 42, .int 45, .int 48, .int 54, .int 60]) (by one_place) (by decide)) fun n n1 n2 H1 e1 => ?_
      have cl := cosF_at n1 n2
      refine q_asgR (rows := cosRows n) (evR_cal (vs := [.int (n : Nat)]) (by one_place) fun H4 e4 Q k E => ⟨n, rfl, n1, n2, k⟩) fun g ts H2 ng e2 hg R => ?_
      refine q_when (b := false) (et_is (et_not (et_B (ev_cal (vs := [.int (n : Nat), .ref g]) (z := .bl true) (by one_place) fun H3 e3 Q k E => ⟨n, g, ts, H1, rfl, n1, n2, e3 _ _ hg, R.mono e3, k⟩))) rfl) (fun hb => nomatch hb) (fun _ H3 e3 => ?_)
      obtain ⟨rp, rlast⟩ := cosRows_last n1
      have tl : ts.length = (cosRows n).length := Paired.length R
      have hlt : ts.length - 1 < ts.length := by omega
      obtain ⟨r, hr, lq, _, _, _, b1, b2⟩ := Kp.paired_get R (List.getElem?_eq_getElem hlt)
      rw [tl, rlast] at hr
      cases hr
      have hix : atI (ts.map V.ref) (-1) = some (.ref (ts[ts.length - 1])) := atI_last (by rw [List.length_map, List.getElem?_map, List.getElem?_eq_getElem hlt]; rfl)
      refine q_asgL (xs := (cosF n).map V.int) (el_list (p := lq) (ev_ixT (j := 1) (SqT.of (e3 _ _ b1)) (ev_op (ev_var rfl) (ev_neg ev_c) (rv_ixL (SqL.of (e3 _ _ hg)) hix)) ev_c rfl) (SqL.of (e3 _ _ b2))) fun la H4 nla e4 h4 => ?_
      have nla2 : H2 la = none := fresh_back e3 nla
      refine q_asgL (xs := (cosF n).map V.int) (el_cal (vs := [.int (n : Nat)]) (by one_place) fun H5 e5 Q k E => ⟨n, rfl, n1, n2, k⟩) fun on H5 non e5 h5 => ?_
      have h45 := e5 _ _ h4
      have onla : la ≠ on := ne_of_none h4 non
      refine q_when (b := false) (et_is (et_or (et_not (et_B (ev_isi (b := true) (ev_var rfl) (tx_lst h5) (by decide +kernel)))) fun _ => et_or (et_test (ev_op (ev_var rfl) (ev_var rfl) (rv_neI (SqL.of h5) (SqL.of h45)))) fun _ => et_test (ev_op (ev_strD62 (d := dI (cosF n)) (ev_var rfl) (dq_ints h5) (sz_cosF n1 n2)) (ev_strD62 (d := dI (cosF n)) (ev_var rfl) (dq_ints h45) (sz_cosF n1 n2)) (rv_ne rfl))) (by rw [decide_eq_true rfl, decide_eq_true rfl]; rfl)) (fun hb => nomatch hb) (fun _ H6 e6 => ?_)
      refine q_app (e6 _ _ h5) (ev_var rfl) ev_c (by rw [List.length_map]; omega) fun H7 e7 => ?_
      have e27 : Ex H2 H7 := (e3.trans (e4.trans e5)).trans (e6.trans e7)
      have non2 : H2 on = none := fresh_back (e3.trans e4) non
      have e28 : Ex H2 (upd H7 on (.lst ((cosF n).map V.int ++ [V.int 7]))) := Ex.mut e27 non2
      have h48 : upd H7 on (.lst ((cosF n).map V.int ++ [V.int 7])) la = some (.lst ((cosF n).map V.int)) := by
        rw [upd_ne onla]
        exact (e6.trans e7) _ _ h45
      have np0 : H0 p ≠ none := by
        rw [hp]
        exact fun z => nomatch z
      refine q_forRwAp (p := g) (H0 := H1) (Hm := H2) (rows := cosRows n) (c := 3) (ev_var rfl) ng hg R e2 e28 (fun r hr => ?_) (fun m i r s hm hi ne => ?_) (by show 6 < 8; decide) (by show 7 < 8; decide) (by decide) fun x y H9 e9 h9 keep R9 => ?_
      · obtain ⟨i, hi⟩ := List.mem_iff_getElem?.mp hr
        obtain ⟨d, _, rfl, _, d1, d2⟩ := cosRows_get n1 n2 hi
        have := (cosF_at d1 d2).1
        show (cosF d).length < 50000
        omega
      · obtain ⟨d, hd, rfl, _, d1, d2⟩ := cosRows_get n1 n2 hm
        obtain ⟨e, he, rfl, _, ee1, ee2⟩ := cosRows_get n1 n2 hi
        refine cosF_ne d1 d2 ee1 ee2 fun z => ne ?_
        subst z
        obtain ⟨l1, g1⟩ := List.getElem?_eq_some_iff.mp hd
        obtain ⟨l2, g2⟩ := List.getElem?_eq_some_iff.mp he
        have pw := List.pairwise_iff_getElem.mp (dvL_rise n)
        rcases Nat.lt_trichotomy m i with h | h | h
        · have := pw m i l1 l2 h
          omega
        · exact h
        · have := pw i m l2 l1 h
          omega
      · have hla9 := keep la _ nla2 h48
        refine q_when (b := false) (et_is (et_test (ev_opLL (xs := ([] : List Int).map V.int) (ys := ([] : List Int).map V.int) (el_lcRwNo (ev_var rfl) h9 R9 (fun _ _ => rfl) fun r q H10 e10 hr hq => ?_) (el_lst (vs := []) ea_nil (by decide)) fun u v H6 hu hv e6 => rv_neI (SqL.of hu) (SqL.of hv))) (by rw [decide_eq_true rfl]; rfl)) (fun hb => nomatch hb) (fun _ H10 e10 => ?_)
        · obtain ⟨s, hs, rfl⟩ := List.mem_map.mp hr
          obtain ⟨i, hi⟩ := List.mem_iff_getElem?.mp hs
          obtain ⟨d, _, rfl, _, d1, d2⟩ := cosRows_get n1 n2 hi
          have ce := cosF_last d1 d2
          have pos := List.length_pos_iff.mpr ce.1
          refine et_is (et_test (ev_opLL (xs := ([1, 3] : List Int).map V.int) (ys := ([1, 3] : List Int).map V.int) (el_is (el_sl (ev_var rfl) (eo_some (ev_neg ev_c)) eo_none (SqL.of hq)) (cut_two62 (l := (cosF d).dropLast.map V.int) (u := V.int 1) (v := V.int 3) ?_)) (el_lst (vs := [.int 1, .int 3]) (by one_place) (by decide)) fun u v H7 hu hv e7 => rv_neI (SqL.of hu) (SqL.of hv))) (by rw [decide_eq_true rfl]; rfl)
          show ((cosF d) ++ [3]).map V.int = _
          conv => lhs; rw [← List.dropLast_concat_getLast ce.1]
          rw [List.map_append, List.map_append, List.getLast_eq_getElem, ← coef_lt (by omega), ce.2, List.append_assoc]
          rfl
        · refine q_clear62 (e10 _ _ h9) (ev_var rfl) fun H11 e11 => ?_
          have gla : la ≠ g := fun z => by
            rw [z, hg] at nla2
            cases nla2
          have hla11 : upd H11 g (.lst []) la = some (.lst ((cosF n).map V.int)) := by
            rw [upd_ne gla]
            exact (e10.trans e11) _ _ hla9
          have hp11 : upd H11 g (.lst []) p = some (.lst ([V.int 0, V.int 7] ++ cutV (ns.map V.int) none (some 6))) := by
            rw [upd_ne (fun z => by rw [← z, e1 _ _ hp] at ng; cases ng)]
            exact (e10.trans e11) _ _ (e9 _ _ (e1 _ _ hp))
          refine s_when (b := false) (et_is (et_or (et_not (et_B (ev_calVR62 (v := .int (n : Nat)) (z := .bl true) (rows := cosRows n) (ev_var rfl) (evR_cal (vs := [.int (n : Nat)]) (by one_place) fun H4 e4 Q k E => ⟨n, rfl, n1, n2, k⟩) fun p ts H0 H12 e12 hp R Q k E => ⟨n, p, ts, H0, rfl, n1, n2, hp, R, k⟩))) fun _ => et_test (ev_opL1 (xs := (cosF n).map V.int) (el_cal (vs := [.int (n : Nat)]) (by one_place) fun H5 e5 Q k E => ⟨n, rfl, n1, n2, k⟩) (fun _ _ => ev_var rfl) fun u H12 hu e12 => rv_neI (SqL.of hu) (SqL.of (e12 _ _ hla11)))) (by rw [decide_eq_true rfl]; rfl)) (fun hb => nomatch hb) (fun _ H12 e12 => ⟨_, _, _, _, _, _, _, rfl, e12 _ _ hp11⟩)
    · exact s_ret (v := .bl true) ev_c fun H11 e11 => q H11
end
theorem all_mk {l : PySem.W.OpenLaw} {w : World} {K : PySem.W.Frag} {h : Heap} {mg : Str → Option Value} {fa : Addr} (X : K.In h) (G : h.Ns mainGlobals mg) (hfa : mg "law" = some (.ref fa))
    {C_NoPart C_WheelError C_NoFold : Addr}
    {f0 f1 f2 f3 f4 f5 f6 f7 f8 f9 f10 f11 f12 f13 f14 f15 f16 f17 f18 f19 f20 f21 f22 : Addr} {od0 an0 od1 an1 od2 an2 od3 an3 od4 an4 od5 an5 od6 an6 od7 an7 od8 an8 od9 an9 od10 an10 od11 an11 od12 an12 od13 an13 od14 an14 od15 an15 od16 an16 od17 an17 od18 an18 od19 an19 od20 an20 od21 an21 od22 an22 : Option Addr} {sl0 sl1 sl2 sl3 sl4 sl5 sl6 sl7 sl8 sl9 sl10 sl11 sl12 sl13 sl14 sl15 sl16 sl17 sl18 sl19 sl20 sl21 sl22 : Array (Option Value)} {oc0 kV0 dc0 pm0 cd0 ct0 oc1 kV1 dc1 pm1 cd1 ct1 oc2 kV2 dc2 pm2 cd2 ct2 oc3 kV3 dc3 pm3 cd3 ct3 oc4 kV4 dc4 pm4 cd4 ct4 oc5 kV5 dc5 pm5 cd5 ct5 oc6 kV6 dc6 pm6 cd6 ct6 oc7 kV7 dc7 pm7 cd7 ct7 oc8 kV8 dc8 pm8 cd8 ct8 oc9 kV9 dc9 pm9 cd9 ct9 oc10 kV10 dc10 pm10 cd10 ct10 oc11 kV11 dc11 pm11 cd11 ct11 oc12 kV12 dc12 pm12 cd12 ct12 oc13 kV13 dc13 pm13 cd13 ct13 oc14 kV14 dc14 pm14 cd14 ct14 oc15 kV15 dc15 pm15 cd15 ct15 oc16 kV16 dc16 pm16 cd16 ct16 oc17 kV17 dc17 pm17 cd17 ct17 oc18 kV18 dc18 pm18 cd18 ct18 oc19 kV19 dc19 pm19 cd19 ct19 oc20 kV20 dc20 pm20 cd20 ct20 oc21 kV21 dc21 pm21 cd21 ct21 oc22 kV22 dc22 pm22 cd22 ct22 : Value}
    (a0 : PySem.W.nsIn K mainGlobals "divisors" = some (some (.ref f0))) (l0 : K.lookup f0 = some ⟨oc0, od0, .func (PySem.W.fnOf "divisors" "divisors" (defArgs s_divisors) (defBody s_divisors) (defScope s_divisors) .none kV0 dc0 pm0 an0 cd0 ct0), sl0⟩) (c0 : PySem.W.codeIn K cd0 "divisors" = true) (k0 : PySem.W.keepIn K (.ref f0) = true)
    (a1 : PySem.W.nsIn K mainGlobals "parted" = some (some (.ref f1))) (l1 : K.lookup f1 = some ⟨oc1, od1, .func (PySem.W.fnOf "parted" "parted" (defArgs s_parted) (defBody s_parted) (defScope s_parted) .none kV1 dc1 pm1 an1 cd1 ct1), sl1⟩) (c1 : PySem.W.codeIn K cd1 "parted" = true) (k1 : PySem.W.keepIn K (.ref f1) = true)
    (a2 : PySem.W.nsIn K mainGlobals "trimmed" = some (some (.ref f2))) (l2 : K.lookup f2 = some ⟨oc2, od2, .func (PySem.W.fnOf "trimmed" "trimmed" (defArgs s_trimmed) (defBody s_trimmed) (defScope s_trimmed) .none kV2 dc2 pm2 an2 cd2 ct2), sl2⟩) (c2 : PySem.W.codeIn K cd2 "trimmed" = true) (k2 : PySem.W.keepIn K (.ref f2) = true)
    (a3 : PySem.W.nsIn K mainGlobals "plus" = some (some (.ref f3))) (l3 : K.lookup f3 = some ⟨oc3, od3, .func (PySem.W.fnOf "plus" "plus" (defArgs s_plus) (defBody s_plus) (defScope s_plus) .none kV3 dc3 pm3 an3 cd3 ct3), sl3⟩) (c3 : PySem.W.codeIn K cd3 "plus" = true) (k3 : PySem.W.keepIn K (.ref f3) = true)
    (a4 : PySem.W.nsIn K mainGlobals "minus" = some (some (.ref f4))) (l4 : K.lookup f4 = some ⟨oc4, od4, .func (PySem.W.fnOf "minus" "minus" (defArgs s_minus) (defBody s_minus) (defScope s_minus) .none kV4 dc4 pm4 an4 cd4 ct4), sl4⟩) (c4 : PySem.W.codeIn K cd4 "minus" = true) (k4 : PySem.W.keepIn K (.ref f4) = true)
    (a5 : PySem.W.nsIn K mainGlobals "over" = some (some (.ref f5))) (l5 : K.lookup f5 = some ⟨oc5, od5, .func (PySem.W.fnOf "over" "over" (defArgs s_over) (defBody s_over) (defScope s_over) .none kV5 dc5 pm5 an5 cd5 ct5), sl5⟩) (c5 : PySem.W.codeIn K cd5 "over" = true) (k5 : PySem.W.keepIn K (.ref f5) = true)
    (a6 : PySem.W.nsIn K mainGlobals "at_power" = some (some (.ref f6))) (l6 : K.lookup f6 = some ⟨oc6, od6, .func (PySem.W.fnOf "at_power" "at_power" (defArgs s_at_power) (defBody s_at_power) (defScope s_at_power) .none kV6 dc6 pm6 an6 cd6 ct6), sl6⟩) (c6 : PySem.W.codeIn K cd6 "at_power" = true) (k6 : PySem.W.keepIn K (.ref f6) = true)
    (a7 : PySem.W.nsIn K mainGlobals "root_poly" = some (some (.ref f7))) (l7 : K.lookup f7 = some ⟨oc7, od7, .func (PySem.W.fnOf "root_poly" "root_poly" (defArgs s_root_poly) (defBody s_root_poly) (defScope s_root_poly) .none kV7 dc7 pm7 an7 cd7 ct7), sl7⟩) (c7 : PySem.W.codeIn K cd7 "root_poly" = true) (k7 : PySem.W.keepIn K (.ref f7) = true)
    (a8 : PySem.W.nsIn K mainGlobals "next_doubled" = some (some (.ref f8))) (l8 : K.lookup f8 = some ⟨oc8, od8, .func (PySem.W.fnOf "next_doubled" "next_doubled" (defArgs s_next_doubled) (defBody s_next_doubled) (defScope s_next_doubled) .none kV8 dc8 pm8 an8 cd8 ct8), sl8⟩) (c8 : PySem.W.codeIn K cd8 "next_doubled" = true) (k8 : PySem.W.keepIn K (.ref f8) = true)
    (a9 : PySem.W.nsIn K mainGlobals "folded" = some (some (.ref f9))) (l9 : K.lookup f9 = some ⟨oc9, od9, .func (PySem.W.fnOf "folded" "folded" (defArgs s_folded) (defBody s_folded) (defScope s_folded) .none kV9 dc9 pm9 an9 cd9 ct9), sl9⟩) (c9 : PySem.W.codeIn K cd9 "folded" = true) (k9 : PySem.W.keepIn K (.ref f9) = true)
    (a10 : PySem.W.nsIn K mainGlobals "cosine_polys" = some (some (.ref f10))) (l10 : K.lookup f10 = some ⟨oc10, od10, .func (PySem.W.fnOf "cosine_polys" "cosine_polys" (defArgs s_cosine_polys) (defBody s_cosine_polys) (defScope s_cosine_polys) .none kV10 dc10 pm10 an10 cd10 ct10), sl10⟩) (c10 : PySem.W.codeIn K cd10 "cosine_polys" = true) (k10 : PySem.W.keepIn K (.ref f10) = true)
    (a11 : PySem.W.nsIn K mainGlobals "cosine_poly" = some (some (.ref f11))) (l11 : K.lookup f11 = some ⟨oc11, od11, .func (PySem.W.fnOf "cosine_poly" "cosine_poly" (defArgs s_cosine_poly) (defBody s_cosine_poly) (defScope s_cosine_poly) .none kV11 dc11 pm11 an11 cd11 ct11), sl11⟩) (c11 : PySem.W.codeIn K cd11 "cosine_poly" = true) (k11 : PySem.W.keepIn K (.ref f11) = true)
    (a12 : PySem.W.nsIn K mainGlobals "_law_mix" = some (some (.ref f12))) (l12 : K.lookup f12 = some ⟨oc12, od12, .func (PySem.W.fnOf "_law_mix" "_law_mix" (defArgs s__law_mix) (defBody s__law_mix) (defScope s__law_mix) .none kV12 dc12 pm12 an12 cd12 ct12), sl12⟩) (c12 : PySem.W.codeIn K cd12 "_law_mix" = true) (k12 : PySem.W.keepIn K (.ref f12) = true)
    (a13 : PySem.W.nsIn K mainGlobals "_law_trim" = some (some (.ref f13))) (l13 : K.lookup f13 = some ⟨oc13, od13, .func (PySem.W.fnOf "_law_trim" "_law_trim" (defArgs s__law_trim) (defBody s__law_trim) (defScope s__law_trim) .none kV13 dc13 pm13 an13 cd13 ct13), sl13⟩) (c13 : PySem.W.codeIn K cd13 "_law_trim" = true) (k13 : PySem.W.keepIn K (.ref f13) = true)
    (a14 : PySem.W.nsIn K mainGlobals "_law_sum_of" = some (some (.ref f14))) (l14 : K.lookup f14 = some ⟨oc14, od14, .func (PySem.W.fnOf "_law_sum_of" "_law_sum_of" (defArgs s__law_sum_of) (defBody s__law_sum_of) (defScope s__law_sum_of) .none kV14 dc14 pm14 an14 cd14 ct14), sl14⟩) (c14 : PySem.W.codeIn K cd14 "_law_sum_of" = true) (k14 : PySem.W.keepIn K (.ref f14) = true)
    (a15 : PySem.W.nsIn K mainGlobals "_law_product" = some (some (.ref f15))) (l15 : K.lookup f15 = some ⟨oc15, od15, .func (PySem.W.fnOf "_law_product" "_law_product" (defArgs s__law_product) (defBody s__law_product) (defScope s__law_product) .none kV15 dc15 pm15 an15 cd15 ct15), sl15⟩) (c15 : PySem.W.codeIn K cd15 "_law_product" = true) (k15 : PySem.W.keepIn K (.ref f15) = true)
    (a16 : PySem.W.nsIn K mainGlobals "_law_whole" = some (some (.ref f16))) (l16 : K.lookup f16 = some ⟨oc16, od16, .func (PySem.W.fnOf "_law_whole" "_law_whole" (defArgs s__law_whole) (defBody s__law_whole) (defScope s__law_whole) .none kV16 dc16 pm16 an16 cd16 ct16), sl16⟩) (c16 : PySem.W.codeIn K cd16 "_law_whole" = true) (k16 : PySem.W.keepIn K (.ref f16) = true)
    (a17 : PySem.W.nsIn K mainGlobals "_law_is_poly" = some (some (.ref f17))) (l17 : K.lookup f17 = some ⟨oc17, od17, .func (PySem.W.fnOf "_law_is_poly" "_law_is_poly" (defArgs s__law_is_poly) (defBody s__law_is_poly) (defScope s__law_is_poly) .none kV17 dc17 pm17 an17 cd17 ct17), sl17⟩) (c17 : PySem.W.codeIn K cd17 "_law_is_poly" = true) (k17 : PySem.W.keepIn K (.ref f17) = true)
    (a18 : PySem.W.nsIn K mainGlobals "_law_doubled_row" = some (some (.ref f18))) (l18 : K.lookup f18 = some ⟨oc18, od18, .func (PySem.W.fnOf "_law_doubled_row" "_law_doubled_row" (defArgs s__law_doubled_row) (defBody s__law_doubled_row) (defScope s__law_doubled_row) .none kV18 dc18 pm18 an18 cd18 ct18), sl18⟩) (c18 : PySem.W.codeIn K cd18 "_law_doubled_row" = true) (k18 : PySem.W.keepIn K (.ref f18) = true)
    (a19 : PySem.W.nsIn K mainGlobals "_law_divisors" = some (some (.ref f19))) (l19 : K.lookup f19 = some ⟨oc19, od19, .func (PySem.W.fnOf "_law_divisors" "_law_divisors" (defArgs s__law_divisors) (defBody s__law_divisors) (defScope s__law_divisors) .none kV19 dc19 pm19 an19 cd19 ct19), sl19⟩) (c19 : PySem.W.codeIn K cd19 "_law_divisors" = true) (k19 : PySem.W.keepIn K (.ref f19) = true)
    (a20 : PySem.W.nsIn K mainGlobals "_law_are" = some (some (.ref f20))) (l20 : K.lookup f20 = some ⟨oc20, od20, .func (PySem.W.fnOf "_law_are" "_law_are" (defArgs s__law_are) (defBody s__law_are) (defScope s__law_are) .none kV20 dc20 pm20 an20 cd20 ct20), sl20⟩) (c20 : PySem.W.codeIn K cd20 "_law_are" = true) (k20 : PySem.W.keepIn K (.ref f20) = true)
    (a21 : PySem.W.nsIn K mainGlobals "_law_n" = some (some (.ref f21))) (l21 : K.lookup f21 = some ⟨oc21, od21, .func (PySem.W.fnOf "_law_n" "_law_n" (defArgs s__law_n) (defBody s__law_n) (defScope s__law_n) .none kV21 dc21 pm21 an21 cd21 ct21), sl21⟩) (c21 : PySem.W.codeIn K cd21 "_law_n" = true) (k21 : PySem.W.keepIn K (.ref f21) = true)
    (a22 : PySem.W.nsIn K mainGlobals "law" = some (some (.ref f22))) (l22 : K.lookup f22 = some ⟨oc22, od22, .func (PySem.W.fnOf "law" "law" (defArgs s_law) (defBody s_law) (defScope s_law) .none kV22 dc22 pm22 an22 cd22 ct22), sl22⟩) (c22 : PySem.W.codeIn K cd22 "law" = true) (k22 : PySem.W.keepIn K (.ref f22) = true)
    (z_len : PySem.W.nsIn K mainGlobals "len" = some none)    (z_range : PySem.W.nsIn K mainGlobals "range" = some none)    (z_max : PySem.W.nsIn K mainGlobals "max" = some none)    (z_list : PySem.W.nsIn K mainGlobals "list" = some none)    (z_int : PySem.W.nsIn K mainGlobals "int" = some none)    (z_bool : PySem.W.nsIn K mainGlobals "bool" = some none)    (z_tuple : PySem.W.nsIn K mainGlobals "tuple" = some none)    (z_isinstance : PySem.W.nsIn K mainGlobals "isinstance" = some none)    (z_enumerate : PySem.W.nsIn K mainGlobals "enumerate" = some none)    (z_reversed : PySem.W.nsIn K mainGlobals "reversed" = some none)    (z_sorted : PySem.W.nsIn K mainGlobals "sorted" = some none)    (z_zip : PySem.W.nsIn K mainGlobals "zip" = some none)    (z_all : PySem.W.nsIn K mainGlobals "all" = some none)    (z_str : PySem.W.nsIn K mainGlobals "str" = some none)    (z_min : PySem.W.nsIn K mainGlobals "min" = some none)    (z_sum : PySem.W.nsIn K mainGlobals "sum" = some none)    (z_any : PySem.W.nsIn K mainGlobals "any" = some none)    (z_set : PySem.W.nsIn K mainGlobals "set" = some none)    (z_abs : PySem.W.nsIn K mainGlobals "abs" = some none)    (z_dict : PySem.W.nsIn K mainGlobals "dict" = some none)
    (i_isqrt : PySem.W.nsIn K mainGlobals "isqrt" = some (some (.builtin "math.isqrt")))
    (q1_NoPart : PySem.W.nsIn K mainGlobals "NoPart" = some (some (.ref C_NoPart)))
    (q2_NoPart : PySem.W.keepIn K (.ref C_NoPart) = true)
    (q3_NoPart : PySem.W.excIn K C_NoPart [.type "ValueError", .type "Exception", .type "BaseException", .type "object"] "ValueError.__new__" = true)
    (q4_NoPart : PySem.W.typeIn K (.ref C_NoPart) = some (.type "type"))
    (q5_NoPart : PySem.W.findIn K (.ref C_NoPart) "__getattribute__" = some (some (.builtin "BaseException.__getattribute__")))
    (q6_NoPart : PySem.W.findIn K (.ref C_NoPart) "__getattr__" = some none)
    (q7_NoPart : PySem.W.subIn K (.ref C_NoPart) (.type "BaseException") = some true)
    (q8_NoPart : PySem.W.hasDictIn K C_NoPart = true)
    (q9_NoPart : PySem.W.findIn K (.ref C_NoPart) "__class__" = some (some (.builtin "object.__class__")))
    (qa_NoPart : PySem.W.specialIn K (.builtin "object.__class__") "__get__" = some (some (.builtin "getset_descriptor.__get__")))
    (qb_NoPart : PySem.W.takesIn K (.builtin "object.__class__") = some true)
    (qc_NoPart : PySem.W.mroIn K C_NoPart (.type "object") = some true)
    (qd_NoPart : PySem.W.subIn K (.ref C_NoPart) (.ref C_NoPart) = some true)
    (qe_NoPart : PySem.W.subIn K (.ref C_NoPart) (.type "ValueError") = some true)
    (z_ValueError : PySem.W.nsIn K mainGlobals "ValueError" = some none)
    (q1_WheelError : PySem.W.nsIn K mainGlobals "WheelError" = some (some (.ref C_WheelError)))
    (q4_WheelError : PySem.W.typeIn K (.ref C_WheelError) = some (.type "type"))
    (q7_WheelError : PySem.W.subIn K (.ref C_WheelError) (.type "BaseException") = some true)
    (q8_WheelError : PySem.W.hasDictIn K C_WheelError = true)
    (qs_WheelError : PySem.W.subIn K (.ref C_NoPart) (.ref C_WheelError) = some true)
    (q1_NoFold : PySem.W.nsIn K mainGlobals "NoFold" = some (some (.ref C_NoFold)))
    (q2_NoFold : PySem.W.keepIn K (.ref C_NoFold) = true)
    (q3_NoFold : PySem.W.excIn K C_NoFold [.type "ValueError", .type "Exception", .type "BaseException", .type "object"] "ValueError.__new__" = true)
    (q4_NoFold : PySem.W.typeIn K (.ref C_NoFold) = some (.type "type"))
    (q5_NoFold : PySem.W.findIn K (.ref C_NoFold) "__getattribute__" = some (some (.builtin "BaseException.__getattribute__")))
    (q6_NoFold : PySem.W.findIn K (.ref C_NoFold) "__getattr__" = some none)
    (q7_NoFold : PySem.W.subIn K (.ref C_NoFold) (.type "BaseException") = some true)
    (q8_NoFold : PySem.W.hasDictIn K C_NoFold = true)
    (q9_NoFold : PySem.W.findIn K (.ref C_NoFold) "__class__" = some (some (.builtin "object.__class__")))
    (qc_NoFold : PySem.W.mroIn K C_NoFold (.type "object") = some true) :
    ∃ fd : FuncData, (∀ (s : Shared) (v : Value), BindsTo s fd ⟨[v], []⟩ [("_law_script", v)]) ∧ ∀ base : Heap, K.In base → base.Ns mainGlobals mg → FnG l.prog w K mg base 8 fa fd ["_law_script"] (spLaw K) := by
  have e := hfa.symm.trans (PySem.W.mg_of X G a22)
  cases e
  have nb : Nb mg := ⟨PySem.W.mg_none_of X G z_len, PySem.W.mg_none_of X G z_range, PySem.W.mg_none_of X G z_max, PySem.W.mg_none_of X G z_list, PySem.W.mg_none_of X G z_int, PySem.W.mg_none_of X G z_bool, PySem.W.mg_none_of X G z_tuple, PySem.W.mg_none_of X G z_isinstance, PySem.W.mg_none_of X G z_enumerate, PySem.W.mg_none_of X G z_reversed, PySem.W.mg_none_of X G z_sorted, PySem.W.mg_none_of X G z_zip, PySem.W.mg_none_of X G z_all, PySem.W.mg_none_of X G z_str, PySem.W.mg_none_of X G z_min, PySem.W.mg_none_of X G z_sum, PySem.W.mg_none_of X G z_any, PySem.W.mg_none_of X G z_set, PySem.W.mg_none_of X G z_abs, PySem.W.mg_none_of X G z_dict⟩
  have nb_isqrt := PySem.W.mg_of X G i_isqrt
  have x_NoPart : OwnX K mg "NoPart" C_NoPart := ⟨PySem.W.mg_of X G q1_NoPart, q2_NoPart, q3_NoPart, q4_NoPart, ⟨q5_NoPart, q6_NoPart, q7_NoPart, q8_NoPart, q9_NoPart, qa_NoPart, qb_NoPart, qc_NoPart⟩⟩
  have x_WheelError : GlX mg "WheelError" C_WheelError := ⟨PySem.W.mg_of X G q1_WheelError⟩
  have hex := PySem.W.exm_ref q7_WheelError q8_WheelError q4_WheelError qs_WheelError
  have x_NoFold : OwnX K mg "NoFold" C_NoFold := ⟨PySem.W.mg_of X G q1_NoFold, q2_NoFold, q3_NoFold, q4_NoFold, ⟨q5_NoFold, q6_NoFold, q7_NoFold, q8_NoFold, q9_NoFold, qa_NoPart, qb_NoPart, qc_NoFold⟩⟩
  have d_divisors : Dfn K mg "divisors" ["n"] s_divisors := by
    have F := fun_mk (st := s_divisors) l0 c0 k0
    exact ⟨_, _, F, PySem.W.mg_of X G a0, F.binds (ps := ["n"]) fun _ _ _ _ _ _ us hl => match us, hl with | [_], _ => rfl⟩
  have d_parted : Dfn K mg "parted" ["n"] s_parted := by
    have F := fun_mk (st := s_parted) l1 c1 k1
    exact ⟨_, _, F, PySem.W.mg_of X G a1, F.binds (ps := ["n"]) fun _ _ _ _ _ _ us hl => match us, hl with | [_], _ => rfl⟩
  have d_trimmed : Dfn K mg "trimmed" ["numbers"] s_trimmed := by
    have F := fun_mk (st := s_trimmed) l2 c2 k2
    exact ⟨_, _, F, PySem.W.mg_of X G a2, F.binds (ps := ["numbers"]) fun _ _ _ _ _ _ us hl => match us, hl with | [_], _ => rfl⟩
  have d_plus : Dfn K mg "plus" ["f", "g"] s_plus := by
    have F := fun_mk (st := s_plus) l3 c3 k3
    exact ⟨_, _, F, PySem.W.mg_of X G a3, F.binds (ps := ["f", "g"]) fun _ _ _ _ _ _ us hl => match us, hl with | [_, _], _ => rfl⟩
  have d_minus : Dfn K mg "minus" ["f", "g"] s_minus := by
    have F := fun_mk (st := s_minus) l4 c4 k4
    exact ⟨_, _, F, PySem.W.mg_of X G a4, F.binds (ps := ["f", "g"]) fun _ _ _ _ _ _ us hl => match us, hl with | [_, _], _ => rfl⟩
  have d_over : Dfn K mg "over" ["f", "g"] s_over := by
    have F := fun_mk (st := s_over) l5 c5 k5
    exact ⟨_, _, F, PySem.W.mg_of X G a5, F.binds (ps := ["f", "g"]) fun _ _ _ _ _ _ us hl => match us, hl with | [_, _], _ => rfl⟩
  have d_at_power : Dfn K mg "at_power" ["f", "k"] s_at_power := by
    have F := fun_mk (st := s_at_power) l6 c6 k6
    exact ⟨_, _, F, PySem.W.mg_of X G a6, F.binds (ps := ["f", "k"]) fun _ _ _ _ _ _ us hl => match us, hl with | [_, _], _ => rfl⟩
  have d_root_poly : Dfn K mg "root_poly" ["n"] s_root_poly := by
    have F := fun_mk (st := s_root_poly) l7 c7 k7
    exact ⟨_, _, F, PySem.W.mg_of X G a7, F.binds (ps := ["n"]) fun _ _ _ _ _ _ us hl => match us, hl with | [_], _ => rfl⟩
  have d_next_doubled : Dfn K mg "next_doubled" ["here", "last"] s_next_doubled := by
    have F := fun_mk (st := s_next_doubled) l8 c8 k8
    exact ⟨_, _, F, PySem.W.mg_of X G a8, F.binds (ps := ["here", "last"]) fun _ _ _ _ _ _ us hl => match us, hl with | [_, _], _ => rfl⟩
  have d_folded : Dfn K mg "folded" ["f"] s_folded := by
    have F := fun_mk (st := s_folded) l9 c9 k9
    exact ⟨_, _, F, PySem.W.mg_of X G a9, F.binds (ps := ["f"]) fun _ _ _ _ _ _ us hl => match us, hl with | [_], _ => rfl⟩
  have d_cosine_polys : Dfn K mg "cosine_polys" ["n"] s_cosine_polys := by
    have F := fun_mk (st := s_cosine_polys) l10 c10 k10
    exact ⟨_, _, F, PySem.W.mg_of X G a10, F.binds (ps := ["n"]) fun _ _ _ _ _ _ us hl => match us, hl with | [_], _ => rfl⟩
  have d_cosine_poly : Dfn K mg "cosine_poly" ["n"] s_cosine_poly := by
    have F := fun_mk (st := s_cosine_poly) l11 c11 k11
    exact ⟨_, _, F, PySem.W.mg_of X G a11, F.binds (ps := ["n"]) fun _ _ _ _ _ _ us hl => match us, hl with | [_], _ => rfl⟩
  have d__law_mix : Dfn K mg "_law_mix" ["_law_cell", "_law_k"] s__law_mix := by
    have F := fun_mk (st := s__law_mix) l12 c12 k12
    exact ⟨_, _, F, PySem.W.mg_of X G a12, F.binds (ps := ["_law_cell", "_law_k"]) fun _ _ _ _ _ _ us hl => match us, hl with | [_, _], _ => rfl⟩
  have d__law_trim : Dfn K mg "_law_trim" ["_law_row"] s__law_trim := by
    have F := fun_mk (st := s__law_trim) l13 c13 k13
    exact ⟨_, _, F, PySem.W.mg_of X G a13, F.binds (ps := ["_law_row"]) fun _ _ _ _ _ _ us hl => match us, hl with | [_], _ => rfl⟩
  have d__law_sum_of : Dfn K mg "_law_sum_of" ["_law_one", "_law_other"] s__law_sum_of := by
    have F := fun_mk (st := s__law_sum_of) l14 c14 k14
    exact ⟨_, _, F, PySem.W.mg_of X G a14, F.binds (ps := ["_law_one", "_law_other"]) fun _ _ _ _ _ _ us hl => match us, hl with | [_, _], _ => rfl⟩
  have d__law_product : Dfn K mg "_law_product" ["_law_one", "_law_other"] s__law_product := by
    have F := fun_mk (st := s__law_product) l15 c15 k15
    exact ⟨_, _, F, PySem.W.mg_of X G a15, F.binds (ps := ["_law_one", "_law_other"]) fun _ _ _ _ _ _ us hl => match us, hl with | [_, _], _ => rfl⟩
  have d__law_whole : Dfn K mg "_law_whole" ["_law_thing"] s__law_whole := by
    have F := fun_mk (st := s__law_whole) l16 c16 k16
    exact ⟨_, _, F, PySem.W.mg_of X G a16, F.binds (ps := ["_law_thing"]) fun _ _ _ _ _ _ us hl => match us, hl with | [_], _ => rfl⟩
  have d__law_is_poly : Dfn K mg "_law_is_poly" ["_law_thing"] s__law_is_poly := by
    have F := fun_mk (st := s__law_is_poly) l17 c17 k17
    exact ⟨_, _, F, PySem.W.mg_of X G a17, F.binds (ps := ["_law_thing"]) fun _ _ _ _ _ _ us hl => match us, hl with | [_], _ => rfl⟩
  have d__law_doubled_row : Dfn K mg "_law_doubled_row" ["_law_k"] s__law_doubled_row := by
    have F := fun_mk (st := s__law_doubled_row) l18 c18 k18
    exact ⟨_, _, F, PySem.W.mg_of X G a18, F.binds (ps := ["_law_k"]) fun _ _ _ _ _ _ us hl => match us, hl with | [_], _ => rfl⟩
  have d__law_divisors : Dfn K mg "_law_divisors" ["_law_n_here"] s__law_divisors := by
    have F := fun_mk (st := s__law_divisors) l19 c19 k19
    exact ⟨_, _, F, PySem.W.mg_of X G a19, F.binds (ps := ["_law_n_here"]) fun _ _ _ _ _ _ us hl => match us, hl with | [_], _ => rfl⟩
  have d__law_are : Dfn K mg "_law_are" ["_law_n_here", "_law_thing"] s__law_are := by
    have F := fun_mk (st := s__law_are) l20 c20 k20
    exact ⟨_, _, F, PySem.W.mg_of X G a20, F.binds (ps := ["_law_n_here", "_law_thing"]) fun _ _ _ _ _ _ us hl => match us, hl with | [_, _], _ => rfl⟩
  have d__law_n : Dfn K mg "_law_n" ["_law_number", "_law_most", "_law_some"] s__law_n := by
    have F := fun_mk (st := s__law_n) l21 c21 k21
    exact ⟨_, _, F, PySem.W.mg_of X G a21, F.binds (ps := ["_law_number", "_law_most", "_law_some"]) fun _ _ _ _ _ _ us hl => match us, hl with | [_, _, _], _ => rfl⟩
  have F := fun_mk (st := s_law) l22 c22 k22
  exact ⟨PySem.W.fnOf "law" "law" (defArgs s_law) (defBody s_law) (defScope s_law) .none kV22 dc22 pm22 an22 cd22 ct22, fun s v => .of_eq rfl, fun base _ _ => law_ok F nb nb_isqrt (PySem.W.mg_none_of X G z_ValueError) (kit_VE qe_NoPart) x_NoPart x_WheelError hex x_NoFold d_divisors d_parted d_trimmed d_plus d_minus d_over d_at_power d_root_poly d_next_doubled d_folded d_cosine_polys d_cosine_poly d__law_mix d__law_trim d__law_sum_of d__law_product d__law_whole d__law_is_poly d__law_doubled_row d__law_divisors d__law_are d__law_n⟩
end Own
open PySem PySem.W PyProof.Rows
set_option maxHeartbeats 0 in
theorem PySem.Challenge.cw_rootwheel_k62_cosine_polynomials_holds : PySem.Challenge.rw_rootwheel_k62_cosine_polynomials.Holds := by
  w_on; o_law; k_head; (case hw => w_witness2)
  k_fill
  refine Kp.walk_ofG (l := PySem.Challenge.rw_rootwheel_k62_cosine_polynomials) (n := 63) (k := 8) (x := "_law_script") (spw := fun w => Own.spLaw _) rfl (by decide) rfl ⟨rfl, by decide, by decide⟩ (fun w h Y => PySem.W.kIn_of Y) ?F (fun _ _ a ns hl hS => ⟨a, ns, rfl, hS, hl, fun _ => rfl⟩)
  case F =>
    intro w mg fa h KX G hmg
    refine' Own.all_mk KX G hmg ?a0 ?l0 ?c0 ?k0 ?a1 ?l1 ?c1 ?k1 ?a2 ?l2 ?c2 ?k2 ?a3 ?l3 ?c3 ?k3 ?a4 ?l4 ?c4 ?k4 ?a5 ?l5 ?c5 ?k5 ?a6 ?l6 ?c6 ?k6 ?a7 ?l7 ?c7 ?k7 ?a8 ?l8 ?c8 ?k8 ?a9 ?l9 ?c9 ?k9 ?a10 ?l10 ?c10 ?k10 ?a11 ?l11 ?c11 ?k11 ?a12 ?l12 ?c12 ?k12 ?a13 ?l13 ?c13 ?k13 ?a14 ?l14 ?c14 ?k14 ?a15 ?l15 ?c15 ?k15 ?a16 ?l16 ?c16 ?k16 ?a17 ?l17 ?c17 ?k17 ?a18 ?l18 ?c18 ?k18 ?a19 ?l19 ?c19 ?k19 ?a20 ?l20 ?c20 ?k20 ?a21 ?l21 ?c21 ?k21 ?a22 ?l22 ?c22 ?k22 ?z_len ?z_range ?z_max ?z_list ?z_int ?z_bool ?z_tuple ?z_isinstance ?z_enumerate ?z_reversed ?z_sorted ?z_zip ?z_all ?z_str ?z_min ?z_sum ?z_any ?z_set ?z_abs ?z_dict ?i_isqrt ?q1_NoPart ?q2_NoPart ?q3_NoPart ?q4_NoPart ?q5_NoPart ?q6_NoPart ?q7_NoPart ?q8_NoPart ?q9_NoPart ?qa_NoPart ?qb_NoPart ?qc_NoPart ?qd_NoPart ?qe_NoPart ?z_ValueError ?q1_WheelError ?q4_WheelError ?q7_WheelError ?q8_WheelError ?qs_WheelError ?q1_NoFold ?q2_NoFold ?q3_NoFold ?q4_NoFold ?q5_NoFold ?q6_NoFold ?q7_NoFold ?q8_NoFold ?q9_NoFold ?qc_NoFold
    (case a0 => k_is)
    (case l0 => k_is)
    (case c0 => k_is)
    (case k0 => k_is)
    (case a1 => k_is)
    (case l1 => k_is)
    (case c1 => k_is)
    (case k1 => k_is)
    (case a2 => k_is)
    (case l2 => k_is)
    (case c2 => k_is)
    (case k2 => k_is)
    (case a3 => k_is)
    (case l3 => k_is)
    (case c3 => k_is)
    (case k3 => k_is)
    (case a4 => k_is)
    (case l4 => k_is)
    (case c4 => k_is)
    (case k4 => k_is)
    (case a5 => k_is)
    (case l5 => k_is)
    (case c5 => k_is)
    (case k5 => k_is)
    (case a6 => k_is)
    (case l6 => k_is)
    (case c6 => k_is)
    (case k6 => k_is)
    (case a7 => k_is)
    (case l7 => k_is)
    (case c7 => k_is)
    (case k7 => k_is)
    (case a8 => k_is)
    (case l8 => k_is)
    (case c8 => k_is)
    (case k8 => k_is)
    (case a9 => k_is)
    (case l9 => k_is)
    (case c9 => k_is)
    (case k9 => k_is)
    (case a10 => k_is)
    (case l10 => k_is)
    (case c10 => k_is)
    (case k10 => k_is)
    (case a11 => k_is)
    (case l11 => k_is)
    (case c11 => k_is)
    (case k11 => k_is)
    (case a12 => k_is)
    (case l12 => k_is)
    (case c12 => k_is)
    (case k12 => k_is)
    (case a13 => k_is)
    (case l13 => k_is)
    (case c13 => k_is)
    (case k13 => k_is)
    (case a14 => k_is)
    (case l14 => k_is)
    (case c14 => k_is)
    (case k14 => k_is)
    (case a15 => k_is)
    (case l15 => k_is)
    (case c15 => k_is)
    (case k15 => k_is)
    (case a16 => k_is)
    (case l16 => k_is)
    (case c16 => k_is)
    (case k16 => k_is)
    (case a17 => k_is)
    (case l17 => k_is)
    (case c17 => k_is)
    (case k17 => k_is)
    (case a18 => k_is)
    (case l18 => k_is)
    (case c18 => k_is)
    (case k18 => k_is)
    (case a19 => k_is)
    (case l19 => k_is)
    (case c19 => k_is)
    (case k19 => k_is)
    (case a20 => k_is)
    (case l20 => k_is)
    (case c20 => k_is)
    (case k20 => k_is)
    (case a21 => k_is)
    (case l21 => k_is)
    (case c21 => k_is)
    (case k21 => k_is)
    (case a22 => k_is)
    (case l22 => k_is)
    (case c22 => k_is)
    (case k22 => k_is)
    (case z_len => k_is)
    (case z_range => k_is)
    (case z_max => k_is)
    (case z_list => k_is)
    (case z_int => k_is)
    (case z_bool => k_is)
    (case z_tuple => k_is)
    (case z_isinstance => k_is)
    (case z_enumerate => k_is)
    (case z_reversed => k_is)
    (case z_sorted => k_is)
    (case z_zip => k_is)
    (case z_all => k_is)
    (case z_str => k_is)
    (case z_min => k_is)
    (case z_sum => k_is)
    (case z_any => k_is)
    (case z_set => k_is)
    (case z_abs => k_is)
    (case z_dict => k_is)
    (case i_isqrt => k_is)
    (case q1_NoPart => k_is)
    (case q2_NoPart => k_is)
    (case q3_NoPart => k_exc)
    (case q4_NoPart => k_is)
    (case q5_NoPart => k_is)
    (case q6_NoPart => k_is)
    (case q7_NoPart => k_is)
    (case q8_NoPart => k_is)
    (case q9_NoPart => k_is)
    (case qa_NoPart => k_is)
    (case qb_NoPart => k_is)
    (case qc_NoPart => k_is)
    (case qd_NoPart => k_is)
    (case qe_NoPart => k_is)
    (case z_ValueError => k_is)
    (case q1_WheelError => k_is)
    (case q4_WheelError => k_is)
    (case q7_WheelError => k_is)
    (case q8_WheelError => k_is)
    (case qs_WheelError => k_is)
    (case q1_NoFold => k_is)
    (case q2_NoFold => k_is)
    (case q3_NoFold => k_exc)
    (case q4_NoFold => k_is)
    (case q5_NoFold => k_is)
    (case q6_NoFold => k_is)
    (case q7_NoFold => k_is)
    (case q8_NoFold => k_is)
    (case q9_NoFold => k_is)
    (case qc_NoFold => k_is)


