import PyProof.Rows.All
import Wide.All
import OpenK.AllK
import Wide.FinOn
import HandS.ForMost
import HandS.Evl
import HandS.Wide
import HandS.WideMore
import HandS.Gcd
import HandS.IsInst
import HandS.SortInts
import HandS.Rev
import HandS.ForExc
import HandS.ExcIs
import HandS.ExcValue
import HandS.Walk
import HandS.SortRule
import HandS.DictTup
import HandS.Conv
import KE.KDictCopyH
import KE.KDictSum
import HandS.TupLe
import HandS.Deep
import PySem.Challenge.RW_rootwheel_k40_whole_norms_of_root_polyno
set_option Elab.async false
set_option linter.all false
set_option maxRecDepth 100000
set_option maxHeartbeats 4000000
/-! What every proof of ours leans on: calls by a promise that stands for a name, rules of ours, words for the readings. -/
namespace Kp
open PySem PySem.Spec PyProof.Rows L2 Evl

/-! ### the names of Python that a text leaves as they are -/
structure Nb (mg : Str → Option Value) : Prop where
  len : mg "len" = none
  range : mg "range" = none
  max : mg "max" = none
  list : mg "list" = none
  int : mg "int" = none
  bool : mg "bool" = none
  tuple : mg "tuple" = none
  isinstance : mg "isinstance" = none
  enumerate : mg "enumerate" = none
  reversed : mg "reversed" = none
  sorted : mg "sorted" = none
  zip : mg "zip" = none
  all : mg "all" = none
  str : mg "str" = none
  min : mg "min" = none
  sum : mg "sum" = none
  any : mg "any" = none
  set : mg "set" = none
  abs : mg "abs" = none
  dict : mg "dict" = none

/-! ### a def by its name -/
/-- by the name x the module holds a def that keeps the promise sp, at the level k -/
def Cal (P : Program) (w : World) (K : PySem.W.Frag) (mg : Str → Option Value) (base : Heap) (CX : CXT) (x : Str) (k : Nat) (ps : List Str) (sp : Sp) : Prop :=
  ∃ (f : Addr) (fd : FuncData), FnOk P w K mg base CX k f fd ps sp ∧ mg x = some (.ref f) ∧ PySem.W.keepIn K (.ref f) = true ∧ Binds K fd ps []
/-- by the name x the module holds the def that st writes -/
def Dfn (K : PySem.W.Frag) (mg : Str → Option Value) (x : Str) (ps : List Str) (st : Stmt) : Prop :=
  ∃ (f : Addr) (fd : FuncData), Fun K x x st f fd ∧ mg x = some (.ref f) ∧ Binds K fd ps []
section
variable {P : Program} {w : World} {K : PySem.W.Frag} {mg : Str → Option Value} {base : Heap} {CX : CXT} {x : Str} {k : Nat} {ps N : List Str} {sp : Sp} {st : Stmt}
theorem Dfn.cal (d : Dfn K mg x ps st) (S : FnScope N ps (defScope st)) (len : ∀ vs H Q E, sp vs H Q E → vs.length = ps.length)
    (hbody : ∀ (f : Addr) (cdv : Value) (A : Around) (outer : List Env) (s : Shared) (H : Hp) (vs : List V) (Q : VK) (E : XK), Room k (A.deeper (envOfC x (defScope st) s.heap.objs.size f cdv)) → sp vs H Q E →
      ∃ t, PSs (cxOf CX0 P w K mg base N x (defScope st) f cdv A outer s H E).nox (defBody st) t ∧ t { nx := fun _ H' => Q .non H', rt := Q } (start N vs) H) : Cal P w K mg base CX0 x (k + 1) ps sp := by
  obtain ⟨f, fd, F, g, b⟩ := d
  exact ⟨f, fd, F.ok S len (hbody f), g, F.kp, b⟩
end
section
variable {X : Cx} {CX : CXT} {k : Nat} {ps : List Str} {sp : Sp} {E : XK} {x : Str} {p pos : Pos} {e : Expr} {es : List Expr} {t : TA}
theorem pe_cal (c : Cal X.prog X.w X.K X.mg X.base CX x k ps sp) (hr : Room k X.A) (hg : Gl X x) (hx : Passes CX X E)
    (ha : PA X (e :: es) t) (hdb : (x == ("__debug__" : Str)) = false := by decide) (he : starEach (e :: es) X.env = (false, eval e X.env) :: starEach es X.env := by rfl) (hpl : (backTo pos (starEach es X.env)).any (·.1) = false := by rfl) :
    PE X (.Call (.Name x p) (e :: es) [] pos) (tCall sp [] E t) := by
  obtain ⟨f, fd, F, g, kp, b⟩ := c
  exact pe_call F hr hg g kp b .nil hx ha hdb he hpl
end

/-! ### rules of ours -/
def CPowW (i j : Int) : Prop := 0 ≤ j ∧ (Builtin.Int.intBits i : Int) * j ≤ 2 ^ 27
section
variable {X : Cx}
theorem op_powW : OpR X (binaryOp .Pow) (rI CPowW fun i j => .int (i ^ j.toNat)) := opI fun _ _ _ _ _ _ _ hc q => pow_int hc.1 hc.2 q
/-- what stands at a place of a list, for o[i] op= e -/
def rGetL (K : PySem.W.Frag) : V → V → Hp → VK → Prop := fun o i H Q => ∃ p xs j v, o = .ref p ∧ i = .int ((j : Nat) : Int) ∧ SqL K H p xs ∧ xs[j]? = some v ∧ Q v H
theorem get_list : PGet X (rGetL X.K) := by
  intro pins s σ H o i ov iv Q I ro ri h
  obtain ⟨p, xs, j, z, rfl, rfl, hq, he, q⟩ := h
  cases ro
  obtain ⟨t, rfl⟩ := ri
  obtain ⟨its, r, pl, hz⟩ := I.list hq
  obtain ⟨w, ew, rw'⟩ := r.get he
  have hj : j < xs.length := (List.getElem?_eq_some_iff.mp he).1
  have hn := line63
  have hl := r.length
  exact wpAny_getItem_list pl.isList (by omega) (by omega) (by simpa using ew) ⟨z, H, I, rw', q⟩
theorem pip_of {op : Operator} {r : R2} (ho : OpR X (inplaceOp op) r) : PIp X op r := fun pins s σ H x y v u Q I rx ry h => ho pins s σ H x y v u Q I rx ry h
/-- math.isqrt -/
def rIsqrt : List V → Hp → VK → Prop := fun vs H Q => ∃ a : Int, vs = [.int a] ∧ 0 ≤ a ∧ a < 2 ^ 64 ∧ Q (.int ((Float64.isqrt a.toNat : Nat) : Int)) H
theorem cr_isqrt : CallR X (.builtin "math.isqrt") rIsqrt := by
  intro pins s σ H vs us Q I r h
  obtain ⟨a, rfl, h0, h1, q⟩ := h
  obtain ⟨u, rfl, t, rfl⟩ := vals1 r
  exact PySem.W.mg_isqrt h0 h1 ⟨.int _, H, I.tok _, ⟨_, rfl⟩, q⟩
end

/-! ### what evaluates to what, by operators -/
section
variable {K : PySem.W.Frag} {σ : L2.St} {H : Hp} {ta tb te : TE} {i j : Int}
theorem ev_add (ha : Ev ta σ H (.int i)) (hb : Ev tb σ H (.int j)) : Ev (tOp (rI0 fun i j => .int (i + j)) ta tb) σ H (.int (i + j)) := ev_op ha hb rv_I0
theorem ev_sub (ha : Ev ta σ H (.int i)) (hb : Ev tb σ H (.int j)) : Ev (tOp (rI0 fun i j => .int (i - j)) ta tb) σ H (.int (i - j)) := ev_op ha hb rv_I0
theorem ev_mul (ha : Ev ta σ H (.int i)) (hb : Ev tb σ H (.int j)) (h : CMulW i j) : Ev (tOp (rI CMulW fun i j => .int (i * j)) ta tb) σ H (.int (i * j)) := ev_op ha hb (rv_I h)
theorem ev_div (ha : Ev ta σ H (.int i)) (hb : Ev tb σ H (.int j)) (h : CDivW i j) : Ev (tOp (rI CDivW fun i j => .int (i / j)) ta tb) σ H (.int (i / j)) := ev_op ha hb (rv_I h)
theorem ev_mod (ha : Ev ta σ H (.int i)) (hb : Ev tb σ H (.int j)) (h : 0 < j) : Ev (tOp (rI (fun _ j => 0 < j) fun i j => .int (i % j)) ta tb) σ H (.int (i % j)) := ev_op ha hb (rv_I (C := fun _ j => 0 < j) h)
theorem ev_pow {c : Int} (ha : Ev ta σ H (.int i)) (hb : Ev tb σ H (.int j)) (h : CPowW i j) (hc : i ^ j.toNat = c) : Ev (tOp (rI CPowW fun i j => .int (i ^ j.toNat)) ta tb) σ H (.int c) := by
  rw [← hc]
  exact ev_op ha hb (rv_I h)
theorem ev_neg (ha : Ev ta σ H (.int i)) : Ev (tUn (rU fun i => .int (-i)) ta) σ H (.int (-i)) := ev_un ha ru_neg
theorem ev_lt (ha : Ev ta σ H (.int i)) (hb : Ev tb σ H (.int j)) : Ev (tOp (rI0 fun i j => .bl (decide (i < j))) ta tb) σ H (.bl (decide (i < j))) := ev_op ha hb rv_I0
theorem ev_le (ha : Ev ta σ H (.int i)) (hb : Ev tb σ H (.int j)) : Ev (tOp (rI0 fun i j => .bl (decide (i ≤ j))) ta tb) σ H (.bl (decide (i ≤ j))) := ev_op ha hb rv_I0
theorem ev_gt (ha : Ev ta σ H (.int i)) (hb : Ev tb σ H (.int j)) : Ev (tOp (rI0 fun i j => .bl (decide (j < i))) ta tb) σ H (.bl (decide (j < i))) := ev_op ha hb rv_I0
theorem ev_ge (ha : Ev ta σ H (.int i)) (hb : Ev tb σ H (.int j)) : Ev (tOp (rI0 fun i j => .bl (decide (j ≤ i))) ta tb) σ H (.bl (decide (j ≤ i))) := ev_op ha hb rv_I0
theorem dec_int (i j : Int) : decide (V.int i = V.int j) = decide (i = j) := decide_eq_decide.mpr ⟨V.int.inj, fun e => by rw [e]⟩
theorem ev_eqI (ha : Ev ta σ H (.int i)) (hb : Ev tb σ H (.int j)) : Ev (tOp rEq ta tb) σ H (.bl (decide (i = j))) := by
  rw [← dec_int]
  exact ev_op ha hb (rv_eq rfl)
theorem ev_neI (ha : Ev ta σ H (.int i)) (hb : Ev tb σ H (.int j)) : Ev (tOp rNe ta tb) σ H (.bl (!decide (i = j))) := by
  rw [← dec_int]
  exact ev_op ha hb (rv_ne rfl)
theorem ev_isN {v : V} (ha : Ev ta σ H v) : Ev (tOp (fun x y H Q => y = .non ∧ Q (.bl (decide (x = .non))) H) ta (tC .non)) σ H (.bl (decide (v = .non))) := ev_op ha ev_c fun H1 _ _ q => ⟨rfl, q H1 (Ex.refl H1)⟩
theorem ev_notN {v : V} (ha : Ev ta σ H v) : Ev (tOp (fun x y H Q => y = .non ∧ Q (.bl (!decide (x = .non))) H) ta (tC .non)) σ H (.bl (!decide (v = .non))) := ev_op ha ev_c fun H1 _ _ q => ⟨rfl, q H1 (Ex.refl H1)⟩
/-- numbers of some hundred bits -/
theorem mulW {i j : Int} (hi : i.natAbs < 2 ^ 300) (hj : j.natAbs < 2 ^ 300) : CMulW i j := wide_mul hi hj (by decide) (by decide) (by decide)
theorem divW {i j : Int} (h : 0 < j) (hj : j < 2 ^ 300) : CDivW i j := wide_div (b := 300) h (by omega) (by decide) (by decide)
/-- no reading is this: a goal that takes it has not been told yet which reading it speaks of -/
def tProbe : TE := fun _ _ _ => False
def tProbeT : TT := fun _ _ _ => False
def tProbeA : TA := fun _ _ _ => False
theorem probe {v : V} (h : False) : Ev tProbe σ H v := h.elim
theorem probeT {b : Bool} (h : False) : EvT tProbeT σ H b := h.elim
theorem probeA {vs : List V} (h : False) : EvA tProbeA σ H vs := h.elim
/-- a call's promise: one value -/
theorem ev_cal {sp : Sp} {vs : List V} {E : XK} {ta : TA} {z : V} (h : EvA ta σ H vs) (hs : ∀ H1, Ex H H1 → ∀ Q : VK, RetV z H1 Q → ∀ E : XK, sp vs H1 Q E) : Ev (tCall sp [] E ta) σ H z := fun H1 e Q q =>
  h H1 e _ fun H2 e2 => by
    show sp (vs ++ []) H2 Q E
    rw [List.append_nil]
    exact hs H2 (e.trans e2) Q (fun H3 e3 => q H3 (e2.trans e3)) E
/-- one new list -/
theorem el_cal {sp : Sp} {vs xs : List V} {E : XK} {ta : TA} (h : EvA ta σ H vs) (hs : ∀ H1, Ex H H1 → ∀ Q : VK, RetL xs H1 Q → ∀ E : XK, sp vs H1 Q E) : EvL (tCall sp [] E ta) σ H xs := fun H1 e Q q =>
  h H1 e _ fun H2 e2 => by
    show sp (vs ++ []) H2 Q E
    rw [List.append_nil]
    exact hs H2 (e.trans e2) Q (fun p H3 hp e3 h3 => q p H3 (fresh_back e2 hp) (e2.trans e3) h3) E
end
end Kp

/-! Data as a whole; lists of pairs; comprehensions; new lists. -/
namespace Kp
open PySem PySem.Spec PyProof.Rows L2 Evl

/-! ### == of data without truths, texts and dicts -/
mutual
def okD : PyData → Bool
  | .none => true
  | .int _ => true
  | .list xs => okA xs
  | .tuple xs => okA xs
  | .bool _ => false
  | .str _ => false
  | .dict _ => false
def okA : List PyData → Bool
  | [] => true
  | x :: xs => okD x && okA xs
end
mutual
theorem eqv_ok : ∀ d e : PyData, okD d = true → okD e = true → (PyData.eqv d e = true ↔ d = e)
  | .none, e, _, h => by cases e <;> simp_all [okD, PyData.eqv]
  | .int i, e, _, h => by cases e <;> simp_all [okD, PyData.eqv]
  | .list xs, e, h1, h => by
    cases e with
    | list ys =>
      unfold okD at h1 h
      unfold PyData.eqv
      rw [eqvA_ok xs ys h1 h]
      exact ⟨fun e => by rw [e], PyData.list.inj⟩
    | _ => simp_all [okD, PyData.eqv]
  | .tuple xs, e, h1, h => by
    cases e with
    | tuple ys =>
      unfold okD at h1 h
      unfold PyData.eqv
      rw [eqvA_ok xs ys h1 h]
      exact ⟨fun e => by rw [e], PyData.tuple.inj⟩
    | _ => simp_all [okD, PyData.eqv]
  | .bool _, _, h, _ => by simp [okD] at h
  | .str _, _, h, _ => by simp [okD] at h
  | .dict _, _, h, _ => by simp [okD] at h
theorem eqvA_ok : ∀ ds es : List PyData, okA ds = true → okA es = true → (PyData.eqvAll ds es = true ↔ ds = es)
  | [], [], _, _ => by simp [PyData.eqvAll]
  | [], _ :: _, _, _ => by simp [PyData.eqvAll]
  | _ :: _, [], _, _ => by simp [PyData.eqvAll]
  | d :: ds, e :: es, h1, h2 => by
    unfold okA at h1 h2
    rw [Bool.and_eq_true] at h1 h2
    unfold PyData.eqvAll
    rw [Bool.and_eq_true, eqv_ok d e h1.1 h2.1, eqvA_ok ds es h1.2 h2.2]
    simp
end
theorem eqv_dec {α : Type} [DecidableEq α] (enc : α → PyData) (ok : ∀ a, okD (enc a) = true) (inj : ∀ a b, enc a = enc b → a = b) (a b : α) : PyData.eqv (enc a) (enc b) = decide (a = b) := by
  have h := eqv_ok (enc a) (enc b) (ok a) (ok b)
  by_cases e : a = b
  · subst e
    rw [decide_eq_true rfl]
    exact h.mpr rfl
  · rw [decide_eq_false e]
    cases q : PyData.eqv (enc a) (enc b) with
    | false => rfl
    | true => exact absurd (inj _ _ (h.mp q)) e
theorem okA_map {α : Type} (f : α → PyData) (h : ∀ a, okD (f a) = true) : ∀ l : List α, okA (l.map f) = true
  | [] => rfl
  | a :: l => by
    rw [List.map_cons]
    unfold okA
    rw [h a, okA_map f h l]
    rfl
theorem lay_map {α : Type} (f : α → PyData) (h : ∀ a, PyData.canLay0 (f a) = true) : ∀ l : List α, PyData.canLayAll0 (l.map f) = true
  | [] => rfl
  | a :: l => by
    rw [List.map_cons]
    unfold PyData.canLayAll0
    rw [h a, lay_map f h l]
    rfl
theorem dep_map {α : Type} (f : α → PyData) (k : Nat) (h : ∀ a, PyData.depth (f a) ≤ k) : ∀ l : List α, PyData.depthAll (l.map f) ≤ k
  | [] => Nat.zero_le _
  | a :: l => by
    rw [List.map_cons]
    unfold PyData.depthAll
    exact Nat.max_le.mpr ⟨h a, dep_map f k h l⟩
theorem shaped_of {d : PyData} (h : PyData.canLay0 d = true) (k : PyData.depth d ≤ 64) : SeqAt.shaped d = true := by
  unfold SeqAt.shaped
  rw [h, decide_eq_true k]
  rfl
/-- a list of ints, a pair of ints, a list of such -/
def dI (ns : List Int) : PyData := .list (ns.map .int)
def dP (r : Int × Int) : PyData := .tuple [.int r.1, .int r.2]
def dR (rows : List (Int × Int)) : PyData := .list (rows.map dP)
theorem map_inj {α β : Type} {f : α → β} (h : ∀ a b, f a = f b → a = b) : ∀ l m : List α, l.map f = m.map f → l = m
  | [], [], _ => rfl
  | [], _ :: _, e => by simp at e
  | _ :: _, [], e => by simp at e
  | a :: l, b :: m, e => by
    rw [List.map_cons, List.map_cons] at e
    injection e with e1 e2
    rw [h _ _ e1, map_inj h l m e2]
theorem dI_sh (ns : List Int) : SeqAt.shaped (dI ns) = true := shaped_of (lay_map _ (fun _ => rfl) ns) (Nat.le_trans (Nat.succ_le_succ (dep_map PyData.int 0 (fun _ => Nat.le_refl 0) ns)) (by decide))
theorem dR_sh (rows : List (Int × Int)) : SeqAt.shaped (dR rows) = true := shaped_of (lay_map _ (fun _ => rfl) rows) (Nat.le_trans (Nat.succ_le_succ (dep_map dP 1 (fun _ => Nat.le_refl 1) rows)) (by decide))
theorem dI_eqv (ns ms : List Int) : PyData.eqv (dI ns) (dI ms) = decide (ns = ms) := eqv_dec dI (fun l => by unfold dI okD; exact okA_map _ (fun _ => rfl) l) (fun a b e => map_inj (fun _ _ q => PyData.int.inj q) a b (PyData.list.inj e)) ns ms
theorem dP_inj (a b : Int × Int) (e : dP a = dP b) : a = b := by
  obtain ⟨a1, a2⟩ := a
  obtain ⟨b1, b2⟩ := b
  simp [dP] at e
  rw [e.1, e.2]
theorem dR_eqv (rs qs : List (Int × Int)) : PyData.eqv (dR rs) (dR qs) = decide (rs = qs) := eqv_dec dR (fun l => by unfold dR okD; exact okA_map _ (fun _ => rfl) l) (fun a b e => map_inj dP_inj a b (PyData.list.inj e)) rs qs

section
variable {K : PySem.W.Frag} {σ : L2.St} {H H' : Hp} {ta tb te tl : TE} {t : TT} {x y z v : V} {D : Ends} {tz : TS} {vs : List Nat}
theorem dpa_ints (K : PySem.W.Frag) (H : Hp) : ∀ ns : List Int, DpAll K H (ns.map V.int) (ns.map PyData.int)
  | [] => .nil
  | n :: ns => .cons (.int n) (dpa_ints K H ns)
theorem dp_ints {a : Addr} {ns : List Int} (h : SqL K H a (ns.map V.int)) : Dp K H (.ref a) (dI ns) := .lst h (dpa_ints K H ns)

/-! ### lists of pairs -/
/-- each item a tuple of the pair's two ints -/
def Prs (K : PySem.W.Frag) (H : Hp) : List V → List (Int × Int) → Prop := Paired fun v r => ∃ t, v = .ref t ∧ SqT K H t [.int r.1, .int r.2]
theorem Prs.mono {xs : List V} {rows : List (Int × Int)} (e : Ex H H') (h : Prs K H xs rows) : Prs K H' xs rows := Paired.mapP h fun v r ⟨t, q, s⟩ => ⟨t, q, ex_t e s⟩
theorem sqt_upd {l t : Addr} {xs ys ts : List V} (hl : H l = some (.lst xs)) (h : SqT K H t ts) : SqT K (upd H l (.lst ys)) t ts := by
  rcases h with h | h
  · refine .inl ?_
    rcases h with h | ⟨o, h⟩
    · refine .inl ?_
      rw [upd_ne (ne_of h hl (by intro z; cases z))]
      exact h
    · refine .inr ⟨o, ?_⟩
      rw [upd_ne (ne_of h hl (by intro z; cases z))]
      exact h
  · exact .inr h
theorem Prs.upd {l : Addr} {us ys xs : List V} {rows : List (Int × Int)} (hl : H l = some (.lst us)) (h : Prs K H xs rows) : Prs K (upd H l (.lst ys)) xs rows := Paired.mapP h fun v r ⟨t, q, s⟩ => ⟨t, q, sqt_upd hl s⟩
theorem Prs.snoc {xs : List V} {rows : List (Int × Int)} {t : Addr} {a b : Int} (h : Prs K H xs rows) (ht : SqT K H t [.int a, .int b]) : Prs K H (xs ++ [.ref t]) (rows ++ [(a, b)]) := Paired.snoc h ⟨t, rfl, ht⟩
theorem prs_get : ∀ {xs : List V} {rows : List (Int × Int)} {i : Nat} {x : V}, Prs K H xs rows → xs[i]? = some x → ∃ r t, rows[i]? = some r ∧ x = .ref t ∧ SqT K H t [.int r.1, .int r.2]
  | _, _, _, _, .nil, h => by simp at h
  | _, _, 0, _, .cons (b := r) q _, h => by
    obtain ⟨t, q1, q2⟩ := q
    have e := Option.some.inj h
    exact ⟨r, t, rfl, e ▸ q1, q2⟩
  | _, _, i + 1, _, .cons _ q, h => prs_get (i := i) q h
theorem dpa_prs : ∀ {xs : List V} {rows : List (Int × Int)}, Prs K H xs rows → DpAll K H xs (rows.map dP)
  | _, _, .nil => .nil
  | _, _, .cons q r => by
    obtain ⟨t, rfl, q2⟩ := q
    exact .cons (.tup q2 (.cons (.int _) (.cons (.int _) .nil))) (dpa_prs r)
theorem dp_prs {a : Addr} {xs : List V} {rows : List (Int × Int)} (h : SqL K H a xs) (p : Prs K H xs rows) : Dp K H (.ref a) (dR rows) := .lst h (dpa_prs p)

/-! ### == and != -/
theorem rv_eqD {d e : PyData} {b : Bool} (h1 : Dp K H x d) (h2 : Dp K H y e) (m1 : ∀ H1, Ex H H1 → Dp K H1 x d) (m2 : ∀ H1, Ex H H1 → Dp K H1 y e) (s1 : SeqAt.shaped d = true) (s2 : SeqAt.shaped e = true) (hb : PyData.eqv d e = b) : RV (rEqD K) x y H (.bl b) := by
  subst hb
  exact fun H1 e1 Q q => ⟨d, e, m1 H1 e1, m2 H1 e1, s1, s2, q H1 (Ex.refl H1)⟩
theorem rv_neD {d e : PyData} {b : Bool} (m1 : ∀ H1, Ex H H1 → Dp K H1 x d) (m2 : ∀ H1, Ex H H1 → Dp K H1 y e) (s1 : SeqAt.shaped d = true) (s2 : SeqAt.shaped e = true) (hb : (!PyData.eqv d e) = b) : RV (rNeD K) x y H (.bl b) := by
  subst hb
  exact fun H1 e1 Q q => ⟨d, e, m1 H1 e1, m2 H1 e1, s1, s2, q H1 (Ex.refl H1)⟩
theorem rv_eqI {p q : Addr} {ns ms : List Int} (h1 : SqL K H p (ns.map V.int)) (h2 : SqL K H q (ms.map V.int)) : RV (rEqD K) (.ref p) (.ref q) H (.bl (decide (ns = ms))) :=
  rv_eqD (dp_ints h1) (dp_ints h2) (fun _ e => dp_ints (ex_l e h1)) (fun _ e => dp_ints (ex_l e h2)) (dI_sh _) (dI_sh _) (dI_eqv _ _)
theorem rv_neI {p q : Addr} {ns ms : List Int} (h1 : SqL K H p (ns.map V.int)) (h2 : SqL K H q (ms.map V.int)) : RV (rNeD K) (.ref p) (.ref q) H (.bl (!decide (ns = ms))) :=
  rv_neD (fun _ e => dp_ints (ex_l e h1)) (fun _ e => dp_ints (ex_l e h2)) (dI_sh _) (dI_sh _) (by rw [dI_eqv])
theorem rv_neR {p q : Addr} {xs ys : List V} {rs qs : List (Int × Int)} (h1 : SqL K H p xs) (p1 : Prs K H xs rs) (h2 : SqL K H q ys) (p2 : Prs K H ys qs) : RV (rNeD K) (.ref p) (.ref q) H (.bl (!decide (rs = qs))) :=
  rv_neD (fun _ e => dp_prs (ex_l e h1) (p1.mono e)) (fun _ e => dp_prs (ex_l e h2) (p2.mono e)) (dR_sh _) (dR_sh _) (by rw [dR_eqv])

/-! ### new lists -/
theorem el_is {xs ys : List V} (h : EvL te σ H xs) (e : xs = ys) : EvL te σ H ys := by
  rw [← e]
  exact h
theorem el_cat {xs ys : List V} (ha : EvL ta σ H xs) (hb : EvL tb σ H ys) (hz : xs.length + ys.length ≤ 100000) : EvL (tOp rCat ta tb) σ H (xs ++ ys) := fun H1 e Q q =>
  ha H1 e _ fun p H2 np e2 hp => hb H2 (e.trans e2) _ fun r H3 nr e3 hr => ⟨p, r, xs, ys, rfl, rfl, e3 p _ hp, hr, sz_of hz, fun l hl => q l _ (fresh_back (e2.trans e3) hl) ((e2.trans e3).trans (Ex.new hl)) upd_same⟩
theorem el_rep {k : Int} (ha : EvL ta σ H [x]) (hb : Ev tb σ H (.int k)) (h0 : 0 ≤ k) (hz : k ≤ 100000) : EvL (tOp rRep ta tb) σ H (List.replicate k.toNat x) := fun H1 e Q q =>
  ha H1 e _ fun p H2 np e2 hp => hb H2 (e.trans e2) _ fun H3 e3 => ⟨p, k, [x], rfl, rfl, e3 p _ hp, by omega, by omega, sz_of (by rw [List.length_singleton]; omega), fun l hl => q l _ (fresh_back (e2.trans e3) hl) ((e2.trans e3).trans (Ex.new hl)) (by
    rw [upd_same]
    congr 2
    generalize k.toNat = n
    induction n with
    | zero => rfl
    | succ n ih => rw [List.replicate_succ, List.flatten_cons, ih, List.replicate_succ]; rfl)⟩
/-- an item of a new list of ints -/
theorem ev_ixN {ns : List Int} {i : Int} (ha : EvL ta σ H (ns.map V.int)) (hb : ∀ H1, Ex H H1 → Ev tb σ H1 (.int i)) (h0 : 0 ≤ i) (h1 : i < (ns.length : Int)) : Ev (tOp (rIxL K) ta tb) σ H (.int (ns.getD i.toNat 0)) :=
  ev_opL1 ha hb fun p H1 hp _ => rv_ixL (sq_of hp) (by
    obtain ⟨j, rfl⟩ := Int.eq_ofNat_of_zero_le h0
    refine atI_nat ?_
    have hj : j < ns.length := by omega
    rw [List.getElem?_map, List.getElem?_eq_getElem hj, Int.toNat_natCast, List.getD_eq_getElem?_getD, List.getElem?_eq_getElem hj]
    rfl)
/-- an append to a new list that is thrown away -/
theorem s_appN {xs : List V} (h : EvL ta σ H xs) (hv : ∀ H1, Ex H H1 → Ev te σ H1 v) (hz : xs.length < 100000) (k : ∀ H1, Ex H H1 → D.nx σ H1) : tDrop (tBM K "list" rAppend ta (tCons te tNil)) D σ H := h H (Ex.refl H) _ fun p H1 np e1 hp =>
  ⟨Or.inl ⟨rfl, xs, sq_of hp⟩, hv H1 e1 H1 (Ex.refl _) _ fun H2 e2 => ⟨p, xs, v, rfl, rfl, e2 p _ hp, sz_lt hz, k _ (Ex.mut (e1.trans e2) np)⟩⟩
theorem q_appN {xs : List V} (h : EvL ta σ H xs) (hv : ∀ H1, Ex H H1 → Ev te σ H1 v) (hz : xs.length < 100000) (k : ∀ H1, Ex H H1 → tz D σ H1) : tSeq (tDrop (tBM K "list" rAppend ta (tCons te tNil))) tz D σ H := s_appN (D := { D with nx := tz D }) h hv hz k
theorem cut_mem {xs : List V} {lo hi : Option Int} {x : V} (h : x ∈ cutV xs lo hi) : x ∈ xs := List.mem_of_mem_drop (List.mem_of_mem_take h)
theorem int_of_mem {ns : List Int} {x : V} (h : x ∈ ns.map V.int) : ∃ i, x = .int i := by
  obtain ⟨i, _, rfl⟩ := List.mem_map.mp h
  exact ⟨i, rfl⟩

/-! ### a new list of pairs -/
def RetP (K : PySem.W.Frag) (rows : List (Int × Int)) (H : Hp) (Q : VK) : Prop := ∀ p xs H2, H p = none → Ex H H2 → H2 p = some (.lst xs) → Prs K H2 xs rows → Q (.ref p) H2
def EvP (K : PySem.W.Frag) (te : TE) (σ : L2.St) (H : Hp) (rows : List (Int × Int)) : Prop := ∀ H1, Ex H H1 → ∀ Q : VK, (∀ p xs H2, H1 p = none → Ex H1 H2 → H2 p = some (.lst xs) → Prs K H2 xs rows → Q (.ref p) H2) → te σ H1 Q
theorem ep_cal {sp : Sp} {vs : List V} {E : XK} {ta : TA} {rows : List (Int × Int)} (h : EvA ta σ H vs) (hs : ∀ H1, Ex H H1 → ∀ Q : VK, RetP K rows H1 Q → ∀ E : XK, sp vs H1 Q E) : EvP K (tCall sp [] E ta) σ H rows := fun H1 e Q q =>
  h H1 e _ fun H2 e2 => by
    show sp (vs ++ []) H2 Q E
    rw [List.append_nil]
    exact hs H2 (e.trans e2) Q (fun p xs H3 hp e3 h3 p3 => q p xs H3 (fresh_back e2 hp) (e2.trans e3) h3 p3) E
theorem q_asgP {i : Nat} {rows : List (Int × Int)} (h : EvP K te σ H rows) (k : ∀ p xs H1, H p = none → Ex H H1 → H1 p = some (.lst xs) → Prs K H1 xs rows → tz D (σ.set i (some (.ref p))) H1) : tSeq (tAsg te (gName i)) tz D σ H :=
  h H (Ex.refl H) _ fun p xs H1 hp e h1 p1 => k p xs H1 hp e h1 p1
theorem s_appNP {rows : List (Int × Int)} (h : EvP K ta σ H rows) (hv : ∀ H1, Ex H H1 → Ev te σ H1 v) (hz : rows.length < 100000) (k : ∀ H1, Ex H H1 → D.nx σ H1) : tDrop (tBM K "list" rAppend ta (tCons te tNil)) D σ H := h H (Ex.refl H) _ fun p xs H1 np e1 hp pp =>
  ⟨Or.inl ⟨rfl, xs, sq_of hp⟩, hv H1 e1 H1 (Ex.refl _) _ fun H2 e2 => ⟨p, xs, v, rfl, rfl, e2 p _ hp, sz_lt (by rw [Paired.length pp]; exact hz), k _ (Ex.mut (e1.trans e2) np)⟩⟩
theorem q_appNP {rows : List (Int × Int)} (h : EvP K ta σ H rows) (hv : ∀ H1, Ex H H1 → Ev te σ H1 v) (hz : rows.length < 100000) (k : ∀ H1, Ex H H1 → tz D σ H1) : tSeq (tDrop (tBM K "list" rAppend ta (tCons te tNil))) tz D σ H := s_appNP (D := { D with nx := tz D }) h hv hz k

/-! ### isinstance -/
theorem ev_isi {n s : String} {b : Bool} (ha : Ev ta σ H x) (ty : ∀ H1, Ex H H1 → TyX K H1 x (.type s)) (hk : kitB s n = some b) : Ev (tCB (rIsi K) (tCons ta (tCons (tC (.ty n)) tNil))) σ H (.bl b) := fun H1 e Q q =>
  ha H1 e _ fun H2 e2 => ⟨x, .ty n, .type s, .type n, b, rfl, .ty n, ty H2 (e.trans e2), kit_ty hk, q H2 e2⟩
theorem tx_int {i : Int} : ∀ H1, Ex H H1 → TyX K H1 (.int i) (.type "int") := fun _ _ => .base (.int i)
theorem tx_lst {p : Addr} {xs : List V} (h : H p = some (.lst xs)) : ∀ H1, Ex H H1 → TyX K H1 (.ref p) (.type "list") := fun _ e => .base (.lst (e p _ h))
theorem tx_tup {p : Addr} {xs : List V} (h : H p = some (.tup xs)) : ∀ H1, Ex H H1 → TyX K H1 (.ref p) (.type "tuple") := fun _ e => .base (.tup (e p _ h))

/-! ### comprehensions -/
/-- over a list of pairs, its target a pair of names -/
theorem el_lcP {a : Addr} {xs : List V} {rows : List (Int × Int)} {i j : Nat} (f : Int × Int → Bool) (w : Int × Int → V) (h : Ev tl σ H (.ref a)) (hx : SqL K H a xs) (hp : Prs K H xs rows) (hz : rows.length ≤ 40000)
    (hw : ∀ x y, wipe (((wipe σ vs).set i (some x)).set j (some y)) vs = wipe σ vs)
    (ht : ∀ r H1, Ex H H1 → r ∈ rows → EvT t (((wipe σ vs).set i (some (.int r.1))).set j (some (.int r.2))) H1 (f r)) (he : ∀ r H1, Ex H H1 → r ∈ rows → f r = true → Ev te (((wipe σ vs).set i (some (.int r.1))).set j (some (.int r.2))) H1 (w r)) :
    EvL (tLc (iList K tl) (gTup K 2 (gCons (gName i) (gCons (gName j) gNil))) t te vs) σ H ((rows.filter f).map w) := fun H0 e Q q => h H0 e _ fun H1 e1 => ⟨a, rfl, ⟨xs, ex_l (e.trans e1) hx⟩, fun Dl hD =>
  lc_list (xs := xs) (fun n H' => H1 Dl = none ∧ Ex H1 H' ∧ H' Dl = some (.lst (((rows.take n).filter f).map w))) ⟨hD, Ex.new hD, upd_same⟩ (fun n H' _ p => ex_l ((e.trans e1).trans p.2.1) hx) (fun n x H' hn p => by
    obtain ⟨p1, p2, p3⟩ := p
    obtain ⟨r, u, hr, rfl, hu⟩ := prs_get (hp.mono ((e.trans e1).trans p2)) hn
    have hm : r ∈ rows := List.mem_of_getElem? hr
    have hlen : (((rows.take n).filter f).map w).length < 100000 := by
      rw [List.length_map]
      have h1 := List.length_filter_le f (rows.take n)
      rw [List.length_take] at h1
      omega
    refine ⟨u, _, rfl, hu, rfl, .int r.1, [.int r.2], rfl, .int r.2, [], rfl, rfl, hw _ _, ?_⟩
    refine ht r H1 (e.trans e1) hm H' p2 _ fun H3 e3 => ?_
    have et : rows.take (n + 1) = rows.take n ++ [r] := by rw [List.take_add_one, hr]; rfl
    cases hf : f r with
    | true =>
      show te _ H3 _
      refine he r H1 (e.trans e1) hm hf H3 (p2.trans e3) _ fun H4 e4 => ⟨_, e4 Dl _ (e3 Dl _ p3), sz_lt hlen, p1, Ex.mut ((p2.trans e3).trans e4) p1, ?_⟩
      rw [upd_same, et, List.filter_append, List.map_append, List.filter_cons, if_pos hf]
      rfl
    | false =>
      refine ⟨p1, p2.trans e3, ?_⟩
      rw [et, List.filter_append, List.map_append, List.filter_cons, if_neg (by rw [hf]; decide)]
      show _ = some (HO.lst (_ ++ []))
      rw [List.append_nil]
      exact e3 Dl _ p3) (fun H' p => by
    have q1 := p.2.2
    rw [Paired.length hp, List.take_length] at q1
    exact q Dl H' (fresh_back e1 p.1) (e1.trans p.2.1) q1)⟩
/-- over a list of ints -/
theorem el_lcI {a : Addr} {ns : List Int} {j : Nat} (f : Int → Bool) (w : Int → V) (h : Ev tl σ H (.ref a)) (hx : SqL K H a (ns.map V.int)) (hz : ns.length ≤ 40000)
    (hw : ∀ x, wipe ((wipe σ vs).set j (some x)) vs = wipe σ vs)
    (ht : ∀ r H1, Ex H H1 → r ∈ ns → EvT t ((wipe σ vs).set j (some (.int r))) H1 (f r)) (he : ∀ r H1, Ex H H1 → r ∈ ns → f r = true → Ev te ((wipe σ vs).set j (some (.int r))) H1 (w r)) :
    EvL (tLc (iList K tl) (gName j) t te vs) σ H ((ns.filter f).map w) := fun H0 e Q q => h H0 e _ fun H1 e1 => ⟨a, rfl, ⟨_, ex_l (e.trans e1) hx⟩, fun Dl hD =>
  lc_list (xs := ns.map V.int) (fun n H' => H1 Dl = none ∧ Ex H1 H' ∧ H' Dl = some (.lst (((ns.take n).filter f).map w))) ⟨hD, Ex.new hD, upd_same⟩ (fun n H' _ p => ex_l ((e.trans e1).trans p.2.1) hx) (fun n x H' hn p => by
    obtain ⟨p1, p2, p3⟩ := p
    rw [List.getElem?_map] at hn
    obtain ⟨r, hr, rfl⟩ := Option.map_eq_some_iff.mp hn
    have hm : r ∈ ns := List.mem_of_getElem? hr
    have hlen : (((ns.take n).filter f).map w).length < 100000 := by
      rw [List.length_map]
      have h1 := List.length_filter_le f (ns.take n)
      rw [List.length_take] at h1
      omega
    refine ⟨hw _, ?_⟩
    refine ht r H1 (e.trans e1) hm H' p2 _ fun H3 e3 => ?_
    have et : ns.take (n + 1) = ns.take n ++ [r] := by rw [List.take_add_one, hr]; rfl
    cases hf : f r with
    | true =>
      show te _ H3 _
      refine he r H1 (e.trans e1) hm hf H3 (p2.trans e3) _ fun H4 e4 => ⟨_, e4 Dl _ (e3 Dl _ p3), sz_lt hlen, p1, Ex.mut ((p2.trans e3).trans e4) p1, ?_⟩
      rw [upd_same, et, List.filter_append, List.map_append, List.filter_cons, if_pos hf]
      rfl
    | false =>
      refine ⟨p1, p2.trans e3, ?_⟩
      rw [et, List.filter_append, List.map_append, List.filter_cons, if_neg (by rw [hf]; decide)]
      show _ = some (HO.lst (_ ++ []))
      rw [List.append_nil]
      exact e3 Dl _ p3) (fun H' p => by
    have q1 := p.2.2
    rw [List.length_map, List.take_length] at q1
    exact q Dl H' (fresh_back e1 p.1) (e1.trans p.2.1) q1)⟩
theorem et_yes : EvT tYes σ H true := fun H1 _ _ q => q H1 (Ex.refl H1)
theorem ev_gcd {a b : Int} (ha : Ev ta σ H (.int a)) (hb : Ev tb σ H (.int b)) : Ev (tCB rGcd (tCons ta (tCons tb tNil))) σ H (.int ((Nat.gcd a.natAbs b.natAbs : Nat) : Int)) :=
  ev_cb (ea_cons ha (ea_cons hb ea_nil)) fun H1 _ _ q => ⟨a, b, rfl, q H1 (Ex.refl H1)⟩
end
end Kp

/-! Loops over enumerate and reversed; what stands at a place of a list, changed; many new lists at once. -/
namespace Kp
open PySem PySem.Spec PyProof.Rows L2 Evl
section
variable {K : PySem.W.Frag} {σ : L2.St} {H H' : Hp} {ta tb te tl to ti : TE} {t : TT} {x y z v : V} {D : Ends} {tu tz : TS} {vs : List Nat}
/-- for i, x in enumerate(xs) -/
theorem s_forE {a : Addr} {xs : List V} {tl : TA} {j1 j2 : Nat} (h : EvA tl σ H [.ref a]) (hx : SqL K H a xs) (Pv : Nat → L2.St → Hp → Prop) (h0 : ∀ H1, Ex H H1 → Pv 0 σ H1) (hl : ∀ i σ' H', i ≤ xs.length → Pv i σ' H' → SqL K H' a xs)
    (hs : ∀ i x σ' H', xs[i]? = some x → Pv i σ' H' → ∀ H2, Ex H' H2 → tu { D with nx := Pv (i + 1), ct := Pv (i + 1), bk := D.nx } ((σ'.set j1 (some (.int (i : Nat)))).set j2 (some x)) H2) (hd : ∀ σ' H', Pv xs.length σ' H' → D.nx σ' H') :
    tFor (iEnum K tl) (gTup K 2 (gCons (gName j1) (gCons (gName j2) gNil))) tu D σ H :=
  h H (Ex.refl H) _ fun H1 e => ⟨a, xs, rfl, ex_l e hx, fun i m σ' H' => m = xs.length - i ∧ i ≤ xs.length ∧ Pv i σ' H', ⟨xs.length, rfl, Nat.zero_le _, h0 H1 e⟩, fun i m σ' H' hW => by
    obtain ⟨rfl, hi, p⟩ := hW
    have q := hl i σ' H' hi p
    by_cases hlt : i < xs.length
    · refine .inr ⟨⟨xs, xs[i], q, List.getElem?_eq_getElem hlt⟩, Pv (i + 1), fun σ2 H2 p' => ⟨xs.length - (i + 1), by omega, rfl, hlt, p'⟩, fun w H2 hy => ?_⟩
      obtain ⟨T, x, rfl, hT, rfl, fx⟩ := hy
      exact ⟨T, _, rfl, .inl (.inl upd_same), rfl, .int (i : Nat), [x], rfl, x, [], rfl, rfl, hs i x σ' H' (fx xs q) p _ (Ex.new hT)⟩
    · have e : i = xs.length := by omega
      subst e
      exact .inl ⟨⟨xs, q, Nat.le_refl _⟩, hd σ' H' p⟩⟩
theorem q_forE {a : Addr} {xs : List V} {tl : TA} {j1 j2 : Nat} (h : EvA tl σ H [.ref a]) (hx : SqL K H a xs) (Pv : Nat → L2.St → Hp → Prop) (h0 : ∀ H1, Ex H H1 → Pv 0 σ H1) (hl : ∀ i σ' H', i ≤ xs.length → Pv i σ' H' → SqL K H' a xs)
    (hs : ∀ i x σ' H', xs[i]? = some x → Pv i σ' H' → ∀ H2, Ex H' H2 → tu { D with nx := Pv (i + 1), ct := Pv (i + 1), bk := tz D } ((σ'.set j1 (some (.int (i : Nat)))).set j2 (some x)) H2) (hd : ∀ σ' H', Pv xs.length σ' H' → tz D σ' H') :
    tSeq (tFor (iEnum K tl) (gTup K 2 (gCons (gName j1) (gCons (gName j2) gNil))) tu) tz D σ H := s_forE (D := { D with nx := tz D }) h hx Pv h0 hl hs hd
/-- for x in reversed(xs) -/
theorem s_forV {a : Addr} {xs : List V} {tl : TA} {j : Nat} (h : EvA tl σ H [.ref a]) (hx : SqL K H a xs) (Pv : Nat → L2.St → Hp → Prop) (h0 : ∀ H1, Ex H H1 → Pv 0 σ H1) (hl : ∀ i σ' H', i ≤ xs.length → Pv i σ' H' → SqL K H' a xs)
    (hs : ∀ i x σ' H', i < xs.length → xs[xs.length - 1 - i]? = some x → Pv i σ' H' → tu { D with nx := Pv (i + 1), ct := Pv (i + 1), bk := D.nx } (σ'.set j (some x)) H') (hd : ∀ σ' H', Pv xs.length σ' H' → D.nx σ' H') :
    tFor (iRev K tl) (gName j) tu D σ H :=
  h H (Ex.refl H) _ fun H1 e => ⟨a, xs, rfl, ex_l e hx, fun i m σ' H' => m = xs.length - i ∧ i ≤ xs.length ∧ Pv i σ' H', ⟨xs.length, rfl, Nat.zero_le _, h0 H1 e⟩, fun i m σ' H' hW => by
    obtain ⟨rfl, hi, p⟩ := hW
    have q := hl i σ' H' hi p
    by_cases hlt : i < xs.length
    · have hlt2 : xs.length - 1 - i < xs.length := by omega
      refine .inr ⟨⟨hlt, xs, xs[xs.length - 1 - i], q, List.getElem?_eq_getElem hlt2⟩, Pv (i + 1), fun σ2 H2 p' => ⟨xs.length - (i + 1), by omega, rfl, hlt, p'⟩, fun w H2 hy => ?_⟩
      obtain ⟨rfl, fx⟩ := hy
      exact hs i w σ' H2 hlt (fx xs q) p
    · have e : i = xs.length := by omega
      subst e
      exact .inl ⟨Nat.le_refl _, hd σ' H' p⟩⟩
theorem q_forV {a : Addr} {xs : List V} {tl : TA} {j : Nat} (h : EvA tl σ H [.ref a]) (hx : SqL K H a xs) (Pv : Nat → L2.St → Hp → Prop) (h0 : ∀ H1, Ex H H1 → Pv 0 σ H1) (hl : ∀ i σ' H', i ≤ xs.length → Pv i σ' H' → SqL K H' a xs)
    (hs : ∀ i x σ' H', i < xs.length → xs[xs.length - 1 - i]? = some x → Pv i σ' H' → tu { D with nx := Pv (i + 1), ct := Pv (i + 1), bk := tz D } (σ'.set j (some x)) H') (hd : ∀ σ' H', Pv xs.length σ' H' → tz D σ' H') :
    tSeq (tFor (iRev K tl) (gName j) tu) tz D σ H := s_forV (D := { D with nx := tz D }) h hx Pv h0 hl hs hd
/-- o[i] += e, of a list of ints -/
theorem s_augL {l : Addr} {ns : List Int} {j : Nat} {f : Int → Int → Int} {a b : Int} (hl : H l = some (.lst (ns.map V.int))) (ho : Ev to σ H (.ref l)) (hi : Ev ti σ H (.int (j : Nat))) (hj : ns[j]? = some a) (he : Ev te σ H (.int b))
    (k : ∀ H1, Ex H H1 → D.nx σ (upd H1 l (.lst ((ns.set j (f a b)).map V.int)))) : tAugS to ti te (rGetL K) (ipI f) rSetL D σ H := ho H (Ex.refl H) _ fun H1 e1 => hi H1 e1 _ fun H2 e2 =>
  ⟨l, ns.map V.int, j, .int a, rfl, rfl, sq_of ((e1.trans e2) l _ hl), by rw [List.getElem?_map, hj]; rfl, he H2 (e1.trans e2) _ fun H3 e3 => ⟨a, b, rfl, rfl, l, ns.map V.int, (j : Nat), j, rfl, rfl, ((e1.trans e2).trans e3) l _ hl,
    ixN_nat (by rw [List.length_map]; exact (List.getElem?_eq_some_iff.mp hj).1), by
      have q := k H3 ((e1.trans e2).trans e3)
      rw [List.map_set] at q
      exact q⟩⟩
/-- the same with an operator that asks something of its two ints -/
theorem s_augLC {l : Addr} {ns : List Int} {j : Nat} {C : Int → Int → Prop} {f : Int → Int → Int} {a b : Int} (hl : H l = some (.lst (ns.map V.int))) (ho : Ev to σ H (.ref l)) (hi : Ev ti σ H (.int (j : Nat))) (hj : ns[j]? = some a) (he : Ev te σ H (.int b))
    (k : ∀ H1, Ex H H1 → D.nx σ (upd H1 l (.lst ((ns.set j (f a b)).map V.int)))) : tAugS to ti te (rGetL K) (rI0 fun i j => .int (f i j)) rSetL D σ H := s_augL hl ho hi hj he k
/-- o[i] = e, of a list of ints -/
theorem s_setI {l : Addr} {ns : List Int} {j : Nat} {b : Int} (hl : H l = some (.lst (ns.map V.int))) (ho : Ev to σ H (.ref l)) (hi : Ev ti σ H (.int (j : Nat))) (hj : j < ns.length) (he : Ev te σ H (.int b))
    (k : ∀ H1, Ex H H1 → D.nx σ (upd H1 l (.lst ((ns.set j b).map V.int)))) : tAsg te (gSub to ti rSetL) D σ H :=
  s_setL hl he ho hi (by rw [List.length_map]; exact hj) fun H1 e1 => by
    have q := k H1 e1
    rw [List.map_set] at q
    exact q
/-- xs[i], of a list of ints -/
theorem ev_ixI {a : Addr} {ns : List Int} {j : Nat} {b : Int} (hl : SqL K H a (ns.map V.int)) (ho : Ev ta σ H (.ref a)) (hi : Ev tb σ H (.int (j : Nat))) (hj : ns[j]? = some b) : Ev (tOp (rIxL K) ta tb) σ H (.int b) :=
  ev_op ho hi (rv_ixL hl (atI_nat (by rw [List.getElem?_map, hj]; rfl)))
/-- t[i], of a tuple -/
theorem ev_ixT {a : Addr} {xs : List V} {j : Nat} (hl : SqT K H a xs) (ho : Ev ta σ H (.ref a)) (hi : Ev tb σ H (.int (j : Nat))) (hj : xs[j]? = some v) : Ev (tOp (rIxT K) ta tb) σ H v :=
  ev_op ho hi (rv_ixT hl (atI_nat hj))
/-- xs.pop() as a statement -/
theorem s_pop {l : Addr} {xs : List V} {y : V} (hl : H l = some (.lst (xs ++ [y]))) (ha : Ev ta σ H (.ref l)) (k : ∀ H1, Ex H H1 → D.nx σ (upd H1 l (.lst xs))) : tDrop (tBM0 K "list" rPop ta) D σ H := ha H (Ex.refl H) _ fun H1 e1 =>
  ⟨Or.inl ⟨rfl, _, sq_of (e1 l _ hl)⟩, l, xs ++ [y], y, rfl, rfl, e1 l _ hl, by simp, by
    rw [List.dropLast_concat]
    exact k H1 e1⟩

/-! ### many new lists -/
def EvNs (n : Nat) (ta : TA) (σ : L2.St) (H : Hp) : Prop := ∀ H1, Ex H H1 → ∀ Q : List V → Hp → Prop, (∀ (ps : List Addr) H2, ps.length = n → Ex H1 H2 → (∀ p ∈ ps, H1 p = none ∧ ∃ xs, H2 p = some (.lst xs) ∧ xs.length < 50000) → Q (ps.map V.ref) H2) → ta σ H1 Q
theorem en_nil : EvNs 0 tNil σ H := fun H1 _ Q q => q [] H1 rfl (Ex.refl H1) fun _ h => nomatch h
theorem en_cons {tr : TA} {xs : List V} {n : Nat} (h : EvL te σ H xs) (hz : xs.length < 50000) (hr : EvNs n tr σ H) : EvNs (n + 1) (tCons te tr) σ H := fun H1 e Q q =>
  h H1 e _ fun p H2 np e2 hp => hr H2 (e.trans e2) _ fun ps H3 hl e3 hps => q (p :: ps) H3 (by rw [List.length_cons, hl]) (e2.trans e3) fun r hr' => by
    rcases List.mem_cons.mp hr' with rfl | hm
    · exact ⟨np, xs, e3 _ _ hp, hz⟩
    · obtain ⟨n1, n2⟩ := hps r hm
      exact ⟨fresh_back e2 n1, n2⟩
/-- for x in [new, new, ..]: x.append(e) -/
theorem s_forNs {tr : TA} {n j : Nat} {u : V} (h : EvNs n tr σ H) (hn : n ≤ 1000) (hj : j < σ.length) (k : ∀ σ' H1, (∃ x, σ' = σ.set j x) → Ex H H1 → D.nx σ' H1) :
    tFor (iList K (tLst tr)) (gName j) (tDrop (tBM K "list" rAppend (tVar j) (tCons (tC u) tNil))) D σ H :=
  h H (Ex.refl H) _ fun ps H2 hl e2 hps => ⟨sz_of (by rw [List.length_map]; omega), fun L nL => ⟨L, rfl, ⟨_, SqL.of upd_same⟩, for_list (xs := ps.map V.ref)
    (fun i σ' H' => (∃ x, σ' = σ.set j x) ∧ Ex H H' ∧ H' L = some (.lst (ps.map V.ref)) ∧ ∀ p ∈ ps, ∃ xs, H' p = some (.lst xs) ∧ xs.length < 50000 + i)
    ⟨⟨σ[j], (List.set_getElem_self hj).symm⟩, e2.trans (Ex.new nL), upd_same, fun p hp => by
      obtain ⟨xs, q1, q2⟩ := (hps p hp).2
      exact ⟨xs, by rw [upd_ne (ne_of_none q1 nL)]; exact q1, by omega⟩⟩
    (fun i σ' H' _ p => SqL.of p.2.2.1) (fun i x σ' H' hx p => by
      obtain ⟨⟨y, rfl⟩, p2, p3, p4⟩ := p
      rw [List.getElem?_map] at hx
      obtain ⟨r, hr, rfl⟩ := Option.map_eq_some_iff.mp hx
      have hm := List.mem_of_getElem? hr
      have hi : i < ps.length := (List.getElem?_eq_some_iff.mp hr).1
      obtain ⟨xs, q1, q2⟩ := p4 r hm
      have nLr : L ≠ r := fun e => by
        obtain ⟨zs, z1, _⟩ := (hps r hm).2
        rw [← e, nL] at z1
        cases z1
      refine s_app q1 (ev_var (by rw [List.getElem?_set_self (by rw [List.length_set]; exact hj)])) ev_c (by omega) fun H3 e3 => ⟨⟨_, List.set_set ..⟩, Ex.mut (p2.trans e3) (hps r hm).1, ?_, fun p hp => ?_⟩
      · rw [upd_ne nLr]
        exact e3 _ _ p3
      · by_cases e : p = r
        · subst e
          exact ⟨_, upd_same, by rw [List.length_append, List.length_singleton]; omega⟩
        · obtain ⟨ys, z1, z2⟩ := p4 p hp
          exact ⟨ys, by rw [upd_ne e]; exact e3 _ _ z1, by omega⟩) (fun σ' H' p => k σ' H' p.1 p.2.1)⟩⟩
theorem q_forNs {tr : TA} {n j : Nat} {u : V} (h : EvNs n tr σ H) (hn : n ≤ 1000) (hj : j < σ.length) (k : ∀ σ' H1, (∃ x, σ' = σ.set j x) → Ex H H1 → tz D σ' H1) :
    tSeq (tFor (iList K (tLst tr)) (gName j) (tDrop (tBM K "list" rAppend (tVar j) (tCons (tC u) tNil)))) tz D σ H := s_forNs (D := { D with nx := tz D }) h hn hj k
end
end Kp
namespace Kp
open PySem PySem.Spec PyProof.Rows L2 Evl
section
variable {K : PySem.W.Frag} {σ : L2.St} {H H' : Hp} {ta tb te tl to ti : TE} {t : TT} {x y z v : V} {D : Ends} {tu tz : TS} {vs : List Nat}
/-- (a new list, a new list) -/
theorem q_asgT2 {i : Nat} {xs ys : List V} (h1 : EvL ta σ H xs) (h2 : EvL tb σ H ys) (k : ∀ t p q H1, Ex H H1 → H1 t = some (.tup [.ref p, .ref q]) → H1 p = some (.lst xs) → H1 q = some (.lst ys) → tz D (σ.set i (some (.ref t))) H1) :
    tSeq (tAsg (tTup (tCons ta (tCons tb tNil))) (gName i)) tz D σ H :=
  h1 H (Ex.refl H) _ fun p H1 np e1 hp => h2 H1 e1 _ fun q H2 nq e2 hq => ⟨sz_of (show 2 ≤ 100000 by decide), fun t nt =>
    k t p q _ ((e1.trans e2).trans (Ex.new nt)) upd_same (by rw [upd_ne (ne_of_none (e2 _ _ hp) nt)]; exact e2 _ _ hp) (by rw [upd_ne (ne_of_none hq nt)]; exact hq)⟩
/-- a call upon one new list, one value back -/
theorem ev_calL1 {sp : Sp} {xs : List V} {E : XK} (h : EvL ta σ H xs) (hs : ∀ p H1, Ex H H1 → H1 p = some (.lst xs) → ∀ Q : VK, RetV z H1 Q → ∀ E : XK, sp [.ref p] H1 Q E) : Ev (tCall sp [] E (tCons ta tNil)) σ H z := fun H1 e Q q =>
  h H1 e _ fun p H2 np e2 hp => hs p H2 (e.trans e2) hp Q (fun H3 e3 => q H3 (e2.trans e3)) E
/-- a list by its name and a new one, glued -/
theorem el_cat1 {l : Addr} {xs ys : List V} (ha : Ev ta σ H (.ref l)) (hl : H l = some (.lst xs)) (hb : EvL tb σ H ys) (hz : xs.length + ys.length ≤ 100000) : EvL (tOp rCat ta tb) σ H (xs ++ ys) := fun H1 e Q q =>
  ha H1 e _ fun H2 e2 => hb H2 (e.trans e2) _ fun r H3 nr e3 hr => ⟨l, r, xs, ys, rfl, rfl, (e.trans (e2.trans e3)) _ _ hl, hr, sz_of hz, fun l hl => q l _ (fresh_back (e2.trans e3) hl) ((e2.trans e3).trans (Ex.new hl)) upd_same⟩
theorem cut_take (xs : List V) (m : Nat) : cutV xs none (some (m : Int)) = xs.take m := by
  unfold cutV
  rw [HT.sIx_none, HT.sIx_nat, Nat.sub_zero, List.drop_zero]
  by_cases h : m ≤ xs.length
  · rw [Nat.min_eq_left h]
  · rw [Nat.min_eq_right (by omega), List.take_of_length_le (Nat.le_refl _), List.take_of_length_le (by omega)]
theorem map_get {ns : List Int} {i : Nat} {x : V} (h : (ns.map V.int)[i]? = some x) : ∃ a, ns[i]? = some a ∧ x = .int a := by
  rw [List.getElem?_map] at h
  obtain ⟨a, h1, h2⟩ := Option.map_eq_some_iff.mp h
  exact ⟨a, h1, h2.symm⟩
end
end Kp

/-! More of loops, comprehensions and lists. -/
namespace Kp
open PySem PySem.Spec PyProof.Rows L2 Evl
theorem filter_yes {α : Type} (l : List α) : l.filter (fun _ => true) = l := List.filter_eq_self.mpr fun _ _ => rfl
section
variable {K : PySem.W.Frag} {σ : L2.St} {H H' : Hp} {ta tb te tl to ti : TE} {t : TT} {x y z v : V} {D : Ends} {tu tz : TS} {vs : List Nat}
/-- [e for x in range(a, b) if t] -/
theorem el_lcR2 {tg : TA} {j : Nat} {lo hi : Int} (f : Nat → Bool) (w : Nat → V) (h : EvA tg σ H [.int lo, .int hi]) (hb : 0 ≤ lo ∧ lo ≤ 40000 ∧ -40000 ≤ hi ∧ hi ≤ 40000) (hw : ∀ x, wipe ((wipe σ vs).set j (some x)) vs = wipe σ vs)
    (ht : ∀ (i : Nat) H1, Ex H H1 → lo + (i : Int) < hi → EvT t ((wipe σ vs).set j (some (.int (lo + (i : Int))))) H1 (f i)) (he : ∀ (i : Nat) H1, Ex H H1 → lo + (i : Int) < hi → f i = true → Ev te ((wipe σ vs).set j (some (.int (lo + (i : Int))))) H1 (w i)) :
    EvL (tLc (iRng2 tg) (gName j) t te vs) σ H (((List.range (hi - lo).toNat).filter f).map w) := fun H0 e Q q => h H0 e _ fun H1 e1 => ⟨lo, hi, rfl, ⟨by omega, by omega, by omega, by omega⟩, fun Dl hD =>
  lc_range (lo := lo) (n := (hi - lo).toNat) (Cw H1 f w Dl) ⟨hD, Ex.new hD, upd_same⟩ (fun i H' hi p => ⟨hw _, cw_turn p (by omega) (ht i H1 (e.trans e1) (by omega)) (fun hf => he i H1 (e.trans e1) (by omega) hf)⟩) (fun H' p => q Dl H' (fresh_back e1 p.1) (e1.trans p.2.1) p.2.2)⟩
/-- [e for x in reversed(xs) if t], xs ints -/
theorem el_lcV {tg : TA} {a : Addr} {ns : List Int} {j : Nat} (f : Int → Bool) (w : Int → V) (h : EvA tg σ H [.ref a]) (hx : SqL K H a (ns.map V.int)) (hz : ns.length ≤ 40000)
    (hw : ∀ x, wipe ((wipe σ vs).set j (some x)) vs = wipe σ vs)
    (ht : ∀ r H1, Ex H H1 → r ∈ ns → EvT t ((wipe σ vs).set j (some (.int r))) H1 (f r)) (he : ∀ r H1, Ex H H1 → r ∈ ns → f r = true → Ev te ((wipe σ vs).set j (some (.int r))) H1 (w r)) :
    EvL (tLc (iRev K tg) (gName j) t te vs) σ H ((ns.reverse.filter f).map w) := fun H0 e Q q => h H0 e _ fun H1 e1 => ⟨a, _, rfl, ex_l (e.trans e1) hx, fun Dl hD =>
  ⟨fun n m H' => m = ns.length - n ∧ n ≤ ns.length ∧ H1 Dl = none ∧ Ex H1 H' ∧ H' Dl = some (.lst (((ns.reverse.take n).filter f).map w)), ⟨ns.length, rfl, Nat.zero_le _, hD, Ex.new hD, upd_same⟩, fun n m H' hW => by
    obtain ⟨rfl, hn, p1, p2, p3⟩ := hW
    by_cases hlt : n < ns.length
    · have hlt2 : ns.length - 1 - n < ns.length := by omega
      have hlm : (ns.map V.int).length = ns.length := List.length_map _
      refine .inr ⟨⟨by rw [hlm]; exact hlt, ns.map V.int, _, ex_l ((e.trans e1).trans p2) hx, List.getElem?_eq_getElem (by rw [hlm]; omega)⟩, fun H2 => n + 1 ≤ ns.length ∧ H1 Dl = none ∧ Ex H1 H2 ∧ H2 Dl = some (.lst (((ns.reverse.take (n + 1)).filter f).map w)), fun H2 ⟨q1, q2, q3, q4⟩ => ⟨ns.length - (n + 1), by omega, rfl, q1, q2, q3, q4⟩, fun x H2 hy => ?_⟩
      obtain ⟨rfl, fx⟩ := hy
      have gx := fx _ (ex_l ((e.trans e1).trans p2) hx)
      rw [hlm] at gx
      rw [List.getElem?_map] at gx
      obtain ⟨r, hr, rfl⟩ := Option.map_eq_some_iff.mp gx
      have hm : r ∈ ns := List.mem_of_getElem? hr
      have hlen : (((ns.reverse.take n).filter f).map w).length < 100000 := by
        rw [List.length_map]
        have h1 := List.length_filter_le f (ns.reverse.take n)
        rw [List.length_take, List.length_reverse] at h1
        omega
      have et : ns.reverse.take (n + 1) = ns.reverse.take n ++ [r] := by
        rw [List.take_add_one, List.getElem?_reverse hlt, hr]
        rfl
      refine ⟨hw _, ?_⟩
      refine ht r H1 (e.trans e1) hm H2 p2 _ fun H3 e3 => ?_
      cases hf : f r with
      | true =>
        show te _ H3 _
        refine he r H1 (e.trans e1) hm hf H3 (p2.trans e3) _ fun H4 e4 => ⟨_, e4 Dl _ (e3 Dl _ p3), sz_lt hlen, hlt, p1, Ex.mut ((p2.trans e3).trans e4) p1, ?_⟩
        rw [upd_same, et, List.filter_append, List.map_append, List.filter_cons, if_pos hf]
        rfl
      | false =>
        refine ⟨hlt, p1, p2.trans e3, ?_⟩
        rw [et, List.filter_append, List.map_append, List.filter_cons, if_neg (by rw [hf]; decide)]
        show _ = some (HO.lst (_ ++ []))
        rw [List.append_nil]
        exact e3 Dl _ p3
    · have en : n = ns.length := by omega
      subst en
      rw [List.take_of_length_le (by rw [List.length_reverse]; exact Nat.le_refl _)] at p3
      exact .inl ⟨by show (ns.map V.int).length ≤ _; rw [List.length_map]; exact Nat.le_refl _, q Dl H' (fresh_back e1 p1) (e1.trans p2) p3⟩⟩⟩
/-- two lists by their names, glued -/
theorem el_cat2 {l b : Addr} {xs ys : List V} (ha : Ev ta σ H (.ref l)) (hl : H l = some (.lst xs)) (hb : Ev tb σ H (.ref b)) (hlb : H b = some (.lst ys)) (hz : xs.length + ys.length ≤ 100000) : EvL (tOp rCat ta tb) σ H (xs ++ ys) := fun H1 e Q q =>
  ha H1 e _ fun H2 e2 => hb H2 (e.trans e2) _ fun H3 e3 => ⟨l, b, xs, ys, rfl, rfl, (e.trans (e2.trans e3)) _ _ hl, (e.trans (e2.trans e3)) _ _ hlb, sz_of hz, fun l hl => q l _ (fresh_back (e2.trans e3) hl) ((e2.trans e3).trans (Ex.new hl)) upd_same⟩
/-- for i, x in enumerate(a new list) -/
theorem s_forEN {xs : List V} {j1 j2 : Nat} (h : EvL te σ H xs) (Pv : Addr → Nat → L2.St → Hp → Prop) (h0 : ∀ a H1, H a = none → Ex H H1 → H1 a = some (.lst xs) → Pv a 0 σ H1) (hl : ∀ a i σ' H', i ≤ xs.length → Pv a i σ' H' → SqL K H' a xs)
    (hs : ∀ a i x σ' H', xs[i]? = some x → Pv a i σ' H' → ∀ H2, Ex H' H2 → tu { D with nx := Pv a (i + 1), ct := Pv a (i + 1), bk := D.nx } ((σ'.set j1 (some (.int (i : Nat)))).set j2 (some x)) H2) (hd : ∀ a σ' H', Pv a xs.length σ' H' → D.nx σ' H') :
    tFor (iEnum K (tCons te tNil)) (gTup K 2 (gCons (gName j1) (gCons (gName j2) gNil))) tu D σ H :=
  h H (Ex.refl H) _ fun a H1 na e ha => ⟨a, xs, rfl, sq_of ha, fun i m σ' H' => m = xs.length - i ∧ i ≤ xs.length ∧ Pv a i σ' H', ⟨xs.length, rfl, Nat.zero_le _, h0 a H1 na e ha⟩, fun i m σ' H' hW => by
    obtain ⟨rfl, hi, p⟩ := hW
    have q := hl a i σ' H' hi p
    by_cases hlt : i < xs.length
    · refine .inr ⟨⟨xs, xs[i], q, List.getElem?_eq_getElem hlt⟩, Pv a (i + 1), fun σ2 H2 p' => ⟨xs.length - (i + 1), by omega, rfl, hlt, p'⟩, fun w H2 hy => ?_⟩
      obtain ⟨T, x, rfl, hT, rfl, fx⟩ := hy
      exact ⟨T, _, rfl, .inl (.inl upd_same), rfl, .int (i : Nat), [x], rfl, x, [], rfl, rfl, hs a i x σ' H' (fx xs q) p _ (Ex.new hT)⟩
    · have e : i = xs.length := by omega
      subst e
      exact .inl ⟨⟨xs, q, Nat.le_refl _⟩, hd a σ' H' p⟩⟩
theorem q_forEN {xs : List V} {j1 j2 : Nat} (h : EvL te σ H xs) (Pv : Addr → Nat → L2.St → Hp → Prop) (h0 : ∀ a H1, H a = none → Ex H H1 → H1 a = some (.lst xs) → Pv a 0 σ H1) (hl : ∀ a i σ' H', i ≤ xs.length → Pv a i σ' H' → SqL K H' a xs)
    (hs : ∀ a i x σ' H', xs[i]? = some x → Pv a i σ' H' → ∀ H2, Ex H' H2 → tu { D with nx := Pv a (i + 1), ct := Pv a (i + 1), bk := tz D } ((σ'.set j1 (some (.int (i : Nat)))).set j2 (some x)) H2) (hd : ∀ a σ' H', Pv a xs.length σ' H' → tz D σ' H') :
    tSeq (tFor (iEnum K (tCons te tNil)) (gTup K 2 (gCons (gName j1) (gCons (gName j2) gNil))) tu) tz D σ H := s_forEN (D := { D with nx := tz D }) h Pv h0 hl hs hd
/-- for a, b in a new list of pairs -/
theorem q_forP {rows : List (Int × Int)} {j1 j2 : Nat} (h : EvP K te σ H rows) (Pv : Hp → Nat → L2.St → Hp → Prop) (h0 : ∀ H1, Ex H H1 → Pv H1 0 σ H1) (hl : ∀ H1 i σ' H', Pv H1 i σ' H' → Ex H1 H')
    (hs : ∀ H1 i r σ' H', Ex H H1 → rows[i]? = some r → Pv H1 i σ' H' → tu { D with nx := Pv H1 (i + 1), ct := Pv H1 (i + 1), bk := tz D } ((σ'.set j1 (some (.int r.1))).set j2 (some (.int r.2))) H') (hd : ∀ H1 σ' H', Ex H H1 → Pv H1 rows.length σ' H' → tz D σ' H') :
    tSeq (tFor (iList K te) (gTup K 2 (gCons (gName j1) (gCons (gName j2) gNil))) tu) tz D σ H :=
  h H (Ex.refl H) _ fun p xs H1 np e hp pr => ⟨p, rfl, ⟨xs, sq_of hp⟩, for_list (xs := xs) (Pv H1) (h0 H1 e) (fun i σ' H' _ q => sq_of (hl _ _ _ _ q _ _ hp)) (fun i x σ' H' hx q => by
    obtain ⟨r, t, hr, rfl, ht⟩ := prs_get (pr.mono (hl _ _ _ _ q)) hx
    exact ⟨t, _, rfl, ht, rfl, .int r.1, [.int r.2], rfl, .int r.2, [], rfl, rfl, hs H1 i r σ' H' e hr q⟩) (fun σ' H' q => by
    rw [Paired.length pr] at q
    exact hd H1 σ' H' e q)⟩
/-- a list by its name, beside a new list of pairs -/
theorem ev_opLP {r : R2} {rows : List (Int × Int)} (ha : Ev ta σ H x) (hb : EvP K tb σ H rows) (hr : ∀ p xs H1, H1 p = some (.lst xs) → Prs K H1 xs rows → Ex H H1 → RV r x (.ref p) H1 z) : Ev (tOp r ta tb) σ H z := fun H1 e Q q =>
  ha H1 e _ fun H2 e2 => hb H2 (e.trans e2) _ fun p xs H3 np e3 hp pr => hr p xs H3 hp pr ((e.trans e2).trans e3) H3 (Ex.refl H3) Q fun H4 e4 => q H4 ((e2.trans e3).trans e4)
theorem inV_int (x : Int) : ∀ ns : List Int, inV (.int x) (ns.map V.int) = decide (x ∈ ns)
  | [] => rfl
  | n :: ns => by
    have ih := inV_int x ns
    show ((n == x) || inV (.int x) (ns.map V.int)) = _
    rw [ih, Bool.eq_iff_iff, Bool.or_eq_true, beq_iff_eq, decide_eq_true_iff, decide_eq_true_iff, List.mem_cons]
    constructor
    · rintro (h | h)
      · exact .inl h.symm
      · exact .inr h
    · rintro (h | h)
      · exact .inl h.symm
      · exact .inr h
theorem flat_ints : ∀ ns : List Int, (ns.map V.int).all flatV = true
  | [] => rfl
  | n :: ns => by
    rw [List.map_cons, List.all_cons, flat_ints ns]
    rfl
theorem ev_notIn {a : Addr} {x : Int} {ns : List Int} (ha : Ev ta σ H (.int x)) (hb : Ev tb σ H (.ref a)) (hl : SqL K H a (ns.map V.int)) : Ev (tOp (rIn K true) ta tb) σ H (.bl (!decide (x ∈ ns))) := by
  have := rv_niL (K := K) (x := .int x) hl rfl (flat_ints ns)
  rw [inV_int] at this
  exact ev_op ha hb this
/-- sorted(xs), ints -/
theorem el_sorted {a : Addr} {ns ms : List Int} (ha : Ev ta σ H (.ref a)) (hl : SqL K H a (ns.map V.int)) (hu : ∀ ns' : List Int, ns'.Perm ns → ns'.Pairwise (· ≤ ·) → ns' = ms) : EvL (tCB (rSortedI K) (tCons ta tNil)) σ H (ms.map V.int) := fun H1 e Q q =>
  ha H1 e _ fun H2 e2 => ⟨a, ns, rfl, ex_l (e.trans e2) hl, fun ns' p hp hs np => by
    rw [hu ns' hp hs]
    exact q p _ (fresh_back e2 np) (e2.trans (Ex.new np)) upd_same⟩
/-- list(t), t a tuple -/
theorem el_listT {p : Addr} {xs : List V} (ha : Ev ta σ H (.ref p)) (h : SqT K H p xs) : EvL (tCB (rListS K) (tCons ta tNil)) σ H xs := fun H1 e Q q =>
  ha H1 e _ fun H2 e2 => ⟨p, xs, rfl, Or.inr (ex_t (e.trans e2) h), fun l hl => q l _ (fresh_back e2 hl) (e2.trans (Ex.new hl)) upd_same⟩
theorem ev_int1b {b : Bool} (ha : Ev ta σ H (.bl b)) : Ev (tCB (fun xs H Q => (∃ i, xs = [.int i] ∧ Q (.int i) H) ∨ ∃ k, xs = [.bl k] ∧ Q (.int (if k then 1 else 0)) H) (tCons ta tNil)) σ H (.int (if b then 1 else 0)) := fun H1 e Q q =>
  ha H1 e _ fun H2 e2 => .inr ⟨b, rfl, q H2 e2⟩
theorem ev_isqrt {n : Nat} (ha : Ev ta σ H (.int (n : Nat))) (hn : n < 2 ^ 64) : Ev (tCB rIsqrt (tCons ta tNil)) σ H (.int ((Float64.isqrt n : Nat) : Int)) := fun H1 e Q q =>
  ha H1 e _ fun H2 e2 => ⟨(n : Nat), rfl, by omega, by omega, by rw [Int.toNat_natCast]; exact q H2 e2⟩
theorem tx_sqt {p : Addr} {xs : List V} (h : SqT K H p xs) : ∀ H1, Ex H H1 → TyX K H1 (.ref p) (.type "tuple") := fun H1 e => by
  rcases ex_t e h with (h | ⟨o, h⟩) | h
  · exact .base (.tup h)
  · exact .fTuple h
  · obtain ⟨o, its, n, h1, h2, _⟩ := h
    exact .kTuple h1 h2
end
end Kp

/-! Polynomials as lists: the number of each power, noughts cut off at the end, products, other powers of x, values. -/
namespace Kp
/-- the number of the m-th power -/
def coef (l : List Int) (m : Nat) : Int := l.getD m 0
theorem coef_lt {l : List Int} {m : Nat} (h : m < l.length) : coef l m = l[m] := by
  unfold coef
  rw [List.getD_eq_getElem?_getD, List.getElem?_eq_getElem h]
  rfl
theorem coef_ge {l : List Int} {m : Nat} (h : l.length ≤ m) : coef l m = 0 := by
  unfold coef
  rw [List.getD_eq_getElem?_getD, List.getElem?_eq_none h]
  rfl
theorem coef_get {l : List Int} {m : Nat} (h : m < l.length) : l[m]? = some (coef l m) := by
  rw [coef_lt h, List.getElem?_eq_getElem h]
theorem coef_of {l : List Int} {m : Nat} {x : Int} (h : l[m]? = some x) : coef l m = x := by
  unfold coef
  rw [List.getD_eq_getElem?_getD, h]
  rfl
theorem coef_nil (m : Nat) : coef [] m = 0 := coef_ge (Nat.zero_le _)
theorem ext_of {a b : List Int} (hl : a.length = b.length) (h : ∀ m, m < a.length → coef a m = coef b m) : a = b := by
  refine List.ext_getElem hl fun i h1 h2 => ?_
  have := h i h1
  rwa [coef_lt h1, coef_lt h2] at this
theorem coef_set {l : List Int} {j m : Nat} {x : Int} (hj : j < l.length) : coef (l.set j x) m = if m = j then x else coef l m := by
  unfold coef
  rw [List.getD_eq_getElem?_getD, List.getD_eq_getElem?_getD, List.getElem?_set]
  by_cases e : j = m
  · subst e
    rw [if_pos rfl, if_pos hj, if_pos rfl]
    rfl
  · rw [if_neg e, if_neg (fun q => e q.symm)]
theorem coef_app {a b : List Int} {m : Nat} : coef (a ++ b) m = if m < a.length then coef a m else coef b (m - a.length) := by
  unfold coef
  rw [List.getD_eq_getElem?_getD, List.getElem?_append]
  split <;> rw [List.getD_eq_getElem?_getD]
theorem coef_rep {n m : Nat} : coef (List.replicate n 0) m = 0 := by
  by_cases h : m < n
  · rw [coef_lt (by rw [List.length_replicate]; exact h), List.getElem_replicate]
  · exact coef_ge (by rw [List.length_replicate]; omega)
theorem coef_take {l : List Int} {n m : Nat} : coef (l.take n) m = if m < n then coef l m else 0 := by
  unfold coef
  rw [List.getD_eq_getElem?_getD, List.getElem?_take]
  split
  · rw [List.getD_eq_getElem?_getD]
  · rfl
def mkL (n : Nat) (h : Nat → Int) : List Int := (List.range n).map h
theorem mkL_len (n : Nat) (h : Nat → Int) : (mkL n h).length = n := by
  unfold mkL
  rw [List.length_map, List.length_range]
theorem coef_mkL {n m : Nat} {h : Nat → Int} : coef (mkL n h) m = if m < n then h m else 0 := by
  split
  · rename_i q
    rw [coef_lt (by rw [mkL_len]; exact q)]
    unfold mkL
    rw [List.getElem_map, List.getElem_range]
  · rename_i q
    exact coef_ge (by rw [mkL_len]; omega)
theorem mkL_of {l : List Int} {n : Nat} {h : Nat → Int} (hl : l.length = n) (e : ∀ m, m < n → coef l m = h m) : l = mkL n h := by
  refine ext_of (by rw [mkL_len, hl]) fun m hm => ?_
  rw [hl] at hm
  rw [e m hm, coef_mkL, if_pos hm]

/-! ### without a nought at the end -/
def Tr (l : List Int) : Prop := l ≠ [] → coef l (l.length - 1) ≠ 0
theorem Tr.nil : Tr [] := fun h => absurd rfl h
theorem tr_uniq {a b : List Int} (ha : Tr a) (hb : Tr b) (h : ∀ m, coef a m = coef b m) : a = b := by
  have key : ∀ {a b : List Int}, Tr b → (∀ m, coef a m = coef b m) → ¬ a.length < b.length := fun {a b} hb h q => by
    refine hb (fun e => by rw [e] at q; exact absurd q (Nat.not_lt_zero _)) ?_
    rw [← h]
    exact coef_ge (by omega)
  have h1 := key hb h
  have h2 := key ha (fun m => (h m).symm)
  exact ext_of (by omega) fun m _ => h m
/-- how many of the first n numbers stay -/
def tlen (l : List Int) : Nat → Nat
  | 0 => 0
  | n + 1 => if coef l n = 0 then tlen l n else n + 1
def trim (l : List Int) : List Int := l.take (tlen l l.length)
theorem tlen_le (l : List Int) : ∀ n, tlen l n ≤ n
  | 0 => Nat.le_refl _
  | n + 1 => by
    unfold tlen
    have := tlen_le l n
    split <;> omega
theorem tlen_zero (l : List Int) : ∀ n m, tlen l n ≤ m → m < n → coef l m = 0
  | 0, m, _, h => absurd h (Nat.not_lt_zero _)
  | n + 1, m, h1, h2 => by
    unfold tlen at h1
    split at h1
    · rename_i q
      by_cases e : m = n
      · rw [e]; exact q
      · exact tlen_zero l n m h1 (by omega)
    · omega
theorem tlen_last (l : List Int) : ∀ n, tlen l n ≠ 0 → coef l (tlen l n - 1) ≠ 0
  | 0, h => absurd rfl h
  | n + 1, h => by
    unfold tlen at h ⊢
    split
    · rename_i q
      rw [if_pos q] at h
      exact tlen_last l n h
    · rename_i q
      rw [Nat.add_sub_cancel]
      exact q
theorem trim_len (l : List Int) : (trim l).length = tlen l l.length := by
  unfold trim
  rw [List.length_take]
  have := tlen_le l l.length
  omega
theorem coef_trim (l : List Int) (m : Nat) : coef (trim l) m = coef l m := by
  unfold trim
  rw [coef_take]
  split
  · rfl
  · rename_i h
    by_cases q : m < l.length
    · exact (tlen_zero l _ m (by omega) q).symm
    · exact (coef_ge (by omega)).symm
theorem tr_trim (l : List Int) : Tr (trim l) := fun h => by
  have e := trim_len l
  have n0 : tlen l l.length ≠ 0 := fun q => h (List.eq_nil_of_length_eq_zero (by omega))
  rw [coef_trim, e]
  exact tlen_last l _ n0
theorem trim_of_tr {l : List Int} (h : Tr l) : trim l = l := tr_uniq (tr_trim l) h (coef_trim l)
theorem trim_ext {a b : List Int} (h : ∀ m, coef a m = coef b m) : trim a = trim b := tr_uniq (tr_trim a) (tr_trim b) fun m => by rw [coef_trim, coef_trim, h]
theorem trim_eq {a b : List Int} (hb : Tr b) (h : ∀ m, coef a m = coef b m) : trim a = b := tr_uniq (tr_trim a) hb fun m => by rw [coef_trim, h]

/-! ### sums -/
def addL (c : Int) (f g : List Int) : List Int := mkL (max f.length g.length) fun m => coef f m + c * coef g m
theorem coef_addL (c : Int) (f g : List Int) (m : Nat) : coef (addL c f g) m = coef f m + c * coef g m := by
  unfold addL
  rw [coef_mkL]
  split
  · rfl
  · rename_i h
    rw [coef_ge (show f.length ≤ m by omega), coef_ge (show g.length ≤ m by omega)]
    simp
def addP (c : Int) (f g : List Int) : List Int := trim (addL c f g)
theorem coef_addP (c : Int) (f g : List Int) (m : Nat) : coef (addP c f g) m = coef f m + c * coef g m := by
  unfold addP
  rw [coef_trim, coef_addL]
theorem coef_neg (g : List Int) (m : Nat) : coef (g.map fun x => -x) m = -coef g m := by
  by_cases h : m < g.length
  · rw [coef_lt (by rw [List.length_map]; exact h), coef_lt h, List.getElem_map]
  · rw [coef_ge (by rw [List.length_map]; omega), coef_ge (by omega)]
    rfl
theorem addP_neg (f g : List Int) : addP 1 f (g.map fun x => -x) = addP (0 - 1) f g := trim_ext fun m => by
  rw [coef_addL, coef_addL, coef_neg]
  omega

/-! ### products -/
/-- the number of the m-th power in the product of the first i numbers of f, and g -/
def cv (f g : List Int) : Nat → Nat → Int
  | 0, _ => 0
  | i + 1, m => cv f g i m + if i ≤ m then coef f i * coef g (m - i) else 0
theorem cv_far (f g : List Int) (m : Nat) : ∀ i, i + g.length ≤ m + 1 → cv f g i m = 0
  | 0, _ => rfl
  | i + 1, h => by
    unfold cv
    rw [cv_far f g m i (by omega), if_pos (by omega), coef_ge (show g.length ≤ m - i by omega)]
    simp
theorem cv_last {f g : List Int} (hf : f ≠ []) (hg : g ≠ []) : cv f g f.length (f.length + g.length - 2) = coef f (f.length - 1) * coef g (g.length - 1) := by
  have l1 := List.length_pos_iff.mpr hf
  have l2 := List.length_pos_iff.mpr hg
  obtain ⟨n, e⟩ : ∃ n, f.length = n + 1 := ⟨f.length - 1, by omega⟩
  rw [e]
  unfold cv
  rw [cv_far f g _ n (by omega), if_pos (by omega), Nat.add_sub_cancel, show n + 1 + g.length - 2 - n = g.length - 1 by omega]
  simp
/-- as the program multiplies, as the law does -/
def mulP (f g : List Int) : List Int := if f = [] ∨ g = [] then [] else mkL (f.length + g.length - 1) (cv f g f.length)
def mulL (f g : List Int) : List Int := trim (mkL (f.length + g.length) (cv f g f.length))
theorem coef_mulP (f g : List Int) (m : Nat) : coef (mulP f g) m = cv f g f.length m := by
  unfold mulP
  split
  · rename_i h
    rw [coef_nil]
    rcases h with h | h
    · rw [h]
      rfl
    · subst h
      symm
      have : ∀ i, cv f [] i m = 0 := fun i => by
        induction i with
        | zero => rfl
        | succ i ih =>
          unfold cv
          rw [ih, coef_nil]
          simp
      exact this _
  · rename_i h
    rw [coef_mkL]
    split
    · rfl
    · rename_i q
      exact (cv_far f g m _ (by omega)).symm
theorem coef_mulL (f g : List Int) (m : Nat) : coef (mulL f g) m = cv f g f.length m := by
  unfold mulL
  rw [coef_trim, coef_mkL]
  split
  · rfl
  · rename_i q
    exact (cv_far f g m _ (by omega)).symm
theorem tr_mulP {f g : List Int} (hf : Tr f) (hg : Tr g) : Tr (mulP f g) := by
  intro h
  unfold mulP at h ⊢
  split
  · rename_i q
    rw [if_pos q] at h
    exact absurd rfl h
  · rename_i q
    have q1 : f ≠ [] := fun e => q (.inl e)
    have q2 : g ≠ [] := fun e => q (.inr e)
    have l1 := List.length_pos_iff.mpr q1
    have l2 := List.length_pos_iff.mpr q2
    rw [mkL_len, coef_mkL, if_pos (by omega), show f.length + g.length - 1 - 1 = f.length + g.length - 2 by omega, cv_last q1 q2]
    exact Int.mul_ne_zero (hf q1) (hg q2)
theorem mul_eq {f g : List Int} (hf : Tr f) (hg : Tr g) : mulL f g = mulP f g := by
  unfold mulL
  refine trim_eq (tr_mulP hf hg) fun m => ?_
  rw [coef_mulP, ← coef_mulL]
  unfold mulL
  rw [coef_trim]

/-! ### at a power -/
def pw (f : List Int) (k m : Nat) : Int := if m % k = 0 then coef f (m / k) else 0
def atP (f : List Int) (k : Nat) : List Int := if f = [] then [] else mkL ((f.length - 1) * k + 1) (pw f k)
def wideL (k : Nat) : List Int → List Int
  | [] => []
  | x :: f => x :: List.replicate (k - 1) 0 ++ wideL k f
theorem pw_far {f : List Int} {k m : Nat} (hk : 1 ≤ k) (h : (f.length - 1) * k < m) : pw f k m = 0 := by
  unfold pw
  split
  · rename_i q
    refine coef_ge (Nat.le_of_not_lt fun r => ?_)
    have e := Nat.div_add_mod m k
    rw [q, Nat.add_zero] at e
    have : k * (m / k) ≤ k * (f.length - 1) := Nat.mul_le_mul_left k (by omega)
    rw [e, Nat.mul_comm] at this
    omega
  · rfl
theorem coef_atP {f : List Int} {k : Nat} (hk : 1 ≤ k) (m : Nat) : coef (atP f k) m = pw f k m := by
  unfold atP
  split
  · rename_i h
    subst h
    rw [coef_nil]
    unfold pw
    rw [coef_nil]
    split <;> rfl
  · rw [coef_mkL]
    split
    · rfl
    · exact (pw_far hk (by omega)).symm
theorem tr_atP {f : List Int} {k : Nat} (hk : 1 ≤ k) (hf : Tr f) : Tr (atP f k) := by
  intro h
  unfold atP at h ⊢
  split
  · rename_i q
    rw [if_pos q] at h
    exact absurd rfl h
  · rename_i q
    rw [mkL_len, Nat.add_sub_cancel, coef_mkL, if_pos (by omega)]
    unfold pw
    rw [Nat.mul_mod_left, if_pos rfl, Nat.mul_div_cancel _ (by omega)]
    exact hf q
theorem coef_wide {k : Nat} (hk : 1 ≤ k) : ∀ (f : List Int) (m : Nat), coef (wideL k f) m = pw f k m
  | [], m => by
    unfold pw
    rw [coef_nil]
    show coef [] m = _
    rw [coef_nil]
    split <;> rfl
  | x :: f, m => by
    have hl : (x :: List.replicate (k - 1) (0 : Int)).length = k := by
      rw [List.length_cons, List.length_replicate]
      omega
    show coef ((x :: List.replicate (k - 1) 0) ++ wideL k f) m = _
    rw [coef_app, hl]
    split
    · rename_i h
      unfold pw
      cases m with
      | zero =>
        rw [Nat.zero_mod, if_pos rfl, Nat.zero_div]
        rfl
      | succ m =>
        rw [Nat.mod_eq_of_lt h, if_neg (by omega)]
        show coef (List.replicate (k - 1) 0) m = 0
        exact coef_rep
    · rename_i h
      rw [coef_wide hk f (m - k)]
      unfold pw
      obtain ⟨d, rfl⟩ : ∃ d, m = k + d := ⟨m - k, by omega⟩
      rw [Nat.add_sub_cancel_left, Nat.add_mod_left, Nat.add_div_left _ (by omega)]
      rfl
theorem wide_eq {f : List Int} {k : Nat} (hk : 1 ≤ k) (hf : Tr f) : trim (wideL k f) = atP f k := trim_eq (tr_atP hk hf) fun m => by rw [coef_wide hk, coef_atP hk]
theorem wide_snoc (k : Nat) : ∀ (f : List Int) (x : Int), wideL k (f ++ [x]) = wideL k f ++ (x :: List.replicate (k - 1) 0)
  | [], x => by
    show x :: List.replicate (k - 1) 0 ++ [] = [] ++ _
    rw [List.append_nil, List.nil_append]
  | y :: f, x => by
    show y :: List.replicate (k - 1) 0 ++ wideL k (f ++ [x]) = (y :: List.replicate (k - 1) 0 ++ wideL k f) ++ _
    rw [wide_snoc k f x, List.append_assoc]
theorem wide_len {k : Nat} (hk : 1 ≤ k) : ∀ f : List Int, (wideL k f).length = f.length * k
  | [] => by
    show 0 = 0 * k
    omega
  | x :: f => by
    show (x :: List.replicate (k - 1) 0 ++ wideL k f).length = (f.length + 1) * k
    rw [List.length_append, List.length_cons, List.length_replicate, wide_len hk f, Nat.add_mul]
    omega

/-! ### values -/
def valP (x : Int) : List Int → Int
  | [] => 0
  | a :: f => a + x * valP x f
theorem val_drop {x : Int} {f : List Int} {i : Nat} {a : Int} (h : f[i]? = some a) : valP x (f.drop i) = a + x * valP x (f.drop (i + 1)) := by
  have hi := (List.getElem?_eq_some_iff.mp h).1
  rw [List.drop_eq_getElem_cons hi]
  have e : f[i] = a := (List.getElem?_eq_some_iff.mp h).2
  rw [e]
  rfl
end Kp

/-! Whole numbers: the whole root, primes, how a number is parted, its divisors. -/
namespace Kp
theorem sq_nn (a : Int) : 0 ≤ a * a := by
  rcases Int.le_total 0 a with h | h
  · exact Int.mul_nonneg h h
  · have := Int.mul_nonneg (show 0 ≤ -a by omega) (show 0 ≤ -a by omega)
    rwa [Int.neg_mul_neg] at this
theorem sq_sub (a b : Int) : (a - b) * (a - b) = a * a - 2 * (a * b) + b * b := by
  rw [Int.sub_mul, Int.mul_sub, Int.mul_sub, Int.mul_comm b a]
  omega
theorem sq_add (a b : Int) : (a + b) * (a + b) = a * a + 2 * (a * b) + b * b := by
  rw [Int.add_mul, Int.mul_add, Int.mul_add, Int.mul_comm b a]
  omega
theorem sq_lt {a b : Int} (ha : 0 ≤ a) (hb : 0 ≤ b) (h : a * a < b * b) : a < b := by
  refine Int.lt_of_not_ge fun q => ?_
  have := Int.mul_le_mul q q hb ha
  omega
/-- the whole root by one step from a whole root of a part -/
theorem newton {n x e : Int} (hx : 0 < x) (he : 1 ≤ e) (h1 : n < x * x) (h2 : (x - e) * (x - e) ≤ n) (h0 : e ≤ x) (h3 : (e * e) * (e * e) ≤ 2 * n) (hn : 0 < n) :
    n < ((x + n / x) / 2 + 1) * ((x + n / x) / 2 + 1) ∧ 0 < (x + n / x) / 2 ∧ ((x + n / x) / 2 - 1) * ((x + n / x) / 2 - 1) ≤ n := by
  have d1 := Int.mul_ediv_add_emod n x
  have d2 := Int.emod_nonneg n (show x ≠ 0 by omega)
  have d3 := Int.emod_lt_of_pos n hx
  have dq : 0 ≤ n / x := Int.ediv_nonneg (by omega) (by omega)
  generalize hq : n / x = q at *
  generalize hy : (x + q) / 2 = y at *
  have y1 : 2 * y ≤ x + q := by omega
  have y2 : x + q ≤ 2 * y + 1 := by omega
  have y0 : 0 ≤ y := by omega
  -- 2 y x <= x x + n and 2 (y + 1) x >= x x + n + 1
  have a1 : 2 * (y * x) ≤ x * x + x * q := by
    have := Int.mul_le_mul_of_nonneg_right y1 (show 0 ≤ x by omega)
    rw [Int.add_mul, Int.mul_assoc, Int.mul_comm q x] at this
    exact this
  have a2 : x * x + x * q + x ≤ 2 * ((y + 1) * x) := by
    have := Int.mul_le_mul_of_nonneg_right (show x + q + 1 ≤ 2 * (y + 1) by omega) (show 0 ≤ x by omega)
    rw [Int.add_mul, Int.add_mul, Int.mul_assoc, Int.mul_comm q x, Int.one_mul] at this
    exact this
  have up : n < (y + 1) * (y + 1) := by
    have s := sq_nn (y + 1 - x)
    rw [sq_sub] at s
    omega
  have qx : q < x := by
    refine Int.lt_of_not_ge fun r => ?_
    have := Int.mul_le_mul_of_nonneg_left r (show 0 ≤ x by omega)
    omega
  have yx : y < x := by omega
  refine ⟨up, ?_, ?_⟩
  · refine Int.lt_of_not_ge fun r => ?_
    have : y = 0 := by omega
    subst this
    rw [Int.zero_add, Int.one_mul] at up
    omega
  · refine Int.le_of_not_gt fun r => ?_
    -- z = y - 1 > root: x - z < e, its square beyond 2 x, so 2 x < e e, but e e e e <= 2 n < 4 x x
    have z0 : 0 ≤ y - 1 := by
      refine Int.le_of_not_gt fun r2 => ?_
      have : y = 0 := by omega
      subst this
      rw [Int.zero_add, Int.one_mul] at up
      omega
    have b1 : x - e < y - 1 := sq_lt (by omega) z0 (by omega)
    have b2 : x * x - 2 * (x * (y - 1)) + (y - 1) * (y - 1) > 2 * x := by
      have : x * (y - 1) = y * x - x := by rw [Int.mul_sub, Int.mul_one, Int.mul_comm]
      omega
    rw [← sq_sub] at b2
    have b3 : (x - (y - 1)) * (x - (y - 1)) ≤ e * e := Int.mul_le_mul (by omega) (by omega) (by omega) (by omega)
    have b4 : 2 * x < e * e := by omega
    have b5 : (2 * x) * (2 * x) < (e * e) * (e * e) := Int.mul_lt_mul b4 (Int.le_of_lt b4) (by omega) (by omega)
    have b6 : (2 * x) * (2 * x) = 4 * (x * x) := by
      rw [Int.mul_assoc, Int.mul_left_comm x 2 x]
      omega
    omega
open PySem.Float64 in
theorem root_ok : ∀ (L n : Nat), n.log2 ≤ L → rootByHalves L n * rootByHalves L n ≤ n ∧ n < (rootByHalves L n + 1) * (rootByHalves L n + 1) := by
  have small : ∀ n, n < 8 → rootBelow8 n * rootBelow8 n ≤ n ∧ n < (rootBelow8 n + 1) * (rootBelow8 n + 1) := by decide
  intro L
  induction L with
  | zero =>
    intro n h
    have : n < 2 := by
      by_cases h0 : n = 0
      · omega
      · exact (Nat.log2_lt h0).mp (by omega : n.log2 < 1)
    exact small n (by omega)
  | succ L ih =>
    intro n h
    unfold rootByHalves
    by_cases h8 : n < 8
    · rw [if_pos h8]
      exact small n h8
    · rw [if_neg h8]
      have l3 : 3 ≤ n.log2 := (Nat.le_log2 (by omega)).mpr (by omega)
      simp only
      generalize hk : (n.log2 + 1) / 4 = k
      have k1 : 1 ≤ k := by omega
      have p4 : 0 < 4 ^ k := Nat.pow_pos (by decide)
      have e4 : (4 : Nat) ^ k = 2 ^ k * 2 ^ k := by
        rw [← Nat.mul_pow]
      have hlog : (n / 4 ^ k).log2 ≤ L := by
        by_cases h0 : n / 4 ^ k = 0
        · rw [h0]
          exact Nat.zero_le _
        · have : (n / 4 ^ k).log2 < L + 1 := (Nat.log2_lt h0).mpr (by
            have h1 : n < 2 ^ (L + 2) := (Nat.log2_lt (by omega)).mp (by omega)
            refine Nat.div_lt_of_lt_mul ?_
            have h2 : (4 : Nat) ^ 1 ≤ 4 ^ k := Nat.pow_le_pow_right (by decide) k1
            have h3 : 2 * 2 ^ (L + 1) ≤ 4 ^ k * 2 ^ (L + 1) := Nat.mul_le_mul_right _ (by omega)
            rw [show L + 2 = (L + 1) + 1 from rfl, Nat.pow_succ] at h1
            omega)
          omega
      obtain ⟨s1, s2⟩ := ih (n / 4 ^ k) hlog
      generalize rootByHalves L (n / 4 ^ k) = s at *
      have two : 0 < 2 ^ k := Nat.pow_pos (by decide)
      -- e ^ 4 <= 2 n
      have hee : (2 ^ k * 2 ^ k) * (2 ^ k * 2 ^ k) ≤ 2 * n := by
        rw [← Nat.pow_add, ← Nat.pow_add]
        have h1 : 2 ^ n.log2 ≤ n := Nat.log2_self_le (by omega)
        have h2 : 2 ^ (k + k + (k + k)) ≤ 2 ^ (n.log2 + 1) := Nat.pow_le_pow_right (by decide) (by omega)
        rw [Nat.pow_succ] at h2
        omega
      have d1 := Nat.div_add_mod n (4 ^ k)
      have d2 := Nat.mod_lt n p4
      have hs1 : (s * 2 ^ k) * (s * 2 ^ k) ≤ n := by
        have : s * 2 ^ k * (s * 2 ^ k) = (s * s) * 4 ^ k := by
          rw [e4, Nat.mul_mul_mul_comm]
        rw [this]
        have h1 := Nat.mul_le_mul_right (4 ^ k) s1
        rw [Nat.mul_comm (n / 4 ^ k)] at h1
        omega
      have hs2 : n < ((s + 1) * 2 ^ k) * ((s + 1) * 2 ^ k) := by
        have : (s + 1) * 2 ^ k * ((s + 1) * 2 ^ k) = ((s + 1) * (s + 1)) * 4 ^ k := by
          rw [e4, Nat.mul_mul_mul_comm]
        rw [this]
        have h1 := Nat.mul_le_mul_right (4 ^ k) (show n / 4 ^ k + 1 ≤ (s + 1) * (s + 1) by omega)
        rw [Nat.add_mul, Nat.one_mul, Nat.mul_comm (n / 4 ^ k)] at h1
        omega
      generalize hx : (s + 1) * 2 ^ k = x at *
      generalize hE : 2 ^ k = e at *
      have hxe : x = s * e + e := by rw [← hx, Nat.add_mul, Nat.one_mul]
      have N := newton (n := (n : Int)) (x := (x : Int)) (e := (e : Int)) (by omega) (by omega) (by exact_mod_cast hs2) (by
        have : (x : Int) - (e : Int) = ((s * e : Nat) : Int) := by omega
        rw [this]
        exact_mod_cast hs1) (by omega) (by exact_mod_cast hee) (by omega)
      have ec : (((x + n / x) / 2 : Nat) : Int) = ((x : Int) + (n : Int) / (x : Int)) / 2 := by
        rw [Int.natCast_ediv, Int.natCast_add, Int.natCast_ediv]
        rfl
      rw [← ec] at N
      generalize (x + n / x) / 2 = y at *
      obtain ⟨N1, N2, N3⟩ := N
      have N1' : n < (y + 1) * (y + 1) := by exact_mod_cast N1
      have y1 : 1 ≤ y := by omega
      have N3' : (y - 1) * (y - 1) ≤ n := by
        have : ((y - 1 : Nat) : Int) = (y : Int) - 1 := by omega
        rw [← this] at N3
        exact_mod_cast N3
      split
      · rename_i hy
        refine ⟨N3', ?_⟩
        rw [Nat.sub_add_cancel y1]
        exact hy
      · rename_i hy
        exact ⟨Nat.le_of_not_gt hy, N1'⟩
theorem isqrt_ok (n : Nat) : PySem.Float64.isqrt n * PySem.Float64.isqrt n ≤ n ∧ n < (PySem.Float64.isqrt n + 1) * (PySem.Float64.isqrt n + 1) := root_ok n.log2 n (Nat.le_refl _)
end Kp

/-! An error of the text's own that an except suite keeps by a name, to be asked of behind the try. -/
namespace Kp
open PySem PySem.Spec PyProof.Rows L2 Evl

/-- at a stands an error of the class cls that has no dict of its own -/
def ExV (cls : Value) (a : Addr) : HO := .ext fun h => ∃ (o : Obj) (fs : Array Value), h.get? a = some o ∧ o.cls = cls ∧ o.dict = none ∧ o.data = .fields fs
section
variable {X : Cx} {pins : List (Addr × Obj)} {σ : L2.St} {H : Hp} {s : Shared}
/-- an object of ours that was pinned and not tracked is tracked from here on -/
theorem track {a : Addr} {o : Obj} {fs : Array Value} {cls : Value} (I : Inv X ((a, o) :: pins) σ H s) (n0 : X.s_0.heap.get? a = none) (nP : ∀ p ∈ X.pn ++ pins, p.1 ≠ a) (h1 : o.cls = cls) (h2 : o.dict = none) (h3 : o.data = .fields fs) :
    Inv X pins σ (upd H a (ExV cls a)) s := by
  obtain ⟨pa, pn, pl, pf, pc⟩ := I.pin (a, o) (List.mem_append_right _ (List.mem_cons_self ..))
  have old : ∀ {b : Addr} {u : Obj}, X.s_0.heap.get? b = some u → b ≠ a := fun {b u} e z => by
    subst z
    rw [n0] at e
    cases e
  have tr : ∀ {b : Addr} {u : HO}, H b = some u → b ≠ a := fun {b u} e => ne_of_none e pn
  exact {
    ok := I.ok
    os := I.os
    bare := I.bare
    base := {
      keep := I.base.keep
      slot := I.base.slot
      free := fun b u e n x => (upd_ne (old e)).trans (I.base.free b u e n x)
      there := I.base.there
      tups := fun b xs e => (upd_ne (tr (I.base.tups b xs e))).trans (I.base.tups b xs e)
      frzs := fun b u xs e => (upd_ne (tr (I.base.frzs b u xs e))).trans (I.base.frzs b u xs e)
      tbls := fun b ps e => by
        obtain ⟨m, q⟩ := I.base.tbls b ps e
        exact ⟨m, (upd_ne (tr q)).trans q⟩ }
    loc := I.loc
    cell := I.cell
    free := (upd_ne (Ne.symm pl)).trans I.free
    freeC := fun y c e => by
      have nc : c ≠ a := fun z => by
        obtain ⟨v, ⟨u, hu, du⟩⟩ := I.cell y c e
        rw [z] at hu
        have q : some u = some o := hu.symm.trans pa
        cases q
        exact pc _ du
      exact (upd_ne nc).trans (I.freeC y c e)
    pin := fun p hp => by
      have q := I.pin p (by
        rcases List.mem_append.mp hp with z | z
        · exact List.mem_append_left _ z
        · exact List.mem_append_right _ (List.mem_cons_of_mem _ z))
      exact ⟨q.1, (upd_ne (nP p hp)).trans q.2.1, q.2.2⟩
    hok := I.hok.laidN (fun _ _ e => e) pn ⟨⟨o, fs, pa, h1, h2, h3⟩, ⟨o, pa⟩, fun g g' ⟨u, us, q, r⟩ k => ⟨u, us, k u q, r⟩⟩
    len := I.len }
end

/-- what is wished of an error of the body where the suite is «y = n»: slot i is n's, slot j is y's; the clause always meets -/
def wKeep (K : PySem.W.Frag) (c : Value) (i j : Nat) (D : Ends) : WX := fun cls d σ H => PySem.W.exmOne K cls c = some true ∧ d = none ∧
  ∀ a, H a = none → D.nx (((σ.set i (some (.ref a))).set j (some (.ref a))).set i none) (upd H a (ExV cls a))
section
variable {X : Cx} {x n : Str} {c : Value} {i j : Nat} {body : List Stmt} {st : Stmt} {np pos pos' : Pos} {tb : WX → TS}
theorem keep_caught {pins : List (Addr × Obj)} {D : Ends} {u : Value} {s' : Shared} {xe : Value → Shared → Prop} (ok : X.Ok) (hs : X.stack = X.env :: X.outer) (hf : X.env.frame = some X.env.locals) (hex : X.ex = []) (hN : X.N.Nodup) (hi : X.N[i]? = some n) (hln : X.env.kindOf n = some .local) (hc : Names X x c)
    (hsu : ∀ (a : Addr) (o : Obj) (pn : List (Addr × Obj)), PSs (X.suite a ((a, o) :: pn)) [st] (tAsg (tVar i) (gName j))) (hij : i < X.N.length)
    (xx : XE (X.tr (X.pn ++ pins) xe) (wKeep X.K c i j D) u s') :
    wpAny (model X.prog X.w) X.A (noteFrame u X.env) (fun _ s₂ => wpAny (model X.prog X.w) X.A (setFlight u none) (fun _ s₃ => wpAny (model X.prog X.w) X.A (handleBy u X.env [.ExceptHandler (some (.Name x np)) (some n) [st] pos']) (SP X pins D) X.xe s₃) X.xe s₂) X.xe s' := by
  obtain ⟨a, B, sI, pins', σ', H', cls, d, rfl, JJ, nb, up, sky, na, os, ag, meets, rfl, wish⟩ := xx
  have J : Inv X pins σ' H' sI := Inv.ofTry JJ ok
  have frames : X.A.frames = some (X.env :: X.outer) := ok.frames.trans (congrArg some hs)
  have ground : B.get? a = none := by
    rcases sky with q | q | q
    · exact q.2.1
    · exact q.2.1
    · exact q.2.1
  have sky2 : Sky B (X.env :: X.outer) a (Zc cls none) X.env.locals s'.heap := hs ▸ sky
  refine Sky.land Zc.steady frames hf sky2 fun g fl upg => ?_
  -- the error is no frame's object
  obtain ⟨o, fs, ho, hz, hd⟩ := fl.there
  have noFrame : a ∉ frs (X.env :: X.outer) := fun m => by
    obtain ⟨_, o2, e2, no⟩ := fl.2.2.1.mem m
    have q := Option.some.inj (e2.symm.trans ho)
    exact no fs (q ▸ hd)
  have nL : a ≠ X.env.locals := fun z => noFrame (List.mem_filterMap.mpr ⟨X.env, List.mem_cons_self .., by rw [hf, z]⟩)
  have nF : a ∉ X.fs := fun m => by
    obtain ⟨e, he, q⟩ := List.mem_filterMap.mp m
    exact noFrame (List.mem_filterMap.mpr ⟨e, List.mem_cons_of_mem _ he, q⟩)
  have newI : sI.heap.get? a = none := by
    cases q : sI.heap.get? a with
    | none => rfl
    | some w =>
      have z := nb a w q (by
        show a ∉ frs X.stack
        rw [hs]
        exact noFrame)
      rw [ground] at z
      cases z
  have new0 : X.s_0.heap.get? a = none := by
    cases q : X.s_0.heap.get? a with
    | none => rfl
    | some w =>
      obtain ⟨w2, q2⟩ := J.base.there a w q (by
        rw [hex]
        exact fun z => nomatch z)
      rw [newI] at q2
      cases q2
  have newP : ∀ p ∈ X.pn ++ pins, p.1 ≠ a := fun p hp z => by
    have q := (J.pin p hp).1
    rw [z, newI] at q
    cases q
  have JG : Inv X pins σ' H' { s' with heap := g } := J.landed nb fl.1 (up.trans upg) os ag
  have SG := JG.suite ho hd na nL nF
  -- the clause's class is asked
  refine wpAny_handleBy_cons (codeAny_handlers_test ?_) (fun z => nomatch z)
  have kind : PySem.W.Looks (model X.prog X.w) g (typeOf (.ref a)) cls := fun A Q E t k q => wpAny_typeOf_ref (k _ _ ho) (by
    rw [hz.1]
    exact q)
  have ask := PySem.W.exm_one (M := model X.prog X.w) JG.kIn kind meets
  have named : ∀ {Q E : Value → Shared → Prop}, Q c { s' with heap := g } → wpAny (model X.prog X.w) (X.A.mark (some (.ref a))) (eval (.Name x np) X.env) Q E { s' with heap := g } := fun {Q E} q => by
    obtain ⟨g1, g2, g3⟩ := hc
    rcases g3 with m | ⟨m1, m2, m3⟩
    · exact ld_glob (X := X.suite a ((a, o) :: (X.pn ++ pins))) SG g1 m q g2
    · exact ld_blt (X := X.suite a ((a, o) :: (X.pn ++ pins))) SG g1 m1 m2 q m3 g2
  refine named (ask.here ?_)
  -- the suite
  refine codeAny_handlers_suite_as (HandSPX.lands_againZ fl fun g2 fl2 up2 => ?_)
  have J2 : Inv X pins σ' H' { s' with heap := g2 } := J.landed nb fl2.1 ((up.trans upg).trans up2) os ag
  obtain ⟨o2, fs2, ho2, hz2, hd2⟩ := fl2.there
  have S2 := J2.suite ho2 hd2 na nL nF
  refine store_ok (X := X.suite a ((a, o2) :: (X.pn ++ pins))) (v := .ref a) S2 hN hi (.inl hln) rfl (fun s5 S5 => ?_) (.inr hln)
  have len : i < σ'.length := by
    rw [J.len]
    exact hij
  have reads : tAsg (tVar i) (gName j) { nx := fun σ2 H2 => σ2 = (σ'.set i (some (.ref a))).set j (some (.ref a)) ∧ H2 = H', rt := fun _ _ => False } (σ'.set i (some (.ref a))) H' :=
    ⟨.ref a, List.getElem?_set_self len, rfl, rfl⟩
  refine wpAny_mono ((hsu a o2 (X.pn ++ pins)).run [] s5 _ H' _ S5 reads) (fun f s6 q => ?_) (fun _ _ z => z.elim)
  cases f with
  | next =>
    obtain ⟨σ6, H6, S6, rfl, rfl⟩ := q
    obtain ⟨t1, t2, t3, t4, t5⟩ := S6.pin (a, o2) (List.mem_append_left _ (List.mem_cons_self ..))
    have U6 : Inv X pins _ _ s6 := S6.unsuite ok
    have P6 : Inv X ((a, o2) :: pins) _ _ s6 := U6.pins_of fun p hp => by
      rcases List.mem_cons.mp hp with rfl | m
      · exact ⟨t1, t2, t3, t4, t5⟩
      · exact U6.pin p (List.mem_append_right _ m)
    exact gone_ok P6 hN hi hln fun s7 J7 => ⟨_, _, track J7 new0 newP hz2.1 hz2.2 hd2, wish a na⟩
  | brk =>
    obtain ⟨_, _, _, z⟩ := q
    exact z.elim
  | cont =>
    obtain ⟨_, _, _, z⟩ := q
    exact z.elim
  | ret v =>
    obtain ⟨_, _, _, _, _, z⟩ := q
    exact z.elim
theorem ps_try_keep (hs : X.stack = X.env :: X.outer) (hf : X.env.frame = some X.env.locals) (hex : X.ex = []) (hN : X.N.Nodup) (hi : X.N[i]? = some n) (hln : X.env.kindOf n = some .local) (hc : Names X x c) (hij : i < X.N.length)
    (hb : ∀ (W : WX) (pn : List (Addr × Obj)) (xe : Value → Shared → Prop), Takes (X.tr pn xe) W → PassesOwn (model X.prog X.w) X.A X.env xe → PSs (X.tr pn xe) body (tb W))
    (hsu : ∀ (a : Addr) (o : Obj) (pn : List (Addr × Obj)), PSs (X.suite a ((a, o) :: pn)) [st] (tAsg (tVar i) (gName j))) :
    PS X (.Try body [.ExceptHandler (some (.Name x np)) (some n) [st] pos'] [] [] pos) (fun D σ H => tb (wKeep X.K c i j D) D σ H) := by
  refine ⟨fun pins s σ H D I h => wpAny_Try_except ?_⟩
  have ok := I.ok
  have run := (hb (wKeep X.K c i j D) (X.pn ++ pins) _ (fun u s' xx => keep_caught (np := np) (pos' := pos') ok hs hf hex hN hi hln hc hsu hij xx) PassesOwn.looking).run [] s σ H D (I.toTry _) h
  refine wpAny_mono run (fun f s1 q => ?_) (fun _ _ z => z)
  cases f with
  | next =>
    obtain ⟨σ1, H1, J, z⟩ := q
    exact wpAny_execs_nil ⟨σ1, H1, J.ofTry ok, z⟩
  | brk =>
    obtain ⟨σ1, H1, J, z⟩ := q
    exact ⟨σ1, H1, J.ofTry ok, z⟩
  | cont =>
    obtain ⟨σ1, H1, J, z⟩ := q
    exact ⟨σ1, H1, J.ofTry ok, z⟩
  | ret v =>
    obtain ⟨v1, σ1, H1, J, r, z⟩ := q
    exact ⟨v1, σ1, H1, J.ofTry ok, r, z⟩
end

/-! ### isinstance of such an error -/
section
variable {X : Cx}
/-- isinstance(e, c); isinstance(e, (c1, c2, ..)) -/
def rIsX (K : PySem.W.Frag) (C : Addr) : List V → Hp → VK → Prop := fun xs H Q => ∃ (a : Addr) (c : V) (u : Value) (b : Bool), xs = [.ref a, c] ∧ H a = some (ExV (.ref C) a) ∧ ClsV c u ∧ PySem.W.kitOne K (.ref C) u = some b ∧ Q (.bl b) H
def rIsXT (K : PySem.W.Frag) (C : Addr) : List V → Hp → VK → Prop := fun xs H Q => ∃ (a tp : Addr) (cs : List V) (us : List Value) (b : Bool), xs = [.ref a, .ref tp] ∧ H a = some (ExV (.ref C) a) ∧ H tp = some (.tup cs) ∧ Paired ClsV cs us ∧ PySem.W.kitAny K (.ref C) us = some b ∧ Q (.bl b) H
theorem inst_of {pins : List (Addr × Obj)} {σ : L2.St} {H : Hp} {s : Shared} {a C : Addr} (I : Inv X pins σ H s) (h : H a = some (ExV (.ref C) a)) : ∃ o, PySem.W.InstAt s.heap a o C none := by
  obtain ⟨⟨o, fs, h1, h2, h3, h4⟩, _⟩ := I.hok a _ h
  obtain ⟨oc, od, dt, sl⟩ := o
  dsimp only at h2 h3 h4
  subst h2 h3 h4
  exact ⟨_, h1, rfl, rfl, trivial⟩
theorem call_isX {C : Addr} (T : ExcC X.K C) : CallR X (.builtin "isinstance") (rIsX X.K C) := by
  intro pins s σ H xs us Q I r h
  obtain ⟨a, c, u, b, rfl, ha, k, e, q⟩ := h
  obtain ⟨u1, u2, rfl, r1, r2⟩ := vals2 r
  obtain rfl := k.eq r2
  cases (show u1 = Value.ref a from r1)
  obtain ⟨o, J⟩ := inst_of I ha
  exact PySem.W.kia_one (PySem.W.handS_kitx_exc T.hg T.hk T.hs T.hd T.ha T.hn T.ht T.hm) I.kIn J e (fun z => nomatch z) fun tk => ⟨.bl b, H, I.tok tk, rfl, q⟩
theorem call_isXT {C : Addr} (T : ExcC X.K C) : CallR X (.builtin "isinstance") (rIsXT X.K C) := by
  intro pins s σ H xs us Q I r h
  obtain ⟨a, tp, cs, ws, b, rfl, ha, hT, k, e, q⟩ := h
  obtain ⟨u1, u2, rfl, r1, r2⟩ := vals2 r
  cases (show u1 = Value.ref a from r1)
  cases (show u2 = Value.ref tp from r2)
  obtain ⟨o, J⟩ := inst_of I ha
  obtain ⟨_, its, rv, ot, h1, h2, n, h3⟩ := I.hok tp _ hT
  obtain rfl := ClsV.all k rv
  obtain ⟨oc, od, dt, sl⟩ := ot
  dsimp only at h2 h3
  subst h2 h3
  exact PySem.W.kia_tup (PySem.W.handS_kitx_exc T.hg T.hk T.hs T.hd T.ha T.hn T.ht T.hm) I.kIn J h1 e (fun z => nomatch z) fun tk => ⟨.bl b, H, I.tok tk, rfl, q⟩
variable {K : PySem.W.Frag} {σ : L2.St} {H : Hp} {ta tb : TE} {C a : Addr}
theorem ev_isX {c : V} {u : Value} {b : Bool} (ha : Ev ta σ H (.ref a)) (hb : Ev tb σ H c) (h : H a = some (ExV (.ref C) a)) (k : ClsV c u) (e : PySem.W.kitOne K (.ref C) u = some b) : Ev (tCB (rIsX K C) (tCons ta (tCons tb tNil))) σ H (.bl b) := fun H1 e1 Q q =>
  ha H1 e1 _ fun H2 e2 => hb H2 (e1.trans e2) _ fun H3 e3 => ⟨a, c, u, b, rfl, (e1.trans (e2.trans e3)) _ _ h, k, e, q H3 (e2.trans e3)⟩
theorem ev_isXT {cs : List V} {us : List Value} {b : Bool} (ha : Ev ta σ H (.ref a)) (hb : EvU tb σ H cs) (h : H a = some (ExV (.ref C) a)) (k : Paired ClsV cs us) (e : PySem.W.kitAny K (.ref C) us = some b) : Ev (tCB (rIsXT K C) (tCons ta (tCons tb tNil))) σ H (.bl b) := fun H1 e1 Q q =>
  ha H1 e1 _ fun H2 e2 => hb H2 (e1.trans e2) _ fun p H3 np e3 hp => ⟨a, p, cs, us, b, rfl, (e1.trans (e2.trans e3)) _ _ h, hp, k, e, q H3 (e2.trans e3)⟩
end
end Kp

/-! Defs that raise; calls to them in a try; more of lists; one polynomial parted by another. -/
namespace Kp
open PySem PySem.Spec PyProof.Rows L2 Evl
/-- the class C, by the name x, straight under WheelError -/
structure OwnX (K : PySem.W.Frag) (mg : Str → Option Value) (x : Str) (C : Addr) : Prop where
  g : mg x = some (.ref C)
  kp : PySem.W.keepIn K (.ref C) = true
  xi : PySem.W.excIn K C [.type "ValueError", .type "Exception", .type "BaseException", .type "object"] "ValueError.__new__" = true
  ty : PySem.W.typeIn K (.ref C) = some (.type "type")
  e : ExcC K C
section
variable {P : Program} {w : World} {K : PySem.W.Frag} {mg : Str → Option Value} {base : Heap} {x : Str} {k : Nat} {ps N : List Str} {sp : Sp} {st : Stmt}
theorem Dfn.calX (d : Dfn K mg x ps st) (S : FnScope N ps (defScope st)) (len : ∀ vs H Q E, sp vs H Q E → vs.length = ps.length)
    (hbody : ∀ (f : Addr) (cdv : Value) (A : Around) (outer : List Env) (s : Shared) (H : Hp) (vs : List V) (Q : VK) (E : XK), Room k (A.deeper (envOfC x (defScope st) s.heap.objs.size f cdv)) → sp vs H Q E →
      ∃ t, PSs (cxOf (L2.CX P w) P w K mg base N x (defScope st) f cdv A outer s H E) (defBody st) t ∧ t { nx := fun _ H' => Q .non H', rt := Q } (start N vs) H) : Cal P w K mg base (L2.CX P w) x (k + 1) ps sp := by
  obtain ⟨f, fd, F, g, b⟩ := d
  exact ⟨f, fd, F.okX S len (hbody f), g, F.kp, b⟩
end
section
variable {X : Cx} {k : Nat} {ps : List Str} {sp : Sp} {W : WX} {x : Str} {p pos : Pos} {e : Expr} {es : List Expr} {t : TA}
theorem pe_calS (c : Cal X.prog X.w X.K X.mg X.base (L2.CX X.prog X.w) x k ps sp) (hr : Room k X.A) (hg : Gl X x) (tk : Takes X W)
    (ha : PA X (e :: es) t) (hdb : (x == ("__debug__" : Str)) = false := by decide) (he : starEach (e :: es) X.env = (false, eval e X.env) :: starEach es X.env := by rfl) (hpl : (backTo pos (starEach es X.env)).any (·.1) = false := by rfl) :
    PE X (.Call (.Name x p) (e :: es) [] pos) (tCallS sp (WE W) t) := by
  obtain ⟨f, fd, F, g, kp, b⟩ := c
  exact pe_callS F hr hg g kp b (fun σ => passAt tk σ) ha hdb he hpl
theorem pe_cls {C : Addr} (hg : Gl X x) (hm : X.mg x = some (.ref C)) (hd : (x == ("__debug__" : Str)) = false := by decide) : PE X (.Name x pos) (tC (.ref C)) := pe_glob hg hm rfl hd
theorem pmk_of {C : Addr} {m : Str} {j : Nat} {p2 : Pos} (T : OwnX X.K X.mg x C) (hg : Gl X x) (hdb : (x == ("__debug__" : Str)) = false := by decide) : PMk X (.Call (.Name x p) [.Constant (.str m) j p2] [] pos) (fun _ H Q => Q (.ref C) none H) :=
  pmk_own PySem.F.excBase_ValueError T.xi T.g T.kp (raises_own T.e.hs T.ty) hg hdb
end

/-! ### the class is asked -/
theorem exm_own {K : PySem.W.Frag} {mg : Str → Option Value} {x : Str} {B C : Addr} {b : Bool} (T : OwnX K mg x B) (h : PySem.W.subIn K (.ref C) (.ref B) = some b) : PySem.W.exmOne K (.ref C) (.ref B) = some b := PySem.W.exm_ref T.e.hs T.e.hd T.ty h

/-- by the name x the class D -/
structure GlX (mg : Str → Option Value) (x : Str) (D : Addr) : Prop where
  g : mg x = some (.ref D)
theorem kit_ref {K : PySem.W.Frag} {C D : Addr} {b : Bool} (hd : PySem.W.hasDictIn K D = true) (ht : PySem.W.typeIn K (.ref D) = some (.type "type")) (ne : C ≠ D) (h : PySem.W.subIn K (.ref C) (.ref D) = some b) : PySem.W.kitOne K (.ref C) (.ref D) = some b := by
  obtain ⟨cd, hc, _⟩ := PySem.W.any_some hd
  have e2 : ((PySem.W.clsIn K D).isSome && PySem.W.typeIn K (.ref D) == some (.type "type")) = true := by rw [hc, ht] <;> rfl
  unfold PySem.W.kitOne
  rw [if_neg (by simpa using ne)]
  show (if ((PySem.W.clsIn K D).isSome && PySem.W.typeIn K (.ref D) == some (.type "type")) = true then PySem.W.subIn K (.ref C) (.ref D) else none) = some b
  rw [if_pos e2]
  exact h
theorem kit_VE {K : PySem.W.Frag} {C : Addr} {b : Bool} (h : PySem.W.subIn K (.ref C) (.type "ValueError") = some b) : PySem.W.kitOne K (.ref C) (.type "ValueError") = some b := by
  unfold PySem.W.kitOne
  rw [if_neg (by simp)]
  show (if PySem.W.kitMeta "ValueError" = true then PySem.W.subIn K (.ref C) (.type "ValueError") else none) = some b
  rw [if_pos (by decide +kernel)]
  exact h
theorem cls_ne {K : PySem.W.Frag} {C D : Addr} (h1 : PySem.W.subIn K (.ref C) (.ref C) = some true) (h2 : PySem.W.subIn K (.ref C) (.ref D) = some false) : C ≠ D := fun e => by
  subst e
  rw [h1] at h2
  exact nomatch h2

/-! ### lists once more -/
section
variable {K : PySem.W.Frag} {D : Ends} {σ : L2.St} {H : Hp} {ta : TA} {tz : TS} {i : Nat}
theorem q_asgPop {te : TE} {l : Addr} {xs : List V} {y : V} (hl : H l = some (.lst (xs ++ [y]))) (ha : Ev te σ H (.ref l)) (k : ∀ H1, Ex H H1 → tz D (σ.set i (some y)) (upd H1 l (.lst xs))) :
    tSeq (tAsg (tBM0 K "list" rPop te) (gName i)) tz D σ H := ha H (Ex.refl H) _ fun H1 e1 =>
  ⟨Or.inl ⟨rfl, _, sq_of (e1 l _ hl)⟩, l, xs ++ [y], y, rfl, rfl, e1 l _ hl, by simp, by
    rw [List.dropLast_concat]
    exact k H1 e1⟩
theorem q_rev {te : TE} {l : Addr} {xs : List V} (hl : H l = some (.lst xs)) (ha : Ev te σ H (.ref l)) (k : ∀ H1, Ex H H1 → tz D σ (upd H1 l (.lst xs.reverse))) :
    tSeq (tDrop (tBM0 K "list" rReverse te)) tz D σ H := ha H (Ex.refl H) _ fun H1 e1 =>
  ⟨Or.inl ⟨rfl, _, sq_of (e1 l _ hl)⟩, l, xs, rfl, rfl, e1 l _ hl, k H1 e1⟩
theorem atI_last {α : Type} {xs : List α} {v : α} (h : xs[xs.length - 1]? = some v) : atI xs (-1) = some v := by
  have hj := (List.getElem?_eq_some_iff.mp h).1
  unfold atI ixN
  rw [if_neg (by omega), if_pos (by omega)]
  show xs[((-1 : Int) + (xs.length : Int)).toNat]? = some v
  rw [show ((-1 : Int) + (xs.length : Int)).toNat = xs.length - 1 by omega]
  exact h
theorem cut_init (xs : List V) : cutV xs none (some (-1)) = xs.take (xs.length - 1) := by
  unfold cutV
  rw [HT.sIx_none]
  show List.take ((if (-1 : Int) < 0 then ((-1 : Int) + (xs.length : Int)).toNat else min (-1 : Int).toNat xs.length) - 0) (xs.drop 0) = _
  rw [if_pos (by decide), Nat.sub_zero, List.drop_zero, show ((-1 : Int) + (xs.length : Int)).toNat = xs.length - 1 by omega]
end


section
variable {K : PySem.W.Frag} {D : Ends} {σ : L2.St} {H : Hp}
theorem ev_lenT {te : TE} {p : Addr} {xs : List V} (ha : Ev te σ H (.ref p)) (h : SqT K H p xs) : Ev (tCB (rLenS K) (tCons te tNil)) σ H (.int (xs.length : Int)) := fun H1 e Q q =>
  ha H1 e _ fun H2 e2 => ⟨p, xs, rfl, Or.inr (ex_t (e.trans e2) h), q H2 e2⟩
/-- a call whose first argument is a new list -/
theorem el_calL {sp : Sp} {t1 : TE} {ta : TA} {xs ys vs : List V} {E : XK} (h : EvL t1 σ H xs) (h2 : EvA ta σ H vs) (hs : ∀ p H1, Ex H H1 → H1 p = some (.lst xs) → ∀ Q : VK, RetL ys H1 Q → ∀ E : XK, sp (.ref p :: vs) H1 Q E) : EvL (tCall sp [] E (tCons t1 ta)) σ H ys := fun H1 e Q q =>
  h H1 e _ fun p H2 np e2 hp => h2 H2 (e.trans e2) _ fun H3 e3 => by
    show sp ((.ref p :: vs) ++ []) H3 Q E
    rw [List.append_nil]
    exact hs p H3 ((e.trans e2).trans e3) (e3 _ _ hp) Q (fun p' H4 hp' e4 h4 => q p' H4 (fresh_back (e2.trans e3) hp') ((e2.trans e3).trans e4) h4) E
theorem s_retVL {ta tb : TE} {v : V} {ys : List V} (h1 : Ev ta σ H v) (h2 : EvL tb σ H ys) (k : ∀ t q H1, H t = none → H q = none → Ex H H1 → H1 t = some (.tup [v, .ref q]) → H1 q = some (.lst ys) → D.rt (.ref t) H1) : tRet (tTup (tCons ta (tCons tb tNil))) D σ H :=
  h1 H (Ex.refl H) _ fun H1 e1 => h2 H1 e1 _ fun q H2 nq e2 hq => ⟨sz_of (show 2 ≤ 100000 by decide), fun t nt =>
    k t q _ (fresh_back (e1.trans e2) nt) (fresh_back e1 nq) ((e1.trans e2).trans (Ex.new nt)) upd_same (by rw [upd_ne (ne_of_none hq nt)]; exact hq)⟩
end

/-! ### parting -/
theorem cv_congr {a b g : List Int} {m : Nat} : ∀ i, (∀ j, j < i → coef a j = coef b j) → cv a g i m = cv b g i m
  | 0, _ => rfl
  | i + 1, h => by
    unfold cv
    rw [cv_congr i fun j hj => h j (by omega), h i (by omega)]
theorem cv_set {a b g : List Int} {m s : Nat} {x : Int} (h0 : coef a s = 0) (hs : coef b s = x) (h : ∀ j, j ≠ s → coef b j = coef a j) : ∀ i, s < i → cv b g i m = cv a g i m + if s ≤ m then x * coef g (m - s) else 0
  | 0, q => absurd q (Nat.not_lt_zero _)
  | i + 1, q => by
    unfold cv
    by_cases e : s = i
    · subst e
      rw [cv_congr s fun j hj => h j (by omega), hs, h0]
      split <;> simp
    · rw [cv_set h0 hs h i (by omega), h i (by omega)]
      omega
theorem cv_none {a g : List Int} {m : Nat} : ∀ i, (∀ j, j < i → coef a j = 0) → cv a g i m = 0
  | 0, _ => rfl
  | i + 1, h => by
    unfold cv
    rw [cv_none i fun j hj => h j (by omega), h i (by omega)]
    split <;> simp
end Kp

/-! Sums round n as lists: products by places, turned, spread. -/
namespace Kp
theorem addmod {i j n : Nat} (hi : i < n) (hj : j < n) : (i + j) % n = if i + j < n then i + j else i + j - n := by
  split
  · rename_i h
    exact Nat.mod_eq_of_lt h
  · rename_i h
    rw [Nat.mod_eq_sub_mod (by omega), Nat.mod_eq_of_lt (by omega)]
theorem submod {m i n : Nat} (hm : m < n) (hi : i < n) : (m + n - i) % n = if i ≤ m then m - i else m + n - i := by
  split
  · rename_i h
    rw [Nat.mod_eq_sub_mod (by omega), show m + n - i - n = m - i by omega, Nat.mod_eq_of_lt (by omega)]
  · rename_i h
    exact Nat.mod_eq_of_lt (by omega)
theorem addmod_eq {i j m n : Nat} (hi : i < n) (hj : j < n) (hm : m < n) : m = (i + j) % n ↔ (m + n - i) % n = j := by
  rw [addmod hi hj, submod hm hi]
  split <;> split <;> omega
/-- the number at the place m of the product of the first i numbers of f, and g -/
def cs (f g : List Int) (n : Nat) : Nat → Nat → Int
  | 0, _ => 0
  | i + 1, m => cs f g n i m + coef f i * coef g ((m + n - i) % n)
def mulS (f g : List Int) : List Int := mkL f.length (cs f g f.length f.length)
def addS (f g : List Int) : List Int := List.zipWith (· + ·) f g
theorem addS_len {f g : List Int} (h : f.length = g.length) : (addS f g).length = f.length := by
  unfold addS
  rw [List.length_zipWith]
  omega
theorem coef_addS {f g : List Int} (h : f.length = g.length) (m : Nat) : coef (addS f g) m = coef f m + coef g m := by
  by_cases q : m < f.length
  · rw [coef_lt (by rw [addS_len h]; exact q), coef_lt q, coef_lt (by omega)]
    unfold addS
    rw [List.getElem_zipWith]
  · rw [coef_ge (by rw [addS_len h]; omega), coef_ge (by omega), coef_ge (by omega)]
    rfl
theorem mulS_len (f g : List Int) : (mulS f g).length = f.length := mkL_len _ _
def turnS (f : List Int) (j : Int) : List Int := mkL f.length fun m => coef f (((m : Int) - j) % (f.length : Int)).toNat
theorem turn_eq {a m n : Nat} {j : Int} (ha : a < n) (hm : m < n) : (m : Int) = ((a : Int) + j) % (n : Int) ↔ (((m : Int) - j) % (n : Int)).toNat = a := by
  have e1 := Int.emod_add_mul_ediv ((a : Int) + j) n
  have e2 := Int.emod_add_mul_ediv ((m : Int) - j) n
  have b2 := Int.emod_nonneg ((m : Int) - j) (show (n : Int) ≠ 0 by omega)
  constructor
  · intro h
    rw [← h] at e1
    have : (m : Int) - j = (a : Int) + (n : Int) * (-(((a : Int) + j) / (n : Int))) := by
      rw [Int.mul_neg]
      omega
    rw [this, Int.add_mul_emod_self_left, Int.emod_eq_of_lt (by omega) (by omega)]
    omega
  · intro h
    have h2 : ((m : Int) - j) % (n : Int) = (a : Int) := by omega
    rw [h2] at e2
    have : (a : Int) + j = (m : Int) + (n : Int) * (-(((m : Int) - j) / (n : Int))) := by
      rw [Int.mul_neg]
      omega
    rw [this, Int.add_mul_emod_self_left, Int.emod_eq_of_lt (by omega) (by omega)]
def spreadS (f : List Int) (k : Nat) : List Int := mkL (k * f.length) (pw f k)
theorem spread_eq {a m k : Nat} (hk : 1 ≤ k) : m = k * a ↔ m % k = 0 ∧ m / k = a := by
  constructor
  · rintro rfl
    exact ⟨Nat.mul_mod_right _ _, Nat.mul_div_cancel_left _ (by omega)⟩
  · rintro ⟨h1, h2⟩
    have := Nat.div_add_mod m k
    rw [h1, h2] at this
    omega
theorem spread_lt {a k n : Nat} (hk : 1 ≤ k) (ha : a < n) : k * a < k * n := (Nat.mul_lt_mul_left (by omega)).mpr ha
theorem pw_lt {f : List Int} {k m : Nat} (hk : 1 ≤ k) : pw f k m = if m % k = 0 ∧ m / k < f.length then coef f (m / k) else 0 := by
  unfold pw
  by_cases h : m % k = 0
  · rw [if_pos h]
    by_cases q : m / k < f.length
    · rw [if_pos ⟨h, q⟩]
    · rw [if_neg (fun z => q z.2), coef_ge (by omega)]
  · rw [if_neg h, if_neg (fun z => h z.1)]
end Kp

/-! Comprehensions over zip; lists of new lists; == of lists of lists. -/
namespace Kp
open PySem PySem.Spec PyProof.Rows L2 Evl
section
variable {K : PySem.W.Frag} {σ : L2.St} {H H' : Hp} {ta tb te tl to ti : TE} {t : TT} {x y z v : V} {D : Ends} {tu tz : TS} {vs : List Nat}
/-- two arguments, lists of ints, either by its name or new -/
def EvAZ (K : PySem.W.Frag) (tg : TA) (σ : L2.St) (H : Hp) (ns ms : List Int) : Prop := ∀ H1, Ex H H1 → ∀ Q : List V → Hp → Prop, (∀ a b H2, Ex H1 H2 → SqL K H2 a (ns.map V.int) → SqL K H2 b (ms.map V.int) → Q [.ref a, .ref b] H2) → tg σ H1 Q
theorem az_vv {a b : Addr} {ns ms : List Int} (ha : Ev ta σ H (.ref a)) (hb : Ev tb σ H (.ref b)) (hx : SqL K H a (ns.map V.int)) (hy : SqL K H b (ms.map V.int)) : EvAZ K (tCons ta (tCons tb tNil)) σ H ns ms := fun H1 e Q q =>
  ha H1 e _ fun H2 e2 => hb H2 (e.trans e2) _ fun H3 e3 => q a b H3 (e2.trans e3) (ex_l ((e.trans e2).trans e3) hx) (ex_l ((e.trans e2).trans e3) hy)
theorem az_vn {a : Addr} {ns ms : List Int} (ha : Ev ta σ H (.ref a)) (hx : SqL K H a (ns.map V.int)) (hb : EvL tb σ H (ms.map V.int)) : EvAZ K (tCons ta (tCons tb tNil)) σ H ns ms := fun H1 e Q q =>
  ha H1 e _ fun H2 e2 => hb H2 (e.trans e2) _ fun b H3 nb e3 h3 => q a b H3 (e2.trans e3) (ex_l ((e.trans e2).trans e3) hx) (sq_of h3)
theorem az_nn {ns ms : List Int} (ha : EvL ta σ H (ns.map V.int)) (hb : EvL tb σ H (ms.map V.int)) : EvAZ K (tCons ta (tCons tb tNil)) σ H ns ms := fun H1 e Q q =>
  ha H1 e _ fun a H2 na e2 h2 => hb H2 (e.trans e2) _ fun b H3 nb e3 h3 => q a b H3 (e2.trans e3) (sq_of (e3 _ _ h2)) (sq_of h3)
/-- [e for x, y in zip(a, b)] -/
theorem el_lcZ {tg : TA} {ns ms : List Int} {i j : Nat} (w : Int → Int → V) (h : EvAZ K tg σ H ns ms) (hl : ns.length = ms.length) (hz : ns.length ≤ 40000) (hw : ∀ x y, wipe (((wipe σ vs).set i (some x)).set j (some y)) vs = wipe σ vs)
    (he : ∀ x y H1, Ex H H1 → x ∈ ns → y ∈ ms → Ev te (((wipe σ vs).set i (some (.int x))).set j (some (.int y))) H1 (w x y)) :
    EvL (tLc (iZip K tg) (gTup K 2 (gCons (gName i) (gCons (gName j) gNil))) tYes te vs) σ H (List.zipWith w ns ms) := fun H0 e Q q => h H0 e _ fun a b H1 e1 ha hb => ⟨a, b, _, _, rfl, ha, hb, fun Dl hD =>
  lc_it (n := ns.length) (walk_zip (by rw [List.length_map, List.length_map]; omega)) (fun n H' => H1 Dl = none ∧ Ex H1 H' ∧ H' Dl = some (.lst ((List.zipWith w ns ms).take n))) ⟨hD, Ex.new hD, upd_same⟩ (fun n H' _ p => ⟨ex_l p.2.1 ha, ex_l p.2.1 hb⟩) (fun n v H' H'' hn p y => by
    obtain ⟨p1, p2, p3⟩ := p
    obtain ⟨T, x, y, rfl, hT, rfl, hx, hy⟩ := y
    obtain ⟨r, hr, rfl⟩ := map_get hx
    obtain ⟨s, hs, rfl⟩ := map_get hy
    have e2 : Ex H' (upd H' T (.tup [V.int r, V.int s])) := Ex.new hT
    refine ⟨T, _, rfl, .inl (.inl upd_same), rfl, .int r, [.int s], rfl, .int s, [], rfl, rfl, hw _ _, ?_⟩
    refine et_yes (H := H') _ e2 _ fun H3 e3 => ?_
    show te _ H3 _
    refine he r s H1 (e.trans e1) (List.mem_of_getElem? hr) (List.mem_of_getElem? hs) H3 (p2.trans (e2.trans e3)) _ fun H4 e4 => ⟨_, e4 Dl _ (e3 Dl _ (e2 Dl _ p3)), ?_, p1, Ex.mut (((p2.trans e2).trans e3).trans e4) p1, ?_⟩
    · refine sz_lt ?_
      rw [List.length_take, List.length_zipWith]
      omega
    · rw [upd_same, List.take_add_one, List.getElem?_zipWith, hr, hs]
      rfl) (fun H' p => by
    have q1 := p.2.2
    rw [List.take_of_length_le (by rw [List.length_zipWith]; omega)] at q1
    exact q Dl H' (fresh_back e1 p.1) (e1.trans p.2.1) q1)⟩

/-! ### many new lists, each known -/
def NewL (H H' : Hp) (ps : List Addr) (xss : List (List V)) : Prop := Paired (fun p xs => H p = none ∧ H' p = some (.lst xs)) ps xss ∧ ps.Nodup
theorem NewL.fresh : ∀ {ps : List Addr} {xss : List (List V)}, Paired (fun p xs => H p = none ∧ H' p = some (.lst xs)) ps xss → ∀ p ∈ ps, H p = none
  | _, _, .nil, p, h => nomatch h
  | _, _, .cons a r, p, h => by
    rcases List.mem_cons.mp h with rfl | h
    · exact a.1
    · exact NewL.fresh r p h
theorem NewL.got : ∀ {ps : List Addr} {xss : List (List V)}, Paired (fun p xs => H p = none ∧ H' p = some (.lst xs)) ps xss → ∀ p ∈ ps, ∃ xs, H' p = some (.lst xs)
  | _, _, .nil, p, h => nomatch h
  | _, _, .cons a r, p, h => by
    rcases List.mem_cons.mp h with rfl | h
    · exact ⟨_, a.2⟩
    · exact NewL.got r p h
theorem NewL.mono {H'' : Hp} {ps : List Addr} {xss : List (List V)} (e : Ex H' H'') (h : NewL H H' ps xss) : NewL H H'' ps xss := ⟨Paired.mapP h.1 fun _ _ ⟨q1, q2⟩ => ⟨q1, e _ _ q2⟩, h.2⟩
theorem NewL.back {H0 : Hp} {ps : List Addr} {xss : List (List V)} (e : Ex H0 H) (h : NewL H H' ps xss) : NewL H0 H' ps xss := ⟨Paired.mapP h.1 fun _ _ ⟨q1, q2⟩ => ⟨fresh_back e q1, q2⟩, h.2⟩
theorem NewL.nil : NewL H H' [] [] := ⟨.nil, List.nodup_nil⟩
theorem paired_app {α β : Type} {F : α → β → Prop} : ∀ {l1 : List α} {m1 : List β} {l2 : List α} {m2 : List β}, Paired F l1 m1 → Paired F l2 m2 → Paired F (l1 ++ l2) (m1 ++ m2)
  | _, _, _, _, .nil, h => h
  | _, _, _, _, .cons a r, h => .cons a (paired_app r h)
theorem NewL.app {H1 H2 : Hp} {ps qs : List Addr} {xss yss : List (List V)} (h1 : NewL H H1 ps xss) (e : Ex H H1) (h2 : NewL H1 H2 qs yss) (e2 : Ex H1 H2) : NewL H H2 (ps ++ qs) (xss ++ yss) := by
  refine ⟨paired_app (h1.mono e2).1 (h2.back e).1, List.nodup_append.mpr ⟨h1.2, h2.2, fun a ha b hb he => ?_⟩⟩
  subst he
  obtain ⟨xs, g⟩ := NewL.got h1.1 a ha
  have := NewL.fresh h2.1 a hb
  rw [g] at this
  cases this
def EvNL (ta : TA) (σ : L2.St) (H : Hp) (xss : List (List V)) : Prop := ∀ H1, Ex H H1 → ∀ Q : List V → Hp → Prop, (∀ (ps : List Addr) H2, Ex H1 H2 → NewL H1 H2 ps xss → Q (ps.map V.ref) H2) → ta σ H1 Q
theorem enl_nil : EvNL tNil σ H [] := fun H1 _ Q q => q [] H1 (Ex.refl H1) NewL.nil
theorem enl_cons {tr : TA} {xs : List V} {xss : List (List V)} (h : EvL te σ H xs) (hr : EvNL tr σ H xss) : EvNL (tCons te tr) σ H (xs :: xss) := fun H1 e Q q =>
  h H1 e _ fun p H2 np e2 hp => hr H2 (e.trans e2) _ fun ps H3 e3 N => q (p :: ps) H3 (e2.trans e3) ⟨.cons ⟨np, e3 _ _ hp⟩ (N.back e2).1, List.nodup_cons.mpr ⟨fun hm => absurd (hp.symm.trans (NewL.fresh N.1 p hm)) (fun z => nomatch z), N.2⟩⟩
theorem NewL.len {ps : List Addr} {xss : List (List V)} (h : NewL H H' ps xss) : ps.length = xss.length := Paired.length h.1
theorem NewL.out {p : Addr} {o : HO} {ps : List Addr} {xss : List (List V)} (h : NewL H H' ps xss) (hp : H' p = none) : NewL H (upd H' p o) ps xss ∧ p ∉ ps := by
  have hn : p ∉ ps := fun hm => by
    obtain ⟨xs, g⟩ := NewL.got h.1 p hm
    rw [hp] at g
    cases g
  exact ⟨h.mono (Ex.new hp), hn⟩
/-- x = [new, new, ..] -/
theorem q_asgNL {tr : TA} {xss : List (List V)} {i : Nat} (h : EvNL tr σ H xss) (hz : xss.length ≤ 100000) (k : ∀ L ps H1, H L = none → Ex H H1 → H1 L = some (.lst (ps.map V.ref)) → NewL H H1 ps xss → L ∉ ps → tz D (σ.set i (some (.ref L))) H1) :
    tSeq (tAsg (tLst tr) (gName i)) tz D σ H := h H (Ex.refl H) _ fun ps H1 e1 N => ⟨sz_of (by rw [List.length_map, N.len]; exact hz), fun L nL => by
  obtain ⟨N2, nm⟩ := N.out (o := .lst (ps.map V.ref)) nL
  exact k L ps _ (fresh_back e1 nL) (e1.trans (Ex.new nL)) upd_same N2 nm⟩
/-- x = x + [new, new, ..], what x held new too -/
theorem q_catNL {H0 : Hp} {tr : TA} {xss yss : List (List V)} {i j : Nat} {l : Addr} {ps : List Addr} (N : NewL H0 H ps xss) (e0 : Ex H0 H) (hv : σ[j]? = some (some (.ref l))) (hl : H l = some (.lst (ps.map V.ref))) (h : EvNL tr σ H yss) (hz : xss.length + yss.length ≤ 100000)
    (k : ∀ L qs H1, H L = none → Ex H H1 → H1 L = some (.lst (qs.map V.ref)) → NewL H0 H1 qs (xss ++ yss) → L ∉ qs → tz D (σ.set i (some (.ref L))) H1) :
    tSeq (tAsg (tOp rCat (tVar j) (tLst tr)) (gName i)) tz D σ H := ⟨_, hv, h H (Ex.refl H) _ fun qs H1 e1 M => ⟨sz_of (by rw [List.length_map, M.len]; omega), fun r nr => by
  obtain ⟨M2, nm⟩ := M.out (o := .lst (qs.map V.ref)) nr
  have e2 : Ex H (upd H1 r (.lst (qs.map V.ref))) := e1.trans (Ex.new nr)
  have hz2 : (ps.map V.ref).length + (qs.map V.ref).length ≤ 100000 := by
    rw [List.length_map, List.length_map, N.len, M.len]
    exact hz
  refine ⟨l, r, _, _, rfl, rfl, e2 _ _ hl, upd_same, sz_of hz2, fun L nL => ?_⟩
  obtain ⟨A, na⟩ := (N.app e0 M2 e2).out (o := .lst (ps.map V.ref ++ qs.map V.ref)) nL
  refine k L (ps ++ qs) _ (fresh_back e2 nL) (e2.trans (Ex.new nL)) (by rw [upd_same, List.map_append]) A na⟩⟩
theorem paired_get {α β : Type} {F : α → β → Prop} : ∀ {l : List α} {m : List β} {i : Nat} {a : α}, Paired F l m → l[i]? = some a → ∃ b, m[i]? = some b ∧ F a b
  | _, _, _, _, .nil, h => by simp at h
  | _, _, 0, _, .cons (b := b) q _, h => ⟨b, rfl, by
    have e := Option.some.inj h
    exact e ▸ q⟩
  | _, _, i + 1, _, .cons _ q, h => paired_get (i := i) q h
/-- for row in xs: .., what stands in xs new and each turn changing its own row alone -/
theorem s_forRows {H0 : Hp} {L : Addr} {ps : List Addr} {xss : List (List V)} {j : Nat} (hv : Ev tl σ H (.ref L)) (hL : H L = some (.lst (ps.map V.ref))) (N : NewL H0 H ps xss) (e0 : Ex H0 H) (nL : L ∉ ps) (hj : j < σ.length)
    (hs : ∀ p xs H' (D' : Ends), xs ∈ xss → H' p = some (.lst xs) → Ex H0 H' → D'.rt = D.rt → (∀ H3 o, Ex H' H3 → D'.nx (σ.set j (some (.ref p))) (upd H3 p o)) → tu D' (σ.set j (some (.ref p))) H')
    (hd : ∀ y H', Ex H0 H' → D.nx (σ.set j y) H') :
    tFor (iList K tl) (gName j) tu D σ H := by
  refine s_forLn (xs := ps.map V.ref) hv (SqL.of hL) (fun i σ' H' => (∃ y, σ' = σ.set j y) ∧ Ex H0 H' ∧ H' L = some (.lst (ps.map V.ref)) ∧ ∀ k p xs, i ≤ k → ps[k]? = some p → xss[k]? = some xs → H' p = some (.lst xs))
    (fun H1 e1 => ⟨⟨σ[j], (List.set_getElem_self hj).symm⟩, e0.trans e1, e1 _ _ hL, fun k p xs _ hp hx => ?_⟩) (fun i σ' H' _ hp => SqL.of hp.2.2.1) (fun i x σ' H' hx hp => ?_) (fun σ' H' hp => ?_)
  · obtain ⟨b, hb, hF⟩ := paired_get N.1 hp
    rw [hx] at hb
    cases hb
    exact e1 _ _ hF.2
  · obtain ⟨⟨y, rfl⟩, p2, p3, p4⟩ := hp
    rw [List.getElem?_map] at hx
    obtain ⟨p, hp, rfl⟩ := Option.map_eq_some_iff.mp hx
    obtain ⟨xs, hxs, hF⟩ := paired_get N.1 hp
    have hLp : L ≠ p := fun e => nL (e ▸ List.mem_of_getElem? hp)
    rw [List.set_set]
    refine hs p xs H' _ (List.mem_of_getElem? hxs) (p4 i p xs (Nat.le_refl i) hp hxs) p2 rfl fun H3 o e3 => ⟨⟨_, rfl⟩, Ex.mut (p2.trans e3) hF.1, ?_, fun k p' xs' hk hp' hx' => ?_⟩
    · rw [upd_ne hLp]
      exact e3 _ _ p3
    · have ne : p' ≠ p := fun e => by
        subst e
        obtain ⟨h1, g1⟩ := List.getElem?_eq_some_iff.mp hp
        obtain ⟨h2, g2⟩ := List.getElem?_eq_some_iff.mp hp'
        exact List.pairwise_iff_getElem.mp N.2 i k h1 h2 (by omega) (g1.trans g2.symm)
      rw [upd_ne ne]
      exact e3 _ _ (p4 k p' xs' (by omega) hp' hx')
  · obtain ⟨⟨y, rfl⟩, p2, _, _⟩ := hp
    exact hd y H' p2

/-! ### == of lists of lists of ints -/
def dLL (nss : List (List Int)) : PyData := .list (nss.map dI)
theorem dI_inj (a b : List Int) (e : dI a = dI b) : a = b := map_inj (fun _ _ q => PyData.int.inj q) a b (PyData.list.inj e)
theorem dI_ok (a : List Int) : okD (dI a) = true := by
  unfold dI okD
  exact okA_map _ (fun _ => rfl) a
theorem dI_dep (a : List Int) : (dI a).depth ≤ 1 := Nat.succ_le_succ (dep_map PyData.int 0 (fun _ => Nat.le_refl 0) a)
theorem dI_lay (a : List Int) : PyData.canLay0 (dI a) = true := lay_map _ (fun _ => rfl) a
theorem dLL_sh (nss : List (List Int)) : SeqAt.shaped (dLL nss) = true := shaped_of (lay_map _ dI_lay nss) (Nat.le_trans (Nat.succ_le_succ (dep_map dI 1 dI_dep nss)) (by decide))
theorem dLL_eqv (nss mss : List (List Int)) : PyData.eqv (dLL nss) (dLL mss) = decide (nss = mss) := eqv_dec dLL (fun l => by unfold dLL okD; exact okA_map _ dI_ok l) (fun a b e => map_inj dI_inj a b (PyData.list.inj e)) nss mss
theorem dpa_lists : ∀ {ps : List Addr} {nss : List (List Int)}, Paired (fun p ns => SqL K H p (ns.map V.int)) ps nss → DpAll K H (ps.map V.ref) (nss.map dI)
  | _, _, .nil => .nil
  | _, _, .cons q r => .cons (dp_ints q) (dpa_lists r)
theorem dp_lists {a : Addr} {ps : List Addr} {nss : List (List Int)} (h : SqL K H a (ps.map V.ref)) (p : Paired (fun p ns => SqL K H p (ns.map V.int)) ps nss) : Dp K H (.ref a) (dLL nss) := .lst h (dpa_lists p)
theorem paired_map {α β γ : Type} {F : α → β → Prop} {f : γ → β} : ∀ {l : List α} {m : List γ}, Paired F l (m.map f) → Paired (fun a c => F a (f c)) l m
  | [], [], .nil => .nil
  | _ :: _, _ :: _, .cons a r => .cons a (paired_map r)
theorem NewL.sq {ps : List Addr} {nss : List (List Int)} (h : NewL H H' ps (nss.map fun ns => ns.map V.int)) : Paired (fun p ns => SqL K H' p (ns.map V.int)) ps nss := Paired.mapP (paired_map h.1) fun _ _ q => sq_of q.2
theorem rv_neLL {p q : Addr} {ps qs : List Addr} {nss mss : List (List Int)} (h1 : SqL K H p (ps.map V.ref)) (p1 : Paired (fun p ns => SqL K H p (ns.map V.int)) ps nss) (h2 : SqL K H q (qs.map V.ref)) (p2 : Paired (fun p ns => SqL K H p (ns.map V.int)) qs mss) : RV (rNeD K) (.ref p) (.ref q) H (.bl (!decide (nss = mss))) :=
  rv_neD (fun _ e => dp_lists (ex_l e h1) (Paired.mapP p1 fun _ _ z => ex_l e z)) (fun _ e => dp_lists (ex_l e h2) (Paired.mapP p2 fun _ _ z => ex_l e z)) (dLL_sh _) (dLL_sh _) (by rw [dLL_eqv])
/-! tuples of lists of ints -/
def dTL (nss : List (List Int)) : PyData := .tuple (nss.map dI)
theorem dTL_sh (nss : List (List Int)) : SeqAt.shaped (dTL nss) = true := shaped_of (lay_map _ dI_lay nss) (Nat.le_trans (Nat.succ_le_succ (dep_map dI 1 dI_dep nss)) (by decide))
theorem dTL_eqv (nss mss : List (List Int)) : PyData.eqv (dTL nss) (dTL mss) = decide (nss = mss) := eqv_dec dTL (fun l => by unfold dTL okD; exact okA_map _ dI_ok l) (fun a b e => map_inj dI_inj a b (PyData.tuple.inj e)) nss mss
theorem dp_tlists {a : Addr} {ps : List Addr} {nss : List (List Int)} (h : SqT K H a (ps.map V.ref)) (p : Paired (fun p ns => SqL K H p (ns.map V.int)) ps nss) : Dp K H (.ref a) (dTL nss) := .tup h (dpa_lists p)
theorem rv_neTL {p q : Addr} {ps qs : List Addr} {nss mss : List (List Int)} (h1 : SqT K H p (ps.map V.ref)) (p1 : Paired (fun p ns => SqL K H p (ns.map V.int)) ps nss) (h2 : SqT K H q (qs.map V.ref)) (p2 : Paired (fun p ns => SqL K H p (ns.map V.int)) qs mss) : RV (rNeD K) (.ref p) (.ref q) H (.bl (!decide (nss = mss))) :=
  rv_neD (fun _ e => dp_tlists (ex_t e h1) (Paired.mapP p1 fun _ _ z => ex_l e z)) (fun _ e => dp_tlists (ex_t e h2) (Paired.mapP p2 fun _ _ z => ex_l e z)) (dTL_sh _) (dTL_sh _) (by rw [dTL_eqv])
end
end Kp
namespace Kp
open PySem PySem.Spec PyProof.Rows L2 Evl
section
variable {K : PySem.W.Frag} {σ : L2.St} {H H' : Hp} {ta tb tc td : TE} {y z : V} {D : Ends} {tz : TS}
/-- x = [new, new, told, told] -/
theorem q_asgL4 {i : Nat} {xs ys : List V} (h1 : EvL ta σ H xs) (h2 : EvL tb σ H ys) (h3 : Ev tc σ H y) (h4 : Ev td σ H z) (k : ∀ L p q H1, Ex H H1 → H L = none → H1 L = some (.lst [.ref p, .ref q, y, z]) → H1 p = some (.lst xs) → H1 q = some (.lst ys) → tz D (σ.set i (some (.ref L))) H1) :
    tSeq (tAsg (tLst (tCons ta (tCons tb (tCons tc (tCons td tNil))))) (gName i)) tz D σ H :=
  h1 H (Ex.refl H) _ fun p H1 np e1 hp => h2 H1 e1 _ fun q H2 nq e2 hq => h3 H2 (e1.trans e2) _ fun H3 e3 => h4 H3 ((e1.trans e2).trans e3) _ fun H4 e4 => ⟨sz_of (show 4 ≤ 100000 by decide), fun L nL => by
    have e34 := e3.trans e4
    have e04 := (e1.trans e2).trans e34
    have eN : Ex H4 (upd H4 L (.lst [.ref p, .ref q, y, z])) := Ex.new nL
    exact k L p q _ (e04.trans eN) (fresh_back e04 nL) upd_same (eN _ _ (e34 _ _ (e2 _ _ hp))) (eN _ _ (e34 _ _ hq))⟩
/-- o[i] = e, of a list of ints, and on -/
theorem q_setI {te to ti : TE} {l : Addr} {ns : List Int} {j : Nat} {b : Int} (hl : H l = some (.lst (ns.map V.int))) (ho : Ev to σ H (.ref l)) (hi : Ev ti σ H (.int (j : Nat))) (hj : j < ns.length) (he : Ev te σ H (.int b))
    (k : ∀ H1, Ex H H1 → tz D σ (upd H1 l (.lst ((ns.set j b).map V.int)))) : tSeq (tAsg te (gSub to ti rSetL)) tz D σ H := s_setI (D := { D with nx := tz D }) hl ho hi hj he k
end
end Kp

/-! Products of polynomials told by their value at one great number. -/
namespace Kp
def addK : List Int → List Int → List Int
  | [], g => g
  | a :: f, [] => a :: f
  | a :: f, b :: g => (a + b) :: addK f g
def mulK : List Int → List Int → List Int
  | [], _ => []
  | a :: f, g => addK (g.map fun x => a * x) (0 :: mulK f g)
def l1 : List Int → Nat
  | [] => 0
  | a :: f => a.natAbs + l1 f
theorem coef_cons (a : Int) (f : List Int) (m : Nat) : coef (a :: f) (m + 1) = coef f m := rfl
theorem coef_cons0 (a : Int) (f : List Int) : coef (a :: f) 0 = a := rfl
theorem coef_addK : ∀ (f g : List Int) (m : Nat), coef (addK f g) m = coef f m + coef g m
  | [], g, m => by
    show coef g m = _
    rw [coef_nil, Int.zero_add]
  | a :: f, [], m => by
    show coef (a :: f) m = _
    rw [coef_nil, Int.add_zero]
  | a :: f, b :: g, 0 => rfl
  | a :: f, b :: g, m + 1 => coef_addK f g m
theorem coef_scale (a : Int) (g : List Int) (m : Nat) : coef (g.map fun x => a * x) m = a * coef g m := by
  by_cases h : m < g.length
  · rw [coef_lt (by rw [List.length_map]; exact h), coef_lt h, List.getElem_map]
  · rw [coef_ge (by rw [List.length_map]; omega), coef_ge (by omega), Int.mul_zero]
theorem cv_cons (a : Int) (f g : List Int) : ∀ (i m : Nat), cv (a :: f) g (i + 1) m = a * coef g m + if 1 ≤ m then cv f g i (m - 1) else 0
  | 0, m => by
    show 0 + (if 0 ≤ m then a * coef g (m - 0) else 0) = a * coef g m + if 1 ≤ m then 0 else 0
    rw [if_pos (Nat.zero_le m), Nat.sub_zero]
    split <;> omega
  | i + 1, m => by
    rw [cv, cv_cons a f g i m, cv]
    by_cases h1 : 1 ≤ m
    · rw [if_pos h1, if_pos h1, coef_cons]
      by_cases h2 : i + 1 ≤ m
      · rw [if_pos h2, if_pos (show i ≤ m - 1 by omega), show m - 1 - i = m - (i + 1) by omega]
        omega
      · rw [if_neg h2, if_neg (show ¬ i ≤ m - 1 by omega)]
        omega
    · rw [if_neg h1, if_neg h1, if_neg (by omega)]
      omega
theorem cv_nil (g : List Int) (m : Nat) : cv [] g 0 m = 0 := rfl
theorem coef_mulK : ∀ (f g : List Int) (m : Nat), coef (mulK f g) m = cv f g f.length m
  | [], g, m => coef_nil m
  | a :: f, g, m => by
    show coef (addK (g.map fun x => a * x) (0 :: mulK f g)) m = cv (a :: f) g (f.length + 1) m
    rw [coef_addK, coef_scale, cv_cons]
    cases m with
    | zero => rfl
    | succ m =>
      rw [coef_cons, coef_mulK f g m, if_pos (by omega)]
      rfl
theorem val_addK (x : Int) : ∀ f g : List Int, valP x (addK f g) = valP x f + valP x g
  | [], g => by
    show valP x g = 0 + _
    omega
  | a :: f, [] => by
    show valP x (a :: f) = _ + 0
    omega
  | a :: f, b :: g => by
    show (a + b) + x * valP x (addK f g) = (a + x * valP x f) + (b + x * valP x g)
    rw [val_addK x f g, Int.mul_add]
    omega
theorem val_scale (x a : Int) : ∀ g : List Int, valP x (g.map fun y => a * y) = a * valP x g
  | [] => by
    show 0 = a * 0
    omega
  | b :: g => by
    show a * b + x * valP x (g.map fun y => a * y) = a * (b + x * valP x g)
    rw [val_scale x a g, Int.mul_add, Int.mul_left_comm]
theorem val_mulK (x : Int) : ∀ f g : List Int, valP x (mulK f g) = valP x f * valP x g
  | [], g => by
    show 0 = 0 * _
    omega
  | a :: f, g => by
    show valP x (addK (g.map fun y => a * y) (0 :: mulK f g)) = (a + x * valP x f) * valP x g
    rw [val_addK, val_scale]
    show a * valP x g + (0 + x * valP x (mulK f g)) = _
    rw [val_mulK x f g, Int.add_mul, Int.zero_add, Int.mul_assoc]
theorem l1_addK : ∀ f g : List Int, l1 (addK f g) ≤ l1 f + l1 g
  | [], g => by
    show l1 g ≤ 0 + l1 g
    omega
  | a :: f, [] => by
    show l1 (a :: f) ≤ _
    omega
  | a :: f, b :: g => by
    show (a + b).natAbs + l1 (addK f g) ≤ (a.natAbs + l1 f) + (b.natAbs + l1 g)
    have := l1_addK f g
    have := Int.natAbs_add_le a b
    omega
theorem l1_scale (a : Int) : ∀ g : List Int, l1 (g.map fun y => a * y) = a.natAbs * l1 g
  | [] => rfl
  | b :: g => by
    show (a * b).natAbs + l1 (g.map fun y => a * y) = a.natAbs * (b.natAbs + l1 g)
    rw [l1_scale a g, Int.natAbs_mul, Nat.mul_add]
theorem l1_mulK : ∀ f g : List Int, l1 (mulK f g) ≤ l1 f * l1 g
  | [], g => by
    show 0 ≤ 0 * _
    omega
  | a :: f, g => by
    show l1 (addK (g.map fun y => a * y) (0 :: mulK f g)) ≤ (a.natAbs + l1 f) * l1 g
    have h1 := l1_addK (g.map fun y => a * y) (0 :: mulK f g)
    have h2 : l1 (0 :: mulK f g) = l1 (mulK f g) := by
      show (0 : Int).natAbs + _ = _
      rw [Int.natAbs_zero, Nat.zero_add]
    have h3 := l1_mulK f g
    rw [l1_scale, h2] at h1
    rw [Nat.add_mul]
    omega
theorem coef_l1 : ∀ (f : List Int) (m : Nat), (coef f m).natAbs ≤ l1 f
  | [], m => by
    rw [coef_nil]
    exact Nat.le_refl 0
  | a :: f, 0 => by
    rw [coef_cons0]
    exact Nat.le_add_right _ _
  | a :: f, m + 1 => by
    rw [coef_cons]
    exact Nat.le_trans (coef_l1 f m) (Nat.le_add_left _ _)
theorem len_addK : ∀ f g : List Int, (addK f g).length = max f.length g.length
  | [], g => by
    show g.length = max 0 g.length
    omega
  | a :: f, [] => by
    show (a :: f).length = max (f.length + 1) 0
    rw [List.length_cons]
    omega
  | a :: f, b :: g => by
    show (addK f g).length + 1 = max (f.length + 1) (g.length + 1)
    rw [len_addK f g]
    omega
theorem len_mulK : ∀ f g : List Int, f ≠ [] → g ≠ [] → (mulK f g).length = f.length + g.length - 1
  | [], g, h, _ => absurd rfl h
  | [a], g, _, hg => by
    show (addK (g.map fun x => a * x) [0]).length = 1 + g.length - 1
    have := List.length_pos_iff.mpr hg
    rw [len_addK, List.length_map, List.length_singleton]
    omega
  | a :: b :: f, g, _, hg => by
    show (addK (g.map fun x => a * x) (0 :: mulK (b :: f) g)).length = (f.length + 1 + 1) + g.length - 1
    rw [len_addK, List.length_map, List.length_cons, len_mulK (b :: f) g (fun h => nomatch h) hg, List.length_cons]
    omega
/-- who agrees at a great number agrees -/
theorem lift {B : Nat} : ∀ P Q : List Int, l1 P + l1 Q < B → valP (B : Int) P = valP (B : Int) Q → ∀ m, coef P m = coef Q m := by
  intro P
  induction P with
  | nil =>
    intro Q
    induction Q with
    | nil => exact fun _ _ _ => rfl
    | cons b Q ih =>
      intro h e m
      have h2 : l1 [] + l1 (b :: Q) = b.natAbs + l1 Q := by
        show 0 + (b.natAbs + l1 Q) = _
        omega
      have e2 : (0 : Int) = b + (B : Int) * valP (B : Int) Q := e
      have hb : b = 0 := by
        refine Int.natAbs_eq_zero.mp (Nat.eq_zero_of_dvd_of_lt ?_ (show b.natAbs < B by omega))
        have : b = (B : Int) * (-valP (B : Int) Q) := by
          rw [Int.mul_neg]
          omega
        rw [this, Int.natAbs_mul]
        exact Nat.dvd_mul_right _ _
      subst hb
      have B0 : (B : Int) ≠ 0 := by omega
      have e3 : valP (B : Int) [] = valP (B : Int) Q := by
        show 0 = _
        have : (B : Int) * valP (B : Int) Q = 0 := by omega
        rcases Int.mul_eq_zero.mp this with h | h
        · exact absurd h B0
        · exact h.symm
      cases m with
      | zero => rfl
      | succ m =>
        rw [coef_cons, coef_nil, ← ih (by show 0 + l1 Q < B; omega) e3 m, coef_nil]
  | cons a P ih =>
    intro Q h e m
    cases Q with
    | nil =>
      have h2 : l1 (a :: P) + l1 [] = a.natAbs + l1 P := rfl
      have e2 : a + (B : Int) * valP (B : Int) P = 0 := e
      have ha : a = 0 := by
        refine Int.natAbs_eq_zero.mp (Nat.eq_zero_of_dvd_of_lt ?_ (show a.natAbs < B by omega))
        have : a = (B : Int) * (-valP (B : Int) P) := by
          rw [Int.mul_neg]
          omega
        rw [this, Int.natAbs_mul]
        exact Nat.dvd_mul_right _ _
      subst ha
      have B0 : (B : Int) ≠ 0 := by omega
      have e3 : valP (B : Int) P = valP (B : Int) [] := by
        show _ = 0
        have : (B : Int) * valP (B : Int) P = 0 := by omega
        rcases Int.mul_eq_zero.mp this with h | h
        · exact absurd h B0
        · exact h
      cases m with
      | zero => rfl
      | succ m =>
        rw [coef_cons, coef_nil, ih [] (by show l1 P + 0 < B; omega) e3 m, coef_nil]
    | cons b Q =>
      have h2 : l1 (a :: P) + l1 (b :: Q) = a.natAbs + l1 P + (b.natAbs + l1 Q) := rfl
      have e2 : a + (B : Int) * valP (B : Int) P = b + (B : Int) * valP (B : Int) Q := e
      have hab : a - b = 0 := by
        refine Int.natAbs_eq_zero.mp (Nat.eq_zero_of_dvd_of_lt ?_ (show (a - b).natAbs < B by omega))
        have : a - b = (B : Int) * (valP (B : Int) Q - valP (B : Int) P) := by
          rw [Int.mul_sub]
          omega
        rw [this, Int.natAbs_mul]
        exact Nat.dvd_mul_right _ _
      have B0 : (B : Int) ≠ 0 := by omega
      have e3 : valP (B : Int) P = valP (B : Int) Q := by
        have : (B : Int) * (valP (B : Int) P - valP (B : Int) Q) = 0 := by
          rw [Int.mul_sub]
          omega
        rcases Int.mul_eq_zero.mp this with h | h
        · exact absurd h B0
        · omega
      cases m with
      | zero =>
        rw [coef_cons0, coef_cons0]
        omega
      | succ m =>
        rw [coef_cons, coef_cons]
        exact ih Q (by omega) e3 m
theorem val_wide (x : Int) {k : Nat} (hk : 1 ≤ k) : ∀ f : List Int, valP x (wideL k f) = valP (x ^ k) f := by
  have rep : ∀ (n : Nat) (g : List Int), valP x (List.replicate n 0 ++ g) = x ^ n * valP x g := by
    intro n g
    induction n with
    | zero => rw [Int.pow_zero, Int.one_mul]; rfl
    | succ n ih =>
      show 0 + x * valP x (List.replicate n 0 ++ g) = _
      rw [ih, Int.pow_succ, Int.zero_add, ← Int.mul_assoc, Int.mul_comm x]
  intro f
  induction f with
  | nil => rfl
  | cons a f ih =>
    show a + x * valP x (List.replicate (k - 1) 0 ++ wideL k f) = a + x ^ k * valP (x ^ k) f
    rw [rep, ih, ← Int.mul_assoc, show x * x ^ (k - 1) = x ^ k by rw [Int.mul_comm, ← Int.pow_succ, Nat.succ_eq_add_one, Nat.sub_add_cancel hk]]
theorem l1_wide (k : Nat) : ∀ f : List Int, l1 (wideL k f) = l1 f := by
  have rep : ∀ (n : Nat) (g : List Int), l1 (List.replicate n 0 ++ g) = l1 g := by
    intro n g
    induction n with
    | zero => rfl
    | succ n ih =>
      show (0 : Int).natAbs + l1 (List.replicate n 0 ++ g) = _
      rw [ih, Int.natAbs_zero, Nat.zero_add]
  intro f
  induction f with
  | nil => rfl
  | cons a f ih =>
    show a.natAbs + l1 (List.replicate (k - 1) 0 ++ wideL k f) = a.natAbs + l1 f
    rw [rep, ih]
/-- f times g is h at k, all told by values -/
theorem times_at {B : Nat} {f g h : List Int} {k : Nat} (hk : 1 ≤ k) (hf : f ≠ []) (hg : g ≠ []) (hh : h ≠ []) (hl : f.length + g.length = (h.length - 1) * k + 2) (hb : l1 f * l1 g + l1 h < B) (e : valP (B : Int) f * valP (B : Int) g = valP ((B : Int) ^ k) h) : mulK f g = atP h k := by
  have key := lift (B := B) (mulK f g) (wideL k h) (by have := l1_mulK f g; rw [l1_wide]; omega) (by rw [val_mulK, val_wide _ hk, e])
  refine ext_of ?_ fun m _ => ?_
  · rw [len_mulK f g hf hg]
    unfold atP
    rw [if_neg hh, mkL_len]
    omega
  · rw [key, coef_wide hk, coef_atP hk]

/-! ### many factors -/
def prodR : List (List Int) → List Int
  | [] => [1]
  | g :: r => mulK (prodR r) g
def valR (x : Int) : List (List Int) → Int
  | [] => 1
  | g :: r => valR x r * valP x g
def l1R : List (List Int) → Nat
  | [] => 1
  | g :: r => l1R r * l1 g
def lenR : List (List Int) → Nat
  | [] => 0
  | g :: r => lenR r + (g.length - 1)
theorem prodR_val (x : Int) : ∀ l, valP x (prodR l) = valR x l
  | [] => by
    show 1 + x * 0 = 1
    omega
  | g :: r => by
    show valP x (mulK (prodR r) g) = valR x r * valP x g
    rw [val_mulK, prodR_val x r]
theorem prodR_l1 : ∀ l, l1 (prodR l) ≤ l1R l
  | [] => Nat.le_refl 1
  | g :: r => by
    show l1 (mulK (prodR r) g) ≤ l1R r * l1 g
    exact Nat.le_trans (l1_mulK _ _) (Nat.mul_le_mul_right _ (prodR_l1 r))
theorem prodR_len : ∀ l : List (List Int), (∀ g ∈ l, g ≠ []) → prodR l ≠ [] ∧ (prodR l).length = lenR l + 1
  | [], _ => ⟨(fun h => nomatch h), rfl⟩
  | g :: r, h => by
    obtain ⟨i1, i2⟩ := prodR_len r fun z hz => h z (List.mem_cons_of_mem _ hz)
    have hg := h g (List.mem_cons_self ..)
    have e : (prodR (g :: r)).length = lenR (g :: r) + 1 := by
      show (mulK (prodR r) g).length = lenR r + (g.length - 1) + 1
      have := List.length_pos_iff.mpr hg
      rw [len_mulK _ _ i1 hg, i2]
      omega
    exact ⟨fun z => absurd (z ▸ e : ([] : List Int).length = lenR (g :: r) + 1) (by simp), e⟩
theorem prodR_one {g : List Int} (h : g ≠ []) : prodR [g] = g := by
  show addK (g.map fun x => 1 * x) [0] = g
  refine ext_of ?_ fun m _ => ?_
  · have := List.length_pos_iff.mpr h
    rw [len_addK, List.length_map, List.length_singleton]
    omega
  · rw [coef_addK, coef_scale]
    cases m with
    | zero =>
      rw [coef_cons0]
      omega
    | succ m =>
      rw [coef_cons, coef_nil]
      omega
/-- x to the d, less 1 -/
def xd1 (d : Nat) : List Int := [-1] ++ List.replicate (d - 1) 0 ++ [1]
theorem xd1_len {d : Nat} (h : 1 ≤ d) : (xd1 d).length = d + 1 := by
  unfold xd1
  rw [List.length_append, List.length_append, List.length_replicate, List.length_singleton, List.length_singleton]
  omega
theorem xd1_wide {d : Nat} (h : 1 ≤ d) (m : Nat) : coef (xd1 d) m = coef (wideL d [-1, 1]) m := by
  have e : wideL d [-1, 1] = xd1 d ++ List.replicate (d - 1) 0 := by
    show -1 :: List.replicate (d - 1) 0 ++ (1 :: List.replicate (d - 1) 0 ++ []) = _
    unfold xd1
    simp
  rw [e, coef_app]
  split
  · rfl
  · rename_i q
    rw [coef_rep, coef_ge (by omega)]
theorem prod_xd1 {B d : Nat} {l : List (List Int)} (hd : 1 ≤ d) (hl : ∀ g ∈ l, g ≠ []) (hn : lenR l = d) (hb : l1R l + 2 < B) (e : valR (B : Int) l = (B : Int) ^ d - 1) : prodR l = xd1 d := by
  have key := lift (B := B) (prodR l) (wideL d [-1, 1]) (by
    have := prodR_l1 l
    rw [l1_wide]
    show l1 (prodR l) + 2 < B
    omega) (by
    rw [prodR_val, val_wide _ hd, e]
    show _ = -1 + (B : Int) ^ d * (1 + (B : Int) ^ d * 0)
    rw [Int.mul_zero, Int.add_zero, Int.mul_one]
    omega)
  refine ext_of ?_ fun m _ => ?_
  · rw [(prodR_len l hl).2, xd1_len hd, hn]
  · rw [key, xd1_wide hd]
/-- the numbers of a great one, by 2 to the 32, the least first -/
def dec : Nat → Int → List Int
  | 0, _ => []
  | k + 1, N => ((N + 2147483648) % 4294967296 - 2147483648) :: dec k ((N - ((N + 2147483648) % 4294967296 - 2147483648)) / 4294967296)
theorem dec_len : ∀ (k : Nat) (N : Int), (dec k N).length = k
  | 0, _ => rfl
  | k + 1, N => by
    show (dec k _).length + 1 = k + 1
    rw [dec_len k]
/-- f at p, through f -/
def stepF (f : List Int) (p : Nat) : List Int := dec ((f.length - 1) * (p - 1) + 1) (valP ((4294967296 : Int) ^ p) f / valP 4294967296 f)
end Kp

/-! How a number is parted, as the program does; the root polynomials up to 420, told by their values at one great number. -/
namespace Kp
/-! ### how often p divides, and what is left -/
def strip (p : Int) : Nat → Int → Int → Int × Int
  | 0, l, t => (l, t)
  | m + 1, l, t => if l % p = 0 then strip p m (l / p) (t + 1) else (l, t)
theorem strip_stop {p l t : Int} {m : Nat} (h : ¬ l % p = 0) : strip p m l t = (l, t) := by
  cases m with
  | zero => rfl
  | succ m =>
    unfold strip
    rw [if_neg h]
theorem strip_go {p l t : Int} {m : Nat} (h : l % p = 0) : strip p (m + 1) l t = strip p m (l / p) (t + 1) := by
  rw [strip, if_pos h]
theorem half_lt {p l : Int} {m : Nat} (hp : 2 ≤ p) (h0 : 0 < l) (h : l < 2 ^ (m + 1)) (hd : l % p = 0) : 0 < l / p ∧ l / p < 2 ^ m ∧ l / p ≤ l := by
  have e : p * (l / p) + l % p = l := Int.mul_ediv_add_emod l p
  have e2 : p * (l / p) = l := by omega
  have p0 : 0 < l / p := by
    refine Int.lt_of_not_ge fun q => ?_
    have := Int.mul_nonneg (show 0 ≤ p by omega) (show 0 ≤ -(l / p) by omega)
    rw [Int.mul_neg] at this
    omega
  have e3 : 2 * (l / p) ≤ p * (l / p) := Int.mul_le_mul_of_nonneg_right hp (Int.le_of_lt p0)
  rw [Int.pow_succ] at h
  generalize (2 : Int) ^ m = M at *
  omega
def pLoop : Nat → Int → Int → List (Int × Int) → Int × List (Int × Int)
  | 0, _, l, rows => (l, rows)
  | m + 1, p, l, rows => if p * p ≤ l then pLoop m (p + 1) (strip p 64 l 0).1 (if 0 < (strip p 64 l 0).2 then rows ++ [(p, (strip p 64 l 0).2)] else rows) else (l, rows)
/-- the rows of n's primes, as the program makes them -/
def partedF (n : Int) : List (Int × Int) := if 1 < (pLoop n.toNat 2 n []).1 then (pLoop n.toNat 2 n []).2 ++ [((pLoop n.toNat 2 n []).1, 1)] else (pLoop n.toNat 2 n []).2
theorem pLoop_stop {p l : Int} {rows : List (Int × Int)} {m : Nat} (h : ¬ p * p ≤ l) : pLoop m p l rows = (l, rows) := by
  cases m with
  | zero => rfl
  | succ m =>
    unfold pLoop
    rw [if_neg h]
theorem pLoop_go {p l : Int} {rows : List (Int × Int)} {m : Nat} (h : p * p ≤ l) : pLoop (m + 1) p l rows = pLoop m (p + 1) (strip p 64 l 0).1 (if 0 < (strip p 64 l 0).2 then rows ++ [(p, (strip p 64 l 0).2)] else rows) := by
  rw [pLoop, if_pos h]
theorem sq_le {p l : Int} (h : p * p ≤ l) (hl : l ≤ 1000000000) : p ≤ 31622 := by
  refine Int.le_of_not_gt fun q => ?_
  have := Int.mul_le_mul (show 31623 ≤ p by omega) (show 31623 ≤ p by omega) (by decide) (by omega)
  omega

def GF (n : Nat) : List Int := (partedF n).foldl (fun f r => stepF f r.1.toNat) [-1, 1]
def LF (n : Nat) : Nat := (partedF n).foldl (fun l r => l / r.1.toNat) n
def BB : Nat := 2 ^ 256
def chkA : List (Int × Int) → List Int → Bool
  | [], _ => true
  | r :: ps, f => decide (1 ≤ r.1) && (decide ((f.length - 1) * r.1.toNat ≤ 420) && (decide (valP BB (stepF f r.1.toNat) * valP BB f = valP ((BB : Int) ^ r.1.toNat) f) && (decide (l1 (stepF f r.1.toNat) * l1 f + l1 f < BB) && chkA ps (stepF f r.1.toNat))))
def eval1 (n : Nat) : Int × Nat × Nat := (valP ((BB : Int) ^ LF n) (GF n), l1 (GF n), ((GF n).length - 1) * LF n)
def eT : List (Int × Nat × Nat) := (List.range 420).map fun i => eval1 (i + 1)
def dvs (d : Nat) : List Nat := (List.range d).filter fun i => decide (d % (i + 1) = 0)
def vR3 : List (Int × Nat × Nat) → Int × Nat × Nat
  | [] => (1, 1, 0)
  | t :: r => ((vR3 r).1 * t.1, (vR3 r).2.1 * t.2.1, (vR3 r).2.2 + t.2.2)
def chkD (d : Nat) : Bool := decide ((vR3 ((dvs d).map fun i => eT.getD i (0, 0, 0))).1 = (BB : Int) ^ d - 1) && (decide ((vR3 ((dvs d).map fun i => eT.getD i (0, 0, 0))).2.1 + 2 < BB) && (decide ((vR3 ((dvs d).map fun i => eT.getD i (0, 0, 0))).2.2 = d) && decide (1 ≤ LF d)))
end Kp

namespace Kp
theorem all_A : ((List.range 420).all fun i => chkA (partedF (i + 1 : Nat)) [-1, 1]) = true := by decide +kernel
theorem all_D : ((List.range 420).all fun i => chkD (i + 1)) = true := by decide +kernel
end Kp

/-! Calls that are known not to raise; lists of new pairs of a number and a new list; loops over zip. -/
namespace Kp
open PySem PySem.Spec PyProof.Rows L2 Evl
section
variable {P : Program} {w : World} {K : PySem.W.Frag} {mg : Str → Option Value} {base : Heap} {x : Str} {k : Nat} {ps : List Str} {sp : Sp}
/-- a def that may raise, where nothing is wanted of what it raises -/
theorem Cal.calm (c : Cal P w K mg base (L2.CX P w) x k ps sp) : Cal P w K mg base CX0 x k ps (fun vs H Q _ => sp vs H Q (fun _ _ _ => False)) := by
  obtain ⟨f, fd, F, g, kp, b⟩ := c
  refine ⟨f, fd, ⟨fun vs H Q E h => F.len vs H Q _ h, fun A outer s H args us vs Q E hr e hb hv hs => ?_⟩, g, kp, b⟩
  refine codeAny_mono (F.run A outer s H args us vs Q (fun _ _ _ => False) hr e hb hv hs) fun r s' hq => ?_
  cases r with
  | error e =>
    obtain ⟨_, _, _, _, _, _, _, _, _, _, _, _, z⟩ := hq
    exact z.elim
  | ok fl =>
    cases fl with
    | ret u => exact hq
    | next => exact hq
    | brk => exact hq
    | cont => exact hq
theorem Cal.imp {CX : CXT} {sp' : Sp} (c : Cal P w K mg base CX x k ps sp) (h : ∀ vs H Q E, sp' vs H Q E → sp vs H Q E) : Cal P w K mg base CX x k ps sp' := by
  obtain ⟨f, fd, F, g, kp, b⟩ := c
  exact ⟨f, fd, F.imp h, g, kp, b⟩
end
section
variable {K : PySem.W.Frag} {σ : L2.St} {H H' : Hp} {ta tb te tl to ti : TE} {t : TT} {x y z v : V} {D : Ends} {tu tz : TS} {vs : List Nat}
/-- tuples of a number and a list, all new, no list the one at p -/
def RwsN (p : Addr) (H0 H : Hp) : List Addr → List (Int × List Int) → Prop := Paired (fun t r => ∃ q, q ≠ p ∧ H0 t = none ∧ H0 q = none ∧ H t = some (.tup [.int r.1, .ref q]) ∧ H q = some (.lst (r.2.map V.int)))
/-- the same, whoever made them -/
def Rws (K : PySem.W.Frag) (H : Hp) : List Addr → List (Int × List Int) → Prop := Paired (fun t r => ∃ q, SqT K H t [.int r.1, .ref q] ∧ SqL K H q (r.2.map V.int))
theorem RwsN.rws {p : Addr} {H0 : Hp} {ts : List Addr} {rows : List (Int × List Int)} (h : RwsN p H0 H ts rows) : Rws K H ts rows := Paired.mapP h fun _ _ ⟨q, _, _, _, h1, h2⟩ => ⟨q, SqT.of h1, SqL.of h2⟩
theorem Rws.mono {ts : List Addr} {rows : List (Int × List Int)} (e : Ex H H') (h : Rws K H ts rows) : Rws K H' ts rows := Paired.mapP h fun _ _ ⟨q, h1, h2⟩ => ⟨q, ex_t e h1, ex_l e h2⟩
theorem RwsN.mono {p : Addr} {H0 : Hp} {ts : List Addr} {rows : List (Int × List Int)} (e : Ex H H') (h : RwsN p H0 H ts rows) : RwsN p H0 H' ts rows := Paired.mapP h fun _ _ ⟨q, a, b, c, h1, h2⟩ => ⟨q, a, b, c, e _ _ h1, e _ _ h2⟩
theorem RwsN.back {p : Addr} {H0 H1 : Hp} {ts : List Addr} {rows : List (Int × List Int)} (e : Ex H0 H1) (h : RwsN p H1 H ts rows) : RwsN p H0 H ts rows := Paired.mapP h fun _ _ ⟨q, a, b, c, h1, h2⟩ => ⟨q, a, fresh_back e b, fresh_back e c, h1, h2⟩
def RetRws (rows : List (Int × List Int)) (H : Hp) (Q : VK) : Prop := ∀ p ts H2, H p = none → Ex H H2 → H2 p = some (.lst (ts.map V.ref)) → RwsN p H H2 ts rows → Q (.ref p) H2
theorem RetRws.go {rows : List (Int × List Int)} {Q : VK} (q : RetRws rows H Q) {H1 : Hp} (e : Ex H H1) {p : Addr} {ts : List Addr} {H2 : Hp} (np : H1 p = none) (e2 : Ex H1 H2) (h : H2 p = some (.lst (ts.map V.ref))) (r : RwsN p H1 H2 ts rows) : Q (.ref p) H2 :=
  q p ts H2 (fresh_back e np) (e.trans e2) h (r.back e)
def EvR (te : TE) (σ : L2.St) (H : Hp) (rows : List (Int × List Int)) : Prop := ∀ H1, Ex H H1 → ∀ Q : VK, RetRws rows H1 Q → te σ H1 Q
theorem evR_cal {sp : Sp} {vs : List V} {E : XK} {ta : TA} {rows : List (Int × List Int)} (h : EvA ta σ H vs) (hs : ∀ H1, Ex H H1 → ∀ Q : VK, RetRws rows H1 Q → ∀ E : XK, sp vs H1 Q E) : EvR (tCall sp [] E ta) σ H rows := fun H1 e Q q =>
  h H1 e _ fun H2 e2 => by
    show sp (vs ++ []) H2 Q E
    rw [List.append_nil]
    exact hs H2 (e.trans e2) Q (fun p ts H3 np e3 h3 r => q p ts H3 (fresh_back e2 np) (e2.trans e3) h3 (r.back e2)) E
theorem q_asgR {i : Nat} {rows : List (Int × List Int)} (h : EvR te σ H rows) (k : ∀ p ts H1, H p = none → Ex H H1 → H1 p = some (.lst (ts.map V.ref)) → RwsN p H H1 ts rows → tz D (σ.set i (some (.ref p))) H1) : tSeq (tAsg te (gName i)) tz D σ H :=
  h H (Ex.refl H) _ fun p ts H1 np e h1 r => k p ts H1 np e h1 r
theorem q_appR {rows : List (Int × List Int)} (h : EvR ta σ H rows) (hv : ∀ H1, Ex H H1 → Ev te σ H1 v) (hz : rows.length < 100000) (k : ∀ H1, Ex H H1 → tz D σ H1) : tSeq (tDrop (tBM K "list" rAppend ta (tCons te tNil))) tz D σ H := h H (Ex.refl H) _ fun p ts H1 np e1 hp r =>
  ⟨Or.inl ⟨rfl, _, sq_of hp⟩, hv H1 e1 H1 (Ex.refl _) _ fun H2 e2 => ⟨p, _, v, rfl, rfl, e2 p _ hp, sz_lt (by rw [List.length_map, Paired.length r]; exact hz), k _ (Ex.mut (e1.trans e2) np)⟩⟩
/-- [(d, a new list) for d in a new list of ints] -/
theorem evR_lc {ns : List Int} {j : Nat} {t1 t2 : TE} (w : Int → List Int) (h : EvL tl σ H (ns.map V.int)) (hz : ns.length ≤ 40000) (hw : ∀ x, wipe ((wipe σ vs).set j (some x)) vs = wipe σ vs)
    (he : ∀ r H1, Ex H H1 → r ∈ ns → Ev t1 ((wipe σ vs).set j (some (.int r))) H1 (.int r) ∧ EvL t2 ((wipe σ vs).set j (some (.int r))) H1 ((w r).map V.int)) :
    EvR (tLc (iList K tl) (gName j) tYes (tTup (tCons t1 (tCons t2 tNil))) vs) σ H (ns.map fun r => (r, w r)) := fun H0 e Q q => h H0 e _ fun a H1 na e1 ha => ⟨a, rfl, ⟨_, sq_of ha⟩, fun Dl hD =>
  lc_list (xs := ns.map V.int) (fun n H' => H1 Dl = none ∧ Ex H1 H' ∧ ∃ ts, H' Dl = some (.lst (ts.map V.ref)) ∧ RwsN Dl H1 H' ts ((ns.take n).map fun r => (r, w r))) ⟨hD, Ex.new hD, [], upd_same, .nil⟩ (fun n H' _ p => sq_of (p.2.1 _ _ ha)) (fun n x H' hn p => by
    obtain ⟨p1, p2, ts, p3, p4⟩ := p
    obtain ⟨r, hr, rfl⟩ := map_get hn
    have hm : r ∈ ns := List.mem_of_getElem? hr
    obtain ⟨g1, g2⟩ := he r H1 (e.trans e1) hm
    refine ⟨hw _, ?_⟩
    refine et_yes (H := H') _ (Ex.refl _) _ fun H3 e3 => ?_
    rw [if_pos rfl]
    refine g1 H3 (p2.trans e3) _ fun H4 e4 => g2 H4 ((p2.trans e3).trans e4) _ fun q H5 nq e5 hq => ⟨sz_of (show 2 ≤ 100000 by decide), fun T nT => ?_⟩
    have e35 : Ex H' H5 := (e3.trans e4).trans e5
    have e36 : Ex H' (upd H5 T (.tup [.int r, .ref q])) := e35.trans (Ex.new nT)
    have hDl := e36 _ _ p3
    have nq1 : H1 q = none := fresh_back ((p2.trans e3).trans e4) nq
    have nT1 : H1 T = none := fresh_back (p2.trans e35) nT
    have qD : q ≠ Dl := fun z => by
      have := (e3.trans e4) _ _ p3
      rw [← z, nq] at this
      cases this
    have TD : T ≠ Dl := fun z => by
      have := e35 _ _ p3
      rw [← z, nT] at this
      cases this
    have qT : q ≠ T := fun z => by
      rw [z, nT] at hq
      cases hq
    refine ⟨_, hDl, ?_, p1, Ex.mut (p2.trans e36) p1, ts ++ [T], by rw [upd_same, List.map_append]; rfl, ?_⟩
    · refine sz_lt ?_
      rw [List.length_map, Paired.length p4, List.length_map, List.length_take]
      omega
    · have et : ns.take (n + 1) = ns.take n ++ [r] := by rw [List.take_add_one, hr]; rfl
      rw [et, List.map_append]
      refine Paired.snoc (Paired.mapP p4 fun t r' ⟨q', z1, z2, z3, z4, z5⟩ => ⟨q', z1, z2, z3, ?_, ?_⟩) ⟨q, qD, nT1, nq1, ?_, ?_⟩
      · rw [upd_ne (ne_of (e36 _ _ z4) hDl (by intro z; cases z))]
        exact e36 _ _ z4
      · rw [upd_ne z1]
        exact e36 _ _ z5
      · rw [upd_ne TD, upd_same]
      · rw [upd_ne qD, upd_ne qT]
        exact hq) (fun H' p => by
    obtain ⟨p1, p2, ts, p3, p4⟩ := p
    rw [List.length_map, List.take_length] at p4
    exact q Dl ts H' (fresh_back e1 p1) (e1.trans p2) p3 (p4.back e1))⟩
/-- for d, f in what is told: f.append(..) -/
theorem q_forRwApp {rows : List (Int × List Int)} {j1 j2 : Nat} {u : V} (h : EvR te σ H rows) (hz : rows.length ≤ 1000) (hl : ∀ r ∈ rows, r.2.length < 50000) (hj : j1 < σ.length) (hj2 : j2 < σ.length) (hne : j1 ≠ j2) (k : ∀ x y H1, Ex H H1 → tz D ((σ.set j1 x).set j2 y) H1) :
    tSeq (tFor (iList K te) (gTup K 2 (gCons (gName j1) (gCons (gName j2) gNil))) (tDrop (tBM K "list" rAppend (tVar j2) (tCons (tC u) tNil)))) tz D σ H :=
  h H (Ex.refl H) _ fun p ts H1 np e1 hp R => ⟨p, rfl, ⟨_, sq_of hp⟩, for_list (xs := ts.map V.ref)
    (fun i σ' H' => (∃ x y, σ' = (σ.set j1 x).set j2 y) ∧ Ex H H' ∧ H' p = some (.lst (ts.map V.ref)) ∧ ∀ t ∈ ts, ∃ d q xs, q ≠ p ∧ H q = none ∧ H' t = some (.tup [.int d, .ref q]) ∧ H' q = some (.lst xs) ∧ xs.length < 50000 + i)
    ⟨⟨σ[j1], σ[j2], by
      rw [List.set_getElem_self hj, List.set_getElem_self hj2]⟩, e1, hp, fun t ht => by
      obtain ⟨n, hn⟩ := List.mem_iff_getElem?.mp ht
      obtain ⟨r, hr, q, z1, z2, z3, z4, z5⟩ := paired_get R hn
      exact ⟨r.1, q, _, z1, z3, z4, z5, by rw [List.length_map]; have := hl r (List.mem_of_getElem? hr); omega⟩⟩
    (fun i σ' H' _ p => sq_of p.2.2.1) (fun i x σ' H' hx hp => by
      obtain ⟨⟨y1, y2, rfl⟩, p2, p3, p4⟩ := hp
      rw [List.getElem?_map] at hx
      obtain ⟨t, ht, rfl⟩ := Option.map_eq_some_iff.mp hx
      have hm := List.mem_of_getElem? ht
      have hi : i < ts.length := (List.getElem?_eq_some_iff.mp ht).1
      have hlen := Paired.length R
      obtain ⟨d, q, xs, qp, nq, h1, h2, h3⟩ := p4 t hm
      refine ⟨t, _, rfl, .inl (.inl h1), rfl, .int d, [.ref q], rfl, .ref q, [], rfl, rfl, ?_⟩
      refine s_app h2 (ev_var ?_) ev_c (by omega) fun H3 e3 => ⟨⟨some (.int d), some (.ref q), ?_⟩, Ex.mut (p2.trans e3) nq, ?_, fun t' ht' => ?_⟩
      · rw [List.getElem?_set_self (by rw [List.length_set, List.length_set, List.length_set]; exact hj2)]
      · rw [List.set_comm _ _ hne.symm, List.set_set, List.set_set]
      · rw [upd_ne qp.symm]
        exact e3 _ _ p3
      · obtain ⟨d', q', ys, z1, z2, z3, z4, z5⟩ := p4 t' ht'
        have nt : t' ≠ q := ne_of z3 h2 (by intro z; cases z)
        by_cases e : q' = q
        · subst e
          rw [h2] at z4
          cases z4
          exact ⟨d', q', _, z1, z2, by rw [upd_ne nt]; exact e3 _ _ z3, upd_same, by rw [List.length_append, List.length_singleton]; omega⟩
        · exact ⟨d', q', ys, z1, z2, by rw [upd_ne nt]; exact e3 _ _ z3, by rw [upd_ne e]; exact e3 _ _ z4, by omega⟩) (fun σ' H' p => by
      obtain ⟨⟨y1, y2, rfl⟩, p2, _⟩ := p
      exact k y1 y2 H' p2)⟩
/-- for x, y in zip(a, b) -/
theorem s_forZ {a b : Addr} {xs ys : List V} {tl : TA} {j1 j2 : Nat} (h : EvA tl σ H [.ref a, .ref b]) (hx : SqL K H a xs) (hy : SqL K H b ys) (hl : xs.length = ys.length) (Pv : Nat → L2.St → Hp → Prop) (h0 : ∀ H1, Ex H H1 → Pv 0 σ H1) (hq : ∀ i σ' H', Pv i σ' H' → SqL K H' a xs ∧ SqL K H' b ys)
    (hs : ∀ i x y σ' H', xs[i]? = some x → ys[i]? = some y → Pv i σ' H' → ∀ H2, Ex H' H2 → tu { D with nx := Pv (i + 1), ct := Pv (i + 1), bk := D.nx } ((σ'.set j1 (some x)).set j2 (some y)) H2) (hd : ∀ σ' H', Pv xs.length σ' H' → D.nx σ' H') :
    tFor (iZip K tl) (gTup K 2 (gCons (gName j1) (gCons (gName j2) gNil))) tu D σ H :=
  h H (Ex.refl H) _ fun H1 e => ⟨a, b, xs, ys, rfl, ex_l e hx, ex_l e hy, for_it (n := xs.length) (walk_zip (by omega)) Pv (h0 H1 e) (fun i σ' H' _ p => hq i σ' H' p) (fun i v σ' H' H'' hi p y => by
    obtain ⟨T, x, y, rfl, hT, rfl, hx, hy⟩ := y
    exact ⟨T, _, rfl, .inl (.inl upd_same), rfl, x, [y], rfl, y, [], rfl, rfl, hs i x y σ' H' hx hy p _ (Ex.new hT)⟩) hd⟩
theorem q_forZ {a b : Addr} {xs ys : List V} {tl : TA} {j1 j2 : Nat} (h : EvA tl σ H [.ref a, .ref b]) (hx : SqL K H a xs) (hy : SqL K H b ys) (hl : xs.length = ys.length) (Pv : Nat → L2.St → Hp → Prop) (h0 : ∀ H1, Ex H H1 → Pv 0 σ H1) (hq : ∀ i σ' H', Pv i σ' H' → SqL K H' a xs ∧ SqL K H' b ys)
    (hs : ∀ i x y σ' H', xs[i]? = some x → ys[i]? = some y → Pv i σ' H' → ∀ H2, Ex H' H2 → tu { D with nx := Pv (i + 1), ct := Pv (i + 1), bk := tz D } ((σ'.set j1 (some x)).set j2 (some y)) H2) (hd : ∀ σ' H', Pv xs.length σ' H' → tz D σ' H') :
    tSeq (tFor (iZip K tl) (gTup K 2 (gCons (gName j1) (gCons (gName j2) gNil))) tu) tz D σ H := s_forZ (D := { D with nx := tz D }) h hx hy hl Pv h0 hq hs hd
/-! == of a pair of a number and a list -/
def dNL (r : Int × List Int) : PyData := .tuple [.int r.1, dI r.2]
theorem dNL_ok (r : Int × List Int) : okD (dNL r) = true := by
  show (true && (okD (dI r.2) && true)) = true
  rw [dI_ok]
  rfl
theorem dNL_lay (r : Int × List Int) : PyData.canLay0 (dNL r) = true := by
  show PyData.canLayAll0 [.int r.1, dI r.2] = true
  unfold PyData.canLayAll0 PyData.canLayAll0 PyData.canLayAll0
  rw [dI_lay]
  rfl
theorem dNL_dep (r : Int × List Int) : (dNL r).depth ≤ 2 := by
  show PyData.depthAll [.int r.1, dI r.2] + 1 ≤ 2
  unfold PyData.depthAll PyData.depthAll PyData.depthAll
  have := dI_dep r.2
  simp only [PyData.depth]
  omega
theorem dNL_sh (r : Int × List Int) : SeqAt.shaped (dNL r) = true := shaped_of (dNL_lay r) (Nat.le_trans (dNL_dep r) (by decide))
theorem dNL_inj (a b : Int × List Int) (e : dNL a = dNL b) : a = b := by
  obtain ⟨a1, a2⟩ := a
  obtain ⟨b1, b2⟩ := b
  simp only [dNL, PyData.tuple.injEq, List.cons.injEq, PyData.int.injEq, and_true] at e
  rw [e.1, dI_inj _ _ e.2]
theorem dNL_eqv (a b : Int × List Int) : PyData.eqv (dNL a) (dNL b) = decide (a = b) := eqv_dec dNL dNL_ok dNL_inj a b
theorem dp_NL {t q : Addr} {r : Int × List Int} (h : SqT K H t [.int r.1, .ref q]) (g : SqL K H q (r.2.map V.int)) : Dp K H (.ref t) (dNL r) := .tup h (.cons (.int _) (.cons (dp_ints g) .nil))
theorem rv_neNL {t u q p : Addr} {r s : Int × List Int} (h1 : SqT K H t [.int r.1, .ref q]) (g1 : SqL K H q (r.2.map V.int)) (h2 : SqT K H u [.int s.1, .ref p]) (g2 : SqL K H p (s.2.map V.int)) : RV (rNeD K) (.ref t) (.ref u) H (.bl (!decide (r = s))) :=
  rv_neD (fun _ e => dp_NL (ex_t e h1) (ex_l e g1)) (fun _ e => dp_NL (ex_t e h2) (ex_l e g2)) (dNL_sh _) (dNL_sh _) (by rw [dNL_eqv])
end
/-- two rising lists of the same numbers -/
theorem rise_uniq : ∀ {a b : List Nat}, a.Pairwise (· < ·) → b.Pairwise (· < ·) → (∀ x, x ∈ a ↔ x ∈ b) → a = b
  | [], [], _, _, _ => rfl
  | [], y :: b, _, _, h => absurd ((h y).mpr (List.mem_cons_self ..)) (by simp)
  | x :: a, [], _, _, h => absurd ((h x).mp (List.mem_cons_self ..)) (by simp)
  | x :: a, y :: b, ha, hb, h => by
    have a1 := List.pairwise_cons.mp ha
    have b1 := List.pairwise_cons.mp hb
    have e : x = y := by
      rcases List.mem_cons.mp ((h x).mp (List.mem_cons_self ..)) with e | e
      · exact e
      · rcases List.mem_cons.mp ((h y).mpr (List.mem_cons_self ..)) with f | f
        · exact f.symm
        · have := a1.1 y f
          have := b1.1 x e
          omega
    subst e
    congr 1
    refine rise_uniq a1.2 b1.2 fun z => ⟨fun hz => ?_, fun hz => ?_⟩
    · rcases List.mem_cons.mp ((h z).mp (List.mem_cons_of_mem _ hz)) with e | e
      · have := a1.1 z hz
        omega
      · exact e
    · rcases List.mem_cons.mp ((h z).mpr (List.mem_cons_of_mem _ hz)) with e | e
      · have := b1.1 z hz
        omega
      · exact e
end Kp

/-! The root polynomials up to 420: their steps, their products. -/
namespace Kp
def phi (n : Nat) : List Int := atP (GF n) (LF n)
/-- one of the last number 1, of two numbers or more -/
structure Mon (f : List Int) : Prop where
  two : 2 ≤ f.length
  one : coef f (f.length - 1) = 1
theorem Mon.ne {f : List Int} (h : Mon f) : f ≠ [] := fun e => by
  have := h.two
  rw [e] at this
  exact absurd this (by decide)
theorem Mon.tr {f : List Int} (h : Mon f) : Tr f := fun _ => by
  rw [h.one]
  decide
theorem Mon.l1 {f : List Int} (h : Mon f) : 1 ≤ l1 f := by
  have := coef_l1 f (f.length - 1)
  rw [h.one] at this
  exact this
theorem atP_len {f : List Int} {k : Nat} (h : f ≠ []) : (atP f k).length = (f.length - 1) * k + 1 := by
  unfold atP
  rw [if_neg h, mkL_len]
theorem atP_last {f : List Int} {k : Nat} (h : f ≠ []) (hk : 1 ≤ k) : coef (atP f k) ((atP f k).length - 1) = coef f (f.length - 1) := by
  rw [atP_len h, Nat.add_sub_cancel, coef_atP hk]
  unfold pw
  rw [Nat.mul_mod_left, if_pos rfl, Nat.mul_div_cancel _ (by omega)]
theorem Mon.atP {f : List Int} {k : Nat} (h : Mon f) (hk : 1 ≤ k) : Mon (atP f k) := by
  refine ⟨?_, by rw [atP_last h.ne hk, h.one]⟩
  rw [atP_len h.ne]
  have := h.two
  have := Nat.mul_le_mul (show 1 ≤ f.length - 1 by omega) hk
  omega
theorem trim_l1 (f : List Int) : Kp.l1 (trim f) ≤ Kp.l1 f := by
  have key : ∀ (n : Nat) (f : List Int), Kp.l1 (f.take n) ≤ Kp.l1 f := by
    intro n
    induction n with
    | zero =>
      intro f
      rw [List.take_zero]
      exact Nat.zero_le _
    | succ n ih =>
      intro f
      cases f with
      | nil => exact Nat.le_refl _
      | cons a f =>
        show a.natAbs + Kp.l1 (f.take n) ≤ a.natAbs + Kp.l1 f
        have := ih f
        omega
  exact key _ f
theorem atP_l1 {f : List Int} {k : Nat} (hk : 1 ≤ k) (t : Tr f) : Kp.l1 (Kp.atP f k) ≤ Kp.l1 f := by
  rw [← wide_eq hk t, ← l1_wide k f]
  exact trim_l1 _
theorem atP_val {f : List Int} {k : Nat} (x : Int) (hk : 1 ≤ k) (t : Tr f) : valP x (Kp.atP f k) = valP (x ^ k) f := by
  rw [← val_wide x hk, ← wide_eq hk t]
  -- the value doesn't see noughts at the end
  have key : ∀ (g h : List Int), (∀ m, coef g m = coef h m) → valP x g = valP x h := by
    intro g
    induction g with
    | nil =>
      intro h
      induction h with
      | nil => exact fun _ => rfl
      | cons b h ih =>
        intro e
        have e0 := e 0
        have := ih fun m => by
          have := e (m + 1)
          rw [coef_cons, coef_nil] at this
          rw [coef_nil]
          exact this
        rw [coef_nil, coef_cons0] at e0
        show (0 : Int) = b + x * valP x h
        rw [← this, ← e0]
        show (0 : Int) = 0 + x * 0
        omega
    | cons a g ih =>
      intro h e
      cases h with
      | nil =>
        have e0 := e 0
        have := ih [] fun m => by
          have := e (m + 1)
          rw [coef_cons, coef_nil] at this
          rw [coef_nil]
          exact this
        rw [coef_nil, coef_cons0] at e0
        show a + x * valP x g = 0
        rw [this, e0]
        show (0 : Int) + x * 0 = 0
        omega
      | cons b h =>
        have e0 := e 0
        rw [coef_cons0, coef_cons0] at e0
        have := ih h fun m => by
          have := e (m + 1)
          rwa [coef_cons, coef_cons] at this
        show a + x * valP x g = b + x * valP x h
        rw [this, e0]
  exact key _ _ (coef_trim _)
theorem stepF_len (f : List Int) (p : Nat) : (stepF f p).length = (f.length - 1) * (p - 1) + 1 := dec_len _ _
/-- behind one prime -/
theorem chk_step {r : Int × Int} {ps : List (Int × Int)} {f : List Int} (hc : chkA (r :: ps) f = true) (hf : Mon f) : 1 ≤ r.1 ∧ (f.length - 1) * r.1.toNat ≤ 420 ∧ mulK (stepF f r.1.toNat) f = atP f r.1.toNat ∧ l1 (stepF f r.1.toNat) < BB ∧ chkA ps (stepF f r.1.toNat) = true ∧
    (stepF f r.1.toNat) ≠ [] ∧ coef (stepF f r.1.toNat) ((stepF f r.1.toNat).length - 1) = 1 := by
  unfold chkA at hc
  rw [Bool.and_eq_true, Bool.and_eq_true, Bool.and_eq_true, Bool.and_eq_true, decide_eq_true_iff, decide_eq_true_iff, decide_eq_true_iff, decide_eq_true_iff] at hc
  obtain ⟨c1, c2, c3, c4, c5⟩ := hc
  have hp : 1 ≤ r.1.toNat := by omega
  have f2 := hf.two
  have fl := hf.l1
  generalize r.1.toNat = p at *
  have sl := stepF_len f p
  have sn : stepF f p ≠ [] := fun e => by
    rw [e] at sl
    exact absurd sl (by simp)
  have hm : mulK (stepF f p) f = atP f p := times_at (B := BB) hp sn hf.ne hf.ne (by
    rw [sl]
    have : (f.length - 1) * p = (f.length - 1) * (p - 1) + (f.length - 1) := by
      obtain ⟨q, rfl⟩ : ∃ q, p = q + 1 := ⟨p - 1, by omega⟩
      rw [Nat.add_sub_cancel, Nat.mul_succ]
    omega) c4 c3
  refine ⟨c1, c2, hm, ?_, c5, sn, ?_⟩
  · have := Nat.mul_le_mul_left (l1 (stepF f p)) fl
    omega
  · have l2 := List.length_pos_iff.mpr sn
    have e1 := cv_last sn hf.ne
    rw [← coef_mulK, hm, hf.one, Int.mul_one] at e1
    have e2 := atP_last hf.ne hp
    rw [hf.one, atP_len hf.ne, Nat.add_sub_cancel] at e2
    rw [← e1, ← e2]
    congr 1
    obtain ⟨q, rfl⟩ : ∃ q, p = q + 1 := ⟨p - 1, by omega⟩
    rw [sl, Nat.add_sub_cancel, Nat.mul_succ]
    omega
theorem all_P : ((List.range 420).all fun i => (partedF (i + 1 : Nat)).all fun r => decide (2 ≤ r.1) && decide (r.1 ≤ 420)) = true := by decide +kernel
theorem rows_bd {n : Nat} (h1 : 1 ≤ n) (h2 : n ≤ 420) {r : Int × Int} (hr : r ∈ partedF n) : 2 ≤ r.1 ∧ r.1 ≤ 420 := by
  have h := List.all_eq_true.mp all_P (n - 1) (List.mem_range.mpr (by omega))
  rw [show n - 1 + 1 = n by omega] at h
  have := List.all_eq_true.mp h r hr
  rw [Bool.and_eq_true, decide_eq_true_iff, decide_eq_true_iff] at this
  exact this
theorem chkA_at {n : Nat} (h1 : 1 ≤ n) (h2 : n ≤ 420) : chkA (partedF n) [-1, 1] = true := by
  have h := List.all_eq_true.mp all_A (n - 1) (List.mem_range.mpr (by omega))
  rwa [show n - 1 + 1 = n by omega] at h
/-- the polynomial behind the primes so far -/
def fAt (rows : List (Int × Int)) : List Int := rows.foldl (fun f r => stepF f r.1.toNat) [-1, 1]
structure StP (rest : List (Int × Int)) (f : List Int) : Prop where
  mon : Mon f
  len : f.length ≤ 421
  bd : l1 f < BB
  chk : chkA rest f = true
theorem StP.step {r : Int × Int} {ps : List (Int × Int)} {f : List Int} (s : StP (r :: ps) f) (hr : 2 ≤ r.1) : StP ps (stepF f r.1.toNat) := by
  obtain ⟨c1, c2, c3, c4, c5, c6, c7⟩ := chk_step s.chk s.mon
  have f2 := s.mon.two
  have hp : 2 ≤ r.1.toNat := by omega
  refine ⟨⟨?_, c7⟩, ?_, c4, c5⟩
  · rw [stepF_len]
    have := Nat.mul_le_mul (show 1 ≤ f.length - 1 by omega) (show 1 ≤ r.1.toNat - 1 by omega)
    omega
  · rw [stepF_len]
    have : (f.length - 1) * (r.1.toNat - 1) ≤ (f.length - 1) * r.1.toNat := Nat.mul_le_mul_left _ (by omega)
    omega
theorem stP0 {n : Nat} (h1 : 1 ≤ n) (h2 : n ≤ 420) : StP (partedF n) [-1, 1] := ⟨⟨by decide, by decide⟩, by decide, by decide +kernel, chkA_at h1 h2⟩
theorem stP_end : ∀ (rows : List (Int × Int)) (f : List Int), (∀ r ∈ rows, 2 ≤ r.1) → StP rows f → StP [] (rows.foldl (fun f r => stepF f r.1.toNat) f)
  | [], f, _, s => s
  | r :: rows, f, h, s => stP_end rows (stepF f r.1.toNat) (fun z hz => h z (List.mem_cons_of_mem _ hz)) (s.step (h r (List.mem_cons_self ..)))
theorem GF_ok {n : Nat} (h1 : 1 ≤ n) (h2 : n ≤ 420) : StP [] (GF n) := stP_end _ _ (fun r hr => (rows_bd h1 h2 hr).1) (stP0 h1 h2)
theorem LF_le (n : Nat) : LF n ≤ n := by
  have key : ∀ (rows : List (Int × Int)) (m : Nat), rows.foldl (fun l r => l / r.1.toNat) m ≤ m := by
    intro rows
    induction rows with
    | nil => exact fun m => Nat.le_refl m
    | cons r rows ih => exact fun m => Nat.le_trans (ih _) (Nat.div_le_self _ _)
  exact key _ n

/-! ### all divisors' products -/
def rowOf (i : Nat) : Int × Nat × Nat := eT.getD i (0, 0, 0)
theorem eT_at {i : Nat} (h : i < 420) : eT.getD i (0, 0, 0) = eval1 (i + 1) := by
  unfold eT
  rw [List.getD_eq_getElem?_getD, List.getElem?_map, List.getElem?_range h]
  rfl
theorem chkD_at {d : Nat} (h1 : 1 ≤ d) (h2 : d ≤ 420) : chkD d = true := by
  have h := List.all_eq_true.mp all_D (d - 1) (List.mem_range.mpr (by omega))
  rwa [show d - 1 + 1 = d by omega] at h
theorem LF_pos {d : Nat} (h1 : 1 ≤ d) (h2 : d ≤ 420) : 1 ≤ LF d := by
  have h := chkD_at h1 h2
  unfold chkD at h
  rw [Bool.and_eq_true, Bool.and_eq_true, Bool.and_eq_true, decide_eq_true_iff, decide_eq_true_iff, decide_eq_true_iff, decide_eq_true_iff] at h
  exact h.2.2.2
theorem phi_mon {d : Nat} (h1 : 1 ≤ d) (h2 : d ≤ 420) : Mon (phi d) := (GF_ok h1 h2).mon.atP (LF_pos h1 h2)
theorem phi_l1 {d : Nat} (h1 : 1 ≤ d) (h2 : d ≤ 420) : l1 (phi d) ≤ l1 (GF d) := atP_l1 (LF_pos h1 h2) (GF_ok h1 h2).mon.tr
theorem phi_val {d : Nat} (h1 : 1 ≤ d) (h2 : d ≤ 420) (x : Int) : valP x (phi d) = valP (x ^ LF d) (GF d) := atP_val x (LF_pos h1 h2) (GF_ok h1 h2).mon.tr
theorem phi_len {d : Nat} (h1 : 1 ≤ d) (h2 : d ≤ 420) : (phi d).length - 1 = ((GF d).length - 1) * LF d := by
  unfold phi
  rw [atP_len (GF_ok h1 h2).mon.ne, Nat.add_sub_cancel]
theorem vR3_of : ∀ (l : List Nat), (∀ i ∈ l, i < 420) → (vR3 (l.map fun i => eT.getD i (0, 0, 0))).1 = valR BB (l.map fun i => phi (i + 1)) ∧ l1R (l.map fun i => phi (i + 1)) ≤ (vR3 (l.map fun i => eT.getD i (0, 0, 0))).2.1 ∧ (vR3 (l.map fun i => eT.getD i (0, 0, 0))).2.2 = lenR (l.map fun i => phi (i + 1))
  | [], _ => ⟨rfl, Nat.le_refl _, rfl⟩
  | i :: l, h => by
    obtain ⟨a, b, c⟩ := vR3_of l fun j hj => h j (List.mem_cons_of_mem _ hj)
    have hi := h i (List.mem_cons_self ..)
    rw [List.map_cons, List.map_cons, eT_at hi]
    refine ⟨?_, ?_, ?_⟩
    · show (vR3 _).1 * valP _ (GF (i + 1)) = valR BB _ * valP BB (phi (i + 1))
      rw [a, phi_val (by omega) (by omega)]
    · show l1R _ * l1 (phi (i + 1)) ≤ (vR3 _).2.1 * l1 (GF (i + 1))
      exact Nat.mul_le_mul b (phi_l1 (by omega) (by omega))
    · show (vR3 _).2.2 + ((GF (i + 1)).length - 1) * LF (i + 1) = lenR _ + ((phi (i + 1)).length - 1)
      rw [c, phi_len (by omega) (by omega)]
theorem dvs_lt {d i : Nat} (h : i ∈ dvs d) : i < d := List.mem_range.mp (List.mem_filter.mp h).1
/-- the product of all divisors' polynomials -/
theorem phi_prod {d : Nat} (h1 : 1 ≤ d) (h2 : d ≤ 420) : prodR ((dvs d).map fun i => phi (i + 1)) = xd1 d ∧ l1R ((dvs d).map fun i => phi (i + 1)) < BB := by
  have h := chkD_at h1 h2
  unfold chkD at h
  rw [Bool.and_eq_true, Bool.and_eq_true, Bool.and_eq_true, decide_eq_true_iff, decide_eq_true_iff, decide_eq_true_iff, decide_eq_true_iff] at h
  obtain ⟨c1, c2, c3, _⟩ := h
  have hlt : ∀ i ∈ dvs d, i < 420 := fun i hi => by have := dvs_lt hi; omega
  obtain ⟨a, b, c⟩ := vR3_of (dvs d) hlt
  refine ⟨prod_xd1 (B := BB) h1 (fun g hg => ?_) (by rw [← c, c3]) (by omega) (by rw [← a, c1]), by omega⟩
  obtain ⟨i, hi, rfl⟩ := List.mem_map.mp hg
  have := hlt i hi
  exact (phi_mon (by omega) (by omega)).ne
theorem l1R_drop {l : List (List Int)} (h : ∀ g ∈ l, 1 ≤ l1 g) : ∀ k, l1R (l.drop k) ≤ l1R l := by
  induction l with
  | nil =>
    intro k
    rw [List.drop_nil]
    exact Nat.le_refl _
  | cons g r ih =>
    intro k
    cases k with
    | zero => exact Nat.le_refl _
    | succ k =>
      have := ih (fun z hz => h z (List.mem_cons_of_mem _ hz)) k
      have h2 := Nat.mul_le_mul_left (l1R r) (h g (List.mem_cons_self ..))
      show l1R (r.drop k) ≤ l1R r * l1 g
      omega
/-- n's divisors, rising -/
def dvL (n : Nat) : List Nat := (dvs n).map fun i => i + 1
theorem dvL_rise (n : Nat) : (dvL n).Pairwise (· < ·) := by
  unfold dvL dvs
  rw [List.pairwise_map]
  exact (List.Pairwise.filter _ List.pairwise_lt_range).imp fun h => by omega
theorem dvL_mem {n x : Nat} (h : 1 ≤ n) : x ∈ dvL n ↔ x ∣ n := by
  unfold dvL dvs
  rw [List.mem_map]
  constructor
  · rintro ⟨i, hi, rfl⟩
    rw [List.mem_filter, decide_eq_true_iff] at hi
    exact Nat.dvd_of_mod_eq_zero hi.2
  · intro hx
    have := Nat.le_of_dvd (by omega) hx
    have x0 : 0 < x := Nat.pos_of_dvd_of_pos hx (by omega)
    refine ⟨x - 1, ?_, by omega⟩
    rw [List.mem_filter, decide_eq_true_iff, List.mem_range, Nat.sub_add_cancel x0]
    exact ⟨by omega, Nat.mod_eq_zero_of_dvd hx⟩
/-- those of n's divisors to the i-th that divide the i-th are all its divisors -/
theorem dvL_below {n i d : Nat} (hn : 1 ≤ n) (hi : (dvL n)[i]? = some d) : ((dvL n).take (i + 1)).filter (fun e => decide (d % e = 0)) = dvL d := by
  have hd := (dvL_mem hn).mp (List.mem_of_getElem? hi)
  have d1 : 1 ≤ d := Nat.pos_of_dvd_of_pos hd (by omega)
  obtain ⟨h1, h2⟩ := List.getElem?_eq_some_iff.mp hi
  refine rise_uniq (List.Pairwise.filter _ ((dvL_rise n).sublist (List.take_sublist _ _))) (dvL_rise d) fun x => ?_
  rw [dvL_mem d1, List.mem_filter, decide_eq_true_iff]
  constructor
  · exact fun h => Nat.dvd_of_mod_eq_zero h.2
  · intro hx
    refine ⟨?_, Nat.mod_eq_zero_of_dvd hx⟩
    obtain ⟨k, hk, e⟩ := List.mem_iff_getElem.mp ((dvL_mem hn).mpr (Nat.dvd_trans hx hd))
    have hle := Nat.le_of_dvd (by omega) hx
    have hki : k ≤ i := by
      refine Nat.le_of_not_lt fun q => ?_
      have := List.pairwise_iff_getElem.mp (dvL_rise n) i k h1 hk q
      omega
    rw [List.mem_iff_getElem]
    exact ⟨k, by rw [List.length_take]; omega, by rw [List.getElem_take]; exact e⟩
theorem lenR_mem {g : List Int} : ∀ {l : List (List Int)}, g ∈ l → g.length - 1 ≤ lenR l
  | a :: l, h => by
    show _ ≤ lenR l + (a.length - 1)
    rcases List.mem_cons.mp h with rfl | h
    · omega
    · have := lenR_mem h
      omega
theorem phi_le {d : Nat} (h1 : 1 ≤ d) (h2 : d ≤ 420) : (phi d).length ≤ d + 1 := by
  have h := chkD_at h1 h2
  unfold chkD at h
  rw [Bool.and_eq_true, Bool.and_eq_true, Bool.and_eq_true, decide_eq_true_iff, decide_eq_true_iff, decide_eq_true_iff, decide_eq_true_iff] at h
  obtain ⟨_, _, c3, _⟩ := h
  have hlt : ∀ i ∈ dvs d, i < 420 := fun i hi => by have := dvs_lt hi; omega
  obtain ⟨_, _, c⟩ := vR3_of (dvs d) hlt
  have hm : d - 1 ∈ dvs d := by
    unfold dvs
    rw [List.mem_filter, List.mem_range, decide_eq_true_iff, Nat.sub_add_cancel h1]
    exact ⟨by omega, Nat.mod_self d⟩
  have := lenR_mem (List.mem_map_of_mem (f := fun i => phi (i + 1)) hm)
  rw [← c, c3] at this
  rw [show d - 1 + 1 = d by omega] at this
  omega
theorem phi_bd {d : Nat} (h1 : 1 ≤ d) (h2 : d ≤ 420) : l1 (phi d) < BB := Nat.lt_of_le_of_lt (phi_l1 h1 h2) (GF_ok h1 h2).bd
end Kp

/-! d.keys() of a dict whose keys are pairs of ints, and sorted(d.keys()). -/
namespace Kp
open PySem PySem.Spec PyProof.Rows L2
/-- the view that d.keys() gives -/
def keysO (p d : Addr) : HO := .ext fun h => PySem.W.KdlKeysView h p d
theorem keysO_ok {P : Program} {w : World} {H : Hp} {h : Heap} {p d : Addr} (e : h.get? p = some { cls := .type "dict_keys", data := .fields #[.ref d] }) : ObjOk P w H h p (keysO p d) := by
  refine ⟨⟨_, e, rfl, rfl⟩, ⟨_, e⟩, fun h1 h2 x k => ?_⟩
  obtain ⟨o, ho, r⟩ := x
  exact ⟨o, k o ho, r⟩
theorem keys_meets {prog : Program} {w : World} {d : Addr} {es : Array DictEntry} {ep : Nat} (hd : (d == sysModules) = false) :
    MeetsIn prog w (Builtin.«dict.keys» ⟨[.ref d], []⟩) (fun _ R s => s.heap.DictRaw d es ep ∧ R (.ok (.ret (.ref s.heap.objs.size))) { s with heap := s.heap.push { cls := .type "dict_keys", data := .fields #[.ref d] } }) := by
  refine .of_wp fun A R s hmh => ?_
  obtain ⟨hm, h⟩ := hmh
  unfold Builtin.«dict.keys»
  refine wpAny_bind ?_; unfold Builtin.Dict.noArgs
  refine wpAny_bind (wpAny_notOrdered_dict hm.typeIs ?_); show wpAny _ _ (pure d) _ _ s
  refine wpAny_pure ?_; show wpAny _ _ (Builtin.Dict.showsAll d >>= _) _ _ s
  unfold Builtin.Dict.showsAll; rw [if_neg (by rw [hd]; exact Bool.false_ne_true)]
  refine wpAny_bind (wpAny_pure ?_); exact wpAny_bind (wpAny_newObj_type (wpAny_pure ⟨_, rfl, h⟩))
section
variable {X : Cx}
def rKeysT : V → List V → Hp → VK → Prop := fun x xs H Q => ∃ (a : Addr) (kvs : List (List L2.Key × V)), x = .ref a ∧ xs = [] ∧ H a = some (.dT kvs) ∧ ∀ p, H p = none → Q (.ref p) (upd H p (keysO p a))
theorem mt_keysT : MtR X "dict.keys" rKeysT := by
  intro pins s σ H x xs v us Q I rx rxs h
  obtain ⟨a, kvs, rfl, rfl, ha, q⟩ := h
  cases rx; cases rxs
  obtain ⟨z, hd, xs', rel, o, es, ep, ho, hx, hdat, _⟩ := L2.dt_of I.hok ha
  have hm : s.heap.DictRaw a es ep := ⟨o, ho, hx, hdat⟩
  refine PySem.call_meetsIn PySem.F.slot_dict_keys hm.typeIs PySem.F.entry_dict_keys (PySem.F.args_dict_keys_1 _) (keys_meets (es := es) (ep := ep) hd) ⟨hm, ?_⟩
  exact ⟨.ref s.heap.objs.size, upd H s.heap.objs.size (keysO s.heap.objs.size a), I.laid (t' := s.toks) (fun b u e => Heap.get?_push_of_some _ e) (Nat.le_refl _) (keysO_ok (Heap.get?_push_size _ rfl)), rfl, q _ (I.hok.fresh (Nat.le_refl _))⟩
end

/-! ### sorted of that -/
section
open SrtO
variable {prog : Program} {w : World} {A : Around} {E : Value → Shared → Prop} {s : Shared} {r d : Addr} {es : Array DictEntry} {ep : Nat} {k : Value → Int × Int}
/-- what is collected out of the view, laid behind all that stood -/
theorem view_collect {R : List Value → Shared → Prop} (hh : A.handled = none) (hv : PySem.W.KdlKeysView s.heap r d) (hm : s.heap.DictRaw d es ep) (hn : es.size ≤ sizeLine)
    (h : ∀ (h' : Heap) (tk : Nat) (acc : Array Value), (∀ b o, s.heap.get? b = some o → h'.get? b = some o) → s.heap.objs.size ≤ h'.objs.size → PySem.ItemsOf (fun i v => ∃ hi : i < es.size, v = es[i].key) acc es.size → R acc.toList { s with heap := h', toks := tk }) :
    wpAny (model prog w) A (collect (.ref r)) R E s := by
  have src := PySem.KdlSrc.rawKeys (prog := prog) (w := w) (r := r) (d := d) (es := es) (ep := ep)
  have there := src.there _ ⟨hv, hm⟩
  unfold collect; refine wpAny_bind (wpAny_runValue (codeAny_builtin entry_proto_collect' ?_)); rw [Around.under_plainId PySem.F.plain_proto_collect _]
  generalize hS : s.heap.objs.size = S
  show wpAny _ A.in1 (newList [] >>= fun l => again (.builtin "list.__iadd__" ⟨[l, .ref r], []⟩)) _ _ s; refine wpAny_bind (wpAny_newObj_type ?_)
  rw [hS]; refine wpAny_pure ⟨plainId_quiet PySem.F.plain_list_iadd _, codeAny_builtin entry_list_iadd' ?_⟩; rw [Around.under_plainId PySem.F.plain_list_iadd _]
  show wpAny _ A.in1 (Builtin.List.listExtendWith (.ref S) (.ref r) (.ref S)) _ _ _
  have hL : (s.heap.push (seqObj "list" #[] 0)).get? S = some { cls := .type "list", data := .seq #[] 0 } := by
    rw [← hS]
    exact Heap.get?_push_size _ rfl
  have key := PySem.W.kdl_extend (A := A) (s := { s with heap := s.heap.push (seqObj "list" #[] 0) })
    (R := fun (q : Result) (s2 : Shared) => ∃ (h2 : Heap) (t2 : Nat) (ac : Array Value) (c2 : Nat), q = .ok (.ret (.ref S)) ∧ s2 = { s with heap := h2, toks := t2 } ∧ (∀ b o, s.heap.get? b = some o → h2.get? b = some o) ∧ h2.get? S = some (seqObj "list" ac c2) ∧ PySem.ItemsOf (fun i v => ∃ hi : i < es.size, v = es[i].key) ac es.size)
    src hh (src.keep _ _ ⟨hv, hm⟩ fun b _ o e => Heap.get?_push_of_some _ e) S (Nat.ne_of_gt (show r < S from hS ▸ there.1)) (Nat.ne_of_gt (show d < S from hS ▸ there.2)) (.ref S) 0 hL
    (fun h2 t2 ac c2 k2 g2 i2 => ⟨h2, t2, ac, c2, rfl, rfl, fun b o e => k2 b o (Nat.ne_of_lt (show b < S from hS ▸ Heap.lt_size e)) (Heap.get?_push_of_some _ e), g2, i2⟩) hn
  have fin : ∀ (h2 : Heap) (t2 : Nat) (ac : Array Value) (c2 : Nat), (∀ b o, s.heap.get? b = some o → h2.get? b = some o) → h2.get? S = some (seqObj "list" ac c2) → PySem.ItemsOf (fun i v => ∃ hi : i < es.size, v = es[i].key) ac es.size → R ac.toList { s with heap := h2, toks := t2 } := fun h2 t2 ac c2 k2 g2 i2 =>
    h h2 t2 ac k2 (Nat.le_of_lt (hS ▸ Heap.lt_size g2)) i2
  refine wpAny_mono key (fun f s2 x => ?_) fun e s2 x => ?_
  · cases f with
    | done f =>
      obtain ⟨h2, t2, ac, c2, e, rfl, k2, g2, i2⟩ := x
      cases e
      show wpAny _ A (load S >>= _) _ _ _
      exact wpAny_bind (wpAny_load g2 (wpAny_pure (fin h2 t2 ac c2 k2 g2 i2)))
    | again c =>
      refine ⟨x.1, codeAny_mono x.2 fun q s3 y => ?_⟩
      obtain ⟨h2, t2, ac, c2, rfl, rfl, k2, g2, i2⟩ := y
      show wpAny _ A (load S >>= _) _ _ _
      exact wpAny_bind (wpAny_load g2 (wpAny_pure (fin h2 t2 ac c2 k2 g2 i2)))
  · obtain ⟨_, _, _, _, z, _⟩ := x
    cases z
theorem sorted_view {Q : Value → Shared → Prop} (hh : A.handled = none) (hv : PySem.W.KdlKeysView s.heap r d) (hm : s.heap.DictRaw d es ep) (hn : es.size ≤ sizeLine) (hp : ∀ v ∈ es.toList.map (·.key), Srt.IsPair s.heap v (k v).1 (k v).2)
    (h : ∀ (h' : Heap) (tk : Nat) (dd : Addr) (out : List Value), Srtd (fun v u => lexB (k v) (k u)) out → Stb (fun v u => lexB (k v) (k u)) out (es.toList.map (·.key)) → (∀ b o, s.heap.get? b = some o → h'.get? b = some o) → s.heap.objs.size ≤ dd → (∃ n, h'.get? dd = some (seqObj "list" out.toArray n)) → Q (.ref dd) { s with heap := h', toks := tk }) :
    wpAny (model prog w) A (call (.builtin "sorted") [.ref r]) Q E s := by
  refine PySem.Calls.call_function_entry kind_sorted plain_sorted entry_sorted (args_sorted1 _) ?_
  unfold Builtin.«sorted»; refine wpAny_bind (m := checkCount "sorted" 1 1 _) (wpAny_pure ?_)
  refine wpAny_bind (view_collect hh hv hm hn fun h' tk acc hk szs hacc => ?_)
  have ev : acc.toList = es.toList.map (·.key) := by
    refine List.ext_getElem? fun j => ?_
    rw [List.getElem?_map]
    cases hj : acc.toList[j]? with
    | none =>
      have h1 := List.getElem?_eq_none_iff.mp hj
      have h2 : acc.toList.length = es.size := by rw [Array.length_toList]; exact hacc.1
      rw [List.getElem?_eq_none (by rw [Array.length_toList]; omega)]
      rfl
    | some v =>
      obtain ⟨hi, hv⟩ := hacc.2 j v (by rw [← Array.getElem?_toList]; exact hj)
      rw [Array.getElem?_toList, Array.getElem?_eq_getElem hi, hv]
      rfl
  rw [ev]
  generalize es.toList.map (·.key) = vs at *
  have hz : vs.length ≤ sizeLine := by
    rw [← ev, Array.length_toList, hacc.1]
    exact hn
  refine wpAny_bind (wpAny_newList ?_ hz)
  have hoL : (h'.push (seqObj "list" vs.toArray 0)).get? h'.objs.size = some (seqObj "list" vs.toArray 0) := Heap.get?_push_size _ rfl
  have old : ∀ b o, s.heap.get? b = some o → b ≠ h'.objs.size ∧ (h'.push (seqObj "list" vs.toArray 0)).get? b = some o := fun b o e => ⟨Nat.ne_of_lt (Heap.lt_size (hk b o e)), Heap.get?_push_of_some _ (hk b o e)⟩
  refine wpAny_bind (wpAny_holding (wpAny_call_entry slot_list_sort ⟨_, hoL, rfl⟩ entry_list_sort (list_sort_ord (s := { s with heap := h'.push (seqObj "list" vs.toArray 0), toks := tk }) (swo_lex k) hoL hz (fun h2 => ?_) fun out hs hb => ⟨_, rfl, ?_⟩) (args_list_sort _)))
  · refine pairs_sortableO (by omega) (fun v hm => (hp v hm).keeps fun b o e _ => (old b o e).2) fun o e => ?_
    have e' : some o = some (seqObj "list" vs.toArray 0) := e.symm.trans hoL
    cases e'
    exact fun c => absurd (Value.type.inj c) (by decide)
  · refine wpAny_pure ⟨_, rfl, h _ _ _ out hs hb (fun b o e => ?_) szs (sortedHeap_at hoL)⟩
    obtain ⟨q1, q2⟩ := old b o e
    rw [← q2]
    exact sortedHeap_old q1 (Heap.lt_size q2)
end

/-! ### as a rule: keys pairs of ints -/
abbrev kP (e : Int × Int) : List L2.Key := [Sum.inl e.1, Sum.inl e.2]
/-- sorted(d.keys()): the keys' own tuples, by their ints -/
def rSortKeys : List V → Hp → VK → Prop := fun vs H Q => ∃ (p a : Addr) (ks : List ((Int × Int) × V)), vs = [.ref p] ∧ H p = some (keysO p a) ∧ H a = some (.dT (ks.map fun e => (kP e.1, e.2))) ∧
  ∀ (zs : List (Addr × Int × Int)) (l : Addr), (zs.map (·.2)).Perm (ks.map (·.1)) → (zs.map (·.2)).Pairwise (fun x y => SrtO.lexB y x = false) → (∀ z ∈ zs, H z.1 = some (.tup [.int z.2.1, .int z.2.2])) → H l = none → Q (.ref l) (upd H l (.lst (zs.map fun z => V.ref z.1)))
/-- the pair that stands at v -/
def pairOf (H : Hp) (v : Value) : Int × Int := match v with
  | .ref a => match H a with
    | some (.tup [.int i, .int j]) => (i, j)
    | _ => (0, 0)
  | _ => (0, 0)
theorem pairOf_at {H : Hp} {a : Addr} {i j : Int} (h : H a = some (.tup [.int i, .int j])) : pairOf H (.ref a) = (i, j) := by
  unfold pairOf
  simp only [h]
theorem map_of_paired {α β γ : Type} {F : α → β → Prop} {f : α → γ} {g : β → γ} (h : ∀ a b, F a b → f a = g b) : ∀ {l : List α} {m : List β}, Paired F l m → l.map f = m.map g
  | _, _, .nil => rfl
  | _, _, .cons a r => by rw [List.map_cons, List.map_cons, h _ _ a, map_of_paired h r]
theorem refs_of : ∀ {out : List Value}, (∀ v ∈ out, ∃ a, v = Value.ref a) → ∃ as : List Addr, out = as.map Value.ref
  | [], _ => ⟨[], rfl⟩
  | v :: out, h => by
    obtain ⟨a, rfl⟩ := h v (List.mem_cons_self ..)
    obtain ⟨as, rfl⟩ := refs_of (out := out) fun z hz => h z (List.mem_cons_of_mem _ hz)
    exact ⟨a :: as, rfl⟩
theorem vals_refsK : ∀ as : List Addr, Vals (as.map V.ref) (as.map Value.ref)
  | [] => .nil
  | _ :: r => .cons rfl (vals_refsK r)
section
variable {X : Cx}
theorem cr_sortedKeys (hc : X.calm = true) : CallR X (.builtin "sorted") rSortKeys := by
  intro pins s σ H vs us Q I r h
  obtain ⟨p, a, ks, rfl, hp, ha, q⟩ := h
  obtain ⟨u, rfl, ru⟩ := vals1 r
  obtain rfl : u = Value.ref p := ru
  have view : PySem.W.KdlKeysView s.heap p a := (show ObjOk X.prog X.w H s.heap p (keysO p a) from I.hok p _ hp).1
  obtain ⟨z, hd, xs', rel, o, es, ep, ho, hx, hdat, hes, his, hn⟩ := L2.dt_of I.hok ha
  have hm : s.heap.DictRaw a es ep := ⟨o, ho, hx, hdat⟩
  have l1 := Paired.length rel
  have l2 : es.size = xs'.length := size_of_entries hes
  rw [List.length_map] at l1 z
  have ekeys : es.toList.map (·.key) = (xs'.map fun x => x.2.1).map Value.ref := by
    rw [hes, List.map_map, List.map_map]
    rfl
  -- each key's tuple
  have tup : ∀ b ∈ xs'.map (fun x => x.2.1), ∃ e ∈ ks, H b = some (.tup [.int e.1.1, .int e.1.2]) := fun b hb => by
    obtain ⟨x, hxm, rfl⟩ := List.mem_map.mp hb
    obtain ⟨j, hj⟩ := List.mem_iff_getElem?.mp hxm
    obtain ⟨e0, he0, r1, r2, r3⟩ := L2.DX.pget rel hj
    rw [List.getElem?_map] at he0
    obtain ⟨e, he, rfl⟩ := Option.map_eq_some_iff.mp he0
    exact ⟨e, List.mem_of_getElem? he, r2⟩
  have keyl : ((xs'.map fun x => x.2.1).map Value.ref).map (pairOf H) = ks.map (·.1) := by
    rw [List.map_map, List.map_map]
    refine (List.ext_getElem? fun j => ?_)
    rw [List.getElem?_map, List.getElem?_map]
    cases hj : xs'[j]? with
    | none =>
      rw [List.getElem?_eq_none (by have := List.getElem?_eq_none_iff.mp hj; omega)]
      rfl
    | some x =>
      obtain ⟨e0, he0, r1, r2, r3⟩ := L2.DX.pget rel hj
      rw [List.getElem?_map] at he0
      obtain ⟨e, he, rfl⟩ := Option.map_eq_some_iff.mp he0
      rw [he]
      exact congrArg some (pairOf_at r2)
  refine sorted_view (k := pairOf H) (I.ok.hd hc) view hm (by rw [l2, ← l1]; exact z) (fun v hv => ?_) fun h' tk dd out h1 h2 kp hdd hout => ?_
  · rw [ekeys] at hv
    obtain ⟨b, hb, rfl⟩ := List.mem_map.mp hv
    obtain ⟨e, _, hb2⟩ := tup b hb
    obtain ⟨_, its2, r2, o2, ho2, hc2, n2, hd2⟩ := I.hok _ _ hb2
    obtain ⟨u1, u2, rfl, ri, rj⟩ := vals2 r2
    obtain ⟨t1, rfl⟩ := ri
    obtain ⟨t2, rfl⟩ := rj
    rw [pairOf_at hb2]
    exact ⟨b, o2, t1, t2, n2, rfl, ho2, hc2, hd2⟩
  · rw [ekeys] at h2
    obtain ⟨as, rfl⟩ := refs_of (out := out) fun v hv => by
      obtain ⟨b, _, e⟩ := List.mem_map.mp (h2.perm.mem_iff.mp hv)
      exact ⟨b, e.symm⟩
    have mem : ∀ b ∈ as, ∃ e ∈ ks, H b = some (.tup [.int e.1.1, .int e.1.2]) := fun b hb => by
      obtain ⟨c, hcm, e⟩ := List.mem_map.mp (h2.perm.mem_iff.mp (List.mem_map_of_mem hb))
      cases e
      exact tup _ hcm
    have e2 : (as.map fun b => (b, pairOf H (.ref b))).map (·.2) = (as.map Value.ref).map (pairOf H) := by
      rw [List.map_map, List.map_map]
      rfl
    have e1 : (as.map fun b => (b, pairOf H (.ref b))).map (fun z => V.ref z.1) = as.map V.ref := by
      rw [List.map_map]
      rfl
    obtain ⟨n, hn2⟩ := hout
    have hln : (as.map V.ref).length ≤ sizeLine := by
      have := h2.perm.length_eq
      rw [List.length_map, List.length_map, List.length_map] at this
      rw [List.length_map, this, ← l1]
      exact z
    refine ⟨.ref dd, upd H dd (.lst (as.map V.ref)), I.laid (t' := tk) kp hdd ⟨hln, as.map Value.ref, n, vals_refsK as, hn2⟩, rfl, ?_⟩
    rw [← e1]
    refine q _ dd ?_ ?_ (fun y hy => ?_) (I.hok.fresh hdd)
    · rw [e2, ← keyl]
      exact h2.perm.map _
    · rw [e2, List.pairwise_map]
      exact h1
    · obtain ⟨b, hb, rfl⟩ := List.mem_map.mp hy
      obtain ⟨e, _, hb2⟩ := mem b hb
      rw [pairOf_at hb2]
      exact hb2
end
end Kp

/-! Lists of triples of ints; a dict with pairs as keys. -/
namespace Kp
open PySem PySem.Spec PyProof.Rows L2 Evl
abbrev I3 := Int × Int × Int
section
variable {K : PySem.W.Frag} {σ : L2.St} {H H' : Hp} {ta tb te tl to ti : TE} {t : TT} {x y z v : V} {D : Ends} {tu tz : TS} {vs : List Nat}
def Trs (K : PySem.W.Frag) (H : Hp) : List V → List I3 → Prop := Paired fun v r => ∃ t, v = .ref t ∧ SqT K H t [.int r.1, .int r.2.1, .int r.2.2]
theorem Trs.mono {xs : List V} {rows : List I3} (e : Ex H H') (h : Trs K H xs rows) : Trs K H' xs rows := Paired.mapP h fun v r ⟨t, q, s⟩ => ⟨t, q, ex_t e s⟩
theorem Trs.upd {l : Addr} {us ys xs : List V} {rows : List I3} (hl : H l = some (.lst us)) (h : Trs K H xs rows) : Trs K (upd H l (.lst ys)) xs rows := Paired.mapP h fun v r ⟨t, q, s⟩ => ⟨t, q, sqt_upd hl s⟩
theorem Trs.snoc {xs : List V} {rows : List I3} {t : Addr} {a b c : Int} (h : Trs K H xs rows) (ht : SqT K H t [.int a, .int b, .int c]) : Trs K H (xs ++ [.ref t]) (rows ++ [(a, b, c)]) := Paired.snoc h ⟨t, rfl, ht⟩
theorem trs_get : ∀ {xs : List V} {rows : List I3} {i : Nat} {x : V}, Trs K H xs rows → xs[i]? = some x → ∃ r t, rows[i]? = some r ∧ x = .ref t ∧ SqT K H t [.int r.1, .int r.2.1, .int r.2.2]
  | _, _, _, _, .nil, h => by simp at h
  | _, _, 0, _, .cons (b := r) q _, h => by
    obtain ⟨t, q1, q2⟩ := q
    have e := Option.some.inj h
    exact ⟨r, t, rfl, e ▸ q1, q2⟩
  | _, _, i + 1, _, .cons _ q, h => trs_get (i := i) q h
def RetT (K : PySem.W.Frag) (rows : List I3) (H : Hp) (Q : VK) : Prop := ∀ p xs H2, H p = none → Ex H H2 → H2 p = some (.lst xs) → Trs K H2 xs rows → Q (.ref p) H2
def EvT3 (K : PySem.W.Frag) (te : TE) (σ : L2.St) (H : Hp) (rows : List I3) : Prop := ∀ H1, Ex H H1 → ∀ Q : VK, RetT K rows H1 Q → te σ H1 Q
theorem RetT.go {rows : List I3} {Q : VK} (q : RetT K rows H Q) {H1 : Hp} (e : Ex H H1) {p : Addr} {xs : List V} {H2 : Hp} (np : H1 p = none) (e2 : Ex H1 H2) (h : H2 p = some (.lst xs)) (r : Trs K H2 xs rows) : Q (.ref p) H2 := q p xs H2 (fresh_back e np) (e.trans e2) h r
theorem et3_cal {sp : Sp} {vs : List V} {E : XK} {ta : TA} {rows : List I3} (h : EvA ta σ H vs) (hs : ∀ H1, Ex H H1 → ∀ Q : VK, RetT K rows H1 Q → ∀ E : XK, sp vs H1 Q E) : EvT3 K (tCall sp [] E ta) σ H rows := fun H1 e Q q =>
  h H1 e _ fun H2 e2 => by
    show sp (vs ++ []) H2 Q E
    rw [List.append_nil]
    exact hs H2 (e.trans e2) Q (fun p xs H3 hp e3 h3 p3 => q p xs H3 (fresh_back e2 hp) (e2.trans e3) h3 p3) E
theorem q_asgT3 {i : Nat} {rows : List I3} (h : EvT3 K te σ H rows) (k : ∀ p xs H1, H p = none → Ex H H1 → H1 p = some (.lst xs) → Trs K H1 xs rows → tz D (σ.set i (some (.ref p))) H1) : tSeq (tAsg te (gName i)) tz D σ H :=
  h H (Ex.refl H) _ fun p xs H1 np e h1 r => k p xs H1 np e h1 r
/-- [(a, b, c)] -/
theorem et3_one {tr : TA} {a b c : Int} (h : EvA tr σ H [.int a, .int b, .int c]) : EvT3 K (tLst (tCons (tTup tr) tNil)) σ H [(a, b, c)] := fun H1 e Q q => by
  have key := h H1 e (fun vs H2 => vs.length ≤ sizeLine ∧ ∀ t, H2 t = none → [V.ref t].length ≤ sizeLine ∧ ∀ l, (upd H2 t (.tup vs)) l = none → Q (.ref l) (upd (upd H2 t (.tup vs)) l (.lst [.ref t]))) fun H2 e2 => ⟨sz_of (show 3 ≤ 100000 by decide), fun t nt => ⟨sz_of (show 1 ≤ 100000 by decide), fun l nl => by
    have eN : Ex (upd H2 t (.tup [.int a, .int b, .int c])) (upd (upd H2 t (.tup [.int a, .int b, .int c])) l (.lst [.ref t])) := Ex.new nl
    exact q l [.ref t] _ (fresh_back (e2.trans (Ex.new nt)) nl) ((e2.trans (Ex.new nt)).trans eN) upd_same (.cons ⟨t, rfl, SqT.of (eN _ _ upd_same)⟩ .nil)⟩⟩
  exact key
/-- for a, b, c in xs, by its name -/
theorem s_forT3 {a : Addr} {xs : List V} {rows : List I3} {j1 j2 j3 : Nat} (h : Ev tl σ H (.ref a)) (Pv : Nat → L2.St → Hp → Prop) (h0 : ∀ H1, Ex H H1 → Pv 0 σ H1) (hl : ∀ i σ' H', Pv i σ' H' → SqL K H' a xs ∧ Trs K H' xs rows)
    (hs : ∀ i r σ' H', rows[i]? = some r → Pv i σ' H' → tu { D with nx := Pv (i + 1), ct := Pv (i + 1), bk := D.nx } (((σ'.set j1 (some (.int r.1))).set j2 (some (.int r.2.1))).set j3 (some (.int r.2.2))) H') (hd : ∀ σ' H', Pv rows.length σ' H' → D.nx σ' H') :
    tFor (iList K tl) (gTup K 3 (gCons (gName j1) (gCons (gName j2) (gCons (gName j3) gNil)))) tu D σ H :=
  h H (Ex.refl H) _ fun H1 e => ⟨a, rfl, ⟨xs, (hl _ _ _ (h0 H1 e)).1⟩, for_list (xs := xs) Pv (h0 H1 e) (fun i σ' H' _ q => (hl _ _ _ q).1) (fun i x σ' H' hx q => by
    obtain ⟨r, t, hr, rfl, ht⟩ := trs_get (hl _ _ _ q).2 hx
    exact ⟨t, _, rfl, ht, rfl, .int r.1, [.int r.2.1, .int r.2.2], rfl, .int r.2.1, [.int r.2.2], rfl, .int r.2.2, [], rfl, rfl, hs i r σ' H' hr q⟩) (fun σ' H' q => by
    rw [Paired.length (hl _ _ _ (h0 H1 e)).2] at q
    exact hd σ' H' q)⟩
theorem q_forT3 {a : Addr} {xs : List V} {rows : List I3} {j1 j2 j3 : Nat} (h : Ev tl σ H (.ref a)) (Pv : Nat → L2.St → Hp → Prop) (h0 : ∀ H1, Ex H H1 → Pv 0 σ H1) (hl : ∀ i σ' H', Pv i σ' H' → SqL K H' a xs ∧ Trs K H' xs rows)
    (hs : ∀ i r σ' H', rows[i]? = some r → Pv i σ' H' → tu { D with nx := Pv (i + 1), ct := Pv (i + 1), bk := tz D } (((σ'.set j1 (some (.int r.1))).set j2 (some (.int r.2.1))).set j3 (some (.int r.2.2))) H') (hd : ∀ σ' H', Pv rows.length σ' H' → tz D σ' H') :
    tSeq (tFor (iList K tl) (gTup K 3 (gCons (gName j1) (gCons (gName j2) (gCons (gName j3) gNil)))) tu) tz D σ H := s_forT3 (D := { D with nx := tz D }) h Pv h0 hl hs hd
/-- over a new list of triples -/
theorem q_forT3N {rows : List I3} {j1 j2 j3 : Nat} (h : EvT3 K te σ H rows) (Pv : Addr → List V → Nat → L2.St → Hp → Prop) (h0 : ∀ p xs H1, H p = none → Ex H H1 → H1 p = some (.lst xs) → Trs K H1 xs rows → Pv p xs 0 σ H1) (hl : ∀ p xs i σ' H', Pv p xs i σ' H' → SqL K H' p xs ∧ Trs K H' xs rows)
    (hs : ∀ p xs i r σ' H', rows[i]? = some r → Pv p xs i σ' H' → tu { D with nx := Pv p xs (i + 1), ct := Pv p xs (i + 1), bk := tz D } (((σ'.set j1 (some (.int r.1))).set j2 (some (.int r.2.1))).set j3 (some (.int r.2.2))) H') (hd : ∀ p xs σ' H', Pv p xs rows.length σ' H' → tz D σ' H') :
    tSeq (tFor (iList K te) (gTup K 3 (gCons (gName j1) (gCons (gName j2) (gCons (gName j3) gNil)))) tu) tz D σ H :=
  h H (Ex.refl H) _ fun p xs H1 np e hp R => ⟨p, rfl, ⟨xs, sq_of hp⟩, for_list (xs := xs) (Pv p xs) (h0 p xs H1 np e hp R) (fun i σ' H' _ q => (hl _ _ _ _ _ q).1) (fun i x σ' H' hx q => by
    obtain ⟨r, t, hr, rfl, ht⟩ := trs_get (hl _ _ _ _ _ q).2 hx
    exact ⟨t, _, rfl, ht, rfl, .int r.1, [.int r.2.1, .int r.2.2], rfl, .int r.2.1, [.int r.2.2], rfl, .int r.2.2, [], rfl, rfl, hs p xs i r σ' H' hr q⟩) (fun σ' H' q => by
    rw [Paired.length R] at q
    exact hd p xs σ' H' q)⟩
/-- over a new list of pairs, what stood before free to change -/
theorem q_forP2 {rows : List (Int × Int)} {j1 j2 : Nat} (h : EvP K te σ H rows) (Pv : Addr → List V → Nat → L2.St → Hp → Prop) (h0 : ∀ p xs H1, H p = none → Ex H H1 → H1 p = some (.lst xs) → Prs K H1 xs rows → Pv p xs 0 σ H1) (hl : ∀ p xs i σ' H', Pv p xs i σ' H' → SqL K H' p xs ∧ Prs K H' xs rows)
    (hs : ∀ p xs i r σ' H', rows[i]? = some r → Pv p xs i σ' H' → tu { D with nx := Pv p xs (i + 1), ct := Pv p xs (i + 1), bk := tz D } ((σ'.set j1 (some (.int r.1))).set j2 (some (.int r.2))) H') (hd : ∀ p xs σ' H', Pv p xs rows.length σ' H' → tz D σ' H') :
    tSeq (tFor (iList K te) (gTup K 2 (gCons (gName j1) (gCons (gName j2) gNil))) tu) tz D σ H :=
  h H (Ex.refl H) _ fun p xs H1 np e hp R => ⟨p, rfl, ⟨xs, sq_of hp⟩, for_list (xs := xs) (Pv p xs) (h0 p xs H1 np e hp R) (fun i σ' H' _ q => (hl _ _ _ _ _ q).1) (fun i x σ' H' hx q => by
    obtain ⟨r, t, hr, rfl, ht⟩ := prs_get (hl _ _ _ _ _ q).2 hx
    exact ⟨t, _, rfl, ht, rfl, .int r.1, [.int r.2], rfl, .int r.2, [], rfl, rfl, hs p xs i r σ' H' hr q⟩) (fun σ' H' q => by
    rw [Paired.length R] at q
    exact hd p xs σ' H' q)⟩
/-- over a list of triples, a comprehension; its target three names -/
theorem el_lcT3 {a : Addr} {xs : List V} {rows : List I3} {j1 j2 j3 : Nat} (w : I3 → V) (h : Ev tl σ H (.ref a)) (hx : SqL K H a xs) (hp : Trs K H xs rows) (hz : rows.length ≤ 40000)
    (hw : ∀ x y z, wipe ((((wipe σ vs).set j1 (some x)).set j2 (some y)).set j3 (some z)) vs = wipe σ vs)
    (he : ∀ r H1, Ex H H1 → r ∈ rows → Ev te ((((wipe σ vs).set j1 (some (.int r.1))).set j2 (some (.int r.2.1))).set j3 (some (.int r.2.2))) H1 (w r)) :
    EvL (tLc (iList K tl) (gTup K 3 (gCons (gName j1) (gCons (gName j2) (gCons (gName j3) gNil)))) tYes te vs) σ H (rows.map w) := fun H0 e Q q => h H0 e _ fun H1 e1 => ⟨a, rfl, ⟨xs, ex_l (e.trans e1) hx⟩, fun Dl hD =>
  lc_list (xs := xs) (fun n H' => H1 Dl = none ∧ Ex H1 H' ∧ H' Dl = some (.lst ((rows.take n).map w))) ⟨hD, Ex.new hD, upd_same⟩ (fun n H' _ p => ex_l ((e.trans e1).trans p.2.1) hx) (fun n x H' hn p => by
    obtain ⟨p1, p2, p3⟩ := p
    obtain ⟨r, u, hr, rfl, hu⟩ := trs_get (hp.mono ((e.trans e1).trans p2)) hn
    have hm : r ∈ rows := List.mem_of_getElem? hr
    refine ⟨u, _, rfl, hu, rfl, .int r.1, [.int r.2.1, .int r.2.2], rfl, .int r.2.1, [.int r.2.2], rfl, .int r.2.2, [], rfl, rfl, hw _ _ _, ?_⟩
    refine et_yes (H := H') _ (Ex.refl _) _ fun H3 e3 => ?_
    rw [if_pos rfl]
    refine he r H1 (e.trans e1) hm H3 (p2.trans e3) _ fun H4 e4 => ⟨_, e4 Dl _ (e3 Dl _ p3), sz_lt (by rw [List.length_map, List.length_take]; omega), p1, Ex.mut ((p2.trans e3).trans e4) p1, ?_⟩
    rw [upd_same, List.take_add_one, hr, List.map_append]
    rfl) (fun H' p => by
    have q1 := p.2.2
    rw [Paired.length hp, List.take_length] at q1
    exact q Dl H' (fresh_back e1 p.1) (e1.trans p.2.1) q1)⟩
/-- all(a new list of truths) -/
theorem ev_all {bs : List Bool} (h : EvL ta σ H (bs.map V.bl)) : Ev (tCB (rAll K) (tCons ta tNil)) σ H (.bl (bs.all id)) := fun H1 e Q q =>
  h H1 e _ fun p H2 np e2 hp => ⟨p, bs, rfl, sq_of hp, q H2 e2⟩
theorem ev_int1n {b : Bool} {n : Int} (ha : Ev ta σ H (.bl b)) (hn : (if b then 1 else 0) = n) : Ev (tCB (fun xs H Q => (∃ i, xs = [.int i] ∧ Q (.int i) H) ∨ ∃ k, xs = [.bl k] ∧ Q (.int (if k then 1 else 0)) H) (tCons ta tNil)) σ H (.int n) := hn ▸ ev_int1b ha

/-! ### a dict whose keys are pairs -/
abbrev encD (e : (Int × Int) × Int) : List L2.Key × V := (kP e.1, V.int e.2)
def putI (ks : List ((Int × Int) × Int)) (k : Int × Int) (c : Int) : List ((Int × Int) × Int) := if (ks.any fun e => decide (e.1 = k)) = true then ks.map (fun e => if e.1 = k then (e.1, c) else e) else ks ++ [(k, c)]
theorem kP_eq (a b : Int × Int) : kP a = kP b ↔ a = b := by
  constructor
  · intro h
    simp only [kP, List.cons.injEq, Sum.inl.injEq, and_true] at h
    exact Prod.ext h.1 h.2
  · exact fun h => by rw [h]
theorem put_enc (ks : List ((Int × Int) × Int)) (k : Int × Int) (c : Int) : putK (ks.map encD) (kP k) (.int c) = (putI ks k c).map encD := by
  have ha : ((ks.map encD).any fun kv => decide (kv.1 = kP k)) = ks.any fun e => decide (e.1 = k) := by
    rw [List.any_map]
    congr 1
    funext e
    exact decide_eq_decide.mpr (kP_eq e.1 k)
  unfold putK putI
  rw [ha]
  split
  · rw [List.map_map, List.map_map]
    refine List.map_congr_left fun e _ => ?_
    show (if (encD e).1 = kP k then ((encD e).1, V.int c) else encD e) = encD (if e.1 = k then (e.1, c) else e)
    by_cases h : e.1 = k
    · rw [if_pos h, if_pos ((kP_eq _ _).mpr h)]
    · rw [if_neg h, if_neg fun q => h ((kP_eq _ _).mp q)]
  · rw [List.map_append]
    rfl
theorem val_enc : ∀ {ks : List ((Int × Int) × Int)} {k : Int × Int} {c : Int}, (ks.map (·.1)).Nodup → (k, c) ∈ ks → valV (ks.map encD) (kP k) = some (.int c)
  | e :: ks, k, c, hn, hm => by
    rw [List.map_cons, List.nodup_cons] at hn
    rcases List.mem_cons.mp hm with rfl | hm
    · exact valV_pos rfl
    · have ne : e.1 ≠ k := fun z => hn.1 (by rw [z]; exact List.mem_map.mpr ⟨(k, c), hm, rfl⟩)
      rw [List.map_cons, valV_neg fun z => ne ((kP_eq _ _).mp z)]
      exact val_enc hn.2 hm
theorem put_keys (ks : List ((Int × Int) × Int)) (k : Int × Int) (c : Int) (h : (ks.map (·.1)).Nodup) : ((putI ks k c).map (·.1)).Nodup ∧ ∀ e ∈ putI ks k c, e ∈ ks ∨ e = (k, c) := by
  unfold putI
  split
  · have e1 : (ks.map fun e => if e.1 = k then (e.1, c) else e).map (·.1) = ks.map (·.1) := by
      rw [List.map_map]
      refine List.map_congr_left fun e _ => ?_
      show (if e.1 = k then (e.1, c) else e).1 = e.1
      split <;> rfl
    refine ⟨by rw [e1]; exact h, fun e he => ?_⟩
    obtain ⟨f, hf, rfl⟩ := List.mem_map.mp he
    split
    · rename_i q
      rw [q]
      exact .inr rfl
    · exact .inl hf
  · rename_i q
    refine ⟨?_, fun e he => ?_⟩
    · rw [List.map_append]
      refine List.nodup_append.mpr ⟨h, by simp, fun a ha b hb e => q ?_⟩
      obtain ⟨f, hf, rfl⟩ := List.mem_map.mp ha
      have hb : b = k := by simpa using hb
      rw [List.any_eq_true]
      exact ⟨f, hf, decide_eq_true (e.trans hb)⟩
    · rcases List.mem_append.mp he with he | he
      · exact .inl he
      · exact .inr (by simpa using he)
theorem put_len (ks : List ((Int × Int) × Int)) (k : Int × Int) (c : Int) : (putI ks k c).length ≤ ks.length + 1 := by
  unfold putI
  split
  · rw [List.length_map]
    omega
  · rw [List.length_append, List.length_singleton]
    omega
/-- d[a, b] = c -/
theorem s_dput {td t1 t2 tv : TE} {d : Addr} {ks : List ((Int × Int) × Int)} {a b c : Int} (hd : H d = some (.dT (ks.map encD))) (ho : Ev td σ H (.ref d)) (hk : EvA (tCons t1 (tCons t2 tNil)) σ H [.int a, .int b]) (hv : Ev tv σ H (.int c)) (hl : ks.length < 100000)
    (k : ∀ H1, Ex H H1 → D.nx σ (upd H1 d (.dT ((putI ks (a, b) c).map encD)))) : sDPut td (tTup (tCons t1 (tCons t2 tNil))) tv D σ H :=
  hv H (Ex.refl H) _ fun H1 e1 => ho H1 e1 _ fun H2 e2 => hk H2 (e1.trans e2) _ fun H3 e3 => ⟨sz_of (show 2 ≤ 100000 by decide), fun q nq => by
    have e4 : Ex H (upd H3 q (.tup [.int a, .int b])) := ((e1.trans e2).trans e3).trans (Ex.new nq)
    have p := DPut.t (k := kP (a, b)) (v := .int c) (e4 _ _ hd) (b := q) upd_same (by rw [List.length_map]; exact sz_lt hl)
    rw [put_enc] at p
    exact ⟨d, _, rfl, p, k _ e4⟩⟩
/-- d[a, b] -/
theorem ev_dget {td t1 t2 : TE} {d : Addr} {ks : List ((Int × Int) × Int)} {a b c : Int} (hd : H d = some (.dT (ks.map encD))) (hn : (ks.map (·.1)).Nodup) (hm : ((a, b), c) ∈ ks) (ho : Ev td σ H (.ref d)) (hk : EvA (tCons t1 (tCons t2 tNil)) σ H [.int a, .int b]) : Ev (tDGet td (tTup (tCons t1 (tCons t2 tNil)))) σ H (.int c) := fun H1 e Q q =>
  ho H1 e _ fun H2 e2 => hk H2 (e.trans e2) _ fun H3 e3 => ⟨sz_of (show 2 ≤ 100000 by decide), fun t nt => by
    have e4 : Ex H (upd H3 t (.tup [.int a, .int b])) := ((e.trans e2).trans e3).trans (Ex.new nt)
    have g := DGet.t (k := kP (a, b)) (e4 _ _ hd) (b := t) upd_same
    rw [val_enc hn hm] at g
    exact ⟨d, .int c, rfl, g, q _ ((e2.trans e3).trans (Ex.new nt))⟩⟩
/-- the rows that sorted(d.keys()) and d[..] make -/
structure SortedRows (ks : List ((Int × Int) × Int)) (rows : List I3) : Prop where
  perm : (rows.map fun r => ((r.1, r.2.1), r.2.2)).Perm ks
  rise : rows.Pairwise fun x y => x.1 < y.1 ∨ x.1 = y.1 ∧ x.2.1 < y.2.1
/-- [(a, b, d[a, b]) for a, b in sorted(d.keys())] -/
theorem et3_keys {td t3 : TE} {ta1 : TE} {ta2 : TE} {d : Addr} {ks : List ((Int × Int) × Int)} {j1 j2 : Nat} (hd : H d = some (.dT (ks.map encD))) (hn : (ks.map (·.1)).Nodup) (hz : ks.length ≤ 40000) (ho : Ev td σ H (.ref d)) (hw : ∀ x y, wipe (((wipe σ vs).set j1 (some x)).set j2 (some y)) vs = wipe σ vs)
    (he : ∀ a b c H1, Ex H H1 → ((a, b), c) ∈ ks → Ev ta1 (((wipe σ vs).set j1 (some (.int a))).set j2 (some (.int b))) H1 (.int a) ∧ Ev ta2 (((wipe σ vs).set j1 (some (.int a))).set j2 (some (.int b))) H1 (.int b) ∧ Ev t3 (((wipe σ vs).set j1 (some (.int a))).set j2 (some (.int b))) H1 (.int c))
    (Q : VK) (q : ∀ rows, SortedRows ks rows → RetT K rows H Q) :
    tLc (iList K (tCB rSortKeys (tCons (tBM0 K "dict" rKeysT td) tNil))) (gTup K 2 (gCons (gName j1) (gCons (gName j2) gNil))) tYes (tTup (tCons ta1 (tCons ta2 (tCons t3 tNil)))) vs σ H Q :=
  ho H (Ex.refl H) _ fun H1 e1 => ⟨.inr (.inr (.inl ⟨rfl, .inr ⟨_, e1 _ _ hd⟩⟩)), d, _, rfl, rfl, e1 _ _ hd, fun p np => by
    have ep : Ex H1 (upd H1 p (keysO p d)) := Ex.new np
    refine ⟨p, d, ks.map fun e => (e.1, V.int e.2), rfl, upd_same, ?_, fun zs l hperm hsort hz1 nl => ?_⟩
    · rw [List.map_map]
      exact ep _ _ (e1 _ _ hd)
    rw [List.map_map] at hperm
    -- the values
    have hex : ∀ z ∈ zs, ∃ c, (z.2, c) ∈ ks := fun z hz => by
      have h1 : z.2 ∈ ks.map (·.1) := hperm.mem_iff.mp (List.mem_map_of_mem (f := (·.2)) hz)
      obtain ⟨e, he, h2⟩ := List.mem_map.mp h1
      exact ⟨e.2, by rw [← h2]; exact he⟩
    let val (k : Int × Int) : Int := ((ks.find? fun e => decide (e.1 = k)).map (·.2)).getD 0
    have hval : ∀ {k c}, (k, c) ∈ ks → val k = c := by
      intro k c hm
      have := val_enc hn hm
      have key : ∀ {ks : List ((Int × Int) × Int)}, (ks.map (·.1)).Nodup → (k, c) ∈ ks → ks.find? (fun e => decide (e.1 = k)) = some (k, c) := by
        intro ks
        induction ks with
        | nil => exact fun _ h => nomatch h
        | cons e ks ih =>
          intro hn hm
          rw [List.map_cons, List.nodup_cons] at hn
          rw [List.find?_cons]
          rcases List.mem_cons.mp hm with rfl | hm
          · rw [decide_eq_true rfl]
          · have ne : e.1 ≠ k := fun z => hn.1 (by rw [z]; exact List.mem_map.mpr ⟨(k, c), hm, rfl⟩)
            rw [decide_eq_false ne]
            exact ih hn.2 hm
      show ((ks.find? fun e => decide (e.1 = k)).map (·.2)).getD 0 = c
      rw [key hn hm]
      rfl
    have hvm : ∀ z ∈ zs, ((z.2.1, z.2.2), val z.2) ∈ ks := fun z hz => by
      obtain ⟨c, hc⟩ := hex z hz
      rw [hval hc]
      exact hc
    have hlen : zs.length = ks.length := by
      have := hperm.length_eq
      rwa [List.length_map, List.length_map] at this
    have e2 : Ex H1 (upd (upd H1 p (keysO p d)) l (.lst (zs.map fun z => V.ref z.1))) := ep.trans (Ex.new nl)
    generalize hH2 : upd (upd H1 p (keysO p d)) l (.lst (zs.map fun z => V.ref z.1)) = H2 at e2
    have hl2 : H2 l = some (.lst (zs.map fun z => V.ref z.1)) := by rw [← hH2, upd_same]
    have hz2 : ∀ z ∈ zs, H2 z.1 = some (.tup [.int z.2.1, .int z.2.2]) := fun z hz => by
      rw [← hH2]
      exact Ex.new nl _ _ (hz1 z hz)
    refine ⟨l, rfl, ⟨_, sq_of hl2⟩, fun Dl hD => ?_⟩
    refine lc_list (xs := zs.map fun z => V.ref z.1) (fun n H' => H2 Dl = none ∧ Ex H2 H' ∧ ∃ xs, H' Dl = some (.lst xs) ∧ Trs K H' xs ((zs.take n).map fun z => (z.2.1, z.2.2, val z.2))) ⟨hD, Ex.new hD, [], upd_same, .nil⟩ (fun n H' _ p => sq_of (p.2.1 _ _ hl2)) (fun n x H' hx p => ?_) (fun H' p => ?_)
    · obtain ⟨p1, p2, xs, p3, p4⟩ := p
      rw [List.getElem?_map] at hx
      obtain ⟨z, hzn, rfl⟩ := Option.map_eq_some_iff.mp hx
      have hm := List.mem_of_getElem? hzn
      have hzt := p2 _ _ (hz2 z hm)
      refine ⟨z.1, _, rfl, SqT.of hzt, rfl, .int z.2.1, [.int z.2.2], rfl, .int z.2.2, [], rfl, rfl, hw _ _, ?_⟩
      refine et_yes (H := H') _ (Ex.refl _) _ fun H3 e3 => ?_
      rw [if_pos rfl]
      have e03 : Ex H H3 := (e1.trans e2).trans (p2.trans e3)
      obtain ⟨g1, g2, g3⟩ := he z.2.1 z.2.2 (val z.2) H3 e03 (hvm z hm)
      refine g1 H3 (Ex.refl _) _ fun H4 e4 => g2 H4 e4 _ fun H5 e5 => g3 H5 (e4.trans e5) _ fun H6 e6 => ⟨sz_of (show 3 ≤ 100000 by decide), fun T nT => ?_⟩
      have e37 : Ex H' (upd H6 T (.tup [.int z.2.1, .int z.2.2, .int (val z.2)])) := (e3.trans (e4.trans (e5.trans e6))).trans (Ex.new nT)
      have hDl := e37 _ _ p3
      refine ⟨_, hDl, ?_, p1, Ex.mut (p2.trans e37) p1, xs ++ [.ref T], upd_same, ?_⟩
      · refine sz_lt ?_
        rw [Paired.length p4, List.length_map, List.length_take]
        omega
      · have et : zs.take (n + 1) = zs.take n ++ [z] := by rw [List.take_add_one, hzn]; rfl
        rw [et, List.map_append]
        exact ((p4.mono e37).upd hDl).snoc (sqt_upd hDl (SqT.of upd_same))
    · obtain ⟨p1, p2, xs, p3, p4⟩ := p
      rw [List.length_map, List.take_length] at p4
      refine q _ ⟨?_, ?_⟩ Dl xs H' (fresh_back (e1.trans e2) p1) ((e1.trans e2).trans p2) p3 p4
      · rw [List.map_map]
        have e3 : zs.map ((fun r : I3 => ((r.1, r.2.1), r.2.2)) ∘ fun z => (z.2.1, z.2.2, val z.2)) = (zs.map (·.2)).map fun k => (k, val k) := by
          rw [List.map_map]
          rfl
        rw [e3]
        have e4 : ks = (ks.map (·.1)).map fun k => (k, val k) := by
          rw [List.map_map]
          conv => lhs; rw [← List.map_id ks]
          refine List.map_congr_left fun e he => ?_
          show e = (e.1, val e.1)
          rw [hval (k := e.1) (c := e.2) he]
        have hp2 : (zs.map (·.2)).Perm (ks.map (·.1)) := hperm
        have := hp2.map fun k => (k, val k)
        rwa [← e4] at this
      · rw [List.pairwise_map]
        have hnd : (zs.map (·.2)).Nodup := by
          have hp2 : (zs.map (·.2)).Perm (ks.map (·.1)) := hperm
          exact hp2.nodup_iff.mpr hn
        have h3 := List.pairwise_map.mp hsort
        have h4 := List.pairwise_map.mp hnd
        refine (List.Pairwise.and h3 h4).imp fun {x y} h => ?_
        have h5 := SrtO.lexB_no.mp h.1
        have h6 : ¬ (x.2.1 = y.2.1 ∧ x.2.2 = y.2.2) := fun z => h.2 (Prod.ext z.1 z.2)
        show x.2.1 < y.2.1 ∨ x.2.1 = y.2.1 ∧ x.2.2 < y.2.2
        omega⟩
end
end Kp
namespace Kp
open PySem PySem.Spec PyProof.Rows L2 Evl
theorem fits_small {x : Int} (h0 : -100000 ≤ x) (h1 : x ≤ 100000) : PySem.Builtin.Range.rangeFitsLong x = true := by
  unfold PySem.Builtin.Range.rangeFitsLong
  simp only [Bool.and_eq_true, decide_eq_true_eq]
  omega
/-- range(j, n, s), n so many times s as p says -/
theorem rgC_up {j n s p : Int} (h0 : 0 ≤ j) (h1 : j < s) (hn : n = s * p) (hp : 1 ≤ p) (hb : n ≤ 50000) : RgC j n s p.toNat := by
  have hs : 1 ≤ s := by omega
  have sp : s ≤ s * p := by
    have := Int.mul_le_mul_of_nonneg_left hp (show 0 ≤ s by omega)
    omega
  have hp2 : p ≤ s * p := by
    have := Int.mul_le_mul_of_nonneg_right hs (show 0 ≤ p by omega)
    omega
  have hz : PySem.Builtin.Range.rangeSize j n s = p := by
    unfold PySem.Builtin.Range.rangeSize
    rw [if_pos (by omega), if_pos (by omega)]
    have e : n - j - 1 = (s - j - 1) + s * (p - 1) := by
      rw [Int.mul_sub, Int.mul_one]
      omega
    rw [e, Int.add_mul_ediv_left _ _ (by omega), Int.ediv_eq_zero_of_lt (by omega) (by omega)]
    omega
  refine ⟨by omega, by omega, ?_, by rw [hz]; omega⟩
  unfold PySem.Builtin.Range.small
  rw [hz, fits_small (by omega) (by omega), fits_small (by omega) (by omega), fits_small (by omega) (by omega), fits_small (by omega) (by omega), if_pos (by omega), fits_small (by omega) (by omega)]
  simp
section
variable {K : PySem.W.Frag} {σ : L2.St} {H H' : Hp} {ta tb te tl to ti : TE} {x y z v : V} {D : Ends} {tu tz : TS} {vs : List Nat}
/-- for x in range(j, n, s) -/
theorem s_forR3 {tr : TA} {i0 : Nat} {j n s : Int} {m : Nat} (h : EvA tr σ H [.int j, .int n, .int s]) (hr : RgC j n s m) (Pv : Nat → L2.St → Hp → Prop) (h0 : ∀ H1, Ex H H1 → Pv 0 σ H1)
    (hs : ∀ i σ' H', i < m → Pv i σ' H' → tu { D with nx := Pv (i + 1), ct := Pv (i + 1), bk := D.nx } (σ'.set i0 (some (.int (j + (i : Nat) * s)))) H') (hd : ∀ σ' H', Pv m σ' H' → D.nx σ' H') : tFor (iRng3 tr) (gName i0) tu D σ H :=
  h H (Ex.refl H) _ fun H1 e => ⟨j, n, s, m, rfl, hr, for_rangeC Pv (h0 H1 e) (fun i σ' H' hi p => hs i σ' H' hi p) hd⟩
/-- over a new list of pairs, a comprehension -/
theorem el_lcPN {te0 : TE} {rows : List (Int × Int)} {i j : Nat} (w : Int × Int → V) (h : EvP K te0 σ H rows) (hz : rows.length ≤ 40000)
    (hw : ∀ x y, wipe (((wipe σ vs).set i (some x)).set j (some y)) vs = wipe σ vs)
    (he : ∀ r H1, Ex H H1 → r ∈ rows → Ev te (((wipe σ vs).set i (some (.int r.1))).set j (some (.int r.2))) H1 (w r)) :
    EvL (tLc (iList K te0) (gTup K 2 (gCons (gName i) (gCons (gName j) gNil))) tYes te vs) σ H (rows.map w) := fun H0 e Q q => h H0 e _ fun a xs H1 na e1 ha pr => ⟨a, rfl, ⟨xs, sq_of ha⟩, fun Dl hD =>
  lc_list (xs := xs) (fun n H' => H1 Dl = none ∧ Ex H1 H' ∧ H' Dl = some (.lst ((rows.take n).map w))) ⟨hD, Ex.new hD, upd_same⟩ (fun n H' _ p => sq_of (p.2.1 _ _ ha)) (fun n x H' hn p => by
    obtain ⟨p1, p2, p3⟩ := p
    obtain ⟨r, u, hr, rfl, hu⟩ := prs_get (pr.mono p2) hn
    have hm : r ∈ rows := List.mem_of_getElem? hr
    refine ⟨u, _, rfl, hu, rfl, .int r.1, [.int r.2], rfl, .int r.2, [], rfl, rfl, hw _ _, ?_⟩
    refine et_yes (H := H') _ (Ex.refl _) _ fun H3 e3 => ?_
    rw [if_pos rfl]
    refine he r H1 (e.trans e1) hm H3 (p2.trans e3) _ fun H4 e4 => ⟨_, e4 Dl _ (e3 Dl _ p3), sz_lt (by rw [List.length_map, List.length_take]; omega), p1, Ex.mut ((p2.trans e3).trans e4) p1, ?_⟩
    rw [upd_same, List.take_add_one, hr, List.map_append]
    rfl) (fun H' p => by
    have q1 := p.2.2
    rw [Paired.length pr, List.take_length] at q1
    exact q Dl H' (fresh_back e1 p.1) (e1.trans p.2.1) q1)⟩
/-- x = {} -/
theorem q_asgD {i : Nat} (k : ∀ d, H d = none → tz D (σ.set i (some (.ref d))) (upd H d (.dT []))) : tSeq (tAsg tDNewT (gName i)) tz D σ H := fun d nd => k d nd
/-! == of lists of triples -/
def d3 (r : I3) : PyData := .tuple [.int r.1, .int r.2.1, .int r.2.2]
def d3L (rows : List I3) : PyData := .list (rows.map d3)
theorem d3_inj (a b : I3) (e : d3 a = d3 b) : a = b := by
  obtain ⟨a1, a2, a3⟩ := a
  obtain ⟨b1, b2, b3⟩ := b
  simp only [d3, PyData.tuple.injEq, List.cons.injEq, PyData.int.injEq, and_true] at e
  rw [e.1, e.2.1, e.2.2]
theorem d3L_sh (rows : List I3) : SeqAt.shaped (d3L rows) = true := shaped_of (lay_map _ (fun _ => rfl) rows) (Nat.le_trans (Nat.succ_le_succ (dep_map d3 1 (fun _ => Nat.le_refl 1) rows)) (by decide))
theorem d3L_eqv (rs qs : List I3) : PyData.eqv (d3L rs) (d3L qs) = decide (rs = qs) := eqv_dec d3L (fun l => by unfold d3L okD; exact okA_map _ (fun _ => rfl) l) (fun a b e => map_inj d3_inj a b (PyData.list.inj e)) rs qs
theorem dpa_trs : ∀ {xs : List V} {rows : List I3}, Trs K H xs rows → DpAll K H xs (rows.map d3)
  | _, _, .nil => .nil
  | _, _, .cons q r => by
    obtain ⟨t, rfl, q2⟩ := q
    exact .cons (.tup q2 (.cons (.int _) (.cons (.int _) (.cons (.int _) .nil)))) (dpa_trs r)
theorem dp_trs {a : Addr} {xs : List V} {rows : List I3} (h : SqL K H a xs) (p : Trs K H xs rows) : Dp K H (.ref a) (d3L rows) := .lst h (dpa_trs p)
theorem rv_ne3 {p q : Addr} {xs ys : List V} {rs qs : List I3} (h1 : SqL K H p xs) (p1 : Trs K H xs rs) (h2 : SqL K H q ys) (p2 : Trs K H ys qs) : RV (rNeD K) (.ref p) (.ref q) H (.bl (!decide (rs = qs))) :=
  rv_neD (fun _ e => dp_trs (ex_l e h1) (p1.mono e)) (fun _ e => dp_trs (ex_l e h2) (p2.mono e)) (d3L_sh _) (d3L_sh _) (by rw [d3L_eqv])
theorem sql_upd {l a : Addr} {xs : List V} {o : HO} (ne : a ≠ l) (h : SqL K H a xs) : SqL K (upd H l o) a xs := by
  rcases h with (h | ⟨o', h⟩) | h
  · exact .inl (.inl (by rw [upd_ne ne]; exact h))
  · exact .inl (.inr ⟨o', by rw [upd_ne ne]; exact h⟩)
  · exact .inr h
/-- a call upon a value and a new list of triples -/
theorem el_calVT {sp : Sp} {t0 te : TE} {v : V} {rows : List I3} {ys : List V} {E : XK} (h0 : Ev t0 σ H v) (h : EvT3 K te σ H rows) (hs : ∀ l xs H1, Ex H H1 → H1 l = some (.lst xs) → Trs K H1 xs rows → ∀ Q : VK, RetL ys H1 Q → ∀ E : XK, sp [v, .ref l] H1 Q E) : EvL (tCall sp [] E (tCons t0 (tCons te tNil))) σ H ys := fun H1 e Q q =>
  h0 H1 e _ fun H2 e2 => h H2 (e.trans e2) _ fun l xs H3 nl e3 hl R => by
    show sp ([v, .ref l] ++ []) H3 Q E
    rw [List.append_nil]
    exact hs l xs H3 ((e.trans e2).trans e3) hl R Q (fun p H4 np e4 h4 => q p H4 (fresh_back (e2.trans e3) np) ((e2.trans e3).trans e4) h4) E
/-- x = f(..), f telling some list of triples of which Pr holds -/
theorem q_asgT3any {sp : Sp} {vs : List V} {E : XK} {tr : TA} {i : Nat} {Pr : List I3 → Prop} (h : EvA tr σ H vs) (hs : ∀ H1, Ex H H1 → ∀ Q : VK, (∀ rows, Pr rows → RetT K rows H1 Q) → ∀ E : XK, sp vs H1 Q E)
    (k : ∀ rows p xs H1, Pr rows → H p = none → Ex H H1 → H1 p = some (.lst xs) → Trs K H1 xs rows → tz D (σ.set i (some (.ref p))) H1) : tSeq (tAsg (tCall sp [] E tr) (gName i)) tz D σ H :=
  h H (Ex.refl H) _ fun H1 e1 => by
    show sp (vs ++ []) H1 _ E
    rw [List.append_nil]
    exact hs H1 e1 _ (fun rows hr p xs H2 np e2 h2 R => k rows p xs H2 hr (fresh_back e1 np) (e1.trans e2) h2 R) E
/-- x = f(..), f telling some list of n ints -/
theorem q_asgAnyL {sp : Sp} {vs : List V} {E : XK} {tr : TA} {i n : Nat} (h : EvA tr σ H vs) (hs : ∀ H1, Ex H H1 → ∀ Q : VK, (∀ f : List Int, f.length = n → RetL (f.map V.int) H1 Q) → ∀ E : XK, sp vs H1 Q E)
    (k : ∀ (f : List Int) (p : Addr) (H1 : Hp), f.length = n → H p = none → Ex H H1 → H1 p = some (.lst (f.map V.int)) → tz D (σ.set i (some (.ref p))) H1) : tSeq (tAsg (tCall sp [] E tr) (gName i)) tz D σ H :=
  h H (Ex.refl H) _ fun H1 e1 => by
    show sp (vs ++ []) H1 _ E
    rw [List.append_nil]
    exact hs H1 e1 _ (fun f hf p H2 np e2 h2 => k f p H2 hf (fresh_back e1 np) (e1.trans e2) h2) E
theorem zip_add : ∀ f g : List Int, List.zipWith (fun x y => V.int (x + y)) f g = (addS f g).map V.int
  | [], _ => rfl
  | _ :: _, [] => rfl
  | x :: f, y :: g => by
    show V.int (x + y) :: List.zipWith _ f g = V.int (x + y) :: (addS f g).map V.int
    rw [zip_add f g]
end
end Kp

/-! Wheels round n: what they come to, the ground; how the law parts n. -/
namespace Kp
def lpS (n : Int) : Nat → Int × List (Int × Int)
  | 0 => (n, [])
  | i + 1 => ((strip (2 + i) 64 (lpS n i).1 0).1, if 0 < (strip (2 + i) 64 (lpS n i).1 0).2 then (lpS n i).2 ++ [((2 + i : Int), (strip (2 + i) 64 (lpS n i).1 0).2)] else (lpS n i).2)
/-- the rows of n's primes, as the law makes them -/
def lpF (n : Int) : List (Int × Int) := (lpS n (n - 1).toNat).2
theorem lpS_len (n : Int) : ∀ i, (lpS n i).2.length ≤ i
  | 0 => Nat.le_refl _
  | i + 1 => by
    have := lpS_len n i
    show (if _ then _ else _ : List (Int × Int)).length ≤ i + 1
    split
    · rw [List.length_append, List.length_singleton]
      omega
    · omega
theorem lpS_pos (n : Int) : ∀ i, ∀ r ∈ (lpS n i).2, 2 ≤ r.1
  | 0, r, h => nomatch h
  | i + 1, r, h => by
    have ih := lpS_pos n i
    have h2 : r ∈ (if 0 < (strip (2 + i) 64 (lpS n i).1 0).2 then (lpS n i).2 ++ [((2 + i : Int), (strip (2 + i) 64 (lpS n i).1 0).2)] else (lpS n i).2) := h
    split at h2
    · rcases List.mem_append.mp h2 with q | q
      · exact ih r q
      · rw [List.mem_singleton.mp q]
        show (2 : Int) ≤ 2 + (i : Int)
        omega
    · exact ih r h2

abbrev J3 := Int × Int × Int
/-! ### what wheels come to -/
/-- what a wheel gives at m -/
def wh (n : Int) (r : J3) (m : Nat) : Int := if (m : Int) % (n / r.1) = r.2.1 then r.2.2 else 0
def cmAt (n : Int) : List J3 → Nat → Int
  | [], _ => 0
  | r :: rs, m => wh n r m + cmAt n rs m
theorem cmAt_snoc (n : Int) (r : J3) (m : Nat) : ∀ rs : List J3, cmAt n (rs ++ [r]) m = cmAt n rs m + wh n r m
  | [] => by
    show wh n r m + 0 = 0 + wh n r m
    omega
  | a :: rs => by
    show wh n a m + cmAt n (rs ++ [r]) m = wh n a m + cmAt n rs m + wh n r m
    rw [cmAt_snoc n r m rs]
    omega
def cmS (n : Nat) (rows : List J3) : List Int := mkL n (cmAt n rows)
/-- a row of a wheel round n -/
structure Whl (n : Int) (r : J3) : Prop where
  two : 2 ≤ r.1
  dvd : n % r.1 = 0
  lo : 0 ≤ r.2.1
  hi : r.2.1 < n / r.1
theorem Whl.mul {n : Int} {r : J3} (h : Whl n r) : n = (n / r.1) * r.1 := by
  have := Int.mul_ediv_add_emod n r.1
  rw [h.dvd, Int.mul_comm] at this
  omega
theorem Whl.step {n : Int} {r : J3} (h : Whl n r) : 1 ≤ n / r.1 := by
  have := h.lo
  have := h.hi
  omega
/-- the k-th place of a wheel -/
theorem whl_at {n : Int} {r : J3} (h : Whl n r) {k : Nat} (hk : (k : Int) < r.1) : 0 ≤ r.2.1 + (k : Int) * (n / r.1) ∧ r.2.1 + (k : Int) * (n / r.1) < n := by
  have h1 := h.step
  have h2 := h.mul
  have h3 := h.lo
  have h4 := h.hi
  have h5 : (k : Int) * (n / r.1) ≤ (r.1 - 1) * (n / r.1) := Int.mul_le_mul_of_nonneg_right (by omega) (by omega)
  have h6 : 0 ≤ (k : Int) * (n / r.1) := Int.mul_nonneg (by omega) (by omega)
  rw [Int.sub_mul, Int.one_mul, Int.mul_comm r.1] at h5
  generalize n / r.1 = s at *
  generalize (k : Int) * s = ks at *
  omega
theorem whl_eq {n : Int} {r : J3} (h : Whl n r) {k m : Nat} : (m : Int) = r.2.1 + (k : Int) * (n / r.1) ↔ (m : Int) % (n / r.1) = r.2.1 ∧ (m : Int) / (n / r.1) = k := by
  have h1 := h.step
  have h3 := h.lo
  have h4 := h.hi
  have e := Int.mul_ediv_add_emod (m : Int) (n / r.1)
  generalize n / r.1 = s at *
  constructor
  · intro q
    rw [q, Int.add_mul_emod_self_right, Int.emod_eq_of_lt h3 h4, Int.add_mul_ediv_right _ _ (by omega), Int.ediv_eq_zero_of_lt h3 h4]
    exact ⟨rfl, by omega⟩
  · rintro ⟨q1, q2⟩
    rw [q1, q2, Int.mul_comm] at e
    omega
theorem whl_all {n : Int} {r : J3} (h : Whl n r) {m : Nat} (hm : (m : Int) < n) : (m : Int) / (n / r.1) < r.1 := by
  have h1 := h.step
  have h2 := h.mul
  refine Int.ediv_lt_of_lt_mul (by omega) ?_
  rw [Int.mul_comm, ← h2]
  exact hm
/-- behind k places of a wheel -/
def whK (n : Int) (r : J3) (k : Nat) (m : Nat) : Int := if (m : Int) % (n / r.1) = r.2.1 ∧ (m : Int) / (n / r.1) < k then r.2.2 else 0
theorem whK_zero {n : Int} {r : J3} (h : Whl n r) (m : Nat) : whK n r 0 m = 0 := by
  unfold whK
  rw [if_neg]
  rintro ⟨_, q⟩
  have := Int.ediv_nonneg (show 0 ≤ (m : Int) by omega) (show 0 ≤ n / r.1 by have := h.step; omega)
  omega
theorem whK_all {n : Int} {r : J3} (h : Whl n r) {m : Nat} (hm : (m : Int) < n) : whK n r r.1.toNat m = wh n r m := by
  have := whl_all h hm
  have := h.two
  unfold whK wh
  by_cases q : (m : Int) % (n / r.1) = r.2.1
  · rw [if_pos ⟨q, by omega⟩, if_pos q]
  · rw [if_neg fun z => q z.1, if_neg q]
theorem whK_step {n : Int} {r : J3} (h : Whl n r) {k m p : Nat} (hp : (p : Int) = r.2.1 + (k : Int) * (n / r.1)) : whK n r (k + 1) m = whK n r k m + if m = p then r.2.2 else 0 := by
  have key := whl_eq h (k := k) (m := m)
  unfold whK
  by_cases e : m = p
  · subst e
    have q := key.mp hp
    rw [if_pos ⟨q.1, by omega⟩, if_neg (by omega), if_pos rfl]
    omega
  · rw [if_neg e]
    have ne : ¬ ((m : Int) % (n / r.1) = r.2.1 ∧ (m : Int) / (n / r.1) = k) := fun z => e (by have := key.mpr z; omega)
    by_cases q : (m : Int) % (n / r.1) = r.2.1
    · by_cases g : (m : Int) / (n / r.1) < k
      · rw [if_pos ⟨q, by omega⟩, if_pos ⟨q, g⟩]
        omega
      · rw [if_neg (by omega), if_neg (by omega)]
        omega
    · rw [if_neg fun z => q z.1, if_neg fun z => q z.1]
      omega

/-! ### the ground -/
def hiF (n p : Int) : Nat → Int → Int
  | 0, h => h
  | k + 1, h => if n % (h * p) = 0 then hiF n p k (h * p) else h
def pwF (n : Int) : List J3 := (partedF n).map fun r => (r.1, hiF n r.1 n.toNat r.1, hiF n r.1 n.toNat r.1 / r.1)
def gP (n : Int) (j : Nat) : Bool := (pwF n).all fun r => decide ((j : Int) % r.2.1 < r.2.1 - r.2.2)
def lowP (p : Int) : Nat → Int
  | 0 => 1
  | k + 1 => lowP p k * p
def gL (n : Int) (j : Nat) : Bool := (lpF n).all fun r => decide ((j : Int) % (lowP r.1 (r.2 - 1).toNat * r.1) < (r.1 - 1) * lowP r.1 (r.2 - 1).toNat)
/-- what is asked of all n to 61 -/
def chkN (n : Int) : Bool := ((List.range n.toNat).all fun j => gP n j == gL n j) && ((pwF n).all fun r => decide (1 ≤ r.2.1) && decide (r.2.1 ≤ 61) && decide (2 ≤ r.1) && decide (n % r.1 = 0) && decide (r.1 ≤ 61) && decide (n % r.2.1 = 0) && decide (r.2.1 = r.2.2 * r.1)) && ((lpF n).all fun r => decide (2 ≤ r.1) && decide (n % r.1 = 0) && decide (1 ≤ r.2) && decide (r.2 ≤ 6) && decide (r.1 ≤ 61)) && decide ((lpF n).length ≤ 4) && decide ((lpF n) = partedF n)
theorem all_N : ((List.range 61).all fun i => chkN ((i + 1 : Nat) : Int)) = true := by decide +kernel
theorem chkN_at {n : Int} (h1 : 1 ≤ n) (h2 : n ≤ 61) : chkN n = true := by
  have h := List.all_eq_true.mp all_N (n - 1).toNat (List.mem_range.mpr (by omega))
  rwa [show (((n - 1).toNat + 1 : Nat) : Int) = n by omega] at h
structure Nok (n : Int) : Prop where
  g : ∀ j : Nat, (j : Int) < n → gP n j = gL n j
  pw : ∀ r ∈ pwF n, 1 ≤ r.2.1 ∧ r.2.1 ≤ 61 ∧ 2 ≤ r.1 ∧ n % r.1 = 0 ∧ r.1 ≤ 61 ∧ n % r.2.1 = 0 ∧ r.2.1 = r.2.2 * r.1
  lp : ∀ r ∈ lpF n, 2 ≤ r.1 ∧ n % r.1 = 0 ∧ 1 ≤ r.2 ∧ r.2 ≤ 6 ∧ r.1 ≤ 61
  len : (lpF n).length ≤ 4
  same : lpF n = partedF n
theorem nok {n : Int} (h1 : 1 ≤ n) (h2 : n ≤ 61) : Nok n := by
  have h := chkN_at h1 h2
  unfold chkN at h
  simp only [Bool.and_eq_true, List.all_eq_true, decide_eq_true_eq, beq_iff_eq, List.mem_range] at h
  obtain ⟨⟨⟨⟨c1, c2⟩, c3⟩, c4⟩, c5⟩ := h
  exact ⟨fun j hj => c1 j (by omega), fun r hr => by have := c2 r hr; simp only [and_assoc] at this; exact this, fun r hr => by have := c3 r hr; simp only [and_assoc] at this; exact this, c4, c5⟩
end Kp

/-! A sum brought to the ground: prime by prime each wheel's barred place is emptied. -/
namespace Kp
/-- the barred place of the wheel through m: the k-th, from k on -/
def bFind (s : Int) (r : J3) (j : Int) : Nat → Int → Int
  | 0, k => j + k * s
  | t + 1, k => if r.2.1 - r.2.2 ≤ (j + k * s) % r.2.1 then j + k * s else bFind s r j t (k + 1)
/-- r: a prime, its power in n, that over the prime -/
def bP (n : Int) (r : J3) (m : Nat) : Nat := (bFind (n / r.1) r ((m : Int) % (n / r.1)) r.1.toNat 0).toNat
def barB (r : J3) (m : Nat) : Bool := decide (r.2.1 - r.2.2 ≤ (m : Int) % r.2.1)
/-- one prime's turn -/
def gStep (n : Int) (r : J3) (f : List Int) : List Int := mkL n.toNat fun m => coef f m - coef f (bP n r m)
def grF (n : Int) (f : List Int) : List Int := (pwF n).foldl (fun f r => gStep n r f) f
/-- the wheels that are taken away, of the first places -/
def wlsK (n : Int) (r : J3) (f : List Int) : Nat → List J3
  | 0 => []
  | j + 1 => wlsK n r f j ++ if coef f (bP n r j) = 0 then [] else [(r.1, (j : Int), coef f (bP n r j))]
def wlF (n : Int) : List J3 → List Int → List J3
  | [], _ => []
  | r :: rs, f => wlsK n r f (n / r.1).toNat ++ wlF n rs (gStep n r f)
def chkG (n : Int) : Bool := (pwF n == (lpF n).map fun r => (r.1, lowP r.1 (r.2 - 1).toNat * r.1, lowP r.1 (r.2 - 1).toNat)) && ((pwF n).all fun r => (List.range n.toNat).all fun m => decide ((bP n r m : Int) < n) && decide ((bP n r m : Int) % (n / r.1) = (m : Int) % (n / r.1)) && barB r (bP n r m) && (!barB r m || decide (bP n r m = m)))
  && ((pwF n).map (·.1)).Pairwise (· < ·)
theorem all_G : ((List.range 61).all fun i => chkG ((i + 1 : Nat) : Int)) = true := by decide +kernel
theorem chkG_at {n : Int} (h1 : 1 ≤ n) (h2 : n ≤ 61) : chkG n = true := by
  have h := List.all_eq_true.mp all_G (n - 1).toNat (List.mem_range.mpr (by omega))
  rwa [show (((n - 1).toNat + 1 : Nat) : Int) = n by omega] at h
/-- what is known of one prime's turn -/
structure Gok (n : Int) (r : J3) : Prop where
  lt : ∀ m : Nat, (m : Int) < n → (bP n r m : Int) < n
  on : ∀ m : Nat, (m : Int) < n → (bP n r m : Int) % (n / r.1) = (m : Int) % (n / r.1)
  bar : ∀ m : Nat, (m : Int) < n → barB r (bP n r m) = true
  fix : ∀ m : Nat, (m : Int) < n → barB r m = true → bP n r m = m
  two : 2 ≤ r.1
  dvd : n % r.1 = 0
  le : r.1 ≤ 61
  hi1 : 1 ≤ r.2.1
structure GokA (n : Int) : Prop where
  all : ∀ r ∈ pwF n, Gok n r
  same : pwF n = (lpF n).map fun r => (r.1, lowP r.1 (r.2 - 1).toNat * r.1, lowP r.1 (r.2 - 1).toNat)
  rise : ((pwF n).map (·.1)).Pairwise (· < ·)
theorem gok {n : Int} (h1 : 1 ≤ n) (h2 : n ≤ 61) : GokA n := by
  have h := chkG_at h1 h2
  have N := nok h1 h2
  unfold chkG at h
  simp only [Bool.and_eq_true, List.all_eq_true, decide_eq_true_eq, beq_iff_eq, List.mem_range, Bool.or_eq_true, Bool.not_eq_true', and_assoc] at h
  obtain ⟨c1, c2, c3⟩ := h
  refine ⟨fun r hr => ?_, c1, c3⟩
  have hm := fun m (hm : ((m : Nat) : Int) < n) => c2 r hr m (by omega)
  obtain ⟨b1, b2, b3, b4, b5, b6, b7⟩ := N.pw r hr
  refine ⟨fun m h => (hm m h).1, fun m h => (hm m h).2.1, fun m h => (hm m h).2.2.1, fun m h hb => ?_, b3, b4, b5, b1⟩
  rcases (hm m h).2.2.2 with q | q
  · rw [hb] at q
    exact absurd q (by decide)
  · exact q
theorem Gok.step {n : Int} {r : J3} (g : Gok n r) (h1 : 1 ≤ n) : 1 ≤ n / r.1 ∧ n / r.1 ≤ n ∧ n = (n / r.1) * r.1 := by
  have hq : n / r.1 * r.1 = n := by
    have := Int.mul_ediv_add_emod n r.1
    rw [g.dvd, Int.mul_comm] at this
    omega
  have := g.two
  refine ⟨Int.le_of_not_gt fun q => ?_, Int.ediv_le_self _ (by omega), hq.symm⟩
  have h0 := Int.ediv_nonneg (show 0 ≤ n by omega) (show 0 ≤ r.1 by omega)
  have : n / r.1 = 0 := by omega
  rw [this] at hq
  omega
/-- places of one wheel have one barred place -/
theorem bP_same {n : Int} {r : J3} {m i : Nat} (h : (m : Int) % (n / r.1) = (i : Int) % (n / r.1)) : bP n r m = bP n r i := by
  unfold bP
  rw [h]
theorem Gok.at {n : Int} {r : J3} (g : Gok n r) {m i : Nat} (hm : (m : Int) < n) (hi : (i : Int) < n) (hb : barB r i = true) : bP n r m = i ↔ (m : Int) % (n / r.1) = (i : Int) % (n / r.1) := by
  constructor
  · intro e
    rw [← e]
    exact (g.on m hm).symm
  · intro e
    rw [bP_same e, g.fix i hi hb]
theorem gStep_len (n : Int) (r : J3) (f : List Int) : (gStep n r f).length = n.toNat := mkL_len _ _
theorem coef_gStep {n : Int} {r : J3} {f : List Int} {m : Nat} (h : (m : Int) < n) : coef (gStep n r f) m = coef f m - coef f (bP n r m) := by
  unfold gStep
  rw [coef_mkL, if_pos (by omega)]
/-- the first j wheels of one prime come to this -/
theorem wlsK_cm {n : Int} {r : J3} {f : List Int} (g : Gok n r) (h1 : 1 ≤ n) {m : Nat} (hm : (m : Int) < n) : ∀ j : Nat, (j : Int) ≤ n / r.1 → cmAt n (wlsK n r f j) m = if (m : Int) % (n / r.1) < j then coef f (bP n r m) else 0
  | 0, _ => by
    have := Int.emod_nonneg (m : Int) (show n / r.1 ≠ 0 by have := (g.step h1).1; omega)
    rw [if_neg (by omega)]
    rfl
  | j + 1, hj => by
    have ih := wlsK_cm g h1 hm (f := f) j (by omega)
    have s1 := (g.step h1).1
    have hjm : (j : Int) % (n / r.1) = j := Int.emod_eq_of_lt (by omega) (by omega)
    have key : cmAt n (wlsK n r f (j + 1)) m = cmAt n (wlsK n r f j) m + if (m : Int) % (n / r.1) = j then coef f (bP n r j) else 0 := by
      show cmAt n (wlsK n r f j ++ if coef f (bP n r j) = 0 then [] else [(r.1, (j : Int), coef f (bP n r j))]) m = _
      by_cases z : coef f (bP n r j) = 0
      · rw [if_pos z, List.append_nil, z]
        split <;> omega
      · rw [if_neg z, cmAt_snoc]
        rfl
    rw [key, ih]
    by_cases e : (m : Int) % (n / r.1) = j
    · have : bP n r m = bP n r j := bP_same (by rw [e, hjm])
      rw [if_neg (by omega), if_pos e, if_pos (by omega), this]
      omega
    · rw [if_neg e]
      split <;> split <;> omega
theorem cmAt_app (n : Int) (m : Nat) : ∀ a b : List J3, cmAt n (a ++ b) m = cmAt n a m + cmAt n b m
  | [], b => by
    show cmAt n b m = 0 + _
    omega
  | r :: a, b => by
    show wh n r m + cmAt n (a ++ b) m = wh n r m + cmAt n a m + cmAt n b m
    rw [cmAt_app n m a b]
    omega
/-- rest and wheels make the sum -/
theorem gr_makes {n : Int} (h1 : 1 ≤ n) : ∀ (rs : List J3) (f : List Int), (∀ r ∈ rs, Gok n r) → ∀ m : Nat, (m : Int) < n → coef (rs.foldl (fun f r => gStep n r f) f) m + cmAt n (wlF n rs f) m = coef f m
  | [], f, _, m, _ => by
    show coef f m + 0 = coef f m
    omega
  | r :: rs, f, h, m, hm => by
    have g := h r (List.mem_cons_self ..)
    have ih := gr_makes h1 rs (gStep n r f) (fun z hz => h z (List.mem_cons_of_mem _ hz)) m hm
    have s1 := (g.step h1).1
    have hlt := Int.emod_lt_of_pos (m : Int) (show 0 < n / r.1 by omega)
    show coef (rs.foldl (fun f r => gStep n r f) (gStep n r f)) m + cmAt n (wlsK n r f (n / r.1).toNat ++ wlF n rs (gStep n r f)) m = coef f m
    rw [cmAt_app, wlsK_cm g h1 hm _ (by omega), if_pos (by omega)]
    rw [coef_gStep hm] at ih
    omega
/-- the wheels' rows stand in order -/
theorem wlsK_mem {n : Int} {r : J3} {f : List Int} : ∀ {j : Nat} {x : J3}, x ∈ wlsK n r f j → x.1 = r.1 ∧ 0 ≤ x.2.1 ∧ x.2.1 < j ∧ x.2.2 ≠ 0
  | j + 1, x, h => by
    rcases List.mem_append.mp (show x ∈ wlsK n r f j ++ _ from h) with h | h
    · obtain ⟨a, b, c, d⟩ := wlsK_mem h
      exact ⟨a, b, by omega, d⟩
    · split at h
      · exact nomatch h
      · rename_i z
        rw [List.mem_singleton.mp h]
        refine ⟨rfl, ?_, ?_, z⟩
        · show (0 : Int) ≤ j
          omega
        · show (j : Int) < ((j + 1 : Nat) : Int)
          omega
abbrev lt3 (x y : J3) : Prop := x.1 < y.1 ∨ x.1 = y.1 ∧ x.2.1 < y.2.1
theorem wlsK_rise {n : Int} {r : J3} {f : List Int} : ∀ j : Nat, (wlsK n r f j).Pairwise lt3
  | 0 => List.Pairwise.nil
  | j + 1 => by
    refine List.pairwise_append.mpr ⟨wlsK_rise j, ?_, fun x hx y hy => ?_⟩
    · split
      · exact List.Pairwise.nil
      · exact List.pairwise_singleton _ _
    · obtain ⟨a, b, c, _⟩ := wlsK_mem hx
      split at hy
      · exact nomatch hy
      · rw [List.mem_singleton.mp hy]
        exact .inr ⟨a, c⟩
theorem wlF_mem {n : Int} : ∀ {rs : List J3} {f : List Int} {x : J3}, x ∈ wlF n rs f → ∃ r ∈ rs, x.1 = r.1 ∧ 0 ≤ x.2.1 ∧ x.2.1 < ((n / r.1).toNat : Nat) ∧ x.2.2 ≠ 0
  | r :: rs, f, x, h => by
    rcases List.mem_append.mp (show x ∈ wlsK n r f (n / r.1).toNat ++ wlF n rs (gStep n r f) from h) with h | h
    · exact ⟨r, List.mem_cons_self .., wlsK_mem h⟩
    · obtain ⟨z, hz, q⟩ := wlF_mem h
      exact ⟨z, List.mem_cons_of_mem _ hz, q⟩
theorem wlF_rise {n : Int} : ∀ {rs : List J3} {f : List Int}, (rs.map (·.1)).Pairwise (· < ·) → (wlF n rs f).Pairwise lt3
  | [], _, _ => List.Pairwise.nil
  | r :: rs, f, h => by
    rw [List.map_cons, List.pairwise_cons] at h
    refine List.pairwise_append.mpr ⟨wlsK_rise _, wlF_rise h.2, fun x hx y hy => ?_⟩
    obtain ⟨a, _⟩ := wlsK_mem hx
    obtain ⟨z, hz, b, _⟩ := wlF_mem hy
    have := h.1 z.1 (List.mem_map_of_mem hz)
    exact .inl (by omega)
/-- rows that stand in a row -/
structure InRow (n : Int) (rows : List J3) : Prop where
  whl : ∀ r ∈ rows, Whl n r
  prm : ∀ r ∈ rows, ∃ o, (r.1, o) ∈ lpF n
  num : ∀ r ∈ rows, r.2.2 ≠ 0
  rise : rows.Pairwise lt3
theorem gr_row {n : Int} (h1 : 1 ≤ n) (h2 : n ≤ 61) (f : List Int) : InRow n (wlF n (pwF n) f) := by
  have G := gok h1 h2
  refine ⟨fun x hx => ?_, fun x hx => ?_, fun x hx => ?_, wlF_rise G.rise⟩
  · obtain ⟨r, hr, a, b, c, d⟩ := wlF_mem hx
    have g := G.all r hr
    have s1 := (g.step h1).1
    refine ⟨by rw [a]; exact g.two, by rw [a]; exact g.dvd, b, ?_⟩
    rw [a]
    omega
  · obtain ⟨r, hr, a, _⟩ := wlF_mem hx
    rw [G.same] at hr
    obtain ⟨z, hz, rfl⟩ := List.mem_map.mp hr
    exact ⟨z.2, by rw [a]; exact hz⟩
  · obtain ⟨r, hr, a, b, c, d⟩ := wlF_mem hx
    exact d
theorem grF_len {n : Int} {f : List Int} (hf : (f.length : Int) = n) : ((grF n f).length : Int) = n := by
  have key : ∀ (rs : List J3) (f : List Int), (f.length : Int) = n → ((rs.foldl (fun f r => gStep n r f) f).length : Int) = n := by
    intro rs
    induction rs with
    | nil => exact fun f h => h
    | cons r rs ih =>
      intro f h
      exact ih _ (by rw [gStep_len]; omega)
  exact key _ f hf
theorem wlsK_len {n : Int} {r : J3} {f : List Int} : ∀ j : Nat, (wlsK n r f j).length ≤ j
  | 0 => Nat.le_refl _
  | j + 1 => by
    have := wlsK_len (n := n) (r := r) (f := f) j
    show (wlsK n r f j ++ _).length ≤ j + 1
    rw [List.length_append]
    split
    · show _ + 0 ≤ _
      omega
    · show _ + 1 ≤ _
      omega
end Kp

/-! What wheels come to is nought: its rest is all noughts; a rest is 0 off the ground and its own rest. -/
namespace Kp
def chkX (n : Int) : Bool := (pwF n).all fun r => (pwF n).all fun q => decide (r.1 = q.1) || (decide ((n / q.1) % r.2.1 = 0) && (List.range n.toNat).all fun m => decide ((bP n r m : Int) % (n / q.1) = (bP n r ((m : Int) % (n / q.1)).toNat : Int) % (n / q.1)))
theorem all_X : ((List.range 61).all fun i => chkX ((i + 1 : Nat) : Int)) = true := by decide +kernel
/-- how the turns of two primes stand to one another -/
structure NokX (n : Int) : Prop where
  hi : ∀ r ∈ pwF n, ∀ q ∈ pwF n, r.1 ≠ q.1 → (n / q.1) % r.2.1 = 0
  per : ∀ r ∈ pwF n, ∀ q ∈ pwF n, r.1 ≠ q.1 → ∀ m : Nat, (m : Int) < n → (bP n r m : Int) % (n / q.1) = (bP n r ((m : Int) % (n / q.1)).toNat : Int) % (n / q.1)
  all : ∀ r ∈ pwF n, Gok n r
  rise : ((pwF n).map (·.1)).Pairwise (· < ·)
  pos : 1 ≤ n
theorem nokX {n : Int} (h1 : 1 ≤ n) (h2 : n ≤ 61) : NokX n := by
  have h := List.all_eq_true.mp all_X (n - 1).toNat (List.mem_range.mpr (by omega))
  rw [show (((n - 1).toNat + 1 : Nat) : Int) = n by omega] at h
  unfold chkX at h
  simp only [List.all_eq_true, Bool.or_eq_true, Bool.and_eq_true, decide_eq_true_eq, List.mem_range] at h
  have G := gok h1 h2
  refine ⟨fun r hr q hq ne => ?_, fun r hr q hq ne m hm => ?_, G.all, G.rise, h1⟩
  · rcases h r hr q hq with e | e
    · exact absurd e ne
    · exact e.1
  · rcases h r hr q hq with e | e
    · exact absurd e ne
    · exact e.2 m (by omega)
def Zr (n : Int) (f : List Int) : Prop := ∀ m : Nat, (m : Int) < n → coef f m = 0
/-- alike at places of one wheel -/
def Pr (n : Int) (q : J3) (f : List Int) : Prop := ∀ m i : Nat, (m : Int) < n → (i : Int) < n → (m : Int) % (n / q.1) = (i : Int) % (n / q.1) → coef f m = coef f i
/-- 0 where r bars -/
def Off (n : Int) (r : J3) (f : List Int) : Prop := ∀ m : Nat, (m : Int) < n → barB r m = true → coef f m = 0
def foldG (n : Int) (rs : List J3) (f : List Int) : List Int := rs.foldl (fun f r => gStep n r f) f
theorem rise_inj : ∀ {l : List J3}, (l.map (·.1)).Pairwise (· < ·) → ∀ x ∈ l, ∀ y ∈ l, x.1 = y.1 → x = y
  | a :: l, h, x, hx, y, hy, e => by
    rw [List.map_cons, List.pairwise_cons] at h
    rcases List.mem_cons.mp hx with e1 | h1
    · rcases List.mem_cons.mp hy with e2 | h2
      · rw [e1, e2]
      · have := h.1 y.1 (List.mem_map_of_mem h2)
        rw [e1] at e
        omega
    · rcases List.mem_cons.mp hy with e2 | h2
      · have := h.1 x.1 (List.mem_map_of_mem h1)
        rw [e2] at e
        omega
      · exact rise_inj h.2 x h1 y h2 e
section
variable {n : Int}
theorem step_zero {r : J3} {f : List Int} (g : Gok n r) (h : Zr n f) : Zr n (gStep n r f) := fun m hm => by
  rw [coef_gStep hm, h m hm, h _ (g.lt m hm)]
  rfl
theorem fold_zero : ∀ (rs : List J3) (f : List Int), (∀ r ∈ rs, Gok n r) → Zr n f → Zr n (foldG n rs f)
  | [], _, _, h => h
  | r :: rs, f, g, h => fold_zero rs (gStep n r f) (fun z hz => g z (List.mem_cons_of_mem _ hz)) (step_zero (g r (List.mem_cons_self ..)) h)
theorem step_per {q : J3} {f : List Int} (g : Gok n q) (h : Pr n q f) : Zr n (gStep n q f) := fun m hm => by
  rw [coef_gStep hm, h m (bP n q m) hm (g.lt m hm) (g.on m hm).symm]
  omega
theorem step_keep {r q : J3} {f : List Int} (X : NokX n) (hr : r ∈ pwF n) (hq : q ∈ pwF n) (ne : r.1 ≠ q.1) (h : Pr n q f) : Pr n q (gStep n r f) := fun m i hm hi e => by
  have g := X.all r hr
  rw [coef_gStep hm, coef_gStep hi, h m i hm hi e, h (bP n r m) (bP n r i) (g.lt m hm) (g.lt i hi) (by rw [X.per r hr q hq ne m hm, X.per r hr q hq ne i hi, e])]
theorem fold_per (X : NokX n) : ∀ (rs : List J3) (f : List Int) (q : J3), (∀ r ∈ rs, r ∈ pwF n) → q ∈ rs → Pr n q f → Zr n (foldG n rs f)
  | r :: rs, f, q, sub, hq, h => by
    have sub' := fun z hz => sub z (List.mem_cons_of_mem _ hz)
    have hr := sub r (List.mem_cons_self ..)
    by_cases e : r = q
    · subst e
      exact fold_zero rs _ (fun z hz => X.all z (sub' z hz)) (step_per (X.all r hr) h)
    · have hq2 : q ∈ rs := (List.mem_cons.mp hq).resolve_left fun z => e z.symm
      exact fold_per X rs _ q sub' hq2 (step_keep X hr (sub' q hq2) (fun z => e (rise_inj X.rise r hr q (sub' q hq2) z)) h)
theorem off_self {r : J3} {f : List Int} (g : Gok n r) : Off n r (gStep n r f) := fun m hm hb => by
  rw [coef_gStep hm, g.fix m hm hb]
  omega
theorem off_keep {r q : J3} {f : List Int} (X : NokX n) (hr : r ∈ pwF n) (hq : q ∈ pwF n) (ne : r.1 ≠ q.1) (h : Off n r f) : Off n r (gStep n q f) := fun m hm hb => by
  have g := X.all q hq
  rw [coef_gStep hm, h m hm hb, h (bP n q m) (g.lt m hm) ?_]
  · rfl
  · have d := Int.dvd_of_emod_eq_zero (X.hi r hr q hq ne)
    have e : (bP n q m : Int) % r.2.1 = (m : Int) % r.2.1 := by
      rw [← Int.emod_emod_of_dvd (bP n q m : Int) d, ← Int.emod_emod_of_dvd (m : Int) d, g.on m hm]
    unfold barB at hb ⊢
    rw [e]
    exact hb
theorem fold_off (X : NokX n) : ∀ (rs : List J3) (f : List Int) (r : J3), (∀ z ∈ rs, z ∈ pwF n) → r ∈ pwF n → (r ∈ rs ∨ Off n r f) → Off n r (foldG n rs f)
  | [], f, r, _, _, h => h.resolve_left fun z => nomatch z
  | q :: rs, f, r, sub, hr, h => by
    have sub' := fun z hz => sub z (List.mem_cons_of_mem _ hz)
    have hq := sub q (List.mem_cons_self ..)
    refine fold_off X rs _ r sub' hr ?_
    by_cases e : r = q
    · subst e
      exact .inr (off_self (X.all r hr))
    · rcases h with h | h
      · exact .inl ((List.mem_cons.mp h).resolve_left e)
      · exact .inr (off_keep X hr hq (fun z => e (rise_inj X.rise r hr q hq z)) h)
theorem wlsK_nil {r : J3} {f : List Int} (g : Gok n r) (h1 : 1 ≤ n) (h : Off n r f) : ∀ j : Nat, (j : Int) ≤ n / r.1 → wlsK n r f j = []
  | 0, _ => rfl
  | j + 1, hj => by
    have s := g.step h1
    show wlsK n r f j ++ (if coef f (bP n r j) = 0 then [] else [(r.1, (j : Int), coef f (bP n r j))]) = []
    rw [wlsK_nil g h1 h j (by omega), if_pos (h _ (g.lt j (by omega)) (g.bar j (by omega)))]
    rfl
theorem fold_fix (h1 : 1 ≤ n) : ∀ (rs : List J3) (f : List Int), (∀ r ∈ rs, Gok n r) → (∀ r ∈ rs, Off n r f) → (f.length : Int) = n → foldG n rs f = f ∧ wlF n rs f = []
  | [], f, _, _, _ => ⟨rfl, rfl⟩
  | r :: rs, f, g, h, hl => by
    have gr := g r (List.mem_cons_self ..)
    have hr := h r (List.mem_cons_self ..)
    have e : gStep n r f = f := by
      refine ext_of (by rw [gStep_len]; omega) fun m hm => ?_
      rw [gStep_len] at hm
      rw [coef_gStep (by omega), hr _ (gr.lt m (by omega)) (gr.bar m (by omega))]
      omega
    obtain ⟨a, b⟩ := fold_fix h1 rs f (fun z hz => g z (List.mem_cons_of_mem _ hz)) (fun z hz => h z (List.mem_cons_of_mem _ hz)) hl
    have s := gr.step h1
    refine ⟨?_, ?_⟩
    · show foldG n rs (gStep n r f) = f
      rw [e]
      exact a
    · show wlsK n r f (n / r.1).toNat ++ wlF n rs (gStep n r f) = []
      rw [e, b, wlsK_nil gr h1 hr _ (by omega)]
      rfl
theorem fold_lin (c : Int) : ∀ (rs : List J3) (f g h : List Int), (∀ r ∈ rs, Gok n r) → (∀ m : Nat, (m : Int) < n → coef h m = coef f m + c * coef g m) → ∀ m : Nat, (m : Int) < n → coef (foldG n rs h) m = coef (foldG n rs f) m + c * coef (foldG n rs g) m
  | [], _, _, _, _, e, m, hm => e m hm
  | r :: rs, f, g, h, G, e, m, hm => by
    have gr := G r (List.mem_cons_self ..)
    refine fold_lin c rs (gStep n r f) (gStep n r g) (gStep n r h) (fun z hz => G z (List.mem_cons_of_mem _ hz)) (fun m hm => ?_) m hm
    rw [coef_gStep hm, coef_gStep hm, coef_gStep hm, e m hm, e _ (gr.lt m hm), Int.mul_sub]
    omega
/-! the whole -/
theorem gr_per (X : NokX n) {q : J3} {f : List Int} (hq : q ∈ pwF n) (h : Pr n q f) : Zr n (grF n f) := fold_per X (pwF n) f q (fun _ z => z) hq h
theorem gr_off (X : NokX n) (f : List Int) {r : J3} (hr : r ∈ pwF n) : Off n r (grF n f) := fold_off X (pwF n) f r (fun _ z => z) hr (.inl hr)
theorem gr_fix (X : NokX n) {f : List Int} (hl : (f.length : Int) = n) (h : ∀ r ∈ pwF n, Off n r f) : grF n f = f ∧ wlF n (pwF n) f = [] := fold_fix X.pos (pwF n) f X.all h hl
theorem gr_twice (X : NokX n) {f : List Int} (hl : (f.length : Int) = n) : grF n (grF n f) = grF n f ∧ wlF n (pwF n) (grF n f) = [] := gr_fix X (grF_len hl) fun r hr => gr_off X f hr
theorem gr_lin (X : NokX n) (c : Int) {f g h : List Int} (e : ∀ m : Nat, (m : Int) < n → coef h m = coef f m + c * coef g m) {m : Nat} (hm : (m : Int) < n) : coef (grF n h) m = coef (grF n f) m + c * coef (grF n g) m := fold_lin c (pwF n) f g h X.all e m hm
theorem gr_zero (X : NokX n) {f : List Int} (h : Zr n f) : Zr n (grF n f) := fold_zero (pwF n) f X.all h
theorem wh_per {r q : J3} (hq : q.1 = r.1) : Pr n q (mkL n.toNat (wh n r)) := fun m i hm hi e => by
  rw [coef_mkL, coef_mkL, if_pos (by omega), if_pos (by omega)]
  unfold wh
  rw [← hq, e]
/-- a sum that is made of things that are alike on wheels of primes of n -/
theorem gr_sumZ (X : NokX n) : ∀ (rows : List J3) (F : J3 → List Int) (h : List Int), (∀ r ∈ rows, ∃ q ∈ pwF n, Pr n q (F r)) → (∀ m : Nat, (m : Int) < n → coef h m = (rows.map fun r => coef (F r) m).sum) → Zr n (grF n h)
  | [], _, h, _, e => gr_zero X fun m hm => e m hm
  | r :: rows, F, h, P, e => fun m hm => by
    obtain ⟨q, hq, p⟩ := P r (List.mem_cons_self ..)
    have a := gr_per X hq p
    have b := gr_sumZ X rows F (mkL n.toNat fun m => (rows.map fun r => coef (F r) m).sum) (fun z hz => P z (List.mem_cons_of_mem _ hz)) fun m hm => by rw [coef_mkL, if_pos (by omega)]
    rw [gr_lin X 1 (f := F r) (g := mkL n.toNat fun m => (rows.map fun r => coef (F r) m).sum) (fun m hm => ?_) hm, a m hm, b m hm]
    · rfl
    · rw [e m hm, coef_mkL, if_pos (by omega), List.map_cons, List.sum_cons]
      omega
theorem cmAt_sum (m : Nat) : ∀ rows : List J3, cmAt n rows m = (rows.map fun r => wh n r m).sum
  | [] => rfl
  | r :: rows => by
    show wh n r m + cmAt n rows m = _
    rw [cmAt_sum m rows, List.map_cons, List.sum_cons]
/-- what wheels come to is nought -/
theorem gr_wheels {n : Nat} (X : NokX n) {rows : List J3} (h : ∀ r ∈ rows, ∃ q ∈ pwF n, q.1 = r.1) : Zr n (grF n (cmS n rows)) :=
  gr_sumZ X rows (fun r => mkL n (wh n r)) _ (fun r hr => by
    obtain ⟨q, hq, e⟩ := h r hr
    exact ⟨q, hq, wh_per (n := (n : Int)) e⟩) fun m hm => by
    unfold cmS
    rw [coef_mkL, if_pos (by omega), cmAt_sum]
    congr 1
    refine List.map_congr_left fun r _ => ?_
    rw [coef_mkL, if_pos (by omega)]
end
end Kp

/-! Two sums have the same rest just where the root polynomial parts their difference. -/
namespace Kp
/-- the wheel at 0 as a polynomial, s its step -/
def wp (n s : Nat) : List Int := mkL (n - s + 1) fun m => if m % s = 0 then 1 else 0
def quo (n s : Nat) : List Int := dec (n - s + 1 - ((phi n).length - 1)) (valP 4294967296 (wp n s) / valP 4294967296 (phi n))
def chkW (n : Nat) : Bool := (pwF n).all fun r => decide (mulK (quo n (n / r.1.toNat)) (phi n) = wp n (n / r.1.toNat))
def chkP (n : Nat) : Bool := decide (n = 1) || ((List.range n).all fun m => decide (coef (grF n (phi n)) m = 0)) && decide ((phi n).length ≤ n)
theorem all_W1 : ((List.range 61).all fun i => chkW (i + 1)) = true := by decide +kernel
theorem all_P1 : ((List.range 61).all fun i => chkP (i + 1)) = true := by decide +kernel
/-- products by the root polynomial -/
theorem coef_mulK_cons (a : Int) (f g : List Int) (m : Nat) : coef (mulK (a :: f) g) m = a * coef g m + if 1 ≤ m then coef (mulK f g) (m - 1) else 0 := by
  show coef (addK (g.map fun x => a * x) (0 :: mulK f g)) m = _
  rw [coef_addK, coef_scale]
  cases m with
  | zero => rfl
  | succ m =>
    rw [coef_cons, if_pos (by omega)]
    rfl
theorem mulK_add : ∀ (a b g : List Int) (m : Nat), coef (mulK (addK a b) g) m = coef (mulK a g) m + coef (mulK b g) m
  | [], b, g, m => by
    show coef (mulK b g) m = coef [] m + _
    rw [coef_nil, Int.zero_add]
  | a :: f, [], g, m => by
    show coef (mulK (a :: f) g) m = _ + coef [] m
    rw [coef_nil, Int.add_zero]
  | a :: f, b :: h, g, m => by
    show coef (mulK ((a + b) :: addK f h) g) m = _
    rw [coef_mulK_cons, coef_mulK_cons, coef_mulK_cons, Int.add_mul]
    split
    · rw [mulK_add f h g (m - 1)]
      omega
    · omega
theorem mulK_scale (c : Int) : ∀ (a g : List Int) (m : Nat), coef (mulK (a.map fun x => c * x) g) m = c * coef (mulK a g) m
  | [], g, m => by
    show coef [] m = c * coef [] m
    rw [coef_nil, Int.mul_zero]
  | a :: f, g, m => by
    rw [List.map_cons, coef_mulK_cons, coef_mulK_cons, Int.mul_add, Int.mul_assoc]
    split
    · rw [mulK_scale c f g (m - 1)]
    · rw [Int.mul_zero]
theorem mulK_shift (g a : List Int) : ∀ (j m : Nat), coef (mulK (List.replicate j 0 ++ a) g) m = if j ≤ m then coef (mulK a g) (m - j) else 0
  | 0, m => by
    rw [if_pos (Nat.zero_le m)]
    rfl
  | j + 1, m => by
    rw [List.replicate_succ, List.cons_append, coef_mulK_cons, Int.zero_mul, Int.zero_add]
    by_cases h : 1 ≤ m
    · rw [if_pos h, mulK_shift g a j (m - 1)]
      by_cases h2 : j + 1 ≤ m
      · rw [if_pos h2, if_pos (by omega), show m - 1 - j = m - (j + 1) by omega]
      · rw [if_neg h2, if_neg (by omega)]
    · rw [if_neg h, if_neg (by omega)]
section
variable {n : Nat}
theorem chk_at (h1 : 1 ≤ n) (h2 : n ≤ 61) : chkW n = true ∧ chkP n = true := by
  have a := List.all_eq_true.mp all_W1 (n - 1) (List.mem_range.mpr (by omega))
  have b := List.all_eq_true.mp all_P1 (n - 1) (List.mem_range.mpr (by omega))
  rw [show n - 1 + 1 = n by omega] at a b
  exact ⟨a, b⟩
/-- a sum that the root polynomial parts, q being short enough -/
def Dv (n : Nat) (h : List Int) : Prop := ∃ q : List Int, q.length + (phi n).length ≤ n + 1 ∧ ∀ m, coef h m = coef (mulK q (phi n)) m
theorem Dv.zero (h1 : 1 ≤ n) (h2 : n ≤ 61) {h : List Int} (e : ∀ m, coef h m = 0) : Dv n h := ⟨[], by have := phi_le h1 (show n ≤ 420 by omega); simp only [List.length_nil]; omega, fun m => by rw [e m]; exact (coef_nil m).symm⟩
theorem Dv.lin {f g h : List Int} (c : Int) (a : Dv n f) (b : Dv n g) (e : ∀ m, coef h m = coef f m + c * coef g m) : Dv n h := by
  obtain ⟨q, l, x⟩ := a
  obtain ⟨s, k, y⟩ := b
  refine ⟨addK q (s.map fun x => c * x), ?_, fun m => ?_⟩
  · rw [len_addK, List.length_map]
    omega
  · rw [mulK_add, mulK_scale, e m, x m, y m]
theorem Dv.sum (h1 : 1 ≤ n) (h2 : n ≤ 61) : ∀ (rows : List J3) (F : J3 → List Int) (h : List Int), (∀ r ∈ rows, Dv n (F r)) → (∀ m, coef h m = (rows.map fun r => coef (F r) m).sum) → h.length ≤ n → Dv n h
  | [], _, h, _, e, _ => Dv.zero h1 h2 e
  | r :: rows, F, h, P, e, hl => by
    have a := P r (List.mem_cons_self ..)
    obtain ⟨b1, b2, b3⟩ := a
    have z : ∀ m, n ≤ m → ∀ z ∈ rows, coef (F z) m = 0 := fun m hm z hz => by
      obtain ⟨q, l, x⟩ := P z (List.mem_cons_of_mem _ hz)
      rw [x m]
      by_cases hq : q = []
      · rw [hq]
        exact coef_nil m
      · refine coef_ge ?_
        by_cases hp : phi n = []
        · rw [hp]
          have : ∀ q : List Int, (mulK q []).length ≤ q.length := by
            intro q
            induction q with
            | nil => exact Nat.le_refl _
            | cons a q ih =>
              show (addK [] (0 :: mulK q [])).length ≤ q.length + 1
              exact Nat.succ_le_succ ih
          have := this q
          rw [hp] at l
          simp only [List.length_nil] at l
          have hm := phi_mon h1 (show n ≤ 420 by omega)
          exact absurd hp hm.ne
        · rw [len_mulK q (phi n) hq hp]
          omega
    have b := Dv.sum h1 h2 rows F (mkL n fun m => (rows.map fun r => coef (F r) m).sum) (fun z hz => P z (List.mem_cons_of_mem _ hz)) (fun m => by
      rw [coef_mkL]
      split
      · rfl
      · rename_i hm
        symm
        have : ∀ l : List J3, (∀ z ∈ l, coef (F z) m = 0) → (l.map fun r => coef (F r) m).sum = 0 := by
          intro l hl
          induction l with
          | nil => rfl
          | cons x l ih =>
            rw [List.map_cons, List.sum_cons, hl x (List.mem_cons_self ..), ih fun z hz => hl z (List.mem_cons_of_mem _ hz)]
            rfl
        exact this rows (z m (by omega))) (by rw [mkL_len]; exact Nat.le_refl _)
    refine Dv.lin 1 ⟨b1, b2, b3⟩ b fun m => ?_
    rw [e m, List.map_cons, List.sum_cons, coef_mkL]
    split
    · omega
    · rename_i hm
      have : ∀ l : List J3, (∀ z ∈ l, coef (F z) m = 0) → (l.map fun r => coef (F r) m).sum = 0 := by
        intro l hl
        induction l with
        | nil => rfl
        | cons x l ih =>
          rw [List.map_cons, List.sum_cons, hl x (List.mem_cons_self ..), ih fun z hz => hl z (List.mem_cons_of_mem _ hz)]
          rfl
      rw [this rows (z m (by omega))]
      omega
theorem wlF_prime {rs : List J3} {f : List Int} {x : J3} (h : x ∈ wlF n rs f) : ∃ r ∈ rs, r.1 = x.1 := by
  obtain ⟨r, hr, e, _⟩ := wlF_mem h
  exact ⟨r, hr, e.symm⟩
/-- the root polynomial parts each wheel -/
theorem dv_wheel (h1 : 1 ≤ n) (h2 : n ≤ 61) {r q : J3} (hq : q ∈ pwF n) (e : q.1 = r.1) (w : Whl n r) : Dv n (mkL n (wh n r)) := by
  have hn : (1 : Int) ≤ n := by omega
  have g := (gok hn (by omega)).all q hq
  have c := List.all_eq_true.mp (chk_at h1 h2).1 q hq
  have two := g.two
  obtain ⟨s1, s2, s3⟩ := g.step hn
  rw [e] at s1 s2 s3 two
  have hs : ((n / q.1.toNat : Nat) : Int) = (n : Int) / r.1 := by
    rw [Int.natCast_ediv, e, show ((r.1.toNat : Nat) : Int) = r.1 by omega]
  have c := of_decide_eq_true c
  generalize n / q.1.toNat = s at hs c
  rw [← hs] at s1 s2 s3
  have w3 := w.lo
  have w4 := w.hi
  rw [← hs] at w4
  have hj : ((r.2.1.toNat : Nat) : Int) = r.2.1 := by omega
  have pm := (phi_mon h1 (show n ≤ 420 by omega)).ne
  have lw : (wp n s).length = n - s + 1 := mkL_len _ _
  have hne : quo n s ≠ [] := fun z => by
    rw [z] at c
    have := congrArg List.length c
    rw [lw] at this
    exact absurd this (Nat.ne_of_lt (Nat.succ_pos _))
  have ll := len_mulK (quo n s) (phi n) hne pm
  rw [c, lw] at ll
  have l0 := List.length_pos_iff.mpr pm
  refine ⟨List.replicate r.2.1.toNat 0 ++ (quo n s).map fun x => r.2.2 * x, ?_, fun m => ?_⟩
  · rw [List.length_append, List.length_replicate, List.length_map]
    omega
  · rw [mulK_shift, coef_mkL]
    generalize hjj : r.2.1.toNat = j at *
    have key : (m < n ∧ (m : Int) % (n / r.1) = r.2.1) ↔ (j ≤ m ∧ m - j < n - s + 1 ∧ (m - j) % s = 0) := by
      have em : ((m : Int) % (n / r.1) = r.2.1) ↔ m % s = j := by
        rw [← hs, ← hj]
        omega
      rw [em]
      have hsp : 0 < s := by omega
      have hd : ∃ t, n = s * t := ⟨r.1.toNat, by
        have : ((s * r.1.toNat : Nat) : Int) = (n : Int) := by
          rw [Int.natCast_mul, show ((r.1.toNat : Nat) : Int) = r.1 by omega]
          omega
        omega⟩
      obtain ⟨t, ht⟩ := hd
      constructor
      · rintro ⟨a, b⟩
        have d := Nat.div_add_mod m s
        rw [b] at d
        have lt : m / s < t := Nat.div_lt_of_lt_mul (by rw [← ht]; exact a)
        have le : s * (m / s + 1) ≤ s * t := Nat.mul_le_mul_left s lt
        rw [Nat.mul_add, Nat.mul_one, ← ht] at le
        refine ⟨by omega, by omega, ?_⟩
        rw [show m - j = s * (m / s) by omega]
        exact Nat.mul_mod_right s _
      · rintro ⟨a, b, z⟩
        have js : j < s := by omega
        refine ⟨by omega, ?_⟩
        have d := Nat.div_add_mod (m - j) s
        rw [z, Nat.add_zero] at d
        rw [show m = j + s * ((m - j) / s) by omega, Nat.add_mul_mod_self_left]
        exact Nat.mod_eq_of_lt js
    have e2 : coef (mulK ((quo n s).map fun x => r.2.2 * x) (phi n)) (m - j) = r.2.2 * if m - j < n - s + 1 then (if (m - j) % s = 0 then 1 else 0) else 0 := by
      rw [mulK_scale, c]
      unfold wp
      rw [coef_mkL]
    rw [e2]
    unfold wh
    by_cases a : m < n ∧ (m : Int) % (n / r.1) = r.2.1
    · obtain ⟨b1, b2, b3⟩ := key.mp a
      rw [if_pos a.1, if_pos a.2, if_pos b1, if_pos b2, if_pos b3, Int.mul_one]
    · have b := fun z => a (key.mpr z)
      have lhs : (if m < n then (if (m : Int) % (n / r.1) = r.2.1 then r.2.2 else 0) else 0) = 0 := by
        split
        · rename_i x
          rw [if_neg fun y => a ⟨x, y⟩]
        · rfl
      rw [lhs]
      split
      · rename_i x
        split
        · rename_i y
          rw [if_neg fun z => b ⟨x, y, z⟩, Int.mul_zero]
        · rw [Int.mul_zero]
      · rfl
theorem sum_zero : ∀ l : List Int, (∀ z ∈ l, z = 0) → l.sum = 0
  | [], _ => rfl
  | x :: l, h => by
    rw [List.sum_cons, h x (List.mem_cons_self ..), sum_zero l fun z hz => h z (List.mem_cons_of_mem _ hz)]
    rfl
/-- nought, so parted by the root polynomial -/
theorem dv_of (h1 : 1 ≤ n) (h2 : n ≤ 61) {h : List Int} (hl : h.length = n) (z : Zr n (grF n h)) : Dv n h := by
  have hn : (1 : Int) ≤ n := by omega
  have G := gok hn (show (n : Int) ≤ 61 by omega)
  have R := gr_row hn (show (n : Int) ≤ 61 by omega) h
  refine Dv.sum h1 h2 (wlF n (pwF n) h) (fun r => mkL n (wh n r)) h (fun r hr => ?_) (fun m => ?_) (by omega)
  · obtain ⟨q, hq, e⟩ := wlF_prime hr
    exact dv_wheel h1 h2 hq e (R.whl r hr)
  · by_cases hm : m < n
    · have k := gr_makes hn (pwF n) h G.all m (by omega)
      have z0 : coef ((pwF n).foldl (fun f r => gStep n r f) h) m = 0 := z m (by omega)
      rw [z0, Int.zero_add] at k
      rw [← k, cmAt_sum]
      congr 1
      refine List.map_congr_left fun r _ => ?_
      rw [coef_mkL, if_pos hm]
    · rw [coef_ge (by omega), sum_zero]
      intro x hx
      obtain ⟨r, _, rfl⟩ := List.mem_map.mp hx
      rw [coef_mkL, if_neg hm]
/-- k places farther -/
def shF (n k : Nat) (f : List Int) : List Int := mkL n fun m => if k ≤ m then coef f (m - k) else 0
/-- k places back -/
def bk (n k m : Nat) : Nat := if k ≤ m then m - k else m + n - k
theorem bk_lt {n k m : Nat} (h : m < n) (hk : k ≤ n) : bk n k m < n := by
  unfold bk
  split <;> omega
/-- the root polynomial, turned, is nought -/
theorem zr_shift (h1 : 2 ≤ n) (h2 : n ≤ 61) {k : Nat} (hk : k + (phi n).length ≤ n) : Zr n (grF n (shF n k (phi n))) := by
  have hn : (1 : Int) ≤ n := by omega
  have X := nokX hn (show (n : Int) ≤ 61 by omega)
  have R := gr_row hn (show (n : Int) ≤ 61 by omega) (phi n)
  have c := (chk_at (show 1 ≤ n by omega) h2).2
  unfold chkP at c
  rw [Bool.or_eq_true] at c
  have c := c.resolve_left (by rw [decide_eq_true_eq]; omega)
  rw [Bool.and_eq_true, List.all_eq_true] at c
  have z : Zr n (grF n (phi n)) := fun m hm => of_decide_eq_true (c.1 m (List.mem_range.mpr (by omega)))
  have at' : ∀ m, m < n → coef (phi n) m = cmAt n (wlF n (pwF n) (phi n)) m := fun m hm => by
    have k := gr_makes hn (pwF n) (phi n) X.all m (by omega)
    have z0 : coef ((pwF n).foldl (fun f r => gStep n r f) (phi n)) m = 0 := z m (by omega)
    rw [z0, Int.zero_add] at k
    exact k.symm
  refine gr_sumZ X (wlF n (pwF n) (phi n)) (fun r => mkL n fun m => wh n r (bk n k m)) _ (fun r hr => ?_) fun m hm => ?_
  · obtain ⟨q, hq, e⟩ := wlF_prime hr
    refine ⟨q, hq, fun m i hm hi em => ?_⟩
    rw [coef_mkL, coef_mkL, if_pos (show m < n by omega), if_pos (show i < n by omega)]
    obtain ⟨s1, s2, s3⟩ := (X.all q hq).step hn
    have key : ∀ m : Nat, (m : Int) < n → ((bk n k m : Nat) : Int) % (n / q.1) = ((m : Int) - k) % (n / q.1) := fun m hm => by
      unfold bk
      split
      · rename_i a
        rw [Int.ofNat_sub a]
      · rw [show ((m + n - k : Nat) : Int) = (m : Int) - k + n by omega]
        have : (n : Int) = (n / q.1) * q.1 := s3
        generalize (n : Int) / q.1 = s at *
        rw [this, Int.add_mul_emod_self_left]
    unfold wh
    rw [← e, key m hm, key i hi, Int.sub_emod, em, ← Int.sub_emod]
  · unfold shF
    rw [coef_mkL, if_pos (show m < n by omega)]
    have e : (if k ≤ m then coef (phi n) (m - k) else 0) = coef (phi n) (bk n k m) := by
      unfold bk
      split
      · rfl
      · rw [coef_ge]
        omega
    rw [e, at' _ (bk_lt (by omega) (by omega)), cmAt_sum]
    congr 1
    refine List.map_congr_left fun r _ => ?_
    rw [coef_mkL, if_pos (show m < n by omega)]
theorem zr_mul (h1 : 2 ≤ n) (h2 : n ≤ 61) : ∀ (q : List Int) (k : Nat), k + q.length + (phi n).length ≤ n + 1 → Zr n (grF n (shF n k (mulK q (phi n))))
  | [], k, _ => by
    refine gr_zero (nokX (by omega) (by omega)) fun m hm => ?_
    unfold shF
    rw [coef_mkL, if_pos (by omega)]
    split
    · exact coef_nil _
    · rfl
  | a :: q, k, h => fun m hm => by
    rw [List.length_cons] at h
    have X := nokX (n := (n : Int)) (by omega) (by omega)
    have b := zr_mul h1 h2 q (k + 1) (by omega)
    have c := zr_shift h1 h2 (k := k) (by omega)
    rw [gr_lin X a (f := shF n (k + 1) (mulK q (phi n))) (g := shF n k (phi n)) (fun m hm => ?_) hm, b m hm, c m hm, Int.mul_zero]
    · rfl
    · unfold shF
      have hm' : m < n := by omega
      rw [coef_mkL, coef_mkL, coef_mkL, if_pos hm', if_pos hm', if_pos hm']
      by_cases x : k ≤ m
      · rw [if_pos x, if_pos x, coef_mulK_cons]
        by_cases y : k + 1 ≤ m
        · rw [if_pos y, if_pos (by omega), show m - k - 1 = m - (k + 1) by omega]
          omega
        · rw [if_neg y, if_neg (by omega)]
          omega
      · rw [if_neg x, if_neg x, if_neg (by omega), Int.mul_zero]
        rfl
/-- parted by the root polynomial, so nought -/
theorem of_dv (h1 : 1 ≤ n) (h2 : n ≤ 61) {h : List Int} (d : Dv n h) : Zr n (grF n h) := by
  have X := nokX (n := (n : Int)) (by omega) (by omega)
  obtain ⟨q, l, e⟩ := d
  by_cases g : n = 1
  · have := (phi_mon h1 (show n ≤ 420 by omega)).two
    have hq : q = [] := List.eq_nil_of_length_eq_zero (by omega)
    subst hq
    exact gr_zero X fun m hm => (e m).trans (coef_nil m)
  · intro m hm
    have a := zr_mul (by omega) h2 q 0 (by omega) m hm
    have b := gr_lin X 0 (f := shF n 0 (mulK q (phi n))) (g := []) (h := h) (fun m hm => by
      unfold shF
      rw [coef_mkL, if_pos (show m < n by omega), if_pos (Nat.zero_le m), e m, Int.zero_mul, Int.add_zero]
      rfl) hm
    rw [b, a, Int.zero_mul]
    rfl
/-- sums have the same rest just where the root polynomial parts the difference -/
theorem same_iff (h1 : 1 ≤ n) (h2 : n ≤ 61) {f g : List Int} (hf : f.length = n) (hg : g.length = n) : grF n f = grF n g ↔ Dv n (mkL n fun m => coef f m - coef g m) := by
  have X := nokX (n := (n : Int)) (by omega) (by omega)
  have lf : ((grF n f).length : Int) = n := grF_len (by omega)
  have lg : ((grF n g).length : Int) = n := grF_len (by omega)
  have lin : ∀ m : Nat, (m : Int) < n → coef (grF n (mkL n fun m => coef f m - coef g m)) m = coef (grF n f) m + (-1) * coef (grF n g) m := fun m hm => gr_lin X (-1) (fun m hm => by
    rw [coef_mkL, if_pos (by omega)]
    omega) hm
  constructor
  · intro e
    refine dv_of h1 h2 (mkL_len _ _) fun m hm => ?_
    rw [lin m hm, e]
    omega
  · intro d
    refine ext_of (by omega) fun m hm => ?_
    have := of_dv h1 h2 d m (by omega)
    rw [lin m (by omega)] at this
    omega
end
end Kp

/-! Sums round n as a ring: products may change their turn; led by a unit; products of sums that are the same. -/
namespace Kp
/-- the sum of F i, i below n -/
def S : Nat → (Nat → Int) → Int
  | 0, _ => 0
  | n + 1, F => S n F + F n
theorem S_congr {F G : Nat → Int} : ∀ n, (∀ i, i < n → F i = G i) → S n F = S n G
  | 0, _ => rfl
  | n + 1, h => by
    show S n F + F n = S n G + G n
    rw [S_congr n (fun i hi => h i (by omega)), h n (by omega)]
theorem S_add (F G : Nat → Int) : ∀ n, S n (fun i => F i + G i) = S n F + S n G
  | 0 => rfl
  | n + 1 => by
    show S n (fun i => F i + G i) + (F n + G n) = S n F + F n + (S n G + G n)
    rw [S_add F G n]
    omega
theorem S_mul (c : Int) (F : Nat → Int) : ∀ n, S n (fun i => c * F i) = c * S n F
  | 0 => (Int.mul_zero c).symm
  | n + 1 => by
    show S n (fun i => c * F i) + c * F n = c * (S n F + F n)
    rw [S_mul c F n, Int.mul_add]
theorem S_zero : ∀ n, S n (fun _ => 0) = 0
  | 0 => rfl
  | n + 1 => by
    show S n (fun _ => 0) + 0 = 0
    rw [S_zero n]
    rfl
theorem S_swap (F : Nat → Nat → Int) (m : Nat) : ∀ n, S n (fun i => S m (fun j => F i j)) = S m (fun j => S n (fun i => F i j))
  | 0 => (S_zero m).symm
  | n + 1 => by
    show S n (fun i => S m (fun j => F i j)) + S m (fun j => F n j) = S m (fun j => S n (fun i => F i j) + F n j)
    rw [S_swap F m n, S_add]
theorem S_one (F : Nat → Int) {i : Nat} : ∀ n, S n (fun k => if k = i then F k else 0) = if i < n then F i else 0
  | 0 => rfl
  | n + 1 => by
    show S n (fun k => if k = i then F k else 0) + (if n = i then F n else 0) = _
    rw [S_one F n]
    by_cases c : n = i
    · rw [if_pos c, if_neg (by omega), if_pos (by omega), c]
      omega
    · rw [if_neg c]
      by_cases d : i < n
      · rw [if_pos d, if_pos (by omega)]
        omega
      · rw [if_neg d, if_neg (by omega)]
        rfl
theorem cs_S (f g : List Int) (n m : Nat) : ∀ i, cs f g n i m = S i fun k => coef f k * coef g ((m + n - k) % n)
  | 0 => rfl
  | i + 1 => by
    show cs f g n i m + coef f i * coef g ((m + n - i) % n) = _
    rw [cs_S f g n m i]
    rfl
theorem mulS_at {f g : List Int} {n m : Nat} (hf : f.length = n) (h : m < n) : coef (mulS f g) m = S n fun k => coef f k * coef g ((m + n - k) % n) := by
  unfold mulS
  rw [hf, coef_mkL, if_pos h, cs_S]
theorem S_flip {n m : Nat} (hm : m < n) (u v : Nat → Int) : S n (fun i => u i * v ((m + n - i) % n)) = S n (fun j => v j * u ((m + n - j) % n)) := by
  have a : ∀ i, i < n → u i * v ((m + n - i) % n) = S n (fun j => if j = (m + n - i) % n then u i * v j else 0) := fun i hi => by
    rw [S_one (fun j => u i * v j) n, if_pos (Nat.mod_lt _ (by omega))]
  rw [S_congr n a, S_swap]
  refine S_congr n fun j hj => ?_
  have b : ∀ i, i < n → (if j = (m + n - i) % n then u i * v j else 0) = if i = (m + n - j) % n then u i * v j else 0 := fun i hi => by
    have k1 := addmod_eq hi hj hm
    have k2 := addmod_eq hj hi hm
    rw [Nat.add_comm j i] at k2
    by_cases c : j = (m + n - i) % n
    · rw [if_pos c, if_pos (k2.mp (k1.mpr c.symm)).symm]
    · rw [if_neg c, if_neg (fun e => c (k1.mp (k2.mpr e.symm)).symm)]
  rw [S_congr n b, S_one (fun i => u i * v j) n, if_pos (Nat.mod_lt _ (by omega)), Int.mul_comm]
theorem idx_swap {n m l i : Nat} (hm : m < n) (hl : l < n) (hi : i < n) : ((m + n - l) % n + n - i) % n = ((m + n - i) % n + n - l) % n := by
  rw [submod hm hl, submod hm hi]
  split <;> split <;> rw [submod (by omega) (by omega), submod (by omega) (by omega)] <;> split <;> split <;> omega
/-- two factors may change their turn -/
theorem mulS_right {f g h : List Int} (hg : g.length = f.length) (hh : h.length = f.length) : mulS (mulS f g) h = mulS (mulS f h) g := by
  refine ext_of (by rw [mulS_len, mulS_len, mulS_len, mulS_len]) fun m hm => ?_
  rw [mulS_len, mulS_len] at hm
  generalize hn : f.length = n at *
  have key : ∀ g h : List Int, coef (mulS (mulS f g) h) m = S n fun i => coef f i * S n fun l => coef h l * coef g (((m + n - i) % n + n - l) % n) := fun g h => by
    rw [mulS_at (n := n) (by rw [mulS_len, hn]) hm, S_flip hm (fun a => coef (mulS f g) a) (fun j => coef h j)]
    have a : ∀ l, l < n → coef h l * coef (mulS f g) ((m + n - l) % n) = S n fun i => coef f i * (coef h l * coef g (((m + n - i) % n + n - l) % n)) := fun l hl => by
      rw [mulS_at hn (Nat.mod_lt _ (by omega)), ← S_mul]
      refine S_congr n fun i hi => ?_
      rw [idx_swap hm hl hi, ← Int.mul_assoc, ← Int.mul_assoc, Int.mul_comm (coef h l)]
    rw [S_congr n a, S_swap]
    exact S_congr n fun i hi => S_mul _ _ n
  rw [key g h, key h g]
  refine S_congr n fun i hi => ?_
  rw [S_flip (Nat.mod_lt _ (by omega)) (fun l => coef h l) (fun l => coef g l)]
/-- led by the unit whose inverse is v -/
def mv (n v : Nat) (f : List Int) : List Int := mkL n fun m => coef f (v * m % n)
theorem unit_cancel {n u v i : Nat} (hi : i < n) (h : u * v % n = 1 % n) : v * (u * i % n) % n = i := by
  have e : v * (u * i % n) % n = u * v % n * i % n := by
    rw [Nat.mul_mod, Nat.mod_mod, ← Nat.mul_mod, ← Nat.mul_assoc, Nat.mul_comm v u, Nat.mul_mod (u * v % n), Nat.mod_mod, ← Nat.mul_mod]
  rw [e, h, Nat.mul_mod, Nat.mod_mod, ← Nat.mul_mod, Nat.one_mul, Nat.mod_eq_of_lt hi]
theorem unit_iff {n u v a i : Nat} (ha : a < n) (hi : i < n) (h : u * v % n = 1 % n) : a = u * i % n ↔ i = v * a % n := by
  constructor
  · rintro rfl
    exact (unit_cancel hi h).symm
  · rintro rfl
    exact (unit_cancel ha (by rw [Nat.mul_comm]; exact h)).symm
theorem S_perm {n u v : Nat} (hn : 0 < n) (h : u * v % n = 1 % n) (G : Nat → Int) : S n (fun i => G (u * i % n)) = S n G := by
  have a : ∀ i, i < n → G (u * i % n) = S n fun a => if a = u * i % n then G a else 0 := fun i hi => by
    rw [S_one G n, if_pos (Nat.mod_lt _ hn)]
  rw [S_congr n a, S_swap]
  refine S_congr n fun a ha => ?_
  have b : ∀ i, i < n → (if a = u * i % n then G a else 0) = if i = v * a % n then G a else 0 := fun i hi => by
    have k := unit_iff ha hi h
    by_cases c : a = u * i % n
    · rw [if_pos c, if_pos (k.mp c)]
    · rw [if_neg c, if_neg (fun e => c (k.mpr e))]
  rw [S_congr n b, S_one (fun _ => G a) n, if_pos (Nat.mod_lt _ hn)]
theorem mv_len (n v : Nat) (f : List Int) : (mv n v f).length = n := mkL_len _ _
theorem mv_mul {n u v : Nat} (hn : 0 < n) (h : u * v % n = 1 % n) {f g : List Int} (hf : f.length = n) : mv n v (mulS f g) = mulS (mv n v f) (mv n v g) := by
  refine ext_of (by rw [mulS_len, mv_len, mv_len]) fun m hm => ?_
  rw [mv_len] at hm
  rw [mulS_at (mv_len n v f) hm]
  unfold mv
  rw [coef_mkL, if_pos hm, mulS_at hf (Nat.mod_lt _ hn)]
  have a : ∀ a, a < n → coef (mkL n fun m => coef f (v * m % n)) a * coef (mkL n fun m => coef g (v * m % n)) ((m + n - a) % n) = coef f (v * a % n) * coef g (v * ((m + n - a) % n) % n) := fun a ha => by
    rw [coef_mkL, coef_mkL, if_pos ha, if_pos (Nat.mod_lt _ hn)]
  rw [S_congr n a, ← S_perm hn h fun a => coef f (v * a % n) * coef g (v * ((m + n - a) % n) % n)]
  refine S_congr n fun i hi => ?_
  rw [unit_cancel hi h]
  have hu := Nat.mod_lt (u * i) hn
  have hw := Nat.mod_lt (m + n - u * i % n) hn
  have e1 := (addmod_eq hu hw hm).mpr rfl
  have hv := Nat.mod_lt (v * ((m + n - u * i % n) % n)) hn
  have e2 : v * m % n = (i + v * ((m + n - u * i % n) % n) % n) % n := by
    have c := unit_cancel hi h
    have e3 : v * m % n = (v * (u * i % n) + v * ((m + n - u * i % n) % n)) % n := by
      rw [← Nat.mul_add]
      conv => lhs; rw [e1]
      rw [Nat.mul_mod, Nat.mod_mod, ← Nat.mul_mod]
    rw [e3, Nat.add_mod, c]
  have e4 := (addmod_eq hi hv (Nat.mod_lt (v * m) hn)).mp e2
  rw [e4]
/-! ### products of sums that are the same -/
theorem S_sum {α : Type} (c : Nat → Int) (F : α → Nat → Int) (n : Nat) : ∀ rows : List α, S n (fun j => c j * (rows.map fun r => F r j).sum) = (rows.map fun r => S n fun j => c j * F r j).sum
  | [] => by
    show S n (fun j => c j * 0) = 0
    rw [S_congr n (G := fun _ => 0) fun i _ => Int.mul_zero _, S_zero]
  | r :: rows => by
    rw [List.map_cons, List.sum_cons, ← S_sum c F n rows, ← S_add]
    refine S_congr n fun i _ => ?_
    rw [List.map_cons, List.sum_cons, Int.mul_add]
theorem zr_mulS {n : Nat} (n1 : 1 ≤ n) (n2 : n ≤ 61) {d b : List Int} (hd : d.length = n) (hb : b.length = n) (z : Zr n (grF n d)) : Zr n (grF n (mulS d b)) := by
  have X := nokX (n := (n : Int)) (by omega) (by omega)
  have G := gok (n := (n : Int)) (by omega) (by omega)
  refine gr_sumZ X (wlF n (pwF n) d) (fun r => mkL n fun m => S n fun j => coef b j * wh n r ((m + n - j) % n)) _ (fun r hr => ?_) fun m hm => ?_
  · obtain ⟨q, hq, e⟩ := wlF_prime hr
    refine ⟨q, hq, fun m i hm hi hmi => ?_⟩
    rw [coef_mkL, coef_mkL, if_pos (by omega), if_pos (by omega)]
    refine S_congr n fun j hj => ?_
    have st := (G.all q hq).step (by omega)
    have key : ∀ m : Nat, m < n → (((m + n - j) % n : Nat) : Int) % ((n : Int) / q.1) = ((m : Int) % ((n : Int) / q.1) - (j : Int)) % ((n : Int) / q.1) := fun m hm => by
      rw [Int.natCast_emod, Int.emod_emod_of_dvd _ ⟨q.1, st.2.2⟩, show ((m + n - j : Nat) : Int) = (m : Int) - (j : Int) + (n : Int) by omega, Int.add_emod, show (n : Int) % ((n : Int) / q.1) = 0 from Int.emod_eq_zero_of_dvd ⟨q.1, st.2.2⟩, Int.add_zero, Int.emod_emod, Int.sub_emod, Int.sub_emod ((m : Int) % ((n : Int) / q.1)) (j : Int), Int.emod_emod]
    unfold wh
    rw [← e, key m (by omega), key i (by omega), hmi]
  · have hmn : m < n := by omega
    rw [mulS_at hd hmn, S_flip hmn (fun a => coef d a) (fun j => coef b j)]
    have a : ∀ j, j < n → coef b j * coef d ((m + n - j) % n) = coef b j * ((wlF n (pwF n) d).map fun r => wh n r ((m + n - j) % n)).sum := fun j hj => by
      have hl := Nat.mod_lt (m + n - j) (show 0 < n by omega)
      have mk := gr_makes (n := (n : Int)) (by omega) (pwF n) d G.all ((m + n - j) % n) (by omega)
      have zz := z ((m + n - j) % n) (by omega)
      unfold grF at zz
      rw [zz, cmAt_sum] at mk
      rw [← mk, Int.zero_add]
    rw [S_congr n a, S_sum (fun j => coef b j) (fun r j => wh n r ((m + n - j) % n)) n]
    congr 1
    refine List.map_congr_left fun r _ => ?_
    rw [coef_mkL, if_pos hmn]
/-- the same, less the other, has the rest nought -/
theorem gr_eq_iff {n : Nat} (n1 : 1 ≤ n) (n2 : n ≤ 61) {f g : List Int} (hf : f.length = n) (hg : g.length = n) : grF n f = grF n g ↔ Zr n (grF n (mkL n fun m => coef f m - coef g m)) := by
  have X := nokX (n := (n : Int)) (by omega) (by omega)
  have lf : ((grF n f).length : Int) = n := grF_len (by omega)
  have lg : ((grF n g).length : Int) = n := grF_len (by omega)
  have lin : ∀ m : Nat, (m : Int) < n → coef (grF n (mkL n fun m => coef f m - coef g m)) m = coef (grF n f) m + (-1) * coef (grF n g) m := fun m hm => gr_lin X (-1) (fun m hm => by
    rw [coef_mkL, if_pos (by omega)]
    omega) hm
  constructor
  · intro e m hm
    rw [lin m hm, e]
    omega
  · intro z
    refine ext_of (by omega) fun m hm => ?_
    have := z m (by omega)
    rw [lin m (by omega)] at this
    omega
theorem gr_mulS {n : Nat} (n1 : 1 ≤ n) (n2 : n ≤ 61) {f g b : List Int} (hf : f.length = n) (hg : g.length = n) (hb : b.length = n) (e : grF n f = grF n g) : grF n (mulS f b) = grF n (mulS g b) := by
  have lf : (mulS f b).length = n := by rw [mulS_len, hf]
  have lg : (mulS g b).length = n := by rw [mulS_len, hg]
  refine (gr_eq_iff n1 n2 lf lg).mpr ?_
  have z := zr_mulS n1 n2 (d := mkL n fun m => coef f m - coef g m) (b := b) (mkL_len _ _) hb ((gr_eq_iff n1 n2 hf hg).mp e)
  have q : (mkL n fun m => coef (mulS f b) m - coef (mulS g b) m) = mulS (mkL n fun m => coef f m - coef g m) b := by
    refine ext_of (by rw [mulS_len, mkL_len, mkL_len]) fun m hm => ?_
    rw [mkL_len] at hm
    rw [coef_mkL, if_pos hm, mulS_at hf hm, mulS_at hg hm, mulS_at (mkL_len _ _) hm, show S n (fun k => coef f k * coef b ((m + n - k) % n)) - S n (fun k => coef g k * coef b ((m + n - k) % n)) = S n (fun k => coef f k * coef b ((m + n - k) % n)) + (-1) * S n (fun k => coef g k * coef b ((m + n - k) % n)) by omega, ← S_mul, ← S_add]
    refine S_congr n fun k hk => ?_
    rw [coef_mkL, if_pos hk, Int.sub_mul]
    omega
  rw [q]
  exact z
/-- a product hangs not on the turn of its factors -/
theorem fold_perm {α : Type} {op : List Int → α → List Int} {A B : List α} (p : A.Perm B) (T : List Int → Prop) (hT : ∀ t a, T t → T (op t a)) (h : ∀ t a b, T t → op (op t a) b = op (op t b) a) : ∀ t, T t → A.foldl op t = B.foldl op t := by
  induction p with
  | nil => exact fun _ _ => rfl
  | cons a p ih => exact fun t ht => ih (op t a) (hT t a ht)
  | swap a b l =>
    intro t ht
    show l.foldl op (op (op t b) a) = l.foldl op (op (op t a) b)
    rw [h t b a ht]
  | trans p q ihp ihq => exact fun t ht => (ihp t ht).trans (ihq t ht)
theorem mm1 (a b n : Nat) : a * (b % n) % n = a * b % n := by rw [Nat.mul_mod, Nat.mod_mod, ← Nat.mul_mod]
theorem mm2 (a b n : Nat) : a % n * b % n = a * b % n := by rw [Nat.mul_mod, Nat.mod_mod, ← Nat.mul_mod]
theorem mv_mv {n v w : Nat} (hn : 0 < n) (f : List Int) : mv n v (mv n w f) = mv n (w * v % n) f := by
  refine ext_of (by rw [mv_len, mv_len]) fun m hm => ?_
  rw [mv_len] at hm
  unfold mv
  rw [coef_mkL, if_pos hm, coef_mkL, if_pos (Nat.mod_lt _ hn), coef_mkL, if_pos hm, mm1, mm2, Nat.mul_assoc]
end Kp

namespace Kp
open PySem PySem.Spec PyProof.Rows L2 Evl
/-! ### lists of new lists of numbers, without doubles -/
def RetNL (xss : List (List V)) (H : Hp) (Q : VK) : Prop := ∀ L ps H1, H L = none → Ex H H1 → H1 L = some (.lst (ps.map V.ref)) → NewL H H1 ps xss → L ∉ ps → Q (.ref L) H1
def insR (rs : List (List Int)) (x : List Int) : List (List Int) := if x ∈ rs then rs else rs ++ [x]
def ddp (l : List (List Int)) : List (List Int) := l.foldl insR []
theorem ddp_snoc (l : List (List Int)) (x : List Int) : ddp (l ++ [x]) = insR (ddp l) x := by
  unfold ddp
  rw [List.foldl_append]
  rfl
theorem ddp_len : ∀ l : List (List Int), (ddp l.reverse).length ≤ l.length
  | [] => Nat.le_refl 0
  | x :: l => by
    rw [List.reverse_cons, ddp_snoc]
    have := ddp_len l
    unfold insR
    split
    · exact Nat.le_succ_of_le this
    · rw [List.length_append]
      exact Nat.succ_le_succ this
theorem ddp_le (l : List (List Int)) : (ddp l).length ≤ l.length := by
  have := ddp_len l.reverse
  rw [List.reverse_reverse, List.length_reverse] at this
  exact this
theorem any_dI (rs : List (List Int)) (x : List Int) : (rs.map dI).any (fun z => PyData.eqv z (dI x)) = decide (x ∈ rs) := by
  induction rs with
  | nil => rfl
  | cons r rs ih =>
    rw [List.map_cons, List.any_cons, ih, dI_eqv]
    refine Bool.eq_iff_iff.mpr ?_
    rw [Bool.or_eq_true, decide_eq_true_iff, decide_eq_true_iff, decide_eq_true_iff, List.mem_cons]
    exact or_congr ⟨Eq.symm, Eq.symm⟩ Iff.rfl
section
variable {K : PySem.W.Frag} {H H' : Hp}
theorem rv_notLL {p L : Addr} {x : List Int} {ps : List Addr} {rs : List (List Int)} (h : SqL K H p (x.map V.int)) (hL : SqL K H L (ps.map V.ref)) (R : Paired (fun p ns => SqL K H p (ns.map V.int)) ps rs) : RV (rNotInD K) (.ref p) (.ref L) H (.bl (!decide (x ∈ rs))) := fun H1 e Q q =>
  ⟨dI x, rs.map dI, dp_ints (ex_l e h), dp_lists (ex_l e hL) (Paired.mapP R fun _ _ z => ex_l e z), dI_sh x, dLL_sh rs, by rw [any_dI]; exact q H1 (Ex.refl H1)⟩
theorem paired_upd {q : Addr} {o : HO} : ∀ {ps : List Addr} {xss : List (List V)}, Paired (fun p xs => H p = none ∧ H' p = some (.lst xs)) ps xss → q ∉ ps → Paired (fun p xs => H p = none ∧ upd H' q o p = some (.lst xs)) ps xss
  | _, _, .nil, _ => .nil
  | _, _, .cons a r, h => .cons ⟨a.1, by rw [upd_ne (fun e => h (by rw [← e]; exact List.mem_cons_self))]; exact a.2⟩ (paired_upd r fun m => h (List.mem_cons_of_mem _ m))
theorem NewL.upd {q : Addr} {o : HO} {ps : List Addr} {xss : List (List V)} (N : NewL H H' ps xss) (h : q ∉ ps) : NewL H (upd H' q o) ps xss := ⟨paired_upd N.1 h, N.2⟩
theorem NewL.one {p : Addr} {xs : List V} (n : H p = none) (h : H' p = some (.lst xs)) : NewL H H' [p] [xs] := ⟨.cons ⟨n, h⟩ .nil, List.nodup_cons.mpr ⟨List.not_mem_nil, List.nodup_nil⟩⟩
end
/-- walked either way: what is read tells which -/
theorem pi_or {X : Cx} {tg it : Expr} {w1 w2 : TI} (h1 : PI X tg it w1) (h2 : PI X tg it w2) : PI X tg it (fun σ H R => w1 σ H R ∨ w2 σ H R) := ⟨fun pins s σ H R I h => h.elim (h1.run pins s σ H R I) (h2.run pins s σ H R I)⟩
theorem pe_or2 {X : Cx} {e : Expr} {t1 t2 : TE} (h1 : PE X e t1) (h2 : PE X e t2) : PE X e (fun σ H Q => t1 σ H Q ∨ t2 σ H Q) := ⟨fun pins s σ H Q I h => h.elim (h1.run pins s σ H Q I) (h2.run pins s σ H Q I)⟩
section
variable {σ : L2.St} {H : Hp} {w1 w2 : TI} {g : TG} {t : TT} {te : TE} {vs : List Nat} {xs : List V}
theorem el_or1 (h : EvL (tLc w1 g t te vs) σ H xs) : EvL (tLc (fun σ H R => w1 σ H R ∨ w2 σ H R) g t te vs) σ H xs := fun H1 e Q q => .inl (h H1 e Q q)
theorem el_or2 (h : EvL (tLc w2 g t te vs) σ H xs) : EvL (tLc (fun σ H R => w1 σ H R ∨ w2 σ H R) g t te vs) σ H xs := fun H1 e Q q => .inr (h H1 e Q q)
end
theorem room65 {k : Nat} {A : Around} (r : Room k A) : A.units + 65 < cLine := by
  have := r.un
  omega
end Kp

/-! Sums round n, those that are the same number taken as one: a ring, so that the ring's own words of Lean serve. -/
namespace Kp
open PySem PySem.Spec PyProof.Rows L2 Evl

class Ok61 (n : Nat) : Prop where
  h1 : 1 ≤ n
  h2 : n ≤ 61
/-- a number, by its rest -/
structure Zn (n : Nat) where
  v : List Int
  len : v.length = n
  fix : grF n v = v
theorem Zn.ext' {n : Nat} {a b : Zn n} (h : a.v = b.v) : a = b := by
  cases a
  cases b
  cases h
  rfl
instance {n : Nat} : DecidableEq (Zn n) := fun a b => if h : a.v = b.v then .isTrue (Zn.ext' h) else .isFalse fun e => h (by rw [e])
def nrm (n : Nat) (f : List Int) : List Int := mkL n (coef f)
def negS (f : List Int) : List Int := f.map fun x => -x
def itS (n : Nat) (i : Int) : List Int := i :: List.replicate (n - 1) 0
theorem negS_len (f : List Int) : (negS f).length = f.length := List.length_map ..
theorem coef_negS (f : List Int) (m : Nat) : coef (negS f) m = - coef f m := by
  unfold coef negS
  rw [List.getD_eq_getElem?_getD, List.getElem?_map, List.getD_eq_getElem?_getD]
  cases f[m]? <;> rfl
theorem itS_len {n : Nat} (h : 1 ≤ n) (i : Int) : (itS n i).length = n := by
  unfold itS
  rw [List.length_cons, List.length_replicate]
  omega
theorem coef_itS (n : Nat) (i : Int) (m : Nat) : coef (itS n i) m = if m = 0 then i else 0 := by
  cases m with
  | zero => rfl
  | succ m =>
    show coef (List.replicate (n - 1) 0) m = _
    rw [coef_rep]
    rfl
section
variable {n : Nat} [O : Ok61 n] {f g h : List Int}
theorem znX : NokX (n : Int) := nokX (by have := O.h1; omega) (by have := O.h2; omega)
theorem gr_len (hf : f.length = n) : (grF n f).length = n := by
  have := grF_len (n := (n : Int)) (f := f) (by omega)
  omega
theorem gr_gr (hf : f.length = n) : grF n (grF n f) = grF n f := (gr_twice (znX (n := n)) (by omega)).1
theorem nrm_id (hf : f.length = n) : nrm n f = f := ext_of (by unfold nrm; rw [mkL_len, hf]) fun m hm => by
  unfold nrm at *
  rw [mkL_len] at hm
  rw [coef_mkL, if_pos hm]
/-- the number that the sum is -/
def zc (n : Nat) [O : Ok61 n] (f : List Int) : Zn n := ⟨grF n (nrm n f), gr_len (mkL_len _ _), gr_gr (mkL_len _ _)⟩
theorem zc_v (hf : f.length = n) : (zc n f).v = grF n f := by
  show grF n (nrm n f) = _
  rw [nrm_id hf]
theorem zc_eq (hf : f.length = n) (hg : g.length = n) : zc n f = zc n g ↔ grF n f = grF n g := by
  rw [← zc_v hf, ← zc_v hg]
  exact ⟨fun e => by rw [e], Zn.ext'⟩
theorem zc_self (a : Zn n) : zc n a.v = a := Zn.ext' (by rw [zc_v a.len, a.fix])
theorem zc_gr (hf : f.length = n) : zc n (grF n f) = zc n f := (zc_eq (gr_len hf) hf).mpr (gr_gr hf)
theorem mulS_comm (hf : f.length = n) (hg : g.length = n) : mulS f g = mulS g f := ext_of (by rw [mulS_len, mulS_len, hf, hg]) fun m hm => by
  rw [mulS_len, hf] at hm
  rw [mulS_at hf hm, mulS_at hg hm]
  exact S_flip hm (fun i => coef f i) (fun i => coef g i)
instance : Add (Zn n) := ⟨fun a b => zc n (addS a.v b.v)⟩
instance : Mul (Zn n) := ⟨fun a b => zc n (mulS a.v b.v)⟩
instance : Neg (Zn n) := ⟨fun a => zc n (negS a.v)⟩
instance : Sub (Zn n) := ⟨fun a b => a + -b⟩
instance : IntCast (Zn n) := ⟨fun i => zc n (itS n i)⟩
instance : NatCast (Zn n) := ⟨fun k => zc n (itS n (k : Int))⟩
instance (k : Nat) : OfNat (Zn n) k := ⟨zc n (itS n (k : Int))⟩
instance : SMul Nat (Zn n) := ⟨fun k a => zc n (itS n (k : Int)) * a⟩
instance : SMul Int (Zn n) := ⟨fun i a => zc n (itS n i) * a⟩
def zpow (a : Zn n) : Nat → Zn n
  | 0 => zc n (itS n (1 : Nat))
  | k + 1 => zpow a k * a
instance : HPow (Zn n) Nat (Zn n) := ⟨zpow⟩
theorem zc_lin {c : Int} (hf : f.length = n) (hg : g.length = n) (hh : h.length = n) (e : ∀ m, m < n → coef h m = coef f m + c * coef g m) {m : Nat} (hm : m < n) : coef (grF n h) m = coef (grF n f) m + c * coef (grF n g) m :=
  gr_lin (znX (n := n)) c (fun m hm => e m (by omega)) (by omega)
theorem zc_add (hf : f.length = n) (hg : g.length = n) : zc n (addS f g) = zc n f + zc n g := by
  have lf := gr_len hf
  have lg := gr_len hg
  have l1 : (addS f g).length = n := by rw [addS_len (by omega), hf]
  have l2 : (addS (grF n f) (grF n g)).length = n := by rw [addS_len (by omega), lf]
  show _ = zc n (addS (zc n f).v (zc n g).v)
  rw [zc_v hf, zc_v hg, zc_eq l1 l2]
  refine ext_of (by rw [gr_len l1, gr_len l2]) fun m hm => ?_
  rw [gr_len l1] at hm
  rw [zc_lin (c := 1) hf hg l1 (fun m _ => by rw [coef_addS (by omega)]; omega) hm, zc_lin (c := 1) lf lg l2 (fun m _ => by rw [coef_addS (by omega)]; omega) hm, gr_gr hf, gr_gr hg]
theorem zc_mul (hf : f.length = n) (hg : g.length = n) : zc n (mulS f g) = zc n f * zc n g := by
  have lf := gr_len hf
  have lg := gr_len hg
  show _ = zc n (mulS (zc n f).v (zc n g).v)
  rw [zc_v hf, zc_v hg, zc_eq (by rw [mulS_len, hf]) (by rw [mulS_len, lf])]
  rw [gr_mulS O.h1 O.h2 hf lf hg (gr_gr hf).symm, mulS_comm lf hg, mulS_comm lf lg]
  exact gr_mulS O.h1 O.h2 hg lg lf (gr_gr hg).symm
theorem zc_neg (hf : f.length = n) : zc n (negS f) = - zc n f := by
  have lf := gr_len hf
  show _ = zc n (negS (zc n f).v)
  rw [zc_v hf, zc_eq (by rw [negS_len, hf]) (by rw [negS_len, lf])]
  have z : (itS n 0).length = n := itS_len O.h1 0
  refine ext_of (by rw [gr_len (by rw [negS_len, hf]), gr_len (by rw [negS_len, lf])]) fun m hm => ?_
  rw [gr_len (by rw [negS_len, hf])] at hm
  have e1 := zc_lin (f := itS n 0) (c := -1) (h := negS f) z hf (by rw [negS_len, hf]) (fun m _ => by rw [coef_negS, coef_itS]; split <;> omega) hm
  have e2 := zc_lin (f := itS n 0) (c := -1) (h := negS (grF n f)) z lf (by rw [negS_len, lf]) (fun m _ => by rw [coef_negS, coef_itS]; split <;> omega) hm
  rw [e1, e2, gr_gr hf]
theorem mulS_itS (hf : f.length = n) (i : Int) {m : Nat} (hm : m < n) : coef (mulS (itS n i) f) m = i * coef f m := by
  have h1 := O.h1
  rw [mulS_at (itS_len h1 i) hm, S_congr n (G := fun k => if k = 0 then i * coef f m else 0) fun k hk => ?_]
  · rw [S_one (fun _ => i * coef f m) (i := 0) n, if_pos (by omega)]
  · rw [coef_itS]
    split
    · next e =>
      subst e
      rw [Nat.sub_zero, Nat.add_mod_right, Nat.mod_eq_of_lt hm]
    · exact Int.zero_mul _
theorem zc_it_mul (hf : f.length = n) (i : Int) : zc n (itS n i) * zc n f = zc n (mkL n fun m => i * coef f m) := by
  rw [← zc_mul (itS_len O.h1 i) hf]
  congr 1
  refine ext_of (by rw [mulS_len, mkL_len, itS_len O.h1]) fun m hm => ?_
  rw [mulS_len, itS_len O.h1] at hm
  rw [mulS_itS hf i hm, coef_mkL, if_pos hm]
theorem zc_it_add (i j : Int) : zc n (itS n (i + j)) = zc n (itS n i) + zc n (itS n j) := by
  rw [← zc_add (itS_len O.h1 i) (itS_len O.h1 j)]
  congr 1
  refine ext_of (by rw [addS_len (by rw [itS_len O.h1, itS_len O.h1]), itS_len O.h1, itS_len O.h1]) fun m hm => ?_
  rw [coef_addS (by rw [itS_len O.h1, itS_len O.h1]), coef_itS, coef_itS, coef_itS]
  split <;> omega
theorem zn_add_zero (a : Zn n) : a + zc n (itS n 0) = a := by
  have h := zc_add a.len (itS_len O.h1 0)
  rw [zc_self] at h
  rw [← h]
  refine Eq.trans ?_ (zc_self a)
  congr 1
  refine ext_of (by rw [addS_len (by rw [a.len, itS_len O.h1])]) fun m hm => ?_
  rw [coef_addS (by rw [a.len, itS_len O.h1]), coef_itS]
  split <;> omega
theorem zn_add_comm (a b : Zn n) : a + b = b + a := by
  have h := zc_add a.len b.len
  have g := zc_add b.len a.len
  rw [zc_self, zc_self] at h g
  rw [← h, ← g]
  congr 1
  refine ext_of (by rw [addS_len (by rw [a.len, b.len]), addS_len (by rw [a.len, b.len]), a.len, b.len]) fun m hm => ?_
  rw [coef_addS (by rw [a.len, b.len]), coef_addS (by rw [a.len, b.len])]
  omega
theorem zn_add_assoc (a b c : Zn n) : a + b + c = a + (b + c) := by
  rw [← zc_self a, ← zc_self b, ← zc_self c]
  have l1 : (addS a.v b.v).length = n := by rw [addS_len (by rw [a.len, b.len]), a.len]
  have l2 : (addS b.v c.v).length = n := by rw [addS_len (by rw [b.len, c.len]), b.len]
  rw [← zc_add a.len b.len, ← zc_add b.len c.len, ← zc_add l1 c.len, ← zc_add a.len l2]
  congr 1
  have k1 : (addS a.v b.v).length = c.v.length := by rw [l1, c.len]
  have k2 : a.v.length = (addS b.v c.v).length := by rw [l2, a.len]
  have k3 : a.v.length = b.v.length := by rw [a.len, b.len]
  have k4 : b.v.length = c.v.length := by rw [b.len, c.len]
  refine ext_of (by rw [addS_len k1, addS_len k2, l1, a.len]) fun m hm => ?_
  rw [coef_addS k1, coef_addS k2, coef_addS k3, coef_addS k4]
  omega
theorem zn_mul_comm (a b : Zn n) : a * b = b * a := by
  show zc n _ = zc n _
  rw [mulS_comm a.len b.len]
theorem zn_mul_assoc (a b c : Zn n) : a * b * c = a * (b * c) := by
  rw [← zc_self a, ← zc_self b, ← zc_self c]
  have l1 : (mulS a.v b.v).length = n := by rw [mulS_len, a.len]
  have l2 : (mulS b.v c.v).length = n := by rw [mulS_len, b.len]
  rw [← zc_mul a.len b.len, ← zc_mul b.len c.len, ← zc_mul l1 c.len, ← zc_mul a.len l2]
  congr 1
  rw [mulS_comm a.len b.len, mulS_right (by rw [b.len, a.len]) (by rw [c.len, b.len]), mulS_comm (by rw [mulS_len, b.len]) a.len]
theorem zn_distrib (a b c : Zn n) : a * (b + c) = a * b + a * c := by
  rw [← zc_self a, ← zc_self b, ← zc_self c]
  have l1 : (addS b.v c.v).length = n := by rw [addS_len (by rw [b.len, c.len]), b.len]
  have l2 : (mulS a.v b.v).length = n := by rw [mulS_len, a.len]
  have l3 : (mulS a.v c.v).length = n := by rw [mulS_len, a.len]
  rw [← zc_add b.len c.len, ← zc_mul a.len l1, ← zc_mul a.len b.len, ← zc_mul a.len c.len, ← zc_add l2 l3]
  congr 1
  refine ext_of (by rw [addS_len (by rw [l2, l3]), mulS_len, mulS_len]) fun m hm => ?_
  rw [mulS_len, a.len] at hm
  rw [coef_addS (by rw [l2, l3]), mulS_at a.len hm, mulS_at a.len hm, mulS_at a.len hm, ← S_add]
  refine S_congr n fun k hk => ?_
  rw [coef_addS (by rw [b.len, c.len]), Int.mul_add]
theorem zn_one_mul (a : Zn n) : zc n (itS n 1) * a = a := by
  rw [← zc_self a, zc_it_mul a.len]
  congr 1
  refine ext_of (by rw [mkL_len, a.len]) fun m hm => ?_
  rw [mkL_len] at hm
  rw [coef_mkL, if_pos hm, Int.one_mul]
theorem zn_zero_mul (a : Zn n) : zc n (itS n 0) * a = zc n (itS n 0) := by
  rw [← zc_self a, zc_it_mul a.len]
  congr 1
  refine ext_of (by rw [mkL_len, itS_len O.h1]) fun m hm => ?_
  rw [mkL_len] at hm
  rw [coef_mkL, if_pos hm, Int.zero_mul, coef_itS]
  split <;> rfl
theorem zn_neg_add (a : Zn n) : -a + a = zc n (itS n 0) := by
  rw [← zc_self a, ← zc_neg a.len, ← zc_add (by rw [negS_len, a.len]) a.len]
  congr 1
  refine ext_of (by rw [addS_len (by rw [negS_len, a.len]), negS_len, itS_len O.h1, a.len]) fun m hm => ?_
  rw [coef_addS (by rw [negS_len, a.len]), coef_negS, coef_itS]
  split <;> omega
theorem zc_it_neg (i : Int) : zc n (itS n (-i)) = - zc n (itS n i) := by
  rw [← zc_neg (itS_len O.h1 i)]
  congr 1
  refine ext_of (by rw [negS_len, itS_len O.h1, itS_len O.h1]) fun m hm => ?_
  rw [coef_negS, coef_itS, coef_itS]
  split <;> omega
instance : Lean.Grind.CommRing (Zn n) where
  add_zero := zn_add_zero
  add_comm := zn_add_comm
  add_assoc := zn_add_assoc
  mul_assoc := zn_mul_assoc
  mul_one a := by
    rw [zn_mul_comm]
    exact zn_one_mul a
  one_mul := zn_one_mul
  mul_comm := zn_mul_comm
  left_distrib := zn_distrib
  right_distrib a b c := by
    rw [zn_mul_comm, zn_distrib, zn_mul_comm c, zn_mul_comm c]
  zero_mul := zn_zero_mul
  mul_zero a := by
    rw [zn_mul_comm]
    exact zn_zero_mul a
  pow_zero _ := rfl
  pow_succ _ _ := rfl
  neg_add_cancel := zn_neg_add
  sub_eq_add_neg _ _ := rfl
  neg_zsmul i a := by
    show zc n (itS n (-i)) * a = - (zc n (itS n i) * a)
    rw [zc_it_neg]
    have h : ∀ x y : Zn n, -x * y + x * y = zc n (itS n 0) := fun x y => by
      rw [zn_mul_comm (-x), zn_mul_comm x, ← zn_distrib, zn_neg_add, zn_mul_comm, zn_zero_mul]
    have e := h (zc n (itS n i)) a
    have e2 := zn_neg_add (zc n (itS n i) * a)
    generalize -zc n (itS n i) * a = u at *
    generalize zc n (itS n i) * a = w at *
    rw [← zn_add_zero u, ← zn_add_zero (-w), ← zn_neg_add w, ← zn_add_assoc, zn_add_comm u, zn_add_assoc, e, zn_add_zero, zn_add_comm (-w) w, ← zn_add_assoc, zn_neg_add, zn_add_comm, zn_add_zero]
  ofNat_succ k := zc_it_add (k : Int) 1
  intCast_neg := zc_it_neg
example (a b c : Zn n) (h : a = b + c) : a * a = b * b + 2 * b * c + c * c := by grind
/-- no number but nought comes to nought by a whole number but 0 -/
theorem zn_tor {c : Int} (hc : c ≠ 0) {a b : Zn n} (h : (c : Zn n) * a = (c : Zn n) * b) : a = b := by
  have key : ∀ a : Zn n, ((c : Zn n) * a).v = mkL n fun m => c * coef a.v m := fun a => by
    have e : (c : Zn n) * a = zc n (mkL n fun m => c * coef a.v m) := by
      rw [← zc_it_mul a.len, zc_self]
      rfl
    rw [e, zc_v (mkL_len _ _)]
    refine ext_of (by rw [gr_len (mkL_len _ _), mkL_len]) fun m hm => ?_
    rw [gr_len (mkL_len _ _)] at hm
    rw [zc_lin (f := itS n 0) (c := c) (itS_len O.h1 0) a.len (mkL_len _ _) (fun m hm => by rw [coef_mkL, if_pos hm, coef_itS]; split <;> omega) hm, a.fix, coef_mkL, if_pos hm]
    have z : coef (grF n (itS n 0)) m = 0 := by
      have := zc_lin (f := itS n 0) (c := 1) (h := itS n 0) (itS_len O.h1 0) (itS_len O.h1 0) (itS_len O.h1 0) (fun m hm => by rw [coef_itS]; split <;> omega) hm
      omega
    rw [z, Int.zero_add]
  have e := congrArg Zn.v h
  rw [key, key] at e
  refine Zn.ext' (ext_of (by rw [a.len, b.len]) fun m hm => ?_)
  rw [a.len] at hm
  have := congrArg (fun l => coef l m) e
  simp only [coef_mkL, if_pos hm] at this
  exact Int.eq_of_mul_eq_mul_left hc this
end
end Kp

namespace Own
open PySem PySem.Spec PyProof.Rows L2 Evl Kp
def topS (i : Nat) : Stmt := PySem.Challenge.pw_rootwheel_k40_whole_norms_of_root_polyno.main.body.getD i (.Pass ⟨0, 0, 0, 0⟩)
/-! ### words of ours for the walk over readings -/
local macro_rules | `(tactic| one_place) => `(tactic| (fail_if_success (with_reducible first | refine probe ?_ | refine probeT ?_ | refine probeA ?_)); first
  | exact ev_c
  | exact ev_var rfl
  | exact ea_nil
  | (apply ea_cons <;> one_place)
  | (apply et_test; one_place)
  | (apply et_B; one_place)
  | (apply et_not; one_place)
  | (apply ev_add <;> one_place)
  | (apply ev_sub <;> one_place)
  | (apply ev_mul <;> first | one_place | (exact mulW (by omega) (by omega)))
  | (apply ev_div <;> first | one_place | (exact divW (by omega) (by omega)))
  | (apply ev_mod <;> first | one_place | omega)
  | (refine ev_pow (i := 10) (j := 6) (c := 1000000) ?_ ?_ ⟨by decide, by decide +kernel⟩ (by rfl) <;> one_place)
  | (refine ev_pow (i := 10) (j := 9) (c := 1000000000) ?_ ?_ ⟨by decide, by decide +kernel⟩ (by rfl) <;> one_place)
  | (refine ev_pow (i := 10) (j := 12) (c := 1000000000000) ?_ ?_ ⟨by decide, by decide +kernel⟩ (by rfl) <;> one_place)
  | (refine ev_pow (i := 10) (j := 18) (c := 1000000000000000000) ?_ ?_ ⟨by decide, by decide +kernel⟩ (by rfl) <;> one_place)
  | (apply ev_lt <;> one_place)
  | (apply ev_le <;> one_place)
  | (apply ev_gt <;> one_place)
  | (apply ev_ge <;> one_place)
  | (apply ev_eqI <;> one_place)
  | (apply ev_neI <;> one_place)
  | (apply ev_neg; one_place)
  | assumption)
/-! ### numbers of bounded size -/
def Bd (b : Nat) (l : List Int) : Prop := ∀ m, (coef l m).natAbs < 2 ^ b
theorem mulB {i j : Int} {a b : Nat} (hi : i.natAbs < 2 ^ a) (hj : j.natAbs < 2 ^ b) (h : a + b ≤ 900000) : CMulW i j :=
  wide_mul (a := a + 1) (b := b + 1) (Nat.lt_of_lt_of_le hi (Nat.pow_le_pow_right (by decide) (Nat.le_succ a))) (Nat.lt_of_lt_of_le hj (Nat.pow_le_pow_right (by decide) (Nat.le_succ b))) (Nat.succ_pos _) (Nat.succ_pos _) (by omega)
theorem Bd.at {b : Nat} {l : List Int} {i : Nat} {x : Int} (h : Bd b l) (hi : l[i]? = some x) : x.natAbs < 2 ^ b := by
  have := h i
  rwa [coef_of hi] at this
theorem Bd.of {b : Nat} {l : List Int} (h : ∀ x ∈ l, x.natAbs < 2 ^ b) : Bd b l := fun m => by
  by_cases q : m < l.length
  · rw [coef_lt q]
    exact h _ (List.getElem_mem q)
  · rw [coef_ge (by omega)]
    exact Nat.two_pow_pos b

/- trimmed: slots 0 numbers, 1 many; calls  -/
abbrev s_trimmed : Stmt := topS 20
theorem sc_trimmed : FnScope ["numbers", "many"] ["numbers"] (defScope s_trimmed) := ⟨rfl, rfl, rfl, by decide +kernel, rfl, by decide +kernel, by decide +kernel⟩

def spTrim (K : PySem.W.Frag) : Sp := fun vs H Q _ => ∃ (a : Addr) (ns : List Int), vs = [.ref a] ∧ SqL K H a (ns.map V.int) ∧ ns.length ≤ 50000 ∧ RetL ((trim ns).map V.int) H Q
section
variable {P : Program} {w : World} {K : PySem.W.Frag} {mg : Str → Option Value} {base : Heap}
theorem cal_trimmed (nb : Nb mg) (d : Dfn K mg "trimmed" ["numbers"] s_trimmed) : Cal P w K mg base CX0 "trimmed" 1 ["numbers"] (spTrim K) := by
  refine d.cal sc_trimmed (fun vs H Q E h => ?_) (fun f cdv A outer s H vs Q E hr h => ?_)
  · obtain ⟨a, ns, rfl, _⟩ := h
    rfl
  · obtain ⟨a, ns, rfl, hS, hz, q⟩ := h
    refine ⟨_, (pss_cons (ps_set (i := 1) sc_trimmed.nd rfl (.inl rfl) (pe_callB call_len_seq (by rfl) nb.len PySem.boot_len (pa_cons (pv 0) pa_nil)))
      (pss_cons (ps_while PassesOwn.never (PW.pt (pw_and (pt_cmpR op_gt (pv 1) pe_int (nomark _)) (pw_and1 (pt_cmpR op_eq (pe_ix ix_list (pv 0) (pe_op op_sub (pv 1) pe_int) (fun _ _ => rfl)) pe_int (nomark _))))) (pss_one (ps_aug (i := 1) sc_trimmed.nd rfl (.inl rfl) pe_int ip_sub)))
      (pss_one (ps_ret (pe_slice sl_list (pv 0) po_none (po_some (pv 1))))))), ?_⟩
    refine q_asg (v := .int ((ns.length : Nat) : Int)) (ev_is (ev_len (ev_var rfl) hS) (by rw [List.length_map])) fun H1 e1 => ?_
    refine q_while (fun m σ' H' => ∃ x : Int, σ' = [some (.ref a), some (.int x)] ∧ x = (m : Int) ∧ m ≤ ns.length ∧ tlen ns m = tlen ns ns.length ∧ Ex H H') ns.length ⟨_, rfl, rfl, Nat.le_refl _, rfl, e1⟩ fun m σ' H' hW => ?_
    obtain ⟨x, rfl, rfl, hm, ht, e2⟩ := hW
    refine ⟨decide ((0 : Int) < (m : Int)) && decide (coef ns (m - 1) = 0), et_and (by one_place) fun hb => et_test (ev_eqI (ev_ixI (j := m - 1) (ex_l e2 hS) (ev_var rfl) (ev_is (by one_place) ?_) (coef_get ?_)) ev_c), fun hb H3 e3 => ?_, fun hb H3 e3 => ?_⟩
    · have := of_decide_eq_true hb
      congr 1
      omega
    · have := of_decide_eq_true hb
      omega
    · rw [Bool.and_eq_true, decide_eq_true_iff, decide_eq_true_iff] at hb
      obtain ⟨m', rfl⟩ : ∃ m', m = m' + 1 := ⟨m - 1, by omega⟩
      refine ⟨_, fun σ2 H2 hN => ⟨m', Nat.lt_succ_self _, hN⟩, ?_⟩
      refine s_aug (a := ((m' + 1 : Nat) : Int)) (b := 1) rfl (by one_place) fun H4 e4 => ⟨_, rfl, by omega, by omega, ?_, (e2.trans e3).trans e4⟩
      rw [← ht]
      show _ = (if coef ns m' = 0 then tlen ns m' else m' + 1)
      rw [Nat.add_sub_cancel] at hb
      rw [if_pos hb.2]
    · have hst : tlen ns ns.length = m := by
        rw [← ht]
        cases m with
        | zero => rfl
        | succ m' =>
          rw [Bool.and_eq_false_iff, decide_eq_false_iff_not, decide_eq_false_iff_not] at hb
          rcases hb with hb | hb
          · omega
          · show (if coef ns m' = 0 then tlen ns m' else m' + 1) = m' + 1
            rw [Nat.add_sub_cancel] at hb
            rw [if_neg hb]
      refine s_retL (xs := (trim ns).map V.int) (el_is (el_sl (by one_place) eo_none (eo_some (by one_place)) (ex_l (e2.trans e3) hS)) ?_) fun p H4 np e4 hp => q.go (e2.trans e3) np e4 hp
      rw [cut_take, ← List.map_take]
      unfold trim
      rw [hst]
end

/-! ### one polynomial parted by another -/
def Good (g : List Int) : Prop := g ≠ [] ∧ coef g (g.length - 1) = 1
/-- q and r are what is told of f by g -/
structure Ovr (b : Nat) (f g q r : List Int) : Prop where
  tq : Tr q
  tr : Tr r
  lr : r.length < g.length
  lq : q.length ≤ f.length
  bq : Bd b q
  br : Bd b r
  is : ∀ m, coef f m = coef r m + cv q g q.length m
theorem Bd.mono {a b : Nat} {l : List Int} (h : Bd a l) (e : a ≤ b) : Bd b l := fun m => Nat.lt_of_lt_of_le (h m) (Nat.pow_le_pow_right (by decide) e)
/-- behind k turns of T: R is left, h the heads -/
structure OvT (n b T k : Nat) (f g R h : List Int) : Prop where
  lR : R.length = f.length - k
  lh : h.length = k
  kT : k ≤ T
  bR : Bd (n + k * (b + 1)) R
  bh : Bd (n + T * (b + 1)) h
  k0 : k = 0 → R = f
  k1 : 0 < k → coef h 0 = coef f (f.length - 1)
  is : ∀ m, coef f m = coef R m + cv (List.replicate (T - k) 0 ++ h.reverse) g T m
theorem coef_rev {h : List Int} {j : Nat} (hj : j < h.length) : coef h.reverse j = coef h (h.length - 1 - j) := by
  rw [coef_lt (by rw [List.length_reverse]; exact hj), List.getElem_reverse, coef_lt (by omega)]
theorem ovT_zero {n b T : Nat} {f g : List Int} (bf : Bd n f) : OvT n b T 0 f g f [] where
  lR := rfl
  lh := rfl
  kT := Nat.zero_le _
  bR := bf.mono (by omega)
  bh := fun m => by
    rw [coef_nil]
    exact Nat.two_pow_pos _
  k0 := fun _ => rfl
  k1 := fun h => absurd h (Nat.lt_irrefl _)
  is := fun m => by
    rw [cv_none T fun j _ => ?_]
    · omega
    · rw [List.reverse_nil, List.append_nil, coef_rep]
theorem natAbs_sub_lt {x y z : Int} {a b : Nat} (hx : x.natAbs < 2 ^ a) (hy : y.natAbs < 2 ^ a) (hz : z.natAbs < 2 ^ b) : (x - y * z).natAbs < 2 ^ (a + (b + 1)) := by
  have h1 : (x - y * z).natAbs ≤ x.natAbs + y.natAbs * z.natAbs := by
    have := Int.natAbs_sub_le x (y * z)
    rw [Int.natAbs_mul] at this
    exact this
  have h2 : y.natAbs * z.natAbs ≤ 2 ^ a * 2 ^ b := Nat.mul_le_mul (by omega) (by omega)
  have h3 : 2 ^ a * 2 ^ b = 2 ^ (a + b) := (Nat.pow_add 2 a b).symm
  have h4 : 2 ^ (a + (b + 1)) = 2 ^ (a + b) * 2 := by rw [← Nat.add_assoc, Nat.pow_succ]
  have h5 : 2 ^ a ≤ 2 ^ (a + b) := Nat.pow_le_pow_right (by decide) (by omega)
  omega
/-- one turn -/
theorem ovT_step {n b k : Nat} {f g R h R2 : List Int} {x : Int} (bg : Bd b g) (g1 : coef g (g.length - 1) = 1) (g0 : g ≠ []) (hg : g.length ≤ R.length) (o : OvT n b (f.length + 1 - g.length) k f g R h) (hx : coef R (R.length - 1) = x) (l2 : R2.length = R.length - 1)
    (h2 : ∀ m, m < R.length - 1 → coef R2 m = coef R m - if R.length - g.length ≤ m then x * coef g (m - (R.length - g.length)) else 0) : OvT n b (f.length + 1 - g.length) (k + 1) f g R2 (h ++ [x]) := by
  have lg := List.length_pos_iff.mpr g0
  have hR := o.lR
  have hk := o.kT
  have hl := o.lh
  have bx : x.natAbs < 2 ^ (n + k * (b + 1)) := by rw [← hx]; exact o.bR _
  have hs : R.length - g.length = f.length + 1 - g.length - (k + 1) := by omega
  refine ⟨by omega, by rw [List.length_append, List.length_singleton, hl], by omega, fun m => ?_, fun m => ?_, fun q => absurd q (Nat.succ_ne_zero _), fun _ => ?_, fun m => ?_⟩
  · by_cases q : m < R.length - 1
    · rw [h2 m q, Nat.add_mul, Nat.one_mul, ← Nat.add_assoc]
      split
      · exact natAbs_sub_lt (o.bR m) bx (bg _)
      · rw [Int.sub_zero]
        exact Nat.lt_of_lt_of_le (o.bR m) (Nat.pow_le_pow_right (by decide) (by omega))
    · rw [coef_ge (by omega)]
      exact Nat.two_pow_pos _
  · rw [coef_app]
    split
    · exact o.bh m
    · by_cases q : m - h.length = 0
      · rw [q]
        show x.natAbs < _
        refine Nat.lt_of_lt_of_le bx (Nat.pow_le_pow_right (by decide) ?_)
        have : k * (b + 1) ≤ (f.length + 1 - g.length) * (b + 1) := Nat.mul_le_mul_right _ hk
        omega
      · rw [coef_ge (by rw [List.length_singleton]; omega)]
        exact Nat.two_pow_pos _
  · rw [coef_app]
    by_cases q : 0 < k
    · rw [if_pos (by omega)]
      exact o.k1 q
    · rw [if_neg (by omega), hl, show 0 - k = 0 by omega]
      have e := o.k0 (by omega)
      rw [e] at hx
      show x = _
      exact hx.symm
  · -- the new head stands at its place
    have hc := cv_set (a := List.replicate (f.length + 1 - g.length - k) 0 ++ h.reverse) (b := List.replicate (f.length + 1 - g.length - (k + 1)) 0 ++ (h ++ [x]).reverse) (g := g) (m := m) (s := f.length + 1 - g.length - (k + 1)) (x := x)
      (by rw [coef_app, List.length_replicate, if_pos (by omega), coef_rep]) (by rw [coef_app, List.length_replicate, if_neg (Nat.lt_irrefl _), Nat.sub_self, List.reverse_append]; rfl)
      (fun j hj => by
        rw [coef_app, coef_app, List.length_replicate, List.length_replicate, coef_rep, coef_rep]
        by_cases q : j < f.length + 1 - g.length - (k + 1)
        · rw [if_pos q, if_pos (by omega)]
        · rw [if_neg q, if_neg (by omega), List.reverse_append]
          show coef ([x] ++ h.reverse) _ = _
          rw [coef_app, if_neg (by rw [List.length_singleton]; omega), List.length_singleton]
          congr 1
          omega)
      (f.length + 1 - g.length) (by omega)
    rw [hc, o.is m, ← hs]
    by_cases q : m < R.length - 1
    · rw [h2 m q]
      omega
    · rw [coef_ge (show R2.length ≤ m by omega), if_pos (by omega)]
      by_cases e : m = R.length - 1
      · subst e
        rw [hx, show R.length - 1 - (R.length - g.length) = g.length - 1 by omega, g1]
        omega
      · rw [coef_ge (show R.length ≤ m by omega), coef_ge (show g.length ≤ m - (R.length - g.length) by omega)]
        omega
/-- the end -/
theorem ovT_end {n b k : Nat} {f g R h : List Int} (tf : Tr f) (g0 : g ≠ []) (hg : R.length < g.length) (o : OvT n b (f.length + 1 - g.length) k f g R h) : Ovr (n + (f.length + 1 - g.length) * (b + 1)) f g h.reverse (trim R) := by
  have hR := o.lR
  have hk := o.kT
  have hl := o.lh
  have lg := List.length_pos_iff.mpr g0
  have kT : k = f.length + 1 - g.length := by omega
  refine ⟨fun hn => ?_, tr_trim R, ?_, by rw [List.length_reverse]; omega, fun m => ?_, fun m => ?_, fun m => ?_⟩
  · have hp : 0 < h.length := by
      have := List.length_pos_iff.mpr hn
      rw [List.length_reverse] at this
      exact this
    rw [List.length_reverse, coef_rev (by omega), show h.length - 1 - (h.length - 1) = 0 by omega, o.k1 (by omega)]
    exact tf fun e => by
      rw [e, List.length_nil] at kT
      omega
  · rw [trim_len]
    have := tlen_le R R.length
    omega
  · by_cases q : m < h.length
    · rw [coef_rev q]
      exact o.bh _
    · rw [coef_ge (by rw [List.length_reverse]; omega)]
      exact Nat.two_pow_pos _
  · rw [coef_trim]
    have := o.bR m
    rw [kT] at this
    exact this
  · have e := o.is m
    rw [coef_trim, List.length_reverse, hl, kT]
    rw [kT, Nat.sub_self] at e
    exact e

def RetU2 (q r : List Int) (H : Hp) (Q : VK) : Prop := ∀ t a b H1, H t = none → H a = none → H b = none → a ≠ b → Ex H H1 → H1 t = some (.tup [.ref a, .ref b]) → H1 a = some (.lst (q.map V.int)) → H1 b = some (.lst (r.map V.int)) → Q (.ref t) H1
/- over: slots 0 f, 1 g, 2 low, 3 rest, 4 heads, 5 head, 6 start, 7 at, 8 number; calls trimmed -/
abbrev s_over : Stmt := topS 22
theorem sc_over : FnScope ["f", "g", "low", "rest", "heads", "head", "start", "at", "number"] ["f", "g"] (defScope s_over) := ⟨rfl, rfl, rfl, by decide +kernel, rfl, by decide +kernel, by decide +kernel⟩

def spOver (K : PySem.W.Frag) (C : Addr) : Sp := fun vs H Q E => ∃ (a b : Addr) (f g : List Int), vs = [.ref a, .ref b] ∧ SqL K H a (f.map V.int) ∧ SqL K H b (g.map V.int) ∧ f.length ≤ 450 ∧ g.length ≤ 450 ∧ Tr f ∧ Bd 1000 f ∧ Bd 1000 g ∧
  (Good g → ∀ q r, Ovr 460000 f g q r → RetU2 q r H Q) ∧ (¬ Good g → ∀ H1, Ex H H1 → E (.ref C) none H1)
section
variable {P : Program} {w : World} {K : PySem.W.Frag} {mg : Str → Option Value} {base : Heap} {C : Addr}
theorem cal_over (nb : Nb mg) (x_NoPart : OwnX K mg "NoPart" C) (c_trimmed : Cal P w K mg base CX0 "trimmed" 1 ["numbers"] (spTrim K)) (d : Dfn K mg "over" ["f", "g"] s_over) : Cal P w K mg base (L2.CX P w) "over" 2 ["f", "g"] (spOver K C) := by
  refine d.calX sc_over (fun vs H Q E h => ?_) (fun fa cdv A outer s H vs Q E hr h => ?_)
  · obtain ⟨a, b, f, g, rfl, _⟩ := h
    rfl
  · obtain ⟨a, b, f, g, rfl, hF, hG, zf, zg, tf, bf, bg, kG, kB⟩ := h
    refine ⟨_, (pss_cons (ps_if (PW.pt (pw_or (pt_cmpR op_eq (pe_callB call_len_seq (by rfl) nb.len PySem.boot_len (pa_cons (pv 1) pa_nil)) pe_int (nomark _)) (pw_or1 (pt_cmpR op_ne (pe_ix ix_list (pv 1) (pe_un un_neg pe_int) (fun _ _ => rfl)) pe_int (nomark _))))) (pss_one (ps_raise rfl (takes_of rfl rfl rfl rfl) (pmk_of x_NoPart rfl))) pss_nil)
      (pss_cons (ps_set (i := 2) sc_over.nd rfl (.inl rfl) (pe_slice sl_list (pv 1) po_none (po_some (pe_un un_neg pe_int))))
      (pss_cons (ps_set (i := 3) sc_over.nd rfl (.inl rfl) (pe_callTy call_list_of (by rfl) nb.list (by decide +kernel) (pa_cons (pv 0) pa_nil)))
      (pss_cons (ps_set (i := 4) sc_over.nd rfl (.inl rfl) (pe_lst pa_nil))
      (pss_cons (ps_while (passes_of rfl) (pt_cmpR op_ge (pe_callB call_len_seq (by rfl) nb.len PySem.boot_len (pa_cons (pv 3) pa_nil)) (pe_callB call_len_seq (by rfl) nb.len PySem.boot_len (pa_cons (pv 1) pa_nil)) (nomark _)) (pss_cons (ps_set (i := 5) sc_over.nd rfl (.inl rfl) (pe_bm0 PySem.F.plainAttrs_list PySem.F.slot_list_pop PySem.F.type_list_pop mt_pop (pv 3)))
      (pss_cons (ps_expr (pe_bm PySem.F.plainAttrs_list PySem.F.slot_list_append PySem.F.type_list_append mt_append (pv 4) (pa_cons (pv 5) pa_nil)))
      (pss_cons (ps_set (i := 6) sc_over.nd rfl (.inl rfl) (pe_op op_sub (pe_callB call_len_seq (by rfl) nb.len PySem.boot_len (pa_cons (pv 3) pa_nil)) (pe_callB call_len_seq (by rfl) nb.len PySem.boot_len (pa_cons (pv 2) pa_nil))))
      (pss_one (ps_for (passes_of rfl) rfl (pi_enum (by rfl) nb.enumerate (pa_cons (pv 2) pa_nil)) (pg_tup (by rfl) (pgs_cons (pg_name (i := 7) sc_over.nd rfl (.inl rfl)) (pgs_cons (pg_name (i := 8) sc_over.nd rfl (.inl rfl)) pgs_nil))) (pss_one (ps_augS (pv 3) (pe_op op_add (pv 6) (pv 7)) get_list (pe_op op_mulW (pv 5) (pv 8)) ip_sub set_list))))))))
      (pss_cons (ps_expr (pe_bm0 PySem.F.plainAttrs_list PySem.F.slot_list_reverse PySem.F.type_list_reverse mt_reverse (pv 4)))
      (pss_one (ps_ret (pe_tup (pa_cons (pv 4) (pa_cons (pe_cal c_trimmed (hr.mono (by first | decide | omega)) (by rfl) pass0 (pa_cons (pv 3) pa_nil)) pa_nil))))))))))), ?_⟩
    refine q_when (b := decide (((g.length : Nat) : Int) = 0) || !decide (coef g (g.length - 1) = 1)) (et_or (et_test (ev_eqI (ev_is (ev_len (ev_var rfl) hG) (by rw [List.length_map])) ev_c)) fun hb => et_test (ev_neI (ev_op (ev_var rfl) (ev_neg ev_c) (rv_ixL hG (atI_last ?_))) ev_c)) (fun hb H1 e1 => ?_) (fun hb H1 e1 => ?_)
    · have hb := of_decide_eq_false hb
      rw [List.length_map, List.getElem?_map, coef_get (by omega)]
      rfl
    · refine kB (fun hg => ?_) H1 e1
      have lg := List.length_pos_iff.mpr hg.1
      rw [Bool.or_eq_true] at hb
      rcases hb with hb | hb
      · have := of_decide_eq_true hb
        omega
      · rw [decide_eq_true hg.2] at hb
        exact nomatch hb
    · rw [Bool.or_eq_false_iff] at hb
      obtain ⟨hb1, hb2⟩ := hb
      have hb1 := of_decide_eq_false hb1
      have g0 : g ≠ [] := fun e => by
        rw [e] at hb1
        exact hb1 rfl
      have g1 : coef g (g.length - 1) = 1 := by
        rw [Bool.not_eq_false'] at hb2
        exact of_decide_eq_true hb2
      have lg := List.length_pos_iff.mpr g0
      have kG := kG ⟨g0, g1⟩
      clear kB hb1 hb2
      refine q_asgL (xs := (g.take (g.length - 1)).map V.int) (el_is (el_sl (ev_var rfl) eo_none (eo_some (ev_neg ev_c)) (ex_l e1 hG)) ?_) fun pl H2 nl e2 h2 => ?_
      · show cutV _ none (some (-1)) = _
        rw [cut_init, List.length_map, List.map_take]
      refine q_asgL (xs := f.map V.int) (el_list (ev_var rfl) (ex_l (e1.trans e2) hF)) fun pr H3 nr e3 h3 => ?_
      refine q_asgL (xs := ([] : List Int).map V.int) (el_lst ea_nil (by decide)) fun ph H4 nh e4 h4 => ?_
      have a2 := e1.trans e2
      have a3 := a2.trans e3
      have fr : H pr = none := fresh_back a2 nr
      have fh : H ph = none := fresh_back a3 nh
      have fr2 : H2 pr = none := nr
      have fh2 : H2 ph = none := fresh_back e3 nh
      have nrh : pr ≠ ph := ne_of_none h3 nh
      -- the loop: what stands of H2 stands; rest and heads are new
      refine q_while (fun m σ' H' => ∃ (k : Nat) (R h : List Int) (x5 x6 x7 x8 : Option V), σ' = [some (.ref a), some (.ref b), some (.ref pl), some (.ref pr), some (.ref ph), x5, x6, x7, x8] ∧ Ex H2 H' ∧ H' pr = some (.lst (R.map V.int)) ∧ H' ph = some (.lst (h.map V.int)) ∧ OvT 1000 1000 (f.length + 1 - g.length) k f g R h ∧ m = R.length)
        f.length ⟨0, f, [], none, none, none, none, rfl, e3.trans e4, e4 _ _ h3, h4, ovT_zero bf, rfl⟩ fun m σ' H' hW => ?_
      obtain ⟨k, R, h, x5, x6, x7, x8, rfl, e5, hr5, hh5, o, rfl⟩ := hW
      refine ⟨decide (((g.length : Nat) : Int) ≤ ((R.length : Nat) : Int)), et_test (ev_ge (ev_is (ev_len (ev_var rfl) (SqL.of hr5)) (by rw [List.length_map])) (ev_is (ev_len (ev_var rfl) (ex_l (a2.trans e5) hG)) (by rw [List.length_map]))), fun hb H6 e6 => ?_, fun hb H6 e6 => ?_⟩
      · have hgR : g.length ≤ R.length := by
          have := of_decide_eq_true hb
          omega
        have lRf : R.length ≤ f.length := by
          have := o.lR
          omega
        have lh := o.lh
        have kT := o.kT
        refine ⟨_, fun σ2 H2' hN => ⟨R.length - 1, by omega, hN⟩, ?_⟩
        obtain ⟨x, hx⟩ : ∃ x, coef R (R.length - 1) = x := ⟨_, rfl⟩
        have hR : R = R.take (R.length - 1) ++ [x] := by
          refine ext_of (by rw [List.length_append, List.length_take, List.length_singleton]; omega) fun m hm => ?_
          rw [coef_app, List.length_take, coef_take]
          by_cases q : m < R.length - 1
          · rw [if_pos (by omega), if_pos q]
          · rw [if_neg (by omega), show m = R.length - 1 by omega, hx, show R.length - 1 - min (R.length - 1) R.length = 0 by omega]
            rfl
        have hp : H6 pr = some (.lst ((R.take (R.length - 1)).map V.int ++ [V.int x])) := by
          rw [e6 _ _ hr5, ← List.map_singleton, ← List.map_append, ← hR]
        refine q_asgPop hp (ev_var rfl) fun H7 e7 => ?_
        have e57 : Ex H2 (upd H7 pr (.lst ((R.take (R.length - 1)).map V.int))) := Ex.mut ((e5.trans e6).trans e7) fr2
        have h7 : upd H7 pr (.lst ((R.take (R.length - 1)).map V.int)) ph = some (.lst (h.map V.int)) := by
          rw [upd_ne nrh.symm]
          exact e7 _ _ (e6 _ _ hh5)
        have r7 : upd H7 pr (.lst ((R.take (R.length - 1)).map V.int)) pr = some (.lst ((R.take (R.length - 1)).map V.int)) := upd_same
        generalize upd H7 pr (.lst ((R.take (R.length - 1)).map V.int)) = G7 at *
        refine q_app h7 (ev_var rfl) (ev_var rfl) (by rw [List.length_map]; omega) fun H8 e8 => ?_
        have e58 : Ex H2 (upd H8 ph (.lst (h.map V.int ++ [V.int x]))) := Ex.mut (e57.trans e8) fh2
        have r8 : upd H8 ph (.lst (h.map V.int ++ [V.int x])) pr = some (.lst ((R.take (R.length - 1)).map V.int)) := by
          rw [upd_ne nrh]
          exact e8 _ _ r7
        have h8 : upd H8 ph (.lst (h.map V.int ++ [V.int x])) ph = some (.lst ((h ++ [x]).map V.int)) := by
          rw [upd_same, List.map_append]
          rfl
        generalize upd H8 ph (.lst (h.map V.int ++ [V.int x])) = G8 at *
        clear h7 r7 e57
        refine q_asg (v := .int ((R.length - g.length : Nat) : Int)) (ev_is (ev_sub (ev_len (ev_var rfl) (SqL.of r8)) (ev_len (ev_var rfl) (SqL.of (e58 _ _ h2)))) ?_) fun H9 e9 => ?_
        · rw [List.length_map, List.length_map, List.length_take, List.length_take]
          congr 1
          omega
        refine s_forE (xs := (g.take (g.length - 1)).map V.int) (by one_place) (SqL.of ((e58.trans e9) _ _ h2)) (fun i σ' H' => ∃ (R2 : List Int) (y7 y8 : Option V), σ' = [some (.ref a), some (.ref b), some (.ref pl), some (.ref pr), some (.ref ph), some (.int x), some (.int ((R.length - g.length : Nat) : Int)), y7, y8] ∧ Ex H2 H' ∧ H' pr = some (.lst (R2.map V.int)) ∧ H' ph = some (.lst ((h ++ [x]).map V.int)) ∧ R2.length = R.length - 1 ∧ ∀ m, m < R.length - 1 → coef R2 m = coef R m - if R.length - g.length ≤ m ∧ m < R.length - g.length + i then x * coef g (m - (R.length - g.length)) else 0)
          (fun H10 e10 => ⟨R.take (R.length - 1), _, _, rfl, (e58.trans e9).trans e10, (e9.trans e10) _ _ r8, (e9.trans e10) _ _ h8, by rw [List.length_take]; omega, fun m hm => ?_⟩) (fun i σ' H' _ hp => ?_) (fun i z σ' H' hz hp H10 e10 => ?_) (fun σ' H' hp => ?_)
        · rw [coef_take, if_pos hm, if_neg (by omega), Int.sub_zero]
        · obtain ⟨_, _, _, _, e10, _⟩ := hp
          exact SqL.of (e10 _ _ h2)
        · obtain ⟨R2, y7, y8, rfl, e11, r11, h11, l11, c11⟩ := hp
          obtain ⟨z, hy, rfl⟩ := map_get hz
          have hi := (List.getElem?_eq_some_iff.mp hy).1
          rw [List.length_take] at hi
          have hzg : coef g i = z := by
            rw [← coef_of hy, coef_take, if_pos (by omega)]
          have bx : x.natAbs < 2 ^ (1000 + k * (1000 + 1)) := by rw [← hx]; exact o.bR _
          have kb : k * (1000 + 1) ≤ 451 * (1000 + 1) := Nat.mul_le_mul_right _ (by omega)
          refine s_augL (j := R.length - g.length + i) (f := fun i j => i - j) (a := coef R2 (R.length - g.length + i)) (b := x * z) (e10 _ _ r11) (by one_place) (ev_is (by one_place) (by rfl)) (coef_get (by omega)) (ev_mul (ev_var rfl) (ev_var rfl) (mulB bx (by rw [← hzg]; exact bg i) (by omega))) fun H12 e12 => ?_
          refine ⟨R2.set (R.length - g.length + i) (coef R2 (R.length - g.length + i) - x * z), _, _, rfl, Ex.mut ((e11.trans e10).trans e12) fr2, upd_same, ?_, by rw [List.length_set]; exact l11, fun m hm => ?_⟩
          · rw [upd_ne nrh.symm]
            exact e12 _ _ (e10 _ _ h11)
          · rw [coef_set (by omega), c11 m hm, c11 (R.length - g.length + i) (by omega)]
            by_cases e : m = R.length - g.length + i
            · subst e
              rw [if_pos rfl, if_neg (by omega), if_pos (by omega), Nat.add_sub_cancel_left, hzg]
              omega
            · rw [if_neg e]
              split <;> split <;> first | rfl | omega
        · obtain ⟨R2, y7, y8, rfl, e11, r11, h11, l11, c11⟩ := hp
          rw [List.length_map, List.length_take] at c11
          refine ⟨k + 1, R2, h ++ [x], _, _, _, _, rfl, e11, r11, h11, ovT_step bg g1 g0 hgR o hx l11 fun m hm => ?_, l11.symm⟩
          rw [c11 m hm]
          congr 1
          by_cases q : R.length - g.length ≤ m
          · rw [if_pos q, if_pos (by omega)]
          · rw [if_neg q, if_neg (by omega)]
      · have hgR : R.length < g.length := by
          have := of_decide_eq_false hb
          omega
        have lRf : R.length ≤ f.length := by
          have := o.lR
          omega
        refine q_rev (e6 _ _ hh5) (ev_var rfl) fun H7 e7 => ?_
        have e57 : Ex H2 (upd H7 ph (.lst (h.map V.int).reverse)) := Ex.mut ((e5.trans e6).trans e7) fh2
        have r7 : upd H7 ph (.lst (h.map V.int).reverse) pr = some (.lst (R.map V.int)) := by
          rw [upd_ne nrh]
          exact e7 _ _ (e6 _ _ hr5)
        have h7 : upd H7 ph (.lst (h.map V.int).reverse) ph = some (.lst (h.reverse.map V.int)) := by
          rw [upd_same, List.map_reverse]
        generalize upd H7 ph (.lst (h.map V.int).reverse) = G7 at *
        refine s_retVL (ys := (trim R).map V.int) (ev_var rfl) (el_cal (by one_place) fun H8 e8 Q k' E => ⟨pr, R, rfl, SqL.of (e8 _ _ r7), by omega, k'⟩) fun t q H8 nt nq e8 ht hq => ?_
        have ov := ovT_end tf g0 hgR o
        have hT : (f.length + 1 - g.length) * (1000 + 1) ≤ 451 * (1000 + 1) := Nat.mul_le_mul_right _ (by omega)
        exact kG h.reverse (trim R) { ov with bq := ov.bq.mono (by omega), br := ov.br.mono (by omega) } t ph q H8 (fresh_back (a2.trans e57) nt) fh (fresh_back (a2.trans e57) nq) (ne_of_none h7 nq) ((a2.trans e57).trans e8) ht (e8 _ _ h7) hq
end

/- at_power: slots 0 f, 1 k, 2 spread, 3 at, 4 number; calls  -/
abbrev s_at_power : Stmt := topS 23
theorem sc_at_power : FnScope ["f", "k", "spread", "at", "number"] ["f", "k"] (defScope s_at_power) := ⟨rfl, rfl, rfl, by decide +kernel, rfl, by decide +kernel, by decide +kernel⟩

def spAtP (K : PySem.W.Frag) : Sp := fun vs H Q _ => ∃ (a : Addr) (f : List Int) (k : Nat), vs = [.ref a, .int (k : Nat)] ∧ SqL K H a (f.map V.int) ∧ f.length ≤ 500 ∧ 1 ≤ k ∧ k ≤ 1000 ∧ (f.length - 1) * k ≤ 50000 ∧ RetL ((atP f k).map V.int) H Q
section
variable {P : Program} {w : World} {K : PySem.W.Frag} {mg : Str → Option Value} {base : Heap}
theorem cal_atP (nb : Nb mg) (d : Dfn K mg "at_power" ["f", "k"] s_at_power) : Cal P w K mg base CX0 "at_power" 1 ["f", "k"] (spAtP K) := by
  refine d.cal sc_at_power (fun vs H Q E h => ?_) (fun fa cdv A outer s H vs Q E hr h => ?_)
  · obtain ⟨a, f, k, rfl, _⟩ := h
    rfl
  · obtain ⟨a, f, k, rfl, hF, zf, k1, k0, k2, q⟩ := h
    refine ⟨_, (pss_cons (ps_if (pt_cmpR op_eq (pe_callB call_len_seq (by rfl) nb.len PySem.boot_len (pa_cons (pv 0) pa_nil)) pe_int (nomark _)) (pss_one (ps_ret (pe_lst pa_nil))) pss_nil)
      (pss_cons (ps_set (i := 2) sc_at_power.nd rfl (.inl rfl) (pe_op op_rep (pe_lst (pa_cons pe_int pa_nil)) (pe_op op_add (pe_op op_mulW (pe_op op_sub (pe_callB call_len_seq (by rfl) nb.len PySem.boot_len (pa_cons (pv 0) pa_nil)) pe_int) (pv 1)) pe_int)))
      (pss_cons (ps_for PassesOwn.never rfl (pi_enum (by rfl) nb.enumerate (pa_cons (pv 0) pa_nil)) (pg_tup (by rfl) (pgs_cons (pg_name (i := 3) sc_at_power.nd rfl (.inl rfl)) (pgs_cons (pg_name (i := 4) sc_at_power.nd rfl (.inl rfl)) pgs_nil))) (pss_one (ps_asg (pv 4) (pg_sub (pv 2) (pe_op op_mulW (pv 3) (pv 1)) set_list))))
      (pss_one (ps_ret (pv 2)))))), ?_⟩
    refine q_when (b := decide (((f.length : Nat) : Int) = 0)) (et_test (ev_eqI (ev_is (ev_len (ev_var rfl) hF) (by rw [List.length_map])) ev_c)) (fun hb H1 e1 => ?_) (fun hb H1 e1 => ?_)
    · refine s_retL (xs := (atP f k).map V.int) (el_is (el_lst ea_nil (by decide)) ?_) fun p H4 np e4 hp => q.go e1 np e4 hp
      unfold atP
      rw [if_pos (List.eq_nil_of_length_eq_zero (by have := of_decide_eq_true hb; omega))]
      rfl
    · have hb := of_decide_eq_false hb
      have hlk := k2
      have ecast : (((f.length - 1 : Nat) : Int)) * (k : Int) = (((f.length - 1) * k : Nat) : Int) := rfl
      refine q_asgL (xs := (List.replicate ((f.length - 1) * k + 1) (0 : Int)).map V.int) (el_is (el_rep (k := (((f.length - 1) * k + 1 : Nat) : Int)) (el_lst (by one_place) (by decide)) (ev_is (ev_add (ev_mul (ev_sub (ev_is (ev_len (ev_var rfl) (ex_l e1 hF)) (by rw [List.length_map])) ev_c) (ev_var rfl) (mulW (by omega) (by omega))) ev_c) ?_) (by omega) (by omega)) (by rw [List.map_replicate, Int.toNat_natCast])) fun t H2 nt e2 h2 => ?_
      · rw [show ((f.length : Nat) : Int) - 1 = ((f.length - 1 : Nat) : Int) by omega]
        rfl
      refine q_forE (xs := f.map V.int) (by one_place) (ex_l (e1.trans e2) hF) (fun i σ' H' => ∃ (T : List Int) (x y : Option V), σ' = [some (.ref a), some (.int (k : Nat)), some (.ref t), x, y] ∧ Ex H1 H' ∧ H' t = some (.lst (T.map V.int)) ∧ T.length = (f.length - 1) * k + 1 ∧ ∀ m, m < T.length → coef T m = if m % k = 0 ∧ m / k < i then coef f (m / k) else 0)
        (fun H3 e3 => ⟨_, none, none, rfl, e2.trans e3, e3 _ _ h2, List.length_replicate, fun m _ => ?_⟩) (fun i σ' H' _ hp => ?_) (fun i x σ' H' hx hp H3 e3 => ?_) (fun σ' H' hp => ?_)
      · rw [coef_rep, if_neg fun h => Nat.not_lt_zero _ h.2]
      · obtain ⟨_, _, _, _, e3, _⟩ := hp
        exact ex_l (e1.trans e3) hF
      · obtain ⟨T, x1, x2, rfl, e4, h4, hT, hc⟩ := hp
        obtain ⟨z, hz, rfl⟩ := map_get hx
        have hi := (List.getElem?_eq_some_iff.mp hz).1
        have hik : i * k ≤ (f.length - 1) * k := Nat.mul_le_mul_right k (by omega)
        refine s_setI (j := i * k) (b := z) (e3 _ _ h4) (by one_place) (ev_is (by one_place) (by rfl)) (by omega) (by one_place) fun H5 e5 => ⟨_, _, _, rfl, Ex.mut ((e4.trans e3).trans e5) nt, upd_same, by rw [List.length_set]; exact hT, fun m hm => ?_⟩
        rw [List.length_set] at hm
        rw [coef_set (by omega), hc m hm]
        by_cases e : m = i * k
        · subst e
          rw [if_pos rfl, Nat.mul_mod_left, Nat.mul_div_cancel _ (by omega), if_pos ⟨rfl, Nat.lt_succ_self i⟩, coef_of hz]
        · rw [if_neg e]
          have e2 : ¬ (m % k = 0 ∧ m / k = i) := fun ⟨p1, p2⟩ => e (by
            have := Nat.div_add_mod m k
            rw [p1, p2, Nat.add_zero, Nat.mul_comm] at this
            exact this.symm)
          split <;> split <;> first | rfl | omega
      · obtain ⟨T, x1, x2, rfl, e4, h4, hT, hc⟩ := hp
        rw [List.length_map] at hc
        refine s_ret (v := .ref t) (by one_place) fun H5 e5 => q t H5 (fresh_back e1 nt) (e1.trans (e4.trans e5)) ?_
        rw [e5 _ _ h4]
        unfold atP
        rw [if_neg (by
          intro h
          rw [h] at hb
          exact hb rfl), mkL_of hT fun m hm => ?_]
        rw [hc m (by omega)]
        unfold pw
        by_cases e : m % k = 0
        · rw [if_pos e]
          split
          · rfl
          · rw [coef_ge (show f.length ≤ m / k by omega)]
        · rw [if_neg e, if_neg (by omega)]
end

/- parted: slots 0 n, 1 rows, 2 left, 3 p, 4 times; calls  -/
abbrev s_parted : Stmt := topS 5
theorem sc_parted : FnScope ["n", "rows", "left", "p", "times"] ["n"] (defScope s_parted) := ⟨rfl, rfl, rfl, by decide +kernel, rfl, by decide +kernel, by decide +kernel⟩

def spParted (K : PySem.W.Frag) : Sp := fun vs H Q _ => ∃ n : Int, vs = [.int n] ∧ 1 ≤ n ∧ n ≤ 1000000000 ∧ RetP K (partedF n) H Q
section
variable {P : Program} {w : World} {K : PySem.W.Frag} {mg : Str → Option Value} {base : Heap}
theorem cal_parted (nb : Nb mg) (d : Dfn K mg "parted" ["n"] s_parted) : Cal P w K mg base CX0 "parted" 1 ["n"] (spParted K) := by
  refine d.cal sc_parted (fun vs H Q E h => ?_) (fun f cdv A outer s H vs Q E hr h => ?_)
  · obtain ⟨a, rfl, _⟩ := h
    rfl
  · obtain ⟨n, rfl, n1, n2, q⟩ := h
    refine ⟨_, (pss_cons (ps_set (i := 1) sc_parted.nd rfl (.inl rfl) (pe_lst pa_nil))
      (pss_cons (ps_set (i := 2) sc_parted.nd rfl (.inl rfl) (pv 0))
      (pss_cons (ps_set (i := 3) sc_parted.nd rfl (.inl rfl) pe_int)
      (pss_cons (ps_while PassesOwn.never (pt_cmpR op_le (pe_op op_mulW (pv 3) (pv 3)) (pv 2) (nomark _)) (pss_cons (ps_set (i := 4) sc_parted.nd rfl (.inl rfl) pe_int)
      (pss_cons (ps_while PassesOwn.never (pt_cmpR op_eq (pe_op op_mod (pv 2) (pv 3)) pe_int (nomark _)) (pss_cons (ps_aug (i := 2) sc_parted.nd rfl (.inl rfl) (pv 3) (pip_of iop_fdivW))
      (pss_one (ps_aug (i := 4) sc_parted.nd rfl (.inl rfl) pe_int ip_add))))
      (pss_cons (ps_if (pt_cmpR op_gt (pv 4) pe_int (nomark _)) (pss_one (ps_expr (pe_bm PySem.F.plainAttrs_list PySem.F.slot_list_append PySem.F.type_list_append mt_append (pv 1) (pa_cons (pe_tup (pa_cons (pv 3) (pa_cons (pv 4) pa_nil))) pa_nil)))) pss_nil)
      (pss_one (ps_aug (i := 3) sc_parted.nd rfl (.inl rfl) pe_int ip_add))))))
      (pss_cons (ps_if (pt_cmpR op_gt (pv 2) pe_int (nomark _)) (pss_one (ps_expr (pe_bm PySem.F.plainAttrs_list PySem.F.slot_list_append PySem.F.type_list_append mt_append (pv 1) (pa_cons (pe_tup (pa_cons (pv 2) (pa_cons pe_int pa_nil))) pa_nil)))) pss_nil)
      (pss_one (ps_ret (pv 1)))))))), ?_⟩
    refine q_asgL (xs := []) (el_lst ea_nil (by decide)) fun a H1 ha e1 h1 => ?_
    refine q_asg (v := .int n) (by one_place) fun H2 e2 => ?_
    refine q_asg (v := .int 2) (by one_place) fun H3 e3 => ?_
    refine q_while (fun m σ' H' => ∃ (p l : Int) (rows : List (Int × Int)) (xs : List V) (x : Option V), σ' = [some (.int n), some (.ref a), some (.int l), some (.int p), x] ∧ 2 ≤ p ∧ p ≤ 40000 ∧ 0 < l ∧ l ≤ n ∧ l < p + m ∧
      pLoop m p l rows = pLoop n.toNat 2 n [] ∧ Ex H H' ∧ H' a = some (.lst xs) ∧ Prs K H' xs rows ∧ (rows.length : Int) + 2 ≤ p) n.toNat
      ⟨2, n, [], [], none, rfl, by omega, by omega, by omega, by omega, by omega, rfl, (e1.trans e2).trans e3, e3 _ _ (e2 _ _ h1), .nil, by decide⟩ fun m σ' H' hW => ?_
    obtain ⟨p, l, rows, xs, x, rfl, p1, p2, l1, l2, lm, eL, e4, h4, pr, hlen⟩ := hW
    refine ⟨decide (p * p ≤ l), by one_place, fun hb H5 e5 => ?_, fun hb H5 e5 => ?_⟩
    · have hpp := of_decide_eq_true hb
      have hp3 := sq_le hpp (by omega)
      cases m with
      | zero =>
        have : 2 * p ≤ p * p := Int.mul_le_mul_of_nonneg_right p1 (by omega)
        omega
      | succ m =>
        rw [pLoop_go hpp] at eL
        refine ⟨_, fun σ2 H2 hN => ⟨m, Nat.lt_succ_self m, hN⟩, ?_⟩
        refine q_asg (v := .int 0) (by one_place) fun H6 e6 => ?_
        refine q_while (fun k σ' H' => ∃ u t : Int, σ' = [some (.int n), some (.ref a), some (.int u), some (.int p), some (.int t)] ∧ 0 < u ∧ u ≤ l ∧ u < 2 ^ k ∧ strip p k u t = strip p 64 l 0 ∧ Ex H6 H') 64
          ⟨l, 0, rfl, l1, Int.le_refl _, by omega, rfl, Ex.refl _⟩ fun k σ' H' hW => ?_
        obtain ⟨u, t, rfl, u1, u2, uk, eS, e7⟩ := hW
        refine ⟨decide (u % p = 0), by one_place, fun hb H8 e8 => ?_, fun hb H8 e8 => ?_⟩
        · have hd := of_decide_eq_true hb
          cases k with
          | zero =>
            rw [Int.pow_zero] at uk
            omega
          | succ k =>
            obtain ⟨v1, v2, v3⟩ := half_lt p1 u1 uk hd
            rw [strip_go hd] at eS
            refine ⟨_, fun σ2 H2 hN => ⟨k, Nat.lt_succ_self k, hN⟩, ?_⟩
            refine ⟨.int u, rfl, .int p, rfl, u, p, rfl, rfl, divW (by omega) (by omega), ?_⟩
            refine s_aug (a := t) (b := 1) rfl (by one_place) fun H10 e10 => ?_
            exact ⟨u / p, t + 1, rfl, v1, by omega, v2, eS, (e7.trans e8).trans e10⟩
        · have hd := of_decide_eq_false hb
          rw [strip_stop hd] at eS
          rw [← eS] at eL
          have h8 := e8 _ _ (e7 _ _ (e6 _ _ (e5 _ _ h4)))
          have e68 := e6.trans (e7.trans e8)
          have pr8 := pr.mono (e5.trans e68)
          refine q_when (b := decide (0 < t)) (by one_place) (fun hb H9 e9 => ?_) (fun hb H9 e9 => ?_)
          · have ht := of_decide_eq_true hb
            rw [if_pos ht] at eL
            refine s_appU (ys := [.int p, .int t]) (e9 _ _ h8) (by one_place) (eu_tup (by one_place) (by show 2 ≤ 100000; decide)) (by rw [Paired.length pr]; omega) fun tp H10 htp e10 h10 => ?_
            have h10a := e10 _ _ (e9 _ _ h8)
            refine s_aug (a := p) (b := 1) rfl (by one_place) fun H11 e11 => ?_
            refine ⟨p + 1, u, rows ++ [(p, t)], xs ++ [.ref tp], _, rfl, by omega, by omega, u1, by omega, by omega, eL, ?_, e11 _ _ upd_same, ?_, ?_⟩
            · exact (Ex.mut (((e4.trans e5).trans e68).trans (e9.trans e10)) ha).trans e11
            · exact (((pr8.mono (e9.trans e10)).upd h10a).snoc (sqt_upd h10a (SqT.of h10))).mono e11
            · rw [List.length_append, List.length_singleton]
              omega
          · have ht := of_decide_eq_false hb
            rw [if_neg ht] at eL
            refine s_aug (a := p) (b := 1) rfl (by one_place) fun H11 e11 => ?_
            exact ⟨p + 1, u, rows, xs, _, rfl, by omega, by omega, u1, by omega, by omega, eL, ((e4.trans e5).trans e68).trans (e9.trans e11), e11 _ _ (e9 _ _ h8), pr8.mono (e9.trans e11), by omega⟩
    · have hpp := of_decide_eq_false hb
      rw [pLoop_stop hpp] at eL
      refine q_when (b := decide (1 < l)) (by one_place) (fun hb H6 e6 => ?_) (fun hb H6 e6 => ?_)
      · have hl := of_decide_eq_true hb
        refine s_appU (ys := [.int l, .int 1]) (e6 _ _ (e5 _ _ h4)) (by one_place) (eu_tup (by one_place) (by show 2 ≤ 100000; decide)) (by rw [Paired.length pr]; omega) fun tp H10 htp e10 h10 => ?_
        have h10a := e10 _ _ (e6 _ _ (e5 _ _ h4))
        show tRet (tVar 1) _ _ _
        refine s_ret (v := .ref a) (by one_place) fun H11 e11 => ?_
        refine q a (xs ++ [.ref tp]) H11 ha ((Ex.mut (((e4.trans e5).trans e6).trans e10) ha).trans e11) (e11 _ _ upd_same) ?_
        unfold partedF
        rw [← eL, if_pos hl]
        exact (((pr.mono ((e5.trans e6).trans e10)).upd h10a).snoc (sqt_upd h10a (SqT.of h10))).mono e11
      · have hl := of_decide_eq_false hb
        refine s_ret (v := .ref a) (by one_place) fun H11 e11 => ?_
        refine q a xs H11 ha (((e4.trans e5).trans e6).trans e11) (e11 _ _ (e6 _ _ (e5 _ _ h4))) ?_
        unfold partedF
        rw [← eL, if_neg hl]
        exact pr.mono ((e5.trans e6).trans e11)
end

/-! ### wheels and the ground, of the program -/
/- powers_of: slots 0 n, 1 rows, 2 p, 3 _, 4 high; calls parted -/
abbrev s_powers_of : Stmt := topS 9
theorem sc_powers_of : FnScope ["n", "rows", "p", "_", "high"] ["n"] (defScope s_powers_of) := ⟨rfl, rfl, rfl, by decide +kernel, rfl, by decide +kernel, by decide +kernel⟩

def spPow (K : PySem.W.Frag) : Sp := fun vs H Q _ => ∃ n : Int, vs = [.int n] ∧ 1 ≤ n ∧ n ≤ 61 ∧ RetT K (pwF n) H Q
section
variable {P : Program} {w : World} {K : PySem.W.Frag} {mg : Str → Option Value} {base : Heap}
theorem cal_powers (nb : Nb mg) (c_parted : Cal P w K mg base CX0 "parted" 1 ["n"] (spParted K)) (d : Dfn K mg "powers_of" ["n"] s_powers_of) : Cal P w K mg base CX0 "powers_of" 2 ["n"] (spPow K) := by
  refine d.cal sc_powers_of (fun vs H Q E h => ?_) (fun fa cdv A outer s H vs Q E hr h => ?_)
  · obtain ⟨n, rfl, _⟩ := h
    rfl
  · obtain ⟨n, rfl, n1, n2, q⟩ := h
    have N := nok n1 n2
    refine ⟨_, (pss_cons (ps_set (i := 1) sc_powers_of.nd rfl (.inl rfl) (pe_lst pa_nil))
      (pss_cons (ps_for PassesOwn.never rfl (pi_list (pe_cal c_parted (hr.mono (by first | decide | omega)) (by rfl) pass0 (pa_cons (pv 0) pa_nil))) (pg_tup (by rfl) (pgs_cons (pg_name (i := 2) sc_powers_of.nd rfl (.inl rfl)) (pgs_cons (pg_name (i := 3) sc_powers_of.nd rfl (.inl rfl)) pgs_nil))) (pss_cons (ps_set (i := 4) sc_powers_of.nd rfl (.inl rfl) (pv 2))
      (pss_cons (ps_while PassesOwn.never (pt_cmpR op_eq (pe_op op_mod (pv 0) (pe_op op_mulW (pv 4) (pv 2))) pe_int (nomark _)) (pss_one (ps_aug (i := 4) sc_powers_of.nd rfl (.inl rfl) (pv 2) (pip_of iop_mul))))
      (pss_one (ps_expr (pe_bm PySem.F.plainAttrs_list PySem.F.slot_list_append PySem.F.type_list_append mt_append (pv 1) (pa_cons (pe_tup (pa_cons (pv 2) (pa_cons (pv 4) (pa_cons (pe_op op_fdivW (pv 4) (pv 2)) pa_nil)))) pa_nil)))))))
      (pss_one (ps_ret (pv 1))))), ?_⟩
    refine q_asgL (xs := []) (el_lst ea_nil (by decide)) fun T H1 nT e1 h1 => ?_
    have pl : (pwF n).length = (partedF n).length := by unfold pwF; rw [List.length_map]
    refine q_forP2 (rows := partedF n) (ep_cal (by one_place) fun H3 e3 Q k E => ⟨n, rfl, by omega, by omega, k⟩) (fun p ps i σ' H' => ∃ (xs : List V) (x y z : Option V), σ' = [some (.int n), some (.ref T), x, y, z] ∧ Ex H H' ∧ H' T = some (.lst xs) ∧ T ≠ p ∧ SqL K H' p ps ∧ Prs K H' ps (partedF n) ∧ Trs K H' xs ((pwF n).take i))
      (fun p ps H2 np e2 hp R => ⟨[], none, none, none, rfl, e1.trans e2, e2 _ _ h1, ne_of_none h1 np, SqL.of hp, R, .nil⟩) (fun p ps i σ' H' hp => ?_) (fun p ps i r σ' H' hr hp => ?_) (fun p ps σ' H' hp => ?_)
    · obtain ⟨_, _, _, _, _, _, _, _, a, b, _⟩ := hp
      exact ⟨a, b⟩
    · obtain ⟨xs, x, y, z, rfl, e2, h2, nTp, hp, R, S⟩ := hp
      have hpw : (pwF n)[i]? = some (r.1, hiF n r.1 n.toNat r.1, hiF n r.1 n.toNat r.1 / r.1) := by
        unfold pwF
        rw [List.getElem?_map, hr]
        rfl
      obtain ⟨b1, b2, b3, b4, b5, b6, b7⟩ := N.pw _ (List.mem_of_getElem? hpw)
      generalize hgh : hiF n r.1 n.toNat r.1 = hg at *
      have b1 : 1 ≤ hg := b1
      have b2 : hg ≤ 61 := b2
      have b3 : 2 ≤ r.1 := b3
      have b5 : r.1 ≤ 61 := b5
      refine q_asg (v := .int r.1) (by one_place) fun H3 e3 => ?_
      refine q_while (fun m σ' H' => ∃ (h : Int) (k : Nat), σ' = [some (.int n), some (.ref T), some (.int r.1), some (.int r.2), some (.int h)] ∧ 1 ≤ h ∧ h ≤ 61 ∧ n - h ≤ m ∧ m ≤ k ∧ hiF n r.1 k h = hg ∧ Ex H3 H') n.toNat
        ⟨r.1, n.toNat, rfl, by omega, b5, by omega, Nat.le_refl _, hgh, Ex.refl _⟩ fun m σ' H' hW => ?_
      obtain ⟨h, k, rfl, h1', h2', hm, hk, eh, e4⟩ := hW
      have hp0 : 0 < h * r.1 := Int.mul_pos (by omega) (by omega)
      have hp1 : 2 * h ≤ h * r.1 := by
        have := Int.mul_le_mul_of_nonneg_left b3 (show 0 ≤ h by omega)
        omega
      refine ⟨decide (n % (h * r.1) = 0), et_test (ev_eqI (ev_mod (ev_var rfl) (ev_mul (ev_var rfl) (ev_var rfl) (mulW (by omega) (by omega))) hp0) ev_c), fun hb H5 e5 => ?_, fun hb H5 e5 => ?_⟩
      · have hb := of_decide_eq_true hb
        have hle : h * r.1 ≤ n := Int.le_of_dvd (by omega) (Int.dvd_of_emod_eq_zero hb)
        cases k with
        | zero => omega
        | succ k =>
          rw [hiF, if_pos hb] at eh
          refine ⟨_, fun σ2 H2 hN => ⟨m - 1, by omega, hN⟩, ?_⟩
          refine ⟨.int h, rfl, .int r.1, rfl, h, r.1, rfl, rfl, .inl ⟨by omega, by omega⟩, ?_⟩
          exact ⟨h * r.1, k, rfl, by omega, by omega, by omega, by omega, eh, e4.trans e5⟩
      · have hb := of_decide_eq_false hb
        have : h = hg := by
          rw [← eh]
          cases k with
          | zero => rfl
          | succ k => rw [hiF, if_neg hb]
        subst this
        have e35 : Ex H' H' := Ex.refl _
        have h5 := e5 _ _ (e4 _ _ (e3 _ _ h2))
        have e25 := e3.trans (e4.trans e5)
        have p4 : (partedF n).length ≤ 4 := by rw [← N.same]; exact N.len
        have hx4 : xs.length < 100000 := by rw [Paired.length S, List.length_take]; omega
        refine s_appU (ys := [.int r.1, .int h, .int (h / r.1)]) h5 (by one_place) (eu_tup (ea_cons (by one_place) (ea_cons (by one_place) (ea_cons (ev_div (ev_var rfl) (ev_var rfl) (divW (by omega) (by omega))) ea_nil))) (by show 3 ≤ 100000; decide)) hx4 fun tp H6 ntp e6 h6 => ?_
        have h6a := e6 _ _ h5
        refine ⟨xs ++ [.ref tp], _, _, _, rfl, Ex.mut (e2.trans (e25.trans e6)) nT, upd_same, nTp, ?_, ?_, ?_⟩
        · exact sql_upd nTp.symm (ex_l (e25.trans e6) hp)
        · exact (R.mono (e25.trans e6)).upd h6a
        · have et : (pwF n).take (i + 1) = (pwF n).take i ++ [(r.1, h, h / r.1)] := by rw [List.take_add_one, hpw]; rfl
          rw [et]
          exact ((S.mono (e25.trans e6)).upd h6a).snoc (sqt_upd h6a (SqT.of h6))
    · obtain ⟨xs, x, y, z, rfl, e2, h2, _, _, _, S⟩ := hp
      rw [← pl, List.take_length] at S
      exact s_ret (v := .ref T) (by one_place) fun H5 e5 => q T xs H5 nT (e2.trans e5) (e5 _ _ h2) (S.mono e5)
end

def spCome (K : PySem.W.Frag) : Sp := fun vs H Q _ => ∃ (n : Nat) (a : Addr) (xs : List V) (rows : List I3), vs = [.int (n : Nat), .ref a] ∧ n ≤ 400 ∧ SqL K H a xs ∧ Trs K H xs rows ∧ (∀ r ∈ rows, Whl n r) ∧ RetL ((cmS n rows).map V.int) H Q

/-! ### grounded, of the program -/
/-- (rest, wheels), all new -/
def RetG (K : PySem.W.Frag) (f : List Int) (rows : List I3) (H : Hp) (Q : VK) : Prop := ∀ t p w ws H2, H t = none → H p = none → H w = none → p ≠ w → Ex H H2 → H2 t = some (.tup [.ref p, .ref w]) → H2 p = some (.lst (f.map V.int)) → H2 w = some (.lst ws) → Trs K H2 ws rows → Q (.ref t) H2
/-- the one that is barred -/
theorem filter_one {p : Nat} {f : Nat → Bool} {k0 : Nat} (h0 : k0 < p) (h1 : f k0 = true) (h2 : ∀ k, k < p → f k = true → k = k0) : (List.range p).filter f = [k0] := by
  refine rise_uniq (List.Pairwise.filter _ List.pairwise_lt_range) (List.pairwise_singleton _ _) fun x => ?_
  rw [List.mem_filter, List.mem_range, List.mem_singleton]
  constructor
  · exact fun h => h2 x h.1 h.2
  · rintro rfl
    exact ⟨h0, h1⟩
section
variable {K : PySem.W.Frag} {σ : L2.St} {H : Hp} {te : TE} {t : TT} {vs : List Nat}
/-- [e for x in range(a, b, c) if t] -/
theorem el_lcR3 {tg : TA} {i0 : Nat} {j n s : Int} {m : Nat} (f : Nat → Bool) (w : Nat → V) (h : EvA tg σ H [.int j, .int n, .int s]) (hr : RgC j n s m) (hm : m ≤ 40000) (hw : ∀ x, wipe ((wipe σ vs).set i0 (some x)) vs = wipe σ vs)
    (ht : ∀ (i : Nat) H1, Ex H H1 → i < m → EvT t ((wipe σ vs).set i0 (some (.int (j + (i : Nat) * s)))) H1 (f i)) (he : ∀ (i : Nat) H1, Ex H H1 → i < m → f i = true → Ev te ((wipe σ vs).set i0 (some (.int (j + (i : Nat) * s)))) H1 (w i)) :
    EvL (tLc (iRng3 tg) (gName i0) t te vs) σ H (((List.range m).filter f).map w) := fun H0 e Q q => h H0 e _ fun H1 e1 => ⟨j, n, s, m, rfl, hr, fun Dl hD =>
  lc_it (n := m) walk_rangeC (Cw H1 f w Dl) ⟨hD, Ex.new hD, upd_same⟩ (fun _ _ _ _ => trivial) (fun i x H' H'' hi p y => by
    obtain ⟨rfl, rfl⟩ := y
    exact ⟨hw _, cw_turn p (by omega) (ht i H1 (e.trans e1) hi) (fun hf => he i H1 (e.trans e1) hi hf)⟩) (fun H' p => q Dl H' (fresh_back e1 p.1) (e1.trans p.2.1) p.2.2)⟩
end
/- grounded: slots 0 some, 1 n, 2 rest, 3 wheels, 4 p, 5 high, 6 low, 7 step, 8 j, 9 place, 10 barred, 11 c; calls powers_of -/
abbrev s_grounded : Stmt := topS 10
theorem sc_grounded : FnScope ["some", "n", "rest", "wheels", "p", "high", "low", "step", "j", "place", "barred", "c"] ["some"] (defScope s_grounded) := ⟨rfl, rfl, rfl, by decide +kernel, rfl, by decide +kernel, by decide +kernel⟩

def spGr (K : PySem.W.Frag) : Sp := fun vs H Q _ => ∃ (a : Addr) (f : List Int), vs = [.ref a] ∧ SqL K H a (f.map V.int) ∧ 1 ≤ f.length ∧ f.length ≤ 61 ∧ RetG K (grF f.length f) (wlF f.length (pwF f.length) f) H Q
section
variable {P : Program} {w : World} {K : PySem.W.Frag} {mg : Str → Option Value} {base : Heap}
theorem cal_grounded (nb : Nb mg) (c_powers_of : Cal P w K mg base CX0 "powers_of" 2 ["n"] (spPow K)) (d : Dfn K mg "grounded" ["some"] s_grounded) : Cal P w K mg base CX0 "grounded" 3 ["some"] (spGr K) := by
  refine d.cal sc_grounded (fun vs H Q E h => ?_) (fun fa cdv A outer s H vs Q E hr h => ?_)
  · obtain ⟨a, f, rfl, _⟩ := h
    rfl
  · obtain ⟨a, f, rfl, hA, n1, n2, q⟩ := h
    refine ⟨_, (pss_cons (ps_set (i := 1) sc_grounded.nd rfl (.inl rfl) (pe_callB call_len_seq (by rfl) nb.len PySem.boot_len (pa_cons (pv 0) pa_nil)))
      (pss_cons (ps_set (i := 2) sc_grounded.nd rfl (.inl rfl) (pe_callTy call_list_of (by rfl) nb.list (by decide +kernel) (pa_cons (pv 0) pa_nil)))
      (pss_cons (ps_set (i := 3) sc_grounded.nd rfl (.inl rfl) (pe_lst pa_nil))
      (pss_cons (ps_for PassesOwn.never rfl (pi_list (pe_cal c_powers_of (hr.mono (by first | decide | omega)) (by rfl) pass0 (pa_cons (pv 1) pa_nil))) (pg_tup (by rfl) (pgs_cons (pg_name (i := 4) sc_grounded.nd rfl (.inl rfl)) (pgs_cons (pg_name (i := 5) sc_grounded.nd rfl (.inr rfl)) (pgs_cons (pg_name (i := 6) sc_grounded.nd rfl (.inr rfl)) pgs_nil)))) (pss_cons (ps_set (i := 7) sc_grounded.nd rfl (.inl rfl) (pe_op op_fdivW (pv 1) (pv 4)))
      (pss_one (ps_for PassesOwn.never rfl (pi_range1 (by rfl) nb.range (pa_cons (pv 7) pa_nil)) (pg_name (i := 8) sc_grounded.nd rfl (.inl rfl)) (pss_cons (ps_setLc (i := 10) (own := [("place", 9)]) (g := gName 9) (by rfl) sc_grounded.nd rfl rfl (sw_true rfl rfl rfl (by decide +kernel)) (pi_range3 (by rfl) nb.range (pa_cons (pv 8) (pa_cons (pv 1) (pa_cons (pv 7) pa_nil)))) (blkOk_by (N := ["some", "n", "rest", "wheels", "p", "high", "low", "step", "j", "place", "barred", "c"]) (sc := defScope s_grounded) (by decide +kernel)) (fun _ _ _ _ _ => (pg_name (i := 9) sc_grounded.nd rfl (Or.inl rfl))) (fun _ _ _ _ _ => pts_one (pt_cmpR op_ge (pe_op op_mod (pv 9) (pv 5)) (pe_op op_sub (pv 5) (pv 6)) (nomark _))) (fun _ _ _ _ _ => (pv 9)))
      (pss_cons (ps_set (i := 11) sc_grounded.nd rfl (.inl rfl) (pe_ix ix_list (pv 2) (pe_ix ix_list (pv 10) pe_int (fun _ _ => rfl)) (fun _ _ => rfl)))
      (pss_one (ps_if (pt_cmpR op_ne (pv 11) pe_int (nomark _)) (pss_cons (ps_expr (pe_bm PySem.F.plainAttrs_list PySem.F.slot_list_append PySem.F.type_list_append mt_append (pv 3) (pa_cons (pe_tup (pa_cons (pv 4) (pa_cons (pv 8) (pa_cons (pv 11) pa_nil)))) pa_nil)))
      (pss_one (ps_for PassesOwn.never rfl (pi_range3 (by rfl) nb.range (pa_cons (pv 8) (pa_cons (pv 1) (pa_cons (pv 7) pa_nil)))) (pg_name (i := 9) sc_grounded.nd rfl (.inl rfl)) (pss_one (ps_augS (pv 2) (pv 9) get_list (pv 11) ip_sub set_list))))) pss_nil))))))))
      (pss_one (ps_ret (pe_tup (pa_cons (pv 2) (pa_cons (pv 3) pa_nil))))))))), ?_⟩
    generalize hn : f.length = n at *
    have G := gok (n := (n : Int)) (by omega) (by omega)
    have N := nok (n := (n : Int)) (by omega) (by omega)
    have p4 : (pwF n).length ≤ 4 := by rw [G.same, List.length_map]; exact N.len
    refine q_asg (v := .int (n : Nat)) (ev_is (ev_len (ev_var rfl) hA) (by rw [List.length_map, hn])) fun H1 e1 => ?_
    refine q_asgL (xs := f.map V.int) (el_list (ev_var rfl) (ex_l e1 hA)) fun rs H2 nrs e2 h2 => ?_
    refine q_asgL (xs := []) (el_lst ea_nil (by decide)) fun wl H3 nwl e3 h3 => ?_
    have nrsH : H rs = none := fresh_back e1 nrs
    have nwlH : H wl = none := fresh_back (e1.trans e2) nwl
    have ne : rs ≠ wl := ne_of_none h2 nwl
    refine q_forT3N (rows := pwF n) (et3_cal (by one_place) fun H4 e4 Q k E => ⟨n, rfl, by omega, by omega, k⟩) (fun pp ps i σ' H' => ∃ (F : List Int) (ws : List V) (W : List I3) (x4 x5 x6 x7 x8 x10 x11 x9 : Option V), σ' = [some (.ref a), some (.int (n : Nat)), some (.ref rs), some (.ref wl), x4, x5, x6, x7, x8, x9, x10, x11] ∧ Ex H H' ∧ SqL K H' pp ps ∧ Trs K H' ps (pwF n) ∧ pp ≠ rs ∧ pp ≠ wl ∧ H' rs = some (.lst (F.map V.int)) ∧ H' wl = some (.lst ws) ∧ Trs K H' ws W ∧ F.length = n ∧ W.length ≤ 61 * i
        ∧ ((pwF n).drop i).foldl (fun f r => gStep n r f) F = grF n f ∧ W ++ wlF n ((pwF n).drop i) F = wlF n (pwF n) f)
      (fun pp ps H4 np e4 hp R => ⟨f, [], [], none, none, none, none, none, none, none, none, rfl, (e1.trans e2).trans (e3.trans e4), SqL.of hp, R, (ne_of_none (e3 _ _ h2) np).symm, (ne_of_none h3 np).symm, e4 _ _ (e3 _ _ h2), e4 _ _ h3, .nil, hn, Nat.le_refl _, rfl, rfl⟩) (fun pp ps i σ' H' hp => ?_) (fun pp ps i r σ' H' hr hp => ?_) (fun pp ps σ' H' hp => ?_)
    · obtain ⟨_, _, _, _, _, _, _, _, _, _, _, _, _, a1, a2, _⟩ := hp
      exact ⟨a1, a2⟩
    · obtain ⟨F, ws, W, x4, x5, x6, x7, x8, x10, x11, x9, rfl, e4, hpp, R, pr, pw, hrs, hwl, S, lF, lW, iF, iW⟩ := hp
      have hi := (List.getElem?_eq_some_iff.mp hr).1
      have ed : (pwF n).drop i = r :: (pwF n).drop (i + 1) := by rw [List.drop_eq_getElem_cons hi, (List.getElem?_eq_some_iff.mp hr).2]
      rw [ed] at iF iW
      have g := G.all r (List.mem_of_getElem? hr)
      obtain ⟨s1, s2, s3⟩ := g.step (by omega)
      have g2 := g.two
      have g61 := g.le
      have gh := g.hi1
      refine q_asg (v := .int ((n : Int) / r.1)) (ev_div (ev_var rfl) (ev_var rfl) (divW (by omega) (by omega))) fun H5 e5 => ?_
      have hsn : (((n : Int) / r.1).toNat : Int) = (n : Int) / r.1 := by omega
      refine s_forR1 (n := (n : Int) / r.1) (by one_place) (by omega) (fun j σ' H' => ∃ (F2 : List Int) (ws : List V) (x8 x9 x10 x11 : Option V), σ' = [some (.ref a), some (.int (n : Nat)), some (.ref rs), some (.ref wl), some (.int r.1), some (.int r.2.1), some (.int r.2.2), some (.int ((n : Int) / r.1)), x8, x9, x10, x11] ∧ Ex H H' ∧ SqL K H' pp ps ∧ Trs K H' ps (pwF n) ∧ H' rs = some (.lst (F2.map V.int)) ∧ H' wl = some (.lst ws) ∧ Trs K H' ws (W ++ wlsK n r F j) ∧ F2.length = n ∧ ∀ m, m < n → coef F2 m = coef F m - if (m : Int) % ((n : Int) / r.1) < j then coef F (bP n r m) else 0)
        (fun H6 e6 => ⟨F, ws, _, _, _, _, rfl, (e4.trans e5).trans e6, ex_l (e5.trans e6) hpp, R.mono (e5.trans e6), (e5.trans e6) _ _ hrs, (e5.trans e6) _ _ hwl, by rw [show W ++ wlsK n r F 0 = W from List.append_nil W]; exact S.mono (e5.trans e6), lF, fun m hm => ?_⟩) (fun j σ' H' hj hp => ?_) (fun σ' H' hp => ?_)
      · have := Int.emod_nonneg (m : Int) (show (n : Int) / r.1 ≠ 0 by omega)
        rw [if_neg (by omega)]
        omega
      · obtain ⟨F2, ws, x8, x9, x10, x11, rfl, e6, hpp, R, hrs, hwl, S, lF2, cF2⟩ := hp
        have hjn : (j : Int) < n := by omega
        have hjs : (j : Int) % ((n : Int) / r.1) = j := Int.emod_eq_of_lt (by omega) hj
        have b1 := g.lt j hjn
        have b2 := g.on j hjn
        have b3 := g.bar j hjn
        rw [hjs] at b2
        generalize hb : bP n r j = b at *
        have hrg : RgC (j : Int) n ((n : Int) / r.1) r.1.toNat := rgC_up (by omega) hj s3 (by omega) (by omega)
        have hdm := Int.mul_ediv_add_emod (b : Int) ((n : Int) / r.1)
        have hk0 : 0 ≤ (b : Int) / ((n : Int) / r.1) := Int.ediv_nonneg (by omega) (by omega)
        have hk1 : (b : Int) / ((n : Int) / r.1) < r.1 := Int.ediv_lt_of_lt_mul (by omega) (by rw [Int.mul_comm, ← s3]; exact b1)
        have hkb : (j : Int) + (((b : Int) / ((n : Int) / r.1)).toNat : Nat) * ((n : Int) / r.1) = b := by
          rw [Int.toNat_of_nonneg hk0, Int.mul_comm]
          omega
        have hfil : ((List.range r.1.toNat).filter fun k => decide (r.2.1 - r.2.2 ≤ ((j : Int) + (k : Nat) * ((n : Int) / r.1)) % r.2.1)) = [((b : Int) / ((n : Int) / r.1)).toNat] := by
          refine filter_one (by omega) (decide_eq_true ?_) (fun k hk hf => ?_)
          · rw [hkb]
            exact of_decide_eq_true b3
          · have hf := of_decide_eq_true hf
            have W0 : Whl n (r.1, (j : Int), 0) := ⟨g2, g.dvd, by show (0 : Int) ≤ j; omega, hj⟩
            have hat : 0 ≤ (j : Int) + (k : Nat) * ((n : Int) / r.1) ∧ (j : Int) + (k : Nat) * ((n : Int) / r.1) < n := whl_at W0 (k := k) (by show (k : Int) < r.1; omega)
            have hbar : barB r ((j : Int) + (k : Nat) * ((n : Int) / r.1)).toNat = true := by
              unfold barB
              rw [Int.toNat_of_nonneg hat.1]
              exact decide_eq_true hf
            have hsm : ((((j : Int) + (k : Nat) * ((n : Int) / r.1)).toNat : Nat) : Int) % ((n : Int) / r.1) = (j : Int) % ((n : Int) / r.1) := by
              rw [Int.toNat_of_nonneg hat.1, Int.add_mul_emod_self_right]
            have e1 := g.fix _ (by omega) hbar
            rw [bP_same hsm, hb] at e1
            have e2 : (k : Int) * ((n : Int) / r.1) = (b : Int) - j := by omega
            have e3 : (b : Int) / ((n : Int) / r.1) = k := by
              have : (b : Int) = (j : Int) + (k : Nat) * ((n : Int) / r.1) := by omega
              rw [this, Int.add_mul_ediv_right _ _ (by omega), Int.ediv_eq_zero_of_lt (by omega) hj]
              omega
            omega
        refine q_asgL (xs := [.int (b : Nat)]) (el_is (el_lcR3 (m := r.1.toNat) (fun k => decide (r.2.1 - r.2.2 ≤ ((j : Int) + (k : Nat) * ((n : Int) / r.1)) % r.2.1)) (fun k => .int ((j : Int) + (k : Nat) * ((n : Int) / r.1))) (by one_place) hrg (by omega) (fun _ => rfl) (fun k H7 e7 hk => et_test (ev_ge (ev_mod (ev_var rfl) (ev_var rfl) (by omega)) (ev_sub (ev_var rfl) (ev_var rfl)))) (fun k H7 e7 hk _ => ev_var rfl)) (by rw [hfil]; show [V.int _] = _; rw [hkb])) fun bl H7 nbl e7 h7 => ?_
        have hcb : coef F2 b = coef F b := by
          rw [cF2 b (by omega), b2, if_neg (by omega)]
          omega
        refine q_asg (v := .int (coef F b)) (ev_ixI (j := b) (SqL.of (e7 _ _ hrs)) (ev_var rfl) (ev_op (ev_var rfl) ev_c (rv_ixL (v := .int (b : Nat)) (SqL.of h7) (atI_nat (j := 0) rfl))) (by rw [← hcb]; exact coef_get (by omega))) fun H8 e8 => ?_
        have e68 := e6.trans (e7.trans e8)
        have nbm : ∀ m, m < n → (m : Int) % ((n : Int) / r.1) = j → bP n r m = b := fun m hm h => by
          rw [← hb]
          exact bP_same (by rw [h, hjs])
        have hwls : wlsK n r F (j + 1) = wlsK n r F j ++ if coef F b = 0 then [] else [(r.1, (j : Int), coef F b)] := by
          rw [← hb]
          rfl
        refine s_when (b := !decide (coef F b = 0)) (by one_place) (fun hb0 H9 e9 => ?_) (fun hb0 H9 e9 => ?_)
        · have hc0 : coef F b ≠ 0 := by simpa using hb0
          rw [if_neg hc0] at hwls
          have e79 := e7.trans (e8.trans e9)
          have lws : ws.length < 100000 := by
            have := Paired.length S
            rw [List.length_append] at this
            have h3 := wlsK_len (n := (n : Int)) (r := r) (f := F) j
            omega
          refine q_appU (ys := [.int r.1, .int (j : Nat), .int (coef F b)]) (e79 _ _ hwl) (by one_place) (eu_tup (by one_place) (by show 3 ≤ 100000; decide)) lws fun tp H10 ntp e10 h10 => ?_
          have hwl10 := e10 _ _ (e79 _ _ hwl)
          have e610 := (e79.trans e10)
          have hrs10 : (upd H10 wl (.lst (ws ++ [.ref tp]))) rs = some (.lst (F2.map V.int)) := by
            rw [upd_ne ne]
            exact e610 _ _ hrs
          have S10 : Trs K (upd H10 wl (.lst (ws ++ [.ref tp]))) (ws ++ [.ref tp]) (W ++ wlsK n r F (j + 1)) := by
            rw [hwls, ← List.append_assoc]
            exact ((S.mono e610).upd hwl10).snoc (sqt_upd hwl10 (SqT.of h10))
          have e0 : Ex H (upd H10 wl (.lst (ws ++ [.ref tp]))) := Ex.mut (e6.trans e610) nwlH
          have hpp10 : SqL K (upd H10 wl (.lst (ws ++ [.ref tp]))) pp ps := sql_upd pw (ex_l e610 hpp)
          have R10 : Trs K (upd H10 wl (.lst (ws ++ [.ref tp]))) ps (pwF n) := (R.mono e610).upd hwl10
          have W1 : Whl n (r.1, (j : Int), coef F b) := ⟨g2, g.dvd, by show (0 : Int) ≤ j; omega, hj⟩
          have hwl11 : (upd H10 wl (.lst (ws ++ [.ref tp]))) wl = some (.lst (ws ++ [.ref tp])) := upd_same
          generalize upd H10 wl (.lst (ws ++ [.ref tp])) = H11 at *
          refine s_forR3 (j := (j : Int)) (n := (n : Int)) (s := (n : Int) / r.1) (m := r.1.toNat) (by one_place) hrg (fun k σ' H' => ∃ (F3 : List Int) (x9 : Option V), σ' = [some (.ref a), some (.int (n : Nat)), some (.ref rs), some (.ref wl), some (.int r.1), some (.int r.2.1), some (.int r.2.2), some (.int ((n : Int) / r.1)), some (.int (j : Nat)), x9, some (.ref bl), some (.int (coef F b))] ∧ Ex H H' ∧ SqL K H' pp ps ∧ Trs K H' ps (pwF n) ∧ H' rs = some (.lst (F3.map V.int)) ∧ H' wl = some (.lst (ws ++ [.ref tp])) ∧ Trs K H' (ws ++ [.ref tp]) (W ++ wlsK n r F (j + 1)) ∧ F3.length = n ∧ ∀ m, m < n → coef F3 m = coef F2 m - whK n (r.1, (j : Int), coef F b) k m)
            (fun H12 e12 => ⟨F2, _, rfl, e0.trans e12, ex_l e12 hpp10, R10.mono e12, e12 _ _ hrs10, e12 _ _ hwl11, S10.mono e12, lF2, fun m hm => by rw [whK_zero W1]; omega⟩) (fun k σ' H' hk hp => ?_) (fun σ' H' hp => ?_)
          · obtain ⟨F3, x9, rfl, f1, f2, f3, f4, f5, f6, lF3, cF3⟩ := hp
            have hat : 0 ≤ (j : Int) + (k : Int) * ((n : Int) / r.1) ∧ (j : Int) + (k : Int) * ((n : Int) / r.1) < n := whl_at W1 (k := k) (by show (k : Int) < r.1; omega)
            have epos : (((((j : Int) + (k : Int) * ((n : Int) / r.1)).toNat : Nat) : Int)) = (j : Int) + (k : Int) * ((n : Int) / r.1) := by omega
            have hstep := fun m => whK_step W1 (k := k) (m := m) epos
            have epos2 := epos.symm
            generalize ((j : Int) + (k : Int) * ((n : Int) / r.1)).toNat = pos at *
            rw [epos2]
            refine s_augL (f := fun i j => i - j) (j := pos) (a := coef F3 pos) (b := coef F b) f4 (by one_place) (by one_place) (coef_get (by omega)) (by one_place) fun H13 e13 => ⟨_, _, rfl, Ex.mut (f1.trans e13) nrsH, sql_upd pr (ex_l e13 f2), (f3.mono e13).upd (e13 _ _ f4), upd_same, by rw [upd_ne ne.symm]; exact e13 _ _ f5, (f6.mono e13).upd (e13 _ _ f4), by rw [List.length_set]; exact lF3, fun m hm => ?_⟩
            rw [coef_set (by omega), cF3 m hm, cF3 pos (by omega), hstep]
            by_cases e : m = pos
            · rw [if_pos e, if_pos e, e]
              show _ - _ - coef F b = _ - (_ + coef F b)
              omega
            · rw [if_neg e, if_neg e]
              omega
          · obtain ⟨F3, x9, rfl, f1, f2, f3, f4, f5, f6, lF3, cF3⟩ := hp
            refine ⟨F3, _, _, _, _, _, rfl, f1, f2, f3, f4, f5, f6, lF3, fun m hm => ?_⟩
            have hwa : whK n (r.1, (j : Int), coef F b) r.1.toNat m = wh n (r.1, (j : Int), coef F b) m := whK_all W1 (m := m) (by omega)
            rw [cF3 m hm, hwa, cF2 m hm]
            show _ - (if (m : Int) % ((n : Int) / r.1) = (j : Int) then coef F b else 0) = _
            by_cases e : (m : Int) % ((n : Int) / r.1) = j
            · rw [if_neg (by omega), if_pos e, if_pos (by omega), nbm m hm e]
              omega
            · rw [if_neg e]
              split <;> split <;> omega
        · have hc0 : coef F b = 0 := by simpa using hb0
          rw [if_pos hc0, List.append_nil] at hwls
          refine ⟨F2, ws, _, _, _, _, rfl, e68.trans e9, ex_l (e7.trans (e8.trans e9)) hpp, R.mono (e7.trans (e8.trans e9)), (e7.trans (e8.trans e9)) _ _ hrs, (e7.trans (e8.trans e9)) _ _ hwl, by rw [hwls]; exact S.mono (e7.trans (e8.trans e9)), lF2, fun m hm => ?_⟩
          rw [cF2 m hm]
          by_cases e : (m : Int) % ((n : Int) / r.1) = j
          · rw [if_neg (by omega), if_pos (by omega), nbm m hm e, hc0]
          · split <;> split <;> omega
      · obtain ⟨F2, ws2, x8, x9, x10, x11, rfl, e6, hpp, R, hrs, hwl, S, lF2, cF2⟩ := hp
        have eF : F2 = gStep n r F := by
          refine mkL_of (by omega) fun m hm => ?_
          have hlt := Int.emod_lt_of_pos (m : Int) (show 0 < (n : Int) / r.1 by omega)
          rw [cF2 m (by omega), if_pos (by omega)]
        subst eF
        refine ⟨_, ws2, _, _, _, _, _, _, _, _, _, rfl, e6, hpp, R, pr, pw, hrs, hwl, S, lF2, ?_, iF, ?_⟩
        · rw [List.length_append]
          have := wlsK_len (n := (n : Int)) (r := r) (f := F) ((n : Int) / r.1).toNat
          omega
        · rw [List.append_assoc]
          exact iW
    · obtain ⟨F, ws, W, x4, x5, x6, x7, x8, x10, x11, x9, rfl, e4, hpp, R, pr, pw, hrs, hwl, S, lF, lW, iF, iW⟩ := hp
      rw [List.drop_length] at iF iW
      have iF2 : F = grF n f := iF
      have iW2 : W = wlF n (pwF n) f := by rw [← iW]; exact (List.append_nil W).symm
      subst iF2 iW2
      refine s_retU (xs := [.ref rs, .ref wl]) (eu_tup (by one_place) (by show 2 ≤ 100000; decide)) fun t H5 nt e5 h5 => ?_
      exact q t rs wl ws H5 (fresh_back e4 nt) nrsH nwlH ne (e4.trans e5) h5 (e5 _ _ hrs) (e5 _ _ hwl) (S.mono e5)
end

section
variable {K : PySem.W.Frag} {σ : L2.St} {H : Hp} {te : TE} {D : Ends} {tz : TS} {f : List Int} {rows : List I3}
def EvG (K : PySem.W.Frag) (te : TE) (σ : L2.St) (H : Hp) (f : List Int) (rows : List I3) : Prop := ∀ H1, Ex H H1 → ∀ Q : VK, RetG K f rows H1 Q → te σ H1 Q
theorem RetG.back {Q : VK} {H1 : Hp} (e : Ex H H1) (q : RetG K f rows H Q) : RetG K f rows H1 Q := fun t p w ws H2 nt np nw ne e2 h1 h2 h3 R => q t p w ws H2 (fresh_back e nt) (fresh_back e np) (fresh_back e nw) ne (e.trans e2) h1 h2 h3 R
theorem evG_cal {sp : Sp} {vs : List V} {E : XK} {ta : TA} (h : EvA ta σ H vs) (hs : ∀ H1, Ex H H1 → ∀ Q : VK, RetG K f rows H1 Q → ∀ E : XK, sp vs H1 Q E) : EvG K (tCall sp [] E ta) σ H f rows := fun H1 e Q q =>
  h H1 e _ fun H2 e2 => by
    show sp (vs ++ []) H2 Q E
    rw [List.append_nil]
    exact hs H2 (e.trans e2) Q (q.back e2) E
theorem q_asgG {i : Nat} (h : EvG K te σ H f rows) (k : ∀ t p w ws H1, Ex H H1 → H1 t = some (.tup [.ref p, .ref w]) → H1 p = some (.lst (f.map V.int)) → H1 w = some (.lst ws) → Trs K H1 ws rows → tz D (σ.set i (some (.ref t))) H1) : tSeq (tAsg te (gName i)) tz D σ H :=
  h H (Ex.refl H) _ fun t p w ws H1 _ _ _ _ e h1 h2 h3 R => k t p w ws H1 e h1 h2 h3 R
/-- for x in (a new list, a new list): x.append(..) -/
theorem q_forG {j : Nat} {u : V} (h : EvG K te σ H f rows) (hf : f.length < 50000) (hr : rows.length < 50000) (hj : j < σ.length) (k : ∀ x H1, Ex H H1 → tz D (σ.set j x) H1) :
    tSeq (tFor (iTup K te) (gName j) (tDrop (tBM K "list" rAppend (tVar j) (tCons (tC u) tNil)))) tz D σ H :=
  h H (Ex.refl H) _ fun t p w ws H1 nt np nw ne e ht hp hw R => ⟨t, rfl, ⟨_, SqT.of ht⟩, for_tup (xs := [.ref p, .ref w])
    (fun i σ' H' => (∃ x, σ' = σ.set j x) ∧ Ex H H' ∧ H' t = some (.tup [.ref p, .ref w]) ∧ (∃ xs, H' p = some (.lst xs) ∧ xs.length < 50000 + i) ∧ ∃ xs, H' w = some (.lst xs) ∧ xs.length < 50000 + i)
    ⟨⟨σ[j], (List.set_getElem_self hj).symm⟩, e, ht, ⟨_, hp, by rw [List.length_map]; omega⟩, ⟨_, hw, by rw [Paired.length R]; omega⟩⟩ (fun i σ' H' _ q => SqT.of q.2.2.1) (fun i x σ' H' hx q => by
      obtain ⟨⟨y, rfl⟩, q2, q3, ⟨xs, q4, q5⟩, ⟨ys, q6, q7⟩⟩ := q
      have hi : i < 2 := (List.getElem?_eq_some_iff.mp hx).1
      rcases i with _ | _ | i
      · obtain rfl : V.ref p = x := Option.some.inj hx
        refine s_app q4 (ev_var (by rw [List.getElem?_set_self (by rw [List.length_set]; exact hj)])) ev_c (by omega) fun H3 e3 => ⟨⟨_, List.set_set ..⟩, Ex.mut (q2.trans e3) np, ?_, ⟨_, upd_same, by rw [List.length_append, List.length_singleton]; omega⟩, ⟨ys, ?_, by omega⟩⟩
        · rw [upd_ne (ne_of q3 q4 (by intro z; cases z))]
          exact e3 _ _ q3
        · rw [upd_ne ne.symm]
          exact e3 _ _ q6
      · obtain rfl : V.ref w = x := Option.some.inj hx
        refine s_app q6 (ev_var (by rw [List.getElem?_set_self (by rw [List.length_set]; exact hj)])) ev_c (by omega) fun H3 e3 => ⟨⟨_, List.set_set ..⟩, Ex.mut (q2.trans e3) nw, ?_, ⟨xs, ?_, by omega⟩, ⟨_, upd_same, by rw [List.length_append, List.length_singleton]; omega⟩⟩
        · rw [upd_ne (ne_of q3 q6 (by intro z; cases z))]
          exact e3 _ _ q3
        · rw [upd_ne ne]
          exact e3 _ _ q4
      · omega) (fun σ' H' q => by
      obtain ⟨⟨x, rfl⟩, q2, _⟩ := q
      exact k x H' q2)⟩
end
section
variable {K : PySem.W.Frag} {σ : L2.St} {H : Hp} {te ta : TE} {D : Ends} {tz : TS} {f : List Int} {rows : List I3}
/-- rest, wheels = what grounded tells -/
theorem q_unG {i j : Nat} (h : EvG K te σ H f rows) (k : ∀ t p w ws H1, H t = none → H p = none → H w = none → p ≠ w → Ex H H1 → H1 t = some (.tup [.ref p, .ref w]) → H1 p = some (.lst (f.map V.int)) → H1 w = some (.lst ws) → Trs K H1 ws rows → tz D ((σ.set i (some (.ref p))).set j (some (.ref w))) H1) :
    tSeq (tAsg te (gTup K 2 (gCons (gName i) (gCons (gName j) gNil)))) tz D σ H :=
  h H (Ex.refl H) _ fun t p w ws H1 nt np nw ne e ht hp hw R => ⟨t, _, rfl, SqT.of ht, rfl, .ref p, [.ref w], rfl, .ref w, [], rfl, rfl, k t p w ws H1 nt np nw ne e ht hp hw R⟩
/-- grounded(..)[0], a new list -/
theorem el_ixG {v : V} (h : EvG K te σ H f rows) : EvL (tOp (rIxT K) te (tC (.int 0))) σ H (f.map V.int) := fun H1 e Q q =>
  h H1 e _ fun t p w ws H2 nt np nw ne e2 ht hp hw R => rv_ixT (v := .ref p) (SqT.of ht) (atI_nat (j := 0) rfl) H2 (Ex.refl H2) _ fun H3 e3 => q p H3 np (e2.trans e3) (e3 _ _ hp)
end
theorem dec_not {p : Prop} [Decidable p] (h : p) : (!decide p) = false := by
  rw [decide_eq_true h]
  rfl
theorem wlF_len {n : Nat} (n1 : 1 ≤ n) (n2 : n ≤ 61) (f : List Int) : (wlF n (pwF n) f).length ≤ 244 := by
  have G := gok (n := (n : Int)) (by omega) (by omega)
  have N := nok (n := (n : Int)) (by omega) (by omega)
  have key : ∀ (rs : List I3) (f : List Int), (∀ r ∈ rs, (n : Int) / r.1 ≤ 61) → (wlF n rs f).length ≤ 61 * rs.length := by
    intro rs
    induction rs with
    | nil => exact fun _ _ => Nat.le_refl _
    | cons r rs ih =>
      intro f h
      have h1 := h r (List.mem_cons_self ..)
      have h2 := wlsK_len (n := (n : Int)) (r := r) (f := f) ((n : Int) / r.1).toNat
      have h3 := ih (gStep n r f) fun z hz => h z (List.mem_cons_of_mem _ hz)
      show (wlsK n r f ((n : Int) / r.1).toNat ++ wlF n rs (gStep n r f)).length ≤ 61 * (rs.length + 1)
      rw [List.length_append]
      omega
  have h4 : (pwF n).length ≤ 4 := by rw [G.same, List.length_map]; exact N.len
  have := key (pwF n) f fun r hr => by have := ((G.all r hr).step (by omega)).2.1; omega
  omega
theorem gr_sum {n : Nat} (n1 : 1 ≤ n) (n2 : n ≤ 61) {f : List Int} (hf : f.length = n) : addS (grF n f) (cmS n (wlF n (pwF n) f)) = f := by
  have G := gok (n := (n : Int)) (by omega) (by omega)
  have l1 : ((grF n f).length : Int) = n := grF_len (by omega)
  have l2 : (cmS n (wlF n (pwF n) f)).length = n := mkL_len _ _
  refine ext_of (by rw [addS_len (by omega)]; omega) fun m hm => ?_
  rw [addS_len (by omega)] at hm
  have hmn : m < n := by omega
  rw [coef_addS (by omega)]
  unfold cmS
  rw [coef_mkL, if_pos hmn]
  exact gr_makes (by omega) (pwF n) f G.all m (by omega)

/- sum_times: slots 0 one, 1 other, 2 n, 3 total, 4 i, 5 a, 6 j, 7 b; calls  -/
abbrev s_sum_times : Stmt := topS 8
theorem sc_sum_times : FnScope ["one", "other", "n", "total", "i", "a", "j", "b"] ["one", "other"] (defScope s_sum_times) := ⟨rfl, rfl, rfl, by decide +kernel, rfl, by decide +kernel, by decide +kernel⟩

def spSTimes (K : PySem.W.Frag) : Sp := fun vs H Q _ => ∃ (a b : Addr) (f g : List Int) (n m : Nat), vs = [.ref a, .ref b] ∧ SqL K H a (f.map V.int) ∧ SqL K H b (g.map V.int) ∧ f.length = g.length ∧ f.length ≤ 10000 ∧ Bd n f ∧ Bd m g ∧ n + m ≤ 900000 ∧ RetL ((mulS f g).map V.int) H Q
section
variable {P : Program} {w : World} {K : PySem.W.Frag} {mg : Str → Option Value} {base : Heap}
theorem cal_stimes (nb : Nb mg) (d : Dfn K mg "sum_times" ["one", "other"] s_sum_times) : Cal P w K mg base CX0 "sum_times" 1 ["one", "other"] (spSTimes K) := by
  refine d.cal sc_sum_times (fun vs H Q E h => ?_) (fun fa cdv A outer s H vs Q E hr h => ?_)
  · obtain ⟨a, b, f, g, n, m, rfl, _⟩ := h
    rfl
  · obtain ⟨a, b, f, g, bn, bm, rfl, hF, hG, hl, zf, bf, bg, hnm, q⟩ := h
    refine ⟨_, (pss_cons (ps_set (i := 2) sc_sum_times.nd rfl (.inl rfl) (pe_callB call_len_seq (by rfl) nb.len PySem.boot_len (pa_cons (pv 0) pa_nil)))
      (pss_cons (ps_set (i := 3) sc_sum_times.nd rfl (.inl rfl) (pe_op op_rep (pe_lst (pa_cons pe_int pa_nil)) (pv 2)))
      (pss_cons (ps_for PassesOwn.never rfl (pi_enum (by rfl) nb.enumerate (pa_cons (pv 0) pa_nil)) (pg_tup (by rfl) (pgs_cons (pg_name (i := 4) sc_sum_times.nd rfl (.inl rfl)) (pgs_cons (pg_name (i := 5) sc_sum_times.nd rfl (.inl rfl)) pgs_nil))) (pss_one (ps_if (pt_cmpR op_ne (pv 5) pe_int (nomark _)) (pss_one (ps_for PassesOwn.never rfl (pi_enum (by rfl) nb.enumerate (pa_cons (pv 1) pa_nil)) (pg_tup (by rfl) (pgs_cons (pg_name (i := 6) sc_sum_times.nd rfl (.inl rfl)) (pgs_cons (pg_name (i := 7) sc_sum_times.nd rfl (.inl rfl)) pgs_nil))) (pss_one (ps_augS (pv 3) (pe_op op_mod (pe_op op_add (pv 4) (pv 6)) (pv 2)) get_list (pe_op op_mulW (pv 5) (pv 7)) ip_add set_list)))) pss_nil)))
      (pss_one (ps_ret (pv 3)))))), ?_⟩
    refine q_asg (v := .int ((f.length : Nat) : Int)) (ev_is (ev_len (ev_var rfl) hF) (by rw [List.length_map])) fun H1 e1 => ?_
    refine q_asgL (xs := (List.replicate f.length (0 : Int)).map V.int) (el_is (el_rep (k := (f.length : Int)) (el_lst (by one_place) (by decide)) (by one_place) (by omega) (by omega)) (by rw [List.map_replicate, Int.toNat_natCast])) fun t H2 nt e2 h2 => ?_
    have e02 := e1.trans e2
    have ntH : H t = none := fresh_back e1 nt
    refine q_forE (xs := f.map V.int) (by one_place) (ex_l e02 hF) (fun i σ' H' => ∃ (T : List Int) (x y z u : Option V), σ' = [some (.ref a), some (.ref b), some (.int ((f.length : Nat) : Int)), some (.ref t), x, y, z, u] ∧ Ex H H' ∧ H' t = some (.lst (T.map V.int)) ∧ T.length = f.length ∧ ∀ m, m < f.length → coef T m = cs f g f.length i m)
      (fun H3 e3 => ⟨_, none, none, none, none, rfl, e02.trans e3, e3 _ _ h2, List.length_replicate, fun m _ => coef_rep⟩) (fun i σ' H' _ hp => ?_) (fun i x σ' H' hx hp H3 e3 => ?_) (fun σ' H' hp => ?_)
    · obtain ⟨_, _, _, _, _, _, e3, _⟩ := hp
      exact ex_l e3 hF
    · obtain ⟨T, x1, x2, x3, x4, rfl, e4, h4, hT, hc⟩ := hp
      obtain ⟨z, hz, rfl⟩ := map_get hx
      have hi := (List.getElem?_eq_some_iff.mp hz).1
      refine s_when (b := !decide (z = 0)) (by one_place) (fun hb H5 e5 => ?_) (fun hb H5 e5 => ?_)
      · refine s_forE (xs := g.map V.int) (by one_place) (ex_l ((e4.trans e3).trans e5) hG) (fun j σ' H' => ∃ (T : List Int) (x y : Option V), σ' = [some (.ref a), some (.ref b), some (.int ((f.length : Nat) : Int)), some (.ref t), some (.int (i : Nat)), some (.int z), x, y] ∧ Ex H H' ∧ H' t = some (.lst (T.map V.int)) ∧ T.length = f.length ∧ ∀ m, m < f.length → coef T m = cs f g f.length i m + if (m + f.length - i) % f.length < j then coef f i * coef g ((m + f.length - i) % f.length) else 0)
          (fun H6 e6 => ⟨T, _, _, rfl, ((e4.trans e3).trans e5).trans e6, (e5.trans e6) _ _ (e3 _ _ h4), hT, fun m hm => ?_⟩) (fun j σ' H' _ hp => ?_) (fun j x σ' H' hx hp H6 e6 => ?_) (fun σ' H' hp => ?_)
        · rw [hc m hm, if_neg (by omega)]
          omega
        · obtain ⟨_, _, _, _, e6, _⟩ := hp
          exact ex_l e6 hG
        · obtain ⟨T, y1, y2, rfl, e7, h7, hT, hc⟩ := hp
          obtain ⟨y, hy, rfl⟩ := map_get hx
          have hj := (List.getElem?_eq_some_iff.mp hy).1
          have hj2 : j < f.length := by omega
          have hlt : (i + j) % f.length < f.length := Nat.mod_lt _ (by omega)
          refine s_augL (j := (i + j) % f.length) (a := coef T ((i + j) % f.length)) (b := z * y) (e6 _ _ h7) (by one_place) (ev_is (ev_mod (ev_add (ev_var rfl) (ev_var rfl)) (ev_var rfl) (by omega)) (by rfl)) (coef_get (by omega)) (ev_mul (ev_var rfl) (ev_var rfl) (mulB (bf.at hz) (bg.at hy) hnm)) fun H8 e8 => ⟨_, _, _, rfl, Ex.mut ((e7.trans e6).trans e8) ntH, upd_same, by rw [List.length_set]; exact hT, fun m hm => ?_⟩
          rw [coef_set (by omega), hc m hm, hc _ hlt]
          have key := addmod_eq hi hj2 hm
          by_cases e : m = (i + j) % f.length
          · have k2 := key.mp e
            rw [if_pos e, ← e, k2, if_neg (Nat.lt_irrefl j), if_pos (by omega), coef_of hz, coef_of hy]
            omega
          · rw [if_neg e]
            have k2 : (m + f.length - i) % f.length ≠ j := fun q => e (key.mpr q)
            split <;> split <;> first | rfl | omega
        · obtain ⟨T, y1, y2, rfl, e7, h7, hT, hc⟩ := hp
          refine ⟨T, _, _, _, _, rfl, e7, h7, hT, fun m hm => ?_⟩
          rw [List.length_map] at hc
          rw [hc m hm, cs, if_pos (by rw [← hl]; exact Nat.mod_lt _ (by omega))]
      · have hz0 : z = 0 := by
          rw [Bool.not_eq_false', decide_eq_true_iff] at hb
          exact hb
        refine ⟨T, _, _, _, _, rfl, (e4.trans e3).trans e5, e5 _ _ (e3 _ _ h4), hT, fun m hm => ?_⟩
        rw [hc m hm, cs, coef_of hz, hz0, Int.zero_mul]
        omega
    · obtain ⟨T, x1, x2, x3, x4, rfl, e4, h4, hT, hc⟩ := hp
      rw [List.length_map] at hc
      have eT : T = mulS f g := mkL_of hT fun m hm => hc m hm
      refine s_ret (v := .ref t) (by one_place) fun H5 e5 => ?_
      exact q.go (Ex.refl H) ntH (e4.trans e5) (by rw [← eT]; exact e5 _ _ h4)
end

/- units: slots 0 n, 1 k; calls  -/
abbrev s_units : Stmt := topS 6
theorem sc_units : FnScope ["n", "k"] ["n"] (defScope s_units) := ⟨rfl, rfl, rfl, by decide +kernel, rfl, by decide +kernel, by decide +kernel⟩

def unitsF (n : Int) : List Nat := (List.range n.toNat).filter fun k => Nat.gcd k n.natAbs == 1
def spUnits : Sp := fun vs H Q _ => ∃ n : Int, vs = [.int n] ∧ 1 ≤ n ∧ n ≤ 40000 ∧ RetL ((unitsF n).map fun k => V.int (k : Nat)) H Q
section
variable {P : Program} {w : World} {K : PySem.W.Frag} {mg : Str → Option Value} {base : Heap}
theorem cal_units (nb : Nb mg) (nb_gcd : mg "gcd" = some (.builtin "math.gcd")) (d : Dfn K mg "units" ["n"] s_units) : Cal P w K mg base CX0 "units" 1 ["n"] spUnits := by
  refine d.cal sc_units (fun vs H Q E h => ?_) (fun f cdv A outer s H vs Q E hr h => ?_)
  · obtain ⟨a, rfl, _⟩ := h
    rfl
  · obtain ⟨n, rfl, n1, n2, q⟩ := h
    refine ⟨_, (pss_one (ps_ret (pe_lc (own := [("k", 1)]) (g := gName 1) (by rfl) sc_units.nd (pi_range1 (by rfl) nb.range (pa_cons (pv 0) pa_nil)) (blkOk_by (N := ["n", "k"]) (sc := defScope s_units) (by decide +kernel)) (fun _ _ _ _ _ => (pg_name (i := 1) sc_units.nd rfl (Or.inl rfl))) (fun _ _ _ _ _ => pts_one (pt_cmpR op_eq (pe_callBfun cr_gcd (by rfl) nb_gcd (pa_cons (pv 1) (pa_cons (pv 0) pa_nil))) pe_int (nomark _))) (fun _ _ _ _ _ => (pv 1))))), ?_⟩
    refine s_retL (el_lcR1 (n := n) (fun k => Nat.gcd k n.natAbs == 1) (fun k => .int (k : Nat)) (by one_place) (by omega) (fun x => rfl) (fun i H1 e1 hi => ?_) (fun i H1 e1 hi hf => ?_)) fun p H1 hp e1 h1 => q p H1 hp e1 h1
    · refine et_is (et_test (ev_eqI (ev_gcd (a := (i : Int)) (b := n) (ev_var rfl) (ev_var rfl)) ev_c)) ?_
      rw [Int.natAbs_natCast]
      refine Bool.eq_iff_iff.mpr ?_
      rw [decide_eq_true_iff, beq_iff_eq]
      omega
    · exact ev_var rfl
end

/-! ### led by units, of the program -/
section
variable {K : PySem.W.Frag} {σ : L2.St} {H : Hp} {te tl : TE} {t : TT} {vs : List Nat}
/-- over a new list of numbers -/
theorem el_lcNI {ns : List Int} {j : Nat} (f : Int → Bool) (w : Int → V) (h : EvL tl σ H (ns.map V.int)) (hz : ns.length ≤ 40000)
    (hw : ∀ x, wipe ((wipe σ vs).set j (some x)) vs = wipe σ vs)
    (ht : ∀ r H1, Ex H H1 → r ∈ ns → EvT t ((wipe σ vs).set j (some (.int r))) H1 (f r)) (he : ∀ r H1, Ex H H1 → r ∈ ns → f r = true → Ev te ((wipe σ vs).set j (some (.int r))) H1 (w r)) :
    EvL (tLc (iList K tl) (gName j) t te vs) σ H ((ns.filter f).map w) := fun H0 e Q q => h H0 e _ fun p H1 np e1 h1 =>
  (el_lcI (K := K) (tl := fun _ H Q => Q (.ref p) H) (σ := σ) (H := H1) (ns := ns) (j := j) (t := t) (te := te) (vs := vs) f w (fun H2 e2 Q q => q H2 (Ex.refl H2)) (SqL.of h1) hz hw (fun r H2 e2 hr => ht r H2 ((e.trans e1).trans e2) hr) (fun r H2 e2 hr hf => he r H2 ((e.trans e1).trans e2) hr hf)) H1 (Ex.refl H1) Q fun p' H2 np' e2 h2 => q p' H2 (fresh_back e1 np') (e1.trans e2) h2
end
/-- the writes of led, the first i -/
def ledK (k n : Nat) (f : List Int) : Nat → List Int
  | 0 => List.replicate n 0
  | i + 1 => (ledK k n f i).set (k * i % n) (coef f i)
theorem ledK_len (k n : Nat) (f : List Int) : ∀ i, (ledK k n f i).length = n
  | 0 => List.length_replicate
  | i + 1 => by
    show ((ledK k n f i).set _ _).length = n
    rw [List.length_set, ledK_len k n f i]
def ledF (f : List Int) (k : Nat) : List Int := ledK k f.length f f.length
theorem ledF_len (f : List Int) (k : Nat) : (ledF f k).length = f.length := ledK_len ..
/- led: slots 0 some, 1 k, 2 n, 3 told, 4 place, 5 number; calls  -/
abbrev s_led : Stmt := topS 14
theorem sc_led : FnScope ["some", "k", "n", "told", "place", "number"] ["some", "k"] (defScope s_led) := ⟨rfl, rfl, rfl, by decide +kernel, rfl, by decide +kernel, by decide +kernel⟩

def spLed (K : PySem.W.Frag) : Sp := fun vs H Q _ => ∃ (a : Addr) (f : List Int) (k : Nat), vs = [.ref a, .int (k : Nat)] ∧ SqL K H a (f.map V.int) ∧ 1 ≤ f.length ∧ f.length ≤ 400 ∧ k ≤ 400 ∧ RetL ((ledF f k).map V.int) H Q
section
variable {P : Program} {w : World} {K : PySem.W.Frag} {mg : Str → Option Value} {base : Heap}
theorem cal_led (nb : Nb mg) (d : Dfn K mg "led" ["some", "k"] s_led) : Cal P w K mg base CX0 "led" 1 ["some", "k"] (spLed K) := by
  refine d.cal sc_led (fun vs H Q E h => ?_) (fun fa cdv A outer s H vs Q E hr h => ?_)
  · obtain ⟨a, f, k, rfl, _⟩ := h
    rfl
  · obtain ⟨a, f, k, rfl, hF, n1, n2, hk, q⟩ := h
    refine ⟨_, (pss_cons (ps_set (i := 2) sc_led.nd rfl (.inl rfl) (pe_callB call_len_seq (by rfl) nb.len PySem.boot_len (pa_cons (pv 0) pa_nil)))
      (pss_cons (ps_set (i := 3) sc_led.nd rfl (.inl rfl) (pe_op op_rep (pe_lst (pa_cons pe_int pa_nil)) (pv 2)))
      (pss_cons (ps_for PassesOwn.never rfl (pi_enum (by rfl) nb.enumerate (pa_cons (pv 0) pa_nil)) (pg_tup (by rfl) (pgs_cons (pg_name (i := 4) sc_led.nd rfl (.inl rfl)) (pgs_cons (pg_name (i := 5) sc_led.nd rfl (.inl rfl)) pgs_nil))) (pss_one (ps_asg (pv 5) (pg_sub (pv 3) (pe_op op_mod (pe_op op_mulW (pv 1) (pv 4)) (pv 2)) set_list))))
      (pss_one (ps_ret (pv 3)))))), ?_⟩
    refine q_asg (v := .int ((f.length : Nat) : Int)) (ev_is (ev_len (ev_var rfl) hF) (by rw [List.length_map])) fun H1 e1 => ?_
    refine q_asgL (xs := (List.replicate f.length (0 : Int)).map V.int) (el_is (el_rep (k := ((f.length : Nat) : Int)) (x := .int 0) (el_lst (by one_place) (by decide)) (ev_var rfl) (by omega) (by omega)) (by rw [List.map_replicate, Int.toNat_natCast])) fun t H2 nt e2 h2 => ?_
    have ntH : H t = none := fresh_back e1 nt
    refine q_forE (xs := f.map V.int) (by one_place) (ex_l (e1.trans e2) hF) (fun i σ' H' => ∃ (x y : Option V), σ' = [some (.ref a), some (.int (k : Nat)), some (.int ((f.length : Nat) : Int)), some (.ref t), x, y] ∧ Ex H H' ∧ H' t = some (.lst ((ledK k f.length f i).map V.int)))
      (fun H3 e3 => ⟨none, none, rfl, (e1.trans e2).trans e3, e3 _ _ h2⟩) (fun i σ' H' _ hp => ?_) (fun i x σ' H' hx hp H3 e3 => ?_) (fun σ' H' hp => ?_)
    · obtain ⟨_, _, _, e3, _⟩ := hp
      exact ex_l e3 hF
    · obtain ⟨x1, x2, rfl, e4, h4⟩ := hp
      obtain ⟨z, hz, rfl⟩ := map_get hx
      have hi := (List.getElem?_eq_some_iff.mp hz).1
      have hzc : coef f i = z := coef_of hz
      have kb : k * i ≤ 400 * 400 := Nat.mul_le_mul hk (by omega)
      have hm := Nat.mod_lt (k * i) (show 0 < f.length by omega)
      have hcast : (((k * i % f.length : Nat)) : Int) = (k : Int) * (i : Int) % (f.length : Int) := by
        rw [Int.natCast_emod, Int.natCast_mul]
      refine s_setI (j := k * i % f.length) (b := z) (e3 _ _ h4) (by one_place) (ev_is (ev_mod (ev_mul (ev_var rfl) (ev_var rfl) (mulW (by omega) (by omega))) (ev_var rfl) (by omega)) (by rw [hcast])) (by rw [ledK_len]; exact hm) (ev_var rfl) fun H5 e5 => ⟨_, _, rfl, Ex.mut ((e4.trans e3).trans e5) ntH, ?_⟩
      rw [upd_same]
      show _ = some (HO.lst (((ledK k f.length f i).set (k * i % f.length) (coef f i)).map V.int))
      rw [hzc]
    · obtain ⟨x1, x2, rfl, e4, h4⟩ := hp
      rw [List.length_map] at h4
      exact s_ret (v := .ref t) (by one_place) fun H5 e5 => q t H5 ntH (e4.trans e5) (e5 _ _ h4)
end
/- rest_of: slots 0 some; calls grounded -/
abbrev s_rest_of : Stmt := topS 15
theorem sc_rest_of : FnScope ["some"] ["some"] (defScope s_rest_of) := ⟨rfl, rfl, rfl, by decide +kernel, rfl, by decide +kernel, by decide +kernel⟩

def spRest (K : PySem.W.Frag) : Sp := fun vs H Q _ => ∃ (a : Addr) (f : List Int), vs = [.ref a] ∧ SqL K H a (f.map V.int) ∧ 1 ≤ f.length ∧ f.length ≤ 61 ∧ RetL ((grF f.length f).map V.int) H Q
section
variable {P : Program} {w : World} {K : PySem.W.Frag} {mg : Str → Option Value} {base : Heap}
theorem cal_rest (nb : Nb mg) (c_grounded : Cal P w K mg base CX0 "grounded" 3 ["some"] (spGr K)) (d : Dfn K mg "rest_of" ["some"] s_rest_of) : Cal P w K mg base CX0 "rest_of" 4 ["some"] (spRest K) := by
  refine d.cal sc_rest_of (fun vs H Q E h => ?_) (fun fa cdv A outer s H vs Q E hr h => ?_)
  · obtain ⟨a, f, rfl, _⟩ := h
    rfl
  · obtain ⟨a, f, rfl, hA, n1, n2, q⟩ := h
    refine ⟨_, (pss_one (ps_ret (pe_ix ix_tup (pe_cal c_grounded (hr.mono (by first | decide | omega)) (by rfl) pass0 (pa_cons (pv 0) pa_nil)) pe_int (fun _ _ => rfl)))), ?_⟩
    exact s_retL (el_ixG (v := .non) (f := grF f.length f) (rows := wlF f.length (pwF f.length) f) (evG_cal (vs := [.ref a]) (by one_place) fun H1 e1 Q k E => ⟨a, f, rfl, ex_l e1 hA, n1, n2, k⟩)) fun p H1 np e1 h1 => q p H1 np e1 h1
end
def keepF (f : List Int) : List Nat := (unitsF f.length).filter fun k => decide (grF f.length (ledF f k) = grF f.length f)

/-! ### traces and norms, of the program -/
theorem bd_mono {a b : Nat} {f : List Int} (h : Bd a f) (l : a ≤ b) : Bd b f := fun m => Nat.lt_of_lt_of_le (h m) (Nat.pow_le_pow_right (by decide) l)
theorem cs_bd {a b n : Nat} {f g : List Int} (hf : Bd a f) (hg : Bd b g) (m : Nat) : ∀ i, (cs f g n i m).natAbs ≤ i * 2 ^ (a + b)
  | 0 => by
    show (0 : Int).natAbs ≤ _
    omega
  | i + 1 => by
    have h1 := cs_bd (n := n) hf hg m i
    have h2 := wide_lt (hf i) (hg ((m + n - i) % n))
    show (cs f g n i m + coef f i * coef g ((m + n - i) % n)).natAbs ≤ (i + 1) * 2 ^ (a + b)
    rw [Nat.add_mul, Nat.one_mul]
    omega
theorem mulS_bd {a b : Nat} {f g : List Int} (hf : Bd a f) (hg : Bd b g) (hl : f.length ≤ 63) : Bd (a + b + 6) (mulS f g) := fun m => by
  unfold mulS
  rw [coef_mkL]
  split
  · have h := cs_bd (n := f.length) hf hg m f.length
    have h2 : f.length * 2 ^ (a + b) < 2 ^ (a + b + 6) := by
      rw [Nat.pow_add 2 (a + b) 6, Nat.mul_comm]
      exact Nat.mul_lt_mul_of_pos_left (show f.length < 2 ^ 6 by omega) (Nat.two_pow_pos _)
    omega
  · exact Nat.two_pow_pos _
theorem gStep_bd {a : Nat} {n : Int} {r : J3} {f : List Int} (h : Bd a f) : Bd (a + 1) (gStep n r f) := fun m => by
  unfold gStep
  rw [coef_mkL]
  split
  · have h1 := h m
    have h2 := h (bP n r m)
    rw [Nat.pow_succ]
    omega
  · exact Nat.two_pow_pos _
theorem fold_bd {n : Int} : ∀ (rs : List J3) {a : Nat} {f : List Int}, Bd a f → Bd (a + rs.length) (rs.foldl (fun f r => gStep n r f) f)
  | [], _, _, h => h
  | r :: rs, a, f, h => by
    have := fold_bd (n := n) rs (gStep_bd (n := n) (r := r) h)
    rw [List.length_cons]
    rw [show a + (rs.length + 1) = a + 1 + rs.length by omega]
    exact this
theorem grF_bd {a n : Nat} {f : List Int} (h : Bd a f) (n1 : 1 ≤ n) (n2 : n ≤ 61) : Bd (a + 4) (grF n f) := by
  have G := gok (n := (n : Int)) (by omega) (by omega)
  have N := nok (n := (n : Int)) (by omega) (by omega)
  have h4 : (pwF n).length ≤ 4 := by rw [G.same, List.length_map]; exact N.len
  exact bd_mono (fold_bd (n := (n : Int)) (pwF n) h) (by omega)
theorem ledK_bd {k n b : Nat} {f : List Int} (h : Bd b f) (hk : 0 < n) : ∀ i, Bd b (ledK k n f i)
  | 0 => fun m => by
    show (coef (List.replicate n 0) m).natAbs < _
    rw [coef_rep]
    exact Nat.two_pow_pos b
  | i + 1 => fun m => by
    show (coef ((ledK k n f i).set (k * i % n) (coef f i)) m).natAbs < _
    rw [coef_set (by rw [ledK_len]; exact Nat.mod_lt _ hk)]
    split
    · exact h i
    · exact ledK_bd h hk i m
theorem units_lt {n k : Nat} (h : k ∈ unitsF n) : k < n := by
  have := List.mem_range.mp (List.mem_filter.mp h).1
  omega
theorem units_len (n : Nat) : (unitsF n).length ≤ n := by
  have := List.length_filter_le (fun k => Nat.gcd k (n : Int).natAbs == 1) (List.range (n : Int).toNat)
  rw [List.length_range] at this
  show ((List.range (n : Int).toNat).filter _).length ≤ n
  omega
section
variable {K : PySem.W.Frag} {σ : L2.St} {H : Hp}
/-- a call upon a value and a new list -/
theorem el_calVL {sp : Sp} {t0 te : TE} {v : V} {xs ys : List V} {E : XK} (h0 : Ev t0 σ H v) (h : EvL te σ H xs) (hs : ∀ l H1, Ex H H1 → H1 l = some (.lst xs) → ∀ Q : VK, RetL ys H1 Q → ∀ E : XK, sp [v, .ref l] H1 Q E) : EvL (tCall sp [] E (tCons t0 (tCons te tNil))) σ H ys := fun H1 e Q q =>
  h0 H1 e _ fun H2 e2 => h H2 (e.trans e2) _ fun l H3 nl e3 hl => by
    show sp ([v, .ref l] ++ []) H3 Q E
    rw [List.append_nil]
    exact hs l H3 ((e.trans e2).trans e3) hl Q (fun p H4 np e4 h4 => q p H4 (fresh_back (e2.trans e3) np) ((e2.trans e3).trans e4) h4) E
end
/- whole_sum: slots 0 n, 1 number; calls  -/
abbrev s_whole_sum : Stmt := topS 16
theorem sc_whole_sum : FnScope ["n", "number"] ["n", "number"] (defScope s_whole_sum) := ⟨rfl, rfl, rfl, by decide +kernel, rfl, by decide +kernel, by decide +kernel⟩

def wsF (n : Nat) (x : Int) : List Int := x :: List.replicate (n - 1) 0
theorem wsF_len {n : Nat} (h : 1 ≤ n) (x : Int) : (wsF n x).length = n := by
  unfold wsF
  rw [List.length_cons, List.length_replicate]
  omega
def spWS : Sp := fun vs H Q _ => ∃ (n : Nat) (x : Int), vs = [.int (n : Nat), .int x] ∧ 1 ≤ n ∧ n ≤ 400 ∧ RetL ((wsF n x).map V.int) H Q
section
variable {P : Program} {w : World} {K : PySem.W.Frag} {mg : Str → Option Value} {base : Heap}
theorem cal_ws (nb : Nb mg) (d : Dfn K mg "whole_sum" ["n", "number"] s_whole_sum) : Cal P w K mg base CX0 "whole_sum" 1 ["n", "number"] spWS := by
  refine d.cal sc_whole_sum (fun vs H Q E h => ?_) (fun fa cdv A outer s H vs Q E hr h => ?_)
  · obtain ⟨n, x, rfl, _⟩ := h
    rfl
  · obtain ⟨n, x, rfl, n1, n2, q⟩ := h
    refine ⟨_, (pss_one (ps_ret (pe_op op_cat (pe_lst (pa_cons (pv 1) pa_nil)) (pe_op op_rep (pe_lst (pa_cons pe_int pa_nil)) (pe_op op_sub (pv 0) pe_int))))), ?_⟩
    refine s_retL (xs := (wsF n x).map V.int) (el_is (el_cat (xs := [.int x]) (ys := (List.replicate (n - 1) (0 : Int)).map V.int) (el_lst (by one_place) (by show 1 ≤ 100000; decide)) (el_is (el_rep (k := ((n : Nat) : Int) - 1) (x := .int 0) (el_lst (by one_place) (by decide)) (by one_place) (by omega) (by omega)) (by rw [List.map_replicate, show ((n : Int) - 1).toNat = n - 1 by omega])) (by rw [List.length_map, List.length_replicate, List.length_singleton]; omega)) rfl) fun p H1 np e1 h1 => q p H1 np e1 h1
end
/- whole_of: slots 0 some; calls rest_of -/
abbrev s_whole_of : Stmt := topS 17
theorem sc_whole_of : FnScope ["some"] ["some"] (defScope s_whole_of) := ⟨rfl, rfl, rfl, by decide +kernel, rfl, by decide +kernel, by decide +kernel⟩

def woF (f : List Int) : Int := coef (grF f.length f) 0
def spWO (K : PySem.W.Frag) : Sp := fun vs H Q _ => ∃ (a : Addr) (f : List Int), vs = [.ref a] ∧ SqL K H a (f.map V.int) ∧ 1 ≤ f.length ∧ f.length ≤ 61 ∧ RetV (.int (woF f)) H Q
section
variable {P : Program} {w : World} {K : PySem.W.Frag} {mg : Str → Option Value} {base : Heap}
theorem cal_wo (nb : Nb mg) (c_rest_of : Cal P w K mg base CX0 "rest_of" 4 ["some"] (spRest K)) (d : Dfn K mg "whole_of" ["some"] s_whole_of) : Cal P w K mg base CX0 "whole_of" 5 ["some"] (spWO K) := by
  refine d.cal sc_whole_of (fun vs H Q E h => ?_) (fun fa cdv A outer s H vs Q E hr h => ?_)
  · obtain ⟨a, f, rfl, _⟩ := h
    rfl
  · obtain ⟨a, f, rfl, hA, n1, n2, q⟩ := h
    refine ⟨_, (pss_one (ps_ret (pe_ix ix_list (pe_cal c_rest_of (hr.mono (by first | decide | omega)) (by rfl) pass0 (pa_cons (pv 0) pa_nil)) pe_int (fun _ _ => rfl)))), ?_⟩
    have gl := grF_len (n := (f.length : Int)) (f := f) rfl
    refine s_ret (v := .int (woF f)) (ev_is (ev_ixN (i := 0) (ns := grF f.length f) (el_cal (vs := [.ref a]) (by one_place) fun H1 e1 Q k E => ⟨a, f, rfl, ex_l e1 hA, n1, n2, k⟩) (fun _ _ => ev_c) (by decide) (by omega)) ?_) fun H1 e1 => q H1 e1
    rfl
end
def trS (f : List Int) (ks : List Nat) : List Int := ks.foldl (fun t k => addS t (ledF f k)) (wsF f.length 0)
theorem trS_len {f : List Int} (h : 1 ≤ f.length) : ∀ ks : List Nat, (trS f ks).length = f.length := by
  have key : ∀ (ks : List Nat) (t : List Int), t.length = f.length → (ks.foldl (fun t k => addS t (ledF f k)) t).length = f.length := by
    intro ks
    induction ks with
    | nil => exact fun t ht => ht
    | cons k ks ih => exact fun t ht => ih _ (by rw [addS_len (by rw [ht, ledF_len])]; exact ht)
  exact fun ks => key ks _ (wsF_len h 0)
def traceF (f : List Int) : Int := woF (trS f (unitsF f.length))
/- norm: slots 0 some, 1 n, 2 total, 3 k; calls whole_sum, units, rest_of, sum_times, led, whole_of -/
abbrev s_norm : Stmt := topS 18
theorem sc_norm : FnScope ["some", "n", "total", "k"] ["some"] (defScope s_norm) := ⟨rfl, rfl, rfl, by decide +kernel, rfl, by decide +kernel, by decide +kernel⟩

def nmS (f : List Int) (ks : List Nat) : List Int := ks.foldl (fun t k => grF f.length (mulS t (ledF f k))) (wsF f.length 1)
theorem nmS_ok {f : List Int} {b : Nat} (h : 1 ≤ f.length) (h2 : f.length ≤ 61) (hb : Bd b f) : ∀ ks : List Nat, (nmS f ks).length = f.length ∧ Bd (1 + ks.length * (b + 10)) (nmS f ks) := by
  have key : ∀ (ks : List Nat) (t : List Int) (c : Nat), t.length = f.length → Bd c t → (ks.foldl (fun t k => grF f.length (mulS t (ledF f k))) t).length = f.length ∧ Bd (c + ks.length * (b + 10)) (ks.foldl (fun t k => grF f.length (mulS t (ledF f k))) t) := by
    intro ks
    induction ks with
    | nil => exact fun t c ht hc => ⟨ht, by rw [List.length_nil, Nat.zero_mul]; exact hc⟩
    | cons k ks ih =>
      intro t c ht hc
      have l1 : (mulS t (ledF f k)).length = f.length := by rw [mulS_len]; exact ht
      have g1 := grF_len (n := (f.length : Int)) (f := mulS t (ledF f k)) (by rw [l1])
      have b1 : Bd (c + (b + 10)) (grF f.length (mulS t (ledF f k))) := bd_mono (grF_bd (mulS_bd hc (ledK_bd hb (by omega) _) (by omega)) h h2) (by omega)
      have := ih _ _ (by omega) b1
      rw [List.length_cons, Nat.add_mul, Nat.one_mul]
      rw [show c + (ks.length * (b + 10) + (b + 10)) = c + (b + 10) + ks.length * (b + 10) by omega]
      exact this
  refine fun ks => key ks _ 1 (wsF_len h 1) fun m => ?_
  unfold wsF
  cases m with
  | zero =>
    show (1 : Int).natAbs < 2 ^ 1
    decide
  | succ m =>
    show (coef (List.replicate (f.length - 1) 0) m).natAbs < _
    rw [coef_rep]
    decide
def normF (f : List Int) : Int := woF (nmS f (unitsF f.length))
def spNorm (K : PySem.W.Frag) : Sp := fun vs H Q _ => ∃ (a : Addr) (f : List Int), vs = [.ref a] ∧ SqL K H a (f.map V.int) ∧ 1 ≤ f.length ∧ f.length ≤ 61 ∧ Bd 3000 f ∧ RetV (.int (normF f)) H Q
section
variable {P : Program} {w : World} {K : PySem.W.Frag} {mg : Str → Option Value} {base : Heap}
theorem cal_norm (nb : Nb mg) (c_whole_sum : Cal P w K mg base CX0 "whole_sum" 1 ["n", "number"] spWS) (c_units : Cal P w K mg base CX0 "units" 1 ["n"] spUnits) (c_sum_times : Cal P w K mg base CX0 "sum_times" 1 ["one", "other"] (spSTimes K)) (c_rest_of : Cal P w K mg base CX0 "rest_of" 4 ["some"] (spRest K)) (c_led : Cal P w K mg base CX0 "led" 1 ["some", "k"] (spLed K)) (c_whole_of : Cal P w K mg base CX0 "whole_of" 5 ["some"] (spWO K))
    (d : Dfn K mg "norm" ["some"] s_norm) : Cal P w K mg base CX0 "norm" 6 ["some"] (spNorm K) := by
  refine d.cal sc_norm (fun vs H Q E h => ?_) (fun fa cdv A outer s H vs Q E hr h => ?_)
  · obtain ⟨a, f, rfl, _⟩ := h
    rfl
  · obtain ⟨a, f, rfl, hA, n1, n2, hb, q⟩ := h
    refine ⟨_, (pss_cons (ps_set (i := 1) sc_norm.nd rfl (.inl rfl) (pe_callB call_len_seq (by rfl) nb.len PySem.boot_len (pa_cons (pv 0) pa_nil)))
      (pss_cons (ps_set (i := 2) sc_norm.nd rfl (.inl rfl) (pe_cal c_whole_sum (hr.mono (by first | decide | omega)) (by rfl) pass0 (pa_cons (pv 1) (pa_cons pe_int pa_nil))))
      (pss_cons (ps_for PassesOwn.never rfl (pi_list (pe_cal c_units (hr.mono (by first | decide | omega)) (by rfl) pass0 (pa_cons (pv 1) pa_nil))) (pg_name (i := 3) sc_norm.nd rfl (.inl rfl)) (pss_one (ps_set (i := 2) sc_norm.nd rfl (.inl rfl) (pe_cal c_rest_of (hr.mono (by first | decide | omega)) (by rfl) pass0 (pa_cons (pe_cal c_sum_times (hr.mono (by first | decide | omega)) (by rfl) pass0 (pa_cons (pv 2) (pa_cons (pe_cal c_led (hr.mono (by first | decide | omega)) (by rfl) pass0 (pa_cons (pv 0) (pa_cons (pv 3) pa_nil))) pa_nil))) pa_nil)))))
      (pss_one (ps_ret (pe_cal c_whole_of (hr.mono (by first | decide | omega)) (by rfl) pass0 (pa_cons (pv 2) pa_nil))))))), ?_⟩
    refine q_asg (v := .int ((f.length : Nat) : Int)) (ev_is (ev_len (ev_var rfl) hA) (by rw [List.length_map])) fun H1 e1 => ?_
    refine q_asgL (xs := (wsF f.length 1).map V.int) (el_cal (vs := [.int (f.length : Nat), .int 1]) (by one_place) fun H2 e2 Q k E => ⟨f.length, 1, rfl, n1, by omega, k⟩) fun t H2 nt e2 h2 => ?_
    have e12 := e1.trans e2
    have ul := units_len f.length
    refine q_forNLn (xs := (unitsF f.length).map fun k => V.int (k : Nat)) (el_cal (vs := [.int (f.length : Nat)]) (by one_place) fun H3 e3 Q k E => ⟨(f.length : Nat), rfl, by omega, by omega, k⟩)
      (fun p i σ' H' => H' p = some (.lst ((unitsF f.length).map fun k => V.int (k : Nat))) ∧ ∃ u x, σ' = [some (.ref a), some (.int (f.length : Nat)), some (.ref u), x] ∧ Ex H2 H' ∧ H' u = some (.lst ((nmS f ((unitsF f.length).take i)).map V.int)))
      (fun p H3 np e3 hp => ⟨hp, t, none, rfl, e3, e3 _ _ h2⟩) (fun p i σ' H' _ hp => SqL.of hp.1) (fun p i x σ' H3 hx hp => ?_) (fun p σ' H3 hp => ?_)
    · obtain ⟨hp, u, y, rfl, e3, hu⟩ := hp
      rw [List.getElem?_map] at hx
      obtain ⟨k, hk, rfl⟩ := Option.map_eq_some_iff.mp hx
      have kn := units_lt (List.mem_of_getElem? hk)
      obtain ⟨tl, tb⟩ := nmS_ok n1 n2 hb ((unitsF f.length).take i)
      have tk : ((unitsF f.length).take i).length ≤ 61 := by
        rw [List.length_take]
        omega
      have tb2 := bd_mono tb (show 1 + ((unitsF f.length).take i).length * (3000 + 10) ≤ 800000 by omega)
      have lb : Bd 3000 (ledF f k) := ledK_bd hb (by omega) _
      refine s_asgL (xs := (nmS f ((unitsF f.length).take (i + 1))).map V.int) (el_is (el_calL (xs := (mulS (nmS f ((unitsF f.length).take i)) (ledF f k)).map V.int) (ys := (grF f.length (mulS (nmS f ((unitsF f.length).take i)) (ledF f k))).map V.int) (vs := []) (el_calVL (v := .ref u) (xs := (ledF f k).map V.int) (by one_place) (el_cal (vs := [.ref a, .int (k : Nat)]) (by one_place) fun H4 e4 Q kk E => ⟨a, f, k, rfl, ex_l ((e12.trans e3).trans e4) hA, n1, by omega, by omega, kk⟩) fun l H4 e4 hl Q kk E => ⟨u, l, _, _, 800000, 3000, rfl, SqL.of (e4 _ _ hu), SqL.of hl, by rw [tl, ledF_len], by omega, tb2, lb, by omega, kk⟩) ea_nil fun p H4 e4 h4 Q kk E => ⟨p, _, rfl, SqL.of h4, by rw [mulS_len]; omega, by rw [mulS_len]; omega, by rw [mulS_len, tl]; exact kk⟩) ?_) fun v H4 nv e4 h4 => ⟨e4 _ _ hp, v, _, rfl, e3.trans e4, h4⟩
      rw [List.take_add_one, hk]
      unfold nmS
      rw [List.foldl_append]
      rfl
    · obtain ⟨hp, u, y, rfl, e3, hu⟩ := hp
      rw [List.length_map, List.take_length] at hu
      obtain ⟨tl, _⟩ := nmS_ok n1 n2 hb (unitsF f.length)
      exact s_ret (v := .int (normF f)) (ev_cal (vs := [.ref u]) (by one_place) fun H4 e4 Q kk E => ⟨u, _, rfl, SqL.of (e4 _ _ hu), by omega, by omega, kk⟩) fun H4 e4 => q H4 ((e12.trans e3).trans e4)
end

/-! ### the round, of the program -/
theorem units_le (n : Nat) : (unitsF n).length ≤ n := by
  have := List.length_filter_le (fun k => Nat.gcd k (n : Int).natAbs == 1) (List.range (n : Int).toNat)
  rw [List.length_range] at this
  show ((List.range (n : Int).toNat).filter _).length ≤ n
  omega
def rsI (f : List Int) : List (List Int) := (unitsF f.length).map fun k => grF f.length (ledF f k)
def rndF (f : List Int) : List (List Int) := ddp (rsI f)

/- times: slots 0 f, 1 g, 2 total, 3 i, 4 a, 5 j, 6 b; calls  -/
abbrev s_times : Stmt := topS 21
theorem sc_times : FnScope ["f", "g", "total", "i", "a", "j", "b"] ["f", "g"] (defScope s_times) := ⟨rfl, rfl, rfl, by decide +kernel, rfl, by decide +kernel, by decide +kernel⟩

def spTimes (K : PySem.W.Frag) : Sp := fun vs H Q _ => ∃ (a b : Addr) (f g : List Int) (n m : Nat), vs = [.ref a, .ref b] ∧ SqL K H a (f.map V.int) ∧ SqL K H b (g.map V.int) ∧ f.length ≤ 2000 ∧ g.length ≤ 2000 ∧ Bd n f ∧ Bd m g ∧ n + m ≤ 900000 ∧ RetL ((mulP f g).map V.int) H Q
section
variable {P : Program} {w : World} {K : PySem.W.Frag} {mg : Str → Option Value} {base : Heap}
theorem cal_times (nb : Nb mg) (d : Dfn K mg "times" ["f", "g"] s_times) : Cal P w K mg base CX0 "times" 1 ["f", "g"] (spTimes K) := by
  refine d.cal sc_times (fun vs H Q E h => ?_) (fun fa cdv A outer s H vs Q E hr h => ?_)
  · obtain ⟨a, b, f, g, n, m, rfl, _⟩ := h
    rfl
  · obtain ⟨a, b, f, g, bn, bm, rfl, hF, hG, zf, zg, bf, bg, hnm, q⟩ := h
    refine ⟨_, (pss_cons (ps_if (PW.pt (pw_or (pt_cmpR op_eq (pe_callB call_len_seq (by rfl) nb.len PySem.boot_len (pa_cons (pv 0) pa_nil)) pe_int (nomark _)) (pw_or1 (pt_cmpR op_eq (pe_callB call_len_seq (by rfl) nb.len PySem.boot_len (pa_cons (pv 1) pa_nil)) pe_int (nomark _))))) (pss_one (ps_ret (pe_lst pa_nil))) pss_nil)
      (pss_cons (ps_set (i := 2) sc_times.nd rfl (.inl rfl) (pe_op op_rep (pe_lst (pa_cons pe_int pa_nil)) (pe_op op_sub (pe_op op_add (pe_callB call_len_seq (by rfl) nb.len PySem.boot_len (pa_cons (pv 0) pa_nil)) (pe_callB call_len_seq (by rfl) nb.len PySem.boot_len (pa_cons (pv 1) pa_nil))) pe_int)))
      (pss_cons (ps_for PassesOwn.never rfl (pi_enum (by rfl) nb.enumerate (pa_cons (pv 0) pa_nil)) (pg_tup (by rfl) (pgs_cons (pg_name (i := 3) sc_times.nd rfl (.inl rfl)) (pgs_cons (pg_name (i := 4) sc_times.nd rfl (.inl rfl)) pgs_nil))) (pss_one (ps_for PassesOwn.never rfl (pi_enum (by rfl) nb.enumerate (pa_cons (pv 1) pa_nil)) (pg_tup (by rfl) (pgs_cons (pg_name (i := 5) sc_times.nd rfl (.inl rfl)) (pgs_cons (pg_name (i := 6) sc_times.nd rfl (.inl rfl)) pgs_nil))) (pss_one (ps_augS (pv 2) (pe_op op_add (pv 3) (pv 5)) get_list (pe_op op_mulW (pv 4) (pv 6)) ip_add set_list)))))
      (pss_one (ps_ret (pv 2)))))), ?_⟩
    refine q_when (b := decide (((f.length : Nat) : Int) = 0) || decide (((g.length : Nat) : Int) = 0)) (et_or (et_test (ev_eqI (ev_is (ev_len (ev_var rfl) hF) (by rw [List.length_map])) ev_c)) fun _ => et_test (ev_eqI (ev_is (ev_len (ev_var rfl) hG) (by rw [List.length_map])) ev_c)) (fun hb H1 e1 => ?_) (fun hb H1 e1 => ?_)
    · refine s_retL (xs := (mulP f g).map V.int) (el_is (el_lst ea_nil (by decide)) ?_) fun p H4 np e4 hp => q.go e1 np e4 hp
      rw [Bool.or_eq_true, decide_eq_true_iff, decide_eq_true_iff] at hb
      unfold mulP
      rw [if_pos]
      · rfl
      · rcases hb with hb | hb
        · exact .inl (List.eq_nil_of_length_eq_zero (by omega))
        · exact .inr (List.eq_nil_of_length_eq_zero (by omega))
    · rw [Bool.or_eq_false_iff, decide_eq_false_iff_not, decide_eq_false_iff_not] at hb
      refine q_asgL (xs := (List.replicate (f.length + g.length - 1) (0 : Int)).map V.int) (el_is (el_rep (k := ((f.length + g.length - 1 : Nat) : Int)) (el_lst (by one_place) (by decide)) (ev_is (ev_sub (ev_add (ev_len (ev_var rfl) (ex_l e1 hF)) (ev_len (ev_var rfl) (ex_l e1 hG))) ev_c) ?_) (by omega) (by omega)) (by rw [List.map_replicate, Int.toNat_natCast])) fun t H2 nt e2 h2 => ?_
      · rw [List.length_map, List.length_map]
        congr 1
        omega
      refine q_forE (xs := f.map V.int) (by one_place) (ex_l (e1.trans e2) hF) (fun i σ' H' => ∃ (T : List Int) (x y z u : Option V), σ' = [some (.ref a), some (.ref b), some (.ref t), x, y, z, u] ∧ Ex H1 H' ∧ H' t = some (.lst (T.map V.int)) ∧ T.length = f.length + g.length - 1 ∧ ∀ m, m < T.length → coef T m = cv f g i m)
        (fun H3 e3 => ⟨_, none, none, none, none, rfl, e2.trans e3, e3 _ _ h2, List.length_replicate, fun m _ => coef_rep⟩) (fun i σ' H' _ hp => ?_) (fun i x σ' H' hx hp H3 e3 => ?_) (fun σ' H' hp => ?_)
      · obtain ⟨_, _, _, _, _, _, e3, _⟩ := hp
        exact ex_l (e1.trans e3) hF
      · obtain ⟨T, x1, x2, x3, x4, rfl, e4, h4, hT, hc⟩ := hp
        obtain ⟨z, hz, rfl⟩ := map_get hx
        have hi := (List.getElem?_eq_some_iff.mp hz).1
        refine s_forE (xs := g.map V.int) (by one_place) (ex_l (e1.trans (e4.trans e3)) hG) (fun j σ' H' => ∃ (T : List Int) (x y : Option V), σ' = [some (.ref a), some (.ref b), some (.ref t), some (.int (i : Nat)), some (.int z), x, y] ∧ Ex H1 H' ∧ H' t = some (.lst (T.map V.int)) ∧ T.length = f.length + g.length - 1 ∧ ∀ m, m < T.length → coef T m = cv f g i m + if i ≤ m ∧ m - i < j then coef f i * coef g (m - i) else 0)
          (fun H5 e5 => ⟨T, _, _, rfl, (e4.trans e3).trans e5, e5 _ _ (e3 _ _ h4), hT, fun m hm => ?_⟩) (fun j σ' H' _ hp => ?_) (fun j x σ' H' hx hp H5 e5 => ?_) (fun σ' H' hp => ?_)
        · rw [hc m hm, if_neg (by omega)]
          omega
        · obtain ⟨_, _, _, _, e5, _⟩ := hp
          exact ex_l (e1.trans e5) hG
        · obtain ⟨T, y1, y2, rfl, e6, h6, hT, hc⟩ := hp
          obtain ⟨y, hy, rfl⟩ := map_get hx
          have hj := (List.getElem?_eq_some_iff.mp hy).1
          refine s_augL (j := i + j) (e5 _ _ h6) (by one_place) (ev_is (by one_place) (by rfl)) (coef_get (by omega)) (ev_mul (ev_var rfl) (ev_var rfl) (mulB (bf.at hz) (bg.at hy) hnm)) fun H7 e7 => ⟨_, _, _, rfl, Ex.mut ((e6.trans e5).trans e7) (fresh_back (Ex.refl _) nt), upd_same, by rw [List.length_set]; exact hT, fun m hm => ?_⟩
          rw [List.length_set] at hm
          rw [coef_set (by omega), hc m hm, hc (i + j) (by omega)]
          by_cases e : m = i + j
          · subst e
            rw [if_pos rfl, if_neg (by omega), if_pos (by omega), Nat.add_sub_cancel_left, coef_of hz, coef_of hy]
            omega
          · rw [if_neg e]
            split <;> split <;> first | rfl | omega
        · obtain ⟨T, y1, y2, rfl, e6, h6, hT, hc⟩ := hp
          refine ⟨T, _, _, _, _, rfl, e6, h6, hT, fun m hm => ?_⟩
          rw [List.length_map] at hc
          rw [hc m hm, cv]
          by_cases e : i ≤ m
          · rw [if_pos e]
            split
            · rfl
            · rw [coef_ge (show g.length ≤ m - i by omega)]
              simp
          · rw [if_neg (by omega), if_neg e]
      · obtain ⟨T, x1, x2, x3, x4, rfl, e4, h4, hT, hc⟩ := hp
        rw [List.length_map] at hc
        refine s_ret (v := .ref t) (by one_place) fun H5 e5 => q t H5 (fresh_back e1 nt) (e1.trans (e4.trans e5)) ?_
        rw [e5 _ _ h4]
        unfold mulP
        rw [if_neg (by
          intro h
          rcases h with h | h
          · rw [h] at hb
            exact hb.1 rfl
          · rw [h] at hb
            exact hb.2 rfl), mkL_of hT fun m hm => hc m (by omega)]
end

/-! ### root polynomials -/
theorem cv_more {q g : List Int} {m : Nat} : ∀ {N : Nat}, q.length ≤ N → cv q g N m = cv q g q.length m
  | N, h => by
    induction N with
    | zero =>
      have : q.length = 0 := by omega
      rw [this]
    | succ N ih =>
      by_cases e : q.length = N + 1
      · rw [e]
      · rw [cv, ih (by omega), coef_ge (show q.length ≤ N by omega), Int.zero_mul]
        split <;> omega
theorem cv_tail {a b g : List Int} {i m : Nat} : ∀ {N : Nat}, i ≤ N → (∀ j, i ≤ j → coef a j = coef b j) → cv a g N m - cv a g i m = cv b g N m - cv b g i m
  | N, h, e => by
    induction N with
    | zero =>
      have : i = 0 := by omega
      subst this
      omega
    | succ N ih =>
      by_cases q : i = N + 1
      · subst q
        omega
      · have := ih (by omega)
        rw [cv, cv, e N (by omega)]
        omega
theorem ovr_uniq {b : Nat} {f g q r q0 : List Int} (o : Ovr b f g q r) (hg : Good g) (t0 : Tr q0) (e : ∀ m, coef f m = cv q0 g q0.length m) : q = q0 ∧ r = [] := by
  obtain ⟨g0, g1⟩ := hg
  have lg := List.length_pos_iff.mpr g0
  have key : ∀ k i : Nat, max q.length q0.length ≤ i + k → coef q i = coef q0 i := by
    intro k
    induction k with
    | zero =>
      intro i hi
      rw [coef_ge (show q.length ≤ i by omega), coef_ge (show q0.length ≤ i by omega)]
    | succ k ih =>
      intro i hi
      have hr : coef r (i + (g.length - 1)) = 0 := coef_ge (by have := o.lr; omega)
      have e1 := o.is (i + (g.length - 1))
      rw [hr, e, Int.zero_add] at e1
      have e2 := cv_tail (a := q) (b := q0) (g := g) (i := i + 1) (m := i + (g.length - 1)) (N := max (i + 1) (max q.length q0.length)) (by omega) fun j hj => ih j (by omega)
      rw [cv_more (q := q) (by omega), cv_more (q := q0) (by omega)] at e2
      have e3 : cv q g (i + 1) (i + (g.length - 1)) = coef q i := by
        rw [cv, cv_far _ _ _ i (by omega), if_pos (by omega), Nat.add_sub_cancel_left, g1]
        omega
      have e4 : cv q0 g (i + 1) (i + (g.length - 1)) = coef q0 i := by
        rw [cv, cv_far _ _ _ i (by omega), if_pos (by omega), Nat.add_sub_cancel_left, g1]
        omega
      rw [e3, e4] at e2
      omega
  have hq : q = q0 := tr_uniq o.tq t0 fun m => key (max q.length q0.length) m (by omega)
  refine ⟨hq, tr_uniq o.tr Tr.nil fun m => ?_⟩
  have := o.is m
  rw [e, hq] at this
  rw [coef_nil]
  omega
theorem bd_of_l1 {f : List Int} (h : l1 f < BB) : Bd 256 f := fun m => Nat.lt_of_le_of_lt (coef_l1 f m) h
/-- parted with nothing left -/
def spOverX (K : PySem.W.Frag) : Sp := fun vs H Q _ => ∃ (a b : Addr) (q g : List Int), vs = [.ref a, .ref b] ∧ SqL K H a ((mulK q g).map V.int) ∧ SqL K H b (g.map V.int) ∧ (mulK q g).length ≤ 450 ∧ g.length ≤ 450 ∧ Tr q ∧ Tr (mulK q g) ∧ Bd 1000 (mulK q g) ∧ Bd 1000 g ∧ Good g ∧ RetU2 q [] H Q
theorem overX_of {K : PySem.W.Frag} {C : Addr} {vs : List V} {H : Hp} {Q : VK} {E : XK} (h : spOverX K vs H Q E) : spOver K C vs H Q (fun _ _ _ => False) := by
  obtain ⟨a, b, q, g, rfl, h1, h2, l1, l2, tq, tf, bf, bg, hg, k⟩ := h
  refine ⟨a, b, mulK q g, g, rfl, h1, h2, l1, l2, tf, bf, bg, fun _ q' r o => ?_, fun n => absurd hg n⟩
  obtain ⟨rfl, rfl⟩ := ovr_uniq o hg tq (fun m => coef_mulK q g m)
  exact k
section
variable {σ : L2.St} {H : Hp} {ta : TA} {K : PySem.W.Frag} {E : XK} {i : Nat} {tz : TS} {D : Ends}
/-- x = over(..)[0] -/
theorem q_asgOv0 {te tf : TE} {q g : List Int} {b : Addr} (h1 : EvL te σ H ((mulK q g).map V.int)) (hb : Ev tf σ H (.ref b)) (h2 : SqL K H b (g.map V.int)) (l1 : (mulK q g).length ≤ 450) (l2 : g.length ≤ 450) (tq : Tr q) (tf' : Tr (mulK q g)) (bf : Bd 1000 (mulK q g)) (bg : Bd 1000 g) (hg : Good g)
    (k : ∀ p H1, H p = none → Ex H H1 → H1 p = some (.lst (q.map V.int)) → tz D (σ.set i (some (.ref p))) H1) : tSeq (tAsg (tOp (rIxT K) (tCall (spOverX K) [] E (tCons te (tCons tf tNil))) (tC (.int 0))) (gName i)) tz D σ H :=
  h1 H (Ex.refl H) _ fun a H1 na e1 ha => hb H1 e1 _ fun H2 e2 => by
    refine ⟨a, b, q, g, rfl, SqL.of (e2 _ _ ha), ex_l (e1.trans e2) h2, l1, l2, tq, tf', bf, bg, hg, fun t p1 p2 H3 nt n1 n2 _ e3 ht h1 h2 => ?_⟩
    exact ⟨t, _, 0, .ref p1, rfl, rfl, SqT.of ht, atI_nat (j := 0) rfl, k p1 H3 (fresh_back (e1.trans e2) n1) ((e1.trans e2).trans e3) h1⟩
end
/- root_poly: slots 0 n, 1 f, 2 left, 3 p, 4 _; calls parted, over, at_power -/
abbrev s_root_poly : Stmt := topS 25
theorem sc_root_poly : FnScope ["n", "f", "left", "p", "_"] ["n"] (defScope s_root_poly) := ⟨rfl, rfl, rfl, by decide +kernel, rfl, by decide +kernel, by decide +kernel⟩

def spRoot : Sp := fun vs H Q _ => ∃ n : Nat, vs = [.int (n : Nat)] ∧ 1 ≤ n ∧ n ≤ 420 ∧ RetL ((phi n).map V.int) H Q
section
variable {P : Program} {w : World} {K : PySem.W.Frag} {mg : Str → Option Value} {base : Heap}
theorem cal_root (nb : Nb mg) (c_parted : Cal P w K mg base CX0 "parted" 1 ["n"] (spParted K)) (c_over : Cal P w K mg base CX0 "over" 2 ["f", "g"] (spOverX K)) (c_at_power : Cal P w K mg base CX0 "at_power" 1 ["f", "k"] (spAtP K)) (d : Dfn K mg "root_poly" ["n"] s_root_poly) : Cal P w K mg base CX0 "root_poly" 3 ["n"] spRoot := by
  refine d.cal sc_root_poly (fun vs H Q E h => ?_) (fun fa cdv A outer s H vs Q E hr h => ?_)
  · obtain ⟨n, rfl, _⟩ := h
    rfl
  · obtain ⟨n, rfl, n1, n2, q⟩ := h
    refine ⟨_, (pss_cons (ps_set (i := 1) sc_root_poly.nd rfl (.inl rfl) (pe_lst (pa_cons (pe_un un_neg pe_int) (pa_cons pe_int pa_nil))))
      (pss_cons (ps_set (i := 2) sc_root_poly.nd rfl (.inl rfl) (pv 0))
      (pss_cons (ps_for PassesOwn.never rfl (pi_list (pe_cal c_parted (hr.mono (by first | decide | omega)) (by rfl) pass0 (pa_cons (pv 0) pa_nil))) (pg_tup (by rfl) (pgs_cons (pg_name (i := 3) sc_root_poly.nd rfl (.inl rfl)) (pgs_cons (pg_name (i := 4) sc_root_poly.nd rfl (.inl rfl)) pgs_nil))) (pss_cons (ps_set (i := 1) sc_root_poly.nd rfl (.inl rfl) (pe_ix ix_tup (pe_cal c_over (hr.mono (by first | decide | omega)) (by rfl) pass0 (pa_cons (pe_cal c_at_power (hr.mono (by first | decide | omega)) (by rfl) pass0 (pa_cons (pv 1) (pa_cons (pv 3) pa_nil))) (pa_cons (pv 1) pa_nil))) pe_int (fun _ _ => rfl)))
      (pss_one (ps_aug (i := 2) sc_root_poly.nd rfl (.inl rfl) (pv 3) (pip_of iop_fdivW)))))
      (pss_one (ps_ret (pe_cal c_at_power (hr.mono (by first | decide | omega)) (by rfl) pass0 (pa_cons (pv 1) (pa_cons (pv 2) pa_nil)))))))), ?_⟩
    refine q_asgL (xs := ([-1, 1] : List Int).map V.int) (el_lst (by one_place) (by show 2 ≤ 100000; decide)) fun f0 H1 nf e1 h1 => ?_
    refine q_asg (v := .int (n : Nat)) (by one_place) fun H2 e2 => ?_
    refine q_forP (rows := partedF n) (ep_cal (by one_place) fun H3 e3 Q k E => ⟨n, rfl, by omega, by omega, k⟩) (fun H0 i σ' H' => ∃ (f : Addr) (F : List Int) (l : Nat) (x y : Option V), σ' = [some (.int (n : Nat)), some (.ref f), some (.int (l : Nat)), x, y] ∧ Ex H H' ∧ Ex H0 H' ∧ H' f = some (.lst (F.map V.int)) ∧ StP ((partedF n).drop i) F ∧ ((partedF n).drop i).foldl (fun f r => stepF f r.1.toNat) F = GF n ∧ ((partedF n).drop i).foldl (fun l r => l / r.1.toNat) l = LF n)
      (fun H3 e3 => ⟨f0, _, n, none, none, rfl, (e1.trans e2).trans e3, Ex.refl _, e3 _ _ (e2 _ _ h1), stP0 n1 n2, rfl, rfl⟩) (fun H0 i σ' H' hp => ?_) (fun H0 i r σ' H' e0 hr hp => ?_) (fun H0 σ' H' e0 hp => ?_)
    · obtain ⟨_, _, _, _, _, _, _, e, _⟩ := hp
      exact e
    · obtain ⟨f, F, l, x, y, rfl, e3, e4, h4, st, eF, eL⟩ := hp
      have hi := (List.getElem?_eq_some_iff.mp hr).1
      have hri : (partedF n)[i] = r := (List.getElem?_eq_some_iff.mp hr).2
      obtain ⟨r2, r3⟩ := rows_bd n1 n2 (List.mem_of_getElem? hr)
      have ed : (partedF n).drop i = r :: (partedF n).drop (i + 1) := by rw [List.drop_eq_getElem_cons hi, hri]
      rw [ed] at st eF eL
      obtain ⟨c1, c2, c3, c4, c5, c6, c7⟩ := chk_step st.chk st.mon
      have st2 := st.step r2
      have er : r.1 = ((r.1.toNat : Nat) : Int) := by omega
      have la : (atP F r.1.toNat).length = (F.length - 1) * r.1.toNat + 1 := atP_len st.mon.ne
      have lF := st.len
      refine q_asgOv0 (q := stepF F r.1.toNat) (g := F) (b := f) (el_cal (vs := [.ref f, .int ((r.1.toNat : Nat) : Int)]) (ea_cons (by one_place) (ea_cons (ev_is (ev_var rfl) (by rw [← er])) ea_nil)) fun H5 e5 Q k E => ⟨f, F, r.1.toNat, rfl, SqL.of (e5 _ _ h4), by omega, by omega, by omega, by omega, by rw [← c3]; exact k⟩) (by one_place) (SqL.of h4) (by rw [c3]; omega) (by omega) st2.mon.tr (by rw [c3]; exact (st.mon.atP (by omega)).tr) (by rw [c3]; exact (bd_of_l1 (Nat.lt_of_le_of_lt (atP_l1 (by omega) st.mon.tr) st.bd)).mono (by decide)) ((bd_of_l1 st.bd).mono (by decide)) ⟨st.mon.ne, st.mon.one⟩ fun p H5 np e5 h5 => ?_
      refine ⟨.int (l : Nat), rfl, .int r.1, rfl, (l : Nat), r.1, rfl, rfl, divW (by omega) (by omega), ?_⟩
      refine ⟨p, _, l / r.1.toNat, some (.int r.1), some (.int r.2), ?_, e3.trans e5, e4.trans e5, h5, st2, eF, eL⟩
      have : ((l : Nat) : Int) / r.1 = ((l / r.1.toNat : Nat) : Int) := by rw [Int.natCast_ediv, ← er]
      show [some (V.int (n : Nat)), some (V.ref p), some (V.int (((l : Nat) : Int) / r.1)), some (.int r.1), some (.int r.2)] = _
      rw [this]
    · obtain ⟨f, F, l, x, y, rfl, e3, e4, h4, st, eF, eL⟩ := hp
      rw [List.drop_length] at st eF eL
      have eF : F = GF n := eF
      have eL : l = LF n := eL
      subst eF eL
      have a1 := LF_pos n1 n2
      have a2 := LF_le n
      have a3 := st.len
      refine s_retL (xs := (phi n).map V.int) (el_cal (by one_place) fun H5 e5 Q k E => ⟨f, GF n, LF n, rfl, SqL.of (e5 _ _ h4), by omega, a1, by omega, ?_, k⟩) fun p H5 np e5 hp => q.go e3 np e5 hp
      have a4 := phi_len n1 n2
      have a5 := phi_le n1 n2
      omega
end

/-! ### all_noughts, nought, same -/
def allZ (f : List Int) : Bool := f.all fun x => decide (x = 0)
/- all_noughts: slots 0 numbers, 1 number; calls  -/
abbrev s_all_noughts : Stmt := topS 11
theorem sc_all_noughts : FnScope ["numbers", "number"] ["numbers"] (defScope s_all_noughts) := ⟨rfl, rfl, rfl, by decide +kernel, rfl, by decide +kernel, by decide +kernel⟩

def spAllZ (K : PySem.W.Frag) : Sp := fun vs H Q _ => ∃ (a : Addr) (f : List Int), vs = [.ref a] ∧ SqL K H a (f.map V.int) ∧ f.length ≤ 40000 ∧ RetV (.bl (allZ f)) H Q
section
variable {P : Program} {w : World} {K : PySem.W.Frag} {mg : Str → Option Value} {base : Heap}
theorem cal_allz (nb : Nb mg) (d : Dfn K mg "all_noughts" ["numbers"] s_all_noughts) : Cal P w K mg base CX0 "all_noughts" 1 ["numbers"] (spAllZ K) := by
  refine d.cal sc_all_noughts (fun vs H Q E h => ?_) (fun fa cdv A outer s H vs Q E hr h => ?_)
  · obtain ⟨a, f, rfl, _⟩ := h
    rfl
  · obtain ⟨a, f, rfl, hA, hz, q⟩ := h
    refine ⟨_, (pss_one (ps_ret (pe_callB (cr_all (by rfl)) (by rfl) nb.all (by decide +kernel) (pa_cons (pe_lc (own := [("number", 1)]) (g := gName 1) (tt := tYes) (by rfl) sc_all_noughts.nd (pi_list (pv 0)) (blkOk_by (N := ["numbers", "number"]) (sc := defScope s_all_noughts) (by decide +kernel)) (fun _ _ _ _ _ => (pg_name (i := 1) sc_all_noughts.nd rfl (Or.inl rfl))) (fun _ _ _ _ _ => pts_nil) (fun _ _ _ _ _ => (pe_cmpR op_eq (pv 1) pe_int (nomark _)))) pa_nil)))), ?_⟩
    have e : ((f.map fun x => decide (x = 0)).all id) = allZ f := by
      unfold allZ
      rw [List.all_map]
      rfl
    refine s_ret (v := .bl (allZ f)) (ev_is (ev_all (bs := f.map fun x => decide (x = 0)) (el_is (el_lcI (ns := f) (fun _ => true) (fun x => .bl (decide (x = 0))) (ev_var rfl) hA hz (fun _ => rfl) (fun r H1 e1 hr => et_yes) fun r H1 e1 hr _ => ev_eqI (ev_var rfl) ev_c) (by rw [List.filter_eq_self.mpr (fun _ _ => rfl), List.map_map]; rfl))) (by rw [e])) fun H1 e1 => q _ e1
end
/- nought: slots 0 some, 1 rest, 2 wheels; calls grounded, all_noughts -/
abbrev s_nought : Stmt := topS 12
theorem sc_nought : FnScope ["some", "rest", "wheels"] ["some"] (defScope s_nought) := ⟨rfl, rfl, rfl, by decide +kernel, rfl, by decide +kernel, by decide +kernel⟩

/-- ("nought", wheels), ("not", rest, wheels) -/
def ntT (z : Bool) (p w : Addr) : List V := if z then [.str (Str.ofString "nought"), .ref w] else [.str (Str.ofString "not"), .ref p, .ref w]
def RetN (K : PySem.W.Frag) (f : List Int) (rows : List I3) (z : Bool) (H : Hp) (Q : VK) : Prop := ∀ t p w ws H2, H t = none → H p = none → H w = none → p ≠ w → Ex H H2 → H2 t = some (.tup (ntT z p w)) → H2 p = some (.lst (f.map V.int)) → H2 w = some (.lst ws) → Trs K H2 ws rows → Q (.ref t) H2
def spNt (K : PySem.W.Frag) : Sp := fun vs H Q _ => ∃ (a : Addr) (f : List Int), vs = [.ref a] ∧ SqL K H a (f.map V.int) ∧ 1 ≤ f.length ∧ f.length ≤ 61 ∧ RetN K (grF f.length f) (wlF f.length (pwF f.length) f) (allZ (grF f.length f)) H Q
section
variable {P : Program} {w : World} {K : PySem.W.Frag} {mg : Str → Option Value} {base : Heap}
theorem cal_nought (nb : Nb mg) (c_grounded : Cal P w K mg base CX0 "grounded" 3 ["some"] (spGr K)) (c_all_noughts : Cal P w K mg base CX0 "all_noughts" 1 ["numbers"] (spAllZ K)) (d : Dfn K mg "nought" ["some"] s_nought) : Cal P w K mg base CX0 "nought" 4 ["some"] (spNt K) := by
  refine d.cal sc_nought (fun vs H Q E h => ?_) (fun fa cdv A outer s H vs Q E hr h => ?_)
  · obtain ⟨a, f, rfl, _⟩ := h
    rfl
  · obtain ⟨a, f, rfl, hA, n1, n2, q⟩ := h
    refine ⟨_, (pss_cons (ps_asg (pe_cal c_grounded (hr.mono (by first | decide | omega)) (by rfl) pass0 (pa_cons (pv 0) pa_nil)) (pg_tup (by rfl) (pgs_cons (pg_name (i := 1) sc_nought.nd rfl (.inl rfl)) (pgs_cons (pg_name (i := 2) sc_nought.nd rfl (.inl rfl)) pgs_nil))))
      (pss_cons (ps_if (pt_val (pe_cal c_all_noughts (hr.mono (by first | decide | omega)) (by rfl) pass0 (pa_cons (pv 1) pa_nil))) (pss_one (ps_ret (pe_tup (pa_cons pe_str (pa_cons (pv 2) pa_nil))))) pss_nil)
      (pss_one (ps_ret (pe_tup (pa_cons pe_str (pa_cons (pv 1) (pa_cons (pv 2) pa_nil)))))))), ?_⟩
    have lg : ((grF f.length f).length : Int) = f.length := grF_len (by omega)
    refine q_unG (f := grF f.length f) (rows := wlF f.length (pwF f.length) f) (evG_cal (vs := [.ref a]) (by one_place) fun H1 e1 Q k E => ⟨a, f, rfl, ex_l e1 hA, n1, n2, k⟩) fun t p w ws H1 nt np nw ne e1 ht hp hw R => ?_
    refine q_when (b := allZ (grF f.length f)) (et_B (ev_cal (vs := [.ref p]) (by one_place) fun H2 e2 Q k E => ⟨p, _, rfl, SqL.of (e2 _ _ hp), by omega, k⟩)) (fun hb H2 e2 => ?_) (fun hb H2 e2 => ?_)
    · refine s_retU (xs := [.str (Str.ofString "nought"), .ref w]) (eu_tup (ea_cons ev_c (ea_cons (ev_var rfl) ea_nil)) (by show 2 ≤ 100000; decide)) fun u H3 nu e3 hu => q u p w ws H3 (fresh_back (e1.trans e2) nu) np nw ne ((e1.trans e2).trans e3) (by rw [hb]; exact hu) ((e2.trans e3) _ _ hp) ((e2.trans e3) _ _ hw) (R.mono (e2.trans e3))
    · refine s_retU (xs := [.str (Str.ofString "not"), .ref p, .ref w]) (eu_tup (ea_cons ev_c (ea_cons (ev_var rfl) (ea_cons (ev_var rfl) ea_nil))) (by show 3 ≤ 100000; decide)) fun u H3 nu e3 hu => q u p w ws H3 (fresh_back (e1.trans e2) nu) np nw ne ((e1.trans e2).trans e3) (by rw [hb]; exact hu) ((e2.trans e3) _ _ hp) ((e2.trans e3) _ _ hw) (R.mono (e2.trans e3))
end

/-! ### the law's own root polynomials -/
/- _law_over: slots 0 _law_f, 1 _law_g, 2 _law_left, 3 _law_told, 4 _law_back, 5 _law_at, 6 _law_k, 7 _law_x; calls  -/
abbrev s__law_over : Stmt := topS 32
theorem sc__law_over : FnScope ["_law_f", "_law_g", "_law_left", "_law_told", "_law_back", "_law_at", "_law_k", "_law_x"] ["_law_f", "_law_g"] (defScope s__law_over) := ⟨rfl, rfl, rfl, by decide +kernel, rfl, by decide +kernel, by decide +kernel⟩

def spLOver (K : PySem.W.Frag) : Sp := fun vs H Q _ => ∃ (a b : Addr) (q g : List Int), vs = [.ref a, .ref b] ∧ SqL K H a ((mulK q g).map V.int) ∧ SqL K H b (g.map V.int) ∧ q ≠ [] ∧ Good g ∧ q.length ≤ 450 ∧ g.length ≤ 450 ∧ Bd 300 q ∧ Bd 300 g ∧ RetL (q.map V.int) H Q
section
variable {P : Program} {w : World} {K : PySem.W.Frag} {mg : Str → Option Value} {base : Heap}
theorem cal_lover (nb : Nb mg) (d : Dfn K mg "_law_over" ["_law_f", "_law_g"] s__law_over) : Cal P w K mg base CX0 "_law_over" 1 ["_law_f", "_law_g"] (spLOver K) := by
  refine d.cal sc__law_over (fun vs H Q E h => ?_) (fun fa cdv A outer s H vs Q E hr h => ?_)
  · obtain ⟨a, b, q, g, rfl, _⟩ := h
    rfl
  · obtain ⟨a, b, p, g, rfl, hF, hG, p0, hg, zp, zg, bp, bg, q⟩ := h
    refine ⟨_, (pss_cons (ps_set (i := 2) sc__law_over.nd rfl (.inl rfl) (pe_callTy call_list_of (by rfl) nb.list (by decide +kernel) (pa_cons (pv 0) pa_nil)))
      (pss_cons (ps_set (i := 3) sc__law_over.nd rfl (.inl rfl) (pe_op op_rep (pe_lst (pa_cons pe_int pa_nil)) (pe_op op_add (pe_op op_sub (pe_callB call_len_seq (by rfl) nb.len PySem.boot_len (pa_cons (pv 0) pa_nil)) (pe_callB call_len_seq (by rfl) nb.len PySem.boot_len (pa_cons (pv 1) pa_nil))) pe_int)))
      (pss_cons (ps_for PassesOwn.never rfl (pi_range1 (by rfl) nb.range (pa_cons (pe_callB call_len_seq (by rfl) nb.len PySem.boot_len (pa_cons (pv 3) pa_nil)) pa_nil)) (pg_name (i := 4) sc__law_over.nd rfl (.inl rfl)) (pss_cons (ps_set (i := 5) sc__law_over.nd rfl (.inl rfl) (pe_op op_sub (pe_op op_sub (pe_callB call_len_seq (by rfl) nb.len PySem.boot_len (pa_cons (pv 3) pa_nil)) pe_int) (pv 4)))
      (pss_cons (ps_asg (pe_ix ix_list (pv 2) (pe_op op_sub (pe_op op_add (pv 5) (pe_callB call_len_seq (by rfl) nb.len PySem.boot_len (pa_cons (pv 1) pa_nil))) pe_int) (fun _ _ => rfl)) (pg_sub (pv 3) (pv 5) set_list))
      (pss_one (ps_for PassesOwn.never rfl (pi_enum (by rfl) nb.enumerate (pa_cons (pv 1) pa_nil)) (pg_tup (by rfl) (pgs_cons (pg_name (i := 6) sc__law_over.nd rfl (.inl rfl)) (pgs_cons (pg_name (i := 7) sc__law_over.nd rfl (.inl rfl)) pgs_nil))) (pss_one (ps_asg (pe_op op_sub (pe_ix ix_list (pv 2) (pe_op op_add (pv 5) (pv 6)) (fun _ _ => rfl)) (pe_op op_mulW (pe_ix ix_list (pv 3) (pv 5) (fun _ _ => rfl)) (pv 7))) (pg_sub (pv 2) (pe_op op_add (pv 5) (pv 6)) set_list))))))))
      (pss_one (ps_ret (pv 3)))))), ?_⟩
    have lp := List.length_pos_iff.mpr p0
    have lg := List.length_pos_iff.mpr hg.1
    have lm := len_mulK p g p0 hg.1
    refine q_asgL (xs := (mulK p g).map V.int) (el_list (ev_var rfl) hF) fun l H1 nl e1 h1 => ?_
    refine q_asgL (xs := (List.replicate p.length (0 : Int)).map V.int) (el_is (el_rep (k := (p.length : Int)) (el_lst (by one_place) (by decide)) (ev_is (ev_add (ev_sub (ev_len (ev_var rfl) (ex_l e1 hF)) (ev_len (ev_var rfl) (ex_l e1 hG))) ev_c) (by rw [List.length_map, List.length_map]; congr 1; omega)) (by omega) (by omega)) (by rw [List.map_replicate, Int.toNat_natCast])) fun t H2 nt e2 h2 => ?_
    have ntH : H t = none := fresh_back e1 nt
    have ne : l ≠ t := fun z => by
      rw [← z, h1] at nt
      cases nt
    refine q_forR1 (n := (p.length : Int)) (ea_cons (ev_is (ev_len (ev_var rfl) (SqL.of h2)) (by rw [List.length_map, List.length_replicate])) ea_nil) (by omega) (fun i σ' H' => ∃ (L T : List Int) (x1 x2 x3 x4 : Option V), σ' = [some (.ref a), some (.ref b), some (.ref l), some (.ref t), x1, x2, x3, x4] ∧ Ex H H' ∧ H' l = some (.lst (L.map V.int)) ∧ H' t = some (.lst (T.map V.int)) ∧ L.length = (mulK p g).length ∧ T.length = p.length ∧
        (∀ m, m < L.length → coef L m = cv p g (p.length - i) m) ∧ ∀ m, m < p.length → coef T m = if m < p.length - i then 0 else coef p m)
      (fun H3 e3 => ⟨_, _, none, none, none, none, rfl, (e1.trans e2).trans e3, e3 _ _ (e2 _ _ h1), e3 _ _ h2, rfl, List.length_replicate, fun m _ => by rw [coef_mulK, Nat.sub_zero], fun m hm => by rw [coef_rep, if_pos (by omega)]⟩) (fun i σ' H' hi hp => ?_) (fun σ' H' hp => ?_)
    · obtain ⟨L, T, x1, x2, x3, x4, rfl, e3, h3, h4, lL, lT, cL, cT⟩ := hp
      have hi2 : i < p.length := by omega
      refine q_asg (v := .int ((p.length - 1 - i : Nat) : Int)) (ev_is (ev_sub (ev_sub (ev_len (ev_var rfl) (SqL.of h4)) ev_c) (ev_var rfl)) (by rw [List.length_map, lT]; congr 1; omega)) fun H5 e5 => ?_
      have hk : coef L (p.length - 1 - i + g.length - 1) = coef p (p.length - 1 - i) := by
        rw [cL _ (by omega), show p.length - i = (p.length - 1 - i) + 1 by omega, cv, cv_far _ _ _ _ (by omega), if_pos (by omega), show p.length - 1 - i + g.length - 1 - (p.length - 1 - i) = g.length - 1 by omega, hg.2]
        omega
      refine q_setI (j := p.length - 1 - i) (b := coef p (p.length - 1 - i)) (e5 _ _ h4) (ev_var rfl) (ev_var rfl) (by omega) (ev_is (ev_ixI (j := p.length - 1 - i + g.length - 1) (b := coef L (p.length - 1 - i + g.length - 1)) (SqL.of (e5 _ _ h3)) (ev_var rfl) (ev_is (ev_sub (ev_add (ev_var rfl) (ev_len (ev_var rfl) (ex_l (e3.trans e5) hG))) ev_c) (by rw [List.length_map]; congr 1; omega)) (coef_get (by omega))) (by rw [hk])) fun H6 e6 => ?_
      generalize hat : p.length - 1 - i = at' at *
      have hl6 : (upd H6 t (.lst ((T.set at' (coef p at')).map V.int))) l = some (.lst (L.map V.int)) := by
        rw [upd_ne ne]
        exact e6 _ _ (e5 _ _ h3)
      have e36 : Ex H (upd H6 t (.lst ((T.set at' (coef p at')).map V.int))) := Ex.mut ((e3.trans e5).trans e6) ntH
      have cT2 : ∀ m, m < p.length → coef (T.set at' (coef p at')) m = if m < at' then 0 else coef p m := fun m hm => by
        rw [coef_set (by omega), cT m hm]
        by_cases z : m = at'
        · rw [if_pos z, z, if_neg (by omega)]
        · rw [if_neg z]
          split <;> split <;> first | rfl | omega
      generalize hT2 : T.set at' (coef p at') = T2 at *
      have lT2 : T2.length = p.length := by rw [← hT2, List.length_set, lT]
      have gT2 : T2[at']? = some (coef p at') := by rw [coef_get (by omega), cT2 _ (by omega), if_neg (Nat.lt_irrefl _)]
      refine s_forE (xs := g.map V.int) (by one_place) (ex_l e36 hG) (fun k σ' H' => ∃ (L : List Int) (x3 x4 : Option V), σ' = [some (.ref a), some (.ref b), some (.ref l), some (.ref t), some (.int (i : Nat)), some (.int ((at' : Nat) : Int)), x3, x4] ∧ Ex H H' ∧ H' l = some (.lst (L.map V.int)) ∧ H' t = some (.lst (T2.map V.int)) ∧ L.length = (mulK p g).length ∧
          ∀ m, m < L.length → coef L m = cv p g (at' + 1) m - if at' ≤ m ∧ m - at' < k then coef p at' * coef g (m - at') else 0)
        (fun H7 e7 => ⟨L, _, _, rfl, e36.trans e7, e7 _ _ hl6, e7 _ _ upd_same, lL, fun m hm => ?_⟩) (fun k σ' H' _ hp => ?_) (fun k x σ' H' hx hp H7 e7 => ?_) (fun σ' H' hp => ?_)
      · rw [cL m hm, if_neg (by omega), show p.length - i = at' + 1 by omega]
        omega
      · obtain ⟨_, _, _, _, e7, _⟩ := hp
        exact ex_l e7 hG
      · obtain ⟨L, x3, x4, rfl, e8, h8, h9, lL, cL⟩ := hp
        obtain ⟨z, hz, rfl⟩ := map_get hx
        have hk := (List.getElem?_eq_some_iff.mp hz).1
        refine s_setI (j := at' + k) (b := coef L (at' + k) - coef p at' * z) (e7 _ _ h8) (by one_place) (ev_is (by one_place) (by rfl)) (by omega) (ev_sub (ev_ixI (j := at' + k) (SqL.of (e7 _ _ h8)) (ev_var rfl) (ev_is (by one_place) (by rfl)) (coef_get (by omega))) (ev_mul (ev_ixI (j := at') (SqL.of (e7 _ _ h9)) (ev_var rfl) (ev_var rfl) gT2) (ev_var rfl) (mulB (bp at') (bg.at hz) (by decide)))) fun H9 e9 => ⟨_, _, _, rfl, Ex.mut ((e8.trans e7).trans e9) nl, upd_same, ?_, by rw [List.length_set]; exact lL, fun m hm => ?_⟩
        · rw [upd_ne ne.symm]
          exact e9 _ _ (e7 _ _ h9)
        · rw [List.length_set] at hm
          rw [coef_set (by omega), cL m hm, cL (at' + k) (by omega)]
          by_cases e : m = at' + k
          · subst e
            rw [if_pos rfl, if_neg (by omega), if_pos (by omega), Nat.add_sub_cancel_left, coef_of hz]
            omega
          · rw [if_neg e]
            split <;> split <;> first | rfl | omega
      · obtain ⟨L, x3, x4, rfl, e8, h8, h9, lL, cL⟩ := hp
        rw [List.length_map] at cL
        refine ⟨L, T2, _, _, _, _, rfl, e8, h8, h9, lL, lT2, fun m hm => ?_, fun m hm => ?_⟩
        · rw [cL m hm, cv, show p.length - (i + 1) = at' by omega]
          by_cases z : at' ≤ m
          · rw [if_pos z]
            split
            · omega
            · rw [coef_ge (show g.length ≤ m - at' by omega)]
              omega
          · rw [if_neg z, if_neg (by omega)]
            omega
        · rw [cT2 m hm, show p.length - (i + 1) = at' by omega]
    · obtain ⟨L, T, x1, x2, x3, x4, rfl, e3, h3, h4, lL, lT, cL, cT⟩ := hp
      rw [Int.toNat_natCast, Nat.sub_self] at cT
      have eT : T = p := ext_of lT fun m hm => by rw [cT m (by omega), if_neg (Nat.not_lt_zero _)]
      exact s_ret (v := .ref t) (by one_place) fun H5 e5 => q.go (Ex.refl H) ntH (e3.trans e5) (by rw [← eT]; exact e5 _ _ h4)
end

def castI (l : List Nat) : List Int := l.map fun d : Nat => (d : Int)
theorem castI_len (l : List Nat) : (castI l).length = l.length := List.length_map _
def rootRows (n : Nat) : List (Int × List Int) := (castI (dvL n)).map fun d => (d, phi d.toNat)
theorem dvL_len (n : Nat) : (dvL n).length ≤ n := by
  unfold dvL dvs
  rw [List.length_map]
  have := List.length_filter_le (fun i => decide (n % (i + 1) = 0)) (List.range n)
  rw [List.length_range] at this
  exact this
theorem l1R_dropf (p : Nat → Bool) : ∀ (l : List Nat), (∀ e ∈ l, 1 ≤ l1 (phi e)) → ∀ j, l1R (((l.drop j).filter p).map phi) ≤ l1R ((l.filter p).map phi)
  | [], _, j => by
    rw [List.drop_nil]
    exact Nat.le_refl _
  | a :: l, h, 0 => Nat.le_refl _
  | a :: l, h, j + 1 => by
    have ih := l1R_dropf p l (fun e he => h e (List.mem_cons_of_mem _ he)) j
    rw [List.drop_succ_cons, List.filter_cons]
    split
    · have := Nat.mul_le_mul_left (l1R ((l.filter p).map phi)) (h a (List.mem_cons_self ..))
      show _ ≤ l1R ((l.filter p).map phi) * l1 (phi a)
      omega
    · exact ih
theorem lenR_dropf (p : Nat → Bool) : ∀ (l : List Nat) (j : Nat), lenR (((l.drop j).filter p).map phi) ≤ lenR ((l.filter p).map phi)
  | [], j => by
    rw [List.drop_nil]
    exact Nat.le_refl _
  | a :: l, 0 => Nat.le_refl _
  | a :: l, j + 1 => by
    have ih := lenR_dropf p l j
    rw [List.drop_succ_cons, List.filter_cons]
    split
    · show _ ≤ lenR ((l.filter p).map phi) + _
      omega
    · exact ih
/-- what is left to part by, from the j-th divisor on to the i-th, d -/
def rsF (n i d j : Nat) : List (List Int) := ((((dvL n).take (i + 1)).drop j).filter fun e => decide (d % e = 0)).map phi
theorem dvL_at {n i d : Nat} (hn : 1 ≤ n) (hi : (dvL n)[i]? = some d) : 1 ≤ d ∧ d ≤ n := by
  have hd := (dvL_mem hn).mp (List.mem_of_getElem? hi)
  exact ⟨Nat.pos_of_dvd_of_pos hd (by omega), Nat.le_of_dvd (by omega) hd⟩
theorem rsF_zero {n i d : Nat} (hn : 1 ≤ n) (h2 : n ≤ 420) (hi : (dvL n)[i]? = some d) : Kp.prodR (rsF n i d 0) = xd1 d ∧ l1R (rsF n i d 0) < BB := by
  have hd := dvL_at hn hi
  have := phi_prod (d := d) hd.1 (by omega)
  unfold rsF
  rw [List.drop_zero, dvL_below hn hi]
  unfold dvL
  rw [List.map_map]
  exact this
theorem rsF_mem {n i d j : Nat} {g : List Int} (hn : 1 ≤ n) (h2 : n ≤ 420) (hg : g ∈ rsF n i d j) : Mon g := by
  unfold rsF at hg
  obtain ⟨e, he, rfl⟩ := List.mem_map.mp hg
  have h1 := List.mem_of_mem_take (List.mem_of_mem_drop (List.mem_filter.mp he).1)
  have h3 := (dvL_mem hn).mp h1
  have := Nat.le_of_dvd (by omega) h3
  exact phi_mon (Nat.pos_of_dvd_of_pos h3 (by omega)) (by omega)
theorem rsF_bd {n i d : Nat} (hn : 1 ≤ n) (h2 : n ≤ 420) (hi : (dvL n)[i]? = some d) (j : Nat) : Bd 300 (Kp.prodR (rsF n i d j)) ∧ Kp.prodR (rsF n i d j) ≠ [] ∧ (Kp.prodR (rsF n i d j)).length ≤ d + 1 := by
  have hd := dvL_at hn hi
  obtain ⟨a, b⟩ := rsF_zero hn h2 hi
  have hm : ∀ j, ∀ g ∈ rsF n i d j, g ≠ [] := fun j g hg => (rsF_mem hn h2 hg).ne
  have hl : l1R (rsF n i d j) ≤ l1R (rsF n i d 0) := l1R_dropf _ _ (fun e he => by
    have h3 := (dvL_mem hn).mp (List.mem_of_mem_take he)
    have := Nat.le_of_dvd (by omega) h3
    exact (phi_mon (Nat.pos_of_dvd_of_pos h3 (by omega)) (by omega)).l1) j
  have hn2 : lenR (rsF n i d j) ≤ lenR (rsF n i d 0) := lenR_dropf _ _ j
  obtain ⟨c1, c2⟩ := prodR_len _ (hm j)
  obtain ⟨d1, d2⟩ := prodR_len _ (hm 0)
  rw [a, xd1_len hd.1] at d2
  refine ⟨(bd_of_l1 (Nat.lt_of_le_of_lt (prodR_l1 _) (Nat.lt_of_le_of_lt hl b))).mono (by decide), c1, by omega⟩
theorem rsF_cons {n i d j e : Nat} (hj : j ≤ i) (he : (dvL n)[j]? = some e) : rsF n i d j = (if d % e = 0 then [phi e] else []) ++ rsF n i d (j + 1) := by
  obtain ⟨h1, h2⟩ := List.getElem?_eq_some_iff.mp he
  have hlt : j < ((dvL n).take (i + 1)).length := by
    rw [List.length_take]
    omega
  have ed : ((dvL n).take (i + 1)).drop j = e :: ((dvL n).take (i + 1)).drop (j + 1) := by
    rw [List.drop_eq_getElem_cons hlt, List.getElem_take, h2]
  unfold rsF
  rw [ed, List.filter_cons]
  by_cases z : d % e = 0
  · rw [if_pos (decide_eq_true z), if_pos z]
    rfl
  · rw [if_neg (by rw [decide_eq_false z]; decide), if_neg z]
    rfl
theorem rsF_end (n i d : Nat) : rsF n i d (i + 1) = [] := by
  unfold rsF
  rw [List.drop_of_length_le (by rw [List.length_take]; omega)]
  rfl
theorem rows_get {n i : Nat} {r : Int × List Int} (h : (rootRows n)[i]? = some r) : ∃ d, (dvL n)[i]? = some d ∧ r = ((d : Int), phi d) := by
  unfold rootRows castI at h
  rw [List.map_map, List.getElem?_map] at h
  obtain ⟨d, hd, rfl⟩ := Option.map_eq_some_iff.mp h
  exact ⟨d, hd, rfl⟩
theorem rows_at {n i d : Nat} (h : (dvL n)[i]? = some d) : (rootRows n)[i]? = some ((d : Int), phi d) := by
  unfold rootRows castI
  rw [List.map_map, List.getElem?_map, h]
  rfl
theorem rows_len (n : Nat) : (rootRows n).length = (dvL n).length := by
  unfold rootRows
  rw [List.length_map, castI_len]
theorem dvL_last {n : Nat} (h : 1 ≤ n) : (dvL n)[(dvL n).length - 1]? = some n := by
  obtain ⟨k, hk, e⟩ := List.mem_iff_getElem.mp ((dvL_mem h).mpr (Nat.dvd_refl n))
  have hl : (dvL n).length - 1 < (dvL n).length := by omega
  rw [List.getElem?_eq_getElem hl]
  have hd := (dvL_mem h).mp (List.getElem_mem hl)
  have hle := Nat.le_of_dvd (by omega) hd
  by_cases z : k = (dvL n).length - 1
  · subst z
    rw [e]
  · have := List.pairwise_iff_getElem.mp (dvL_rise n) k ((dvL n).length - 1) hk hl (by omega)
    omega
/- _law_root_poly: slots 0 _law_n, 1 _law_told, 2 _law_d, 3 _law_f, 4 _law_e, 5 _law_g, 6 _law_k; calls _law_over -/
abbrev s__law_root_poly : Stmt := topS 33
theorem sc__law_root_poly : FnScope ["_law_n", "_law_told", "_law_d", "_law_f", "_law_e", "_law_g", "_law_k"] ["_law_n"] (defScope s__law_root_poly) := ⟨rfl, rfl, rfl, by decide +kernel, rfl, by decide +kernel, by decide +kernel⟩

section
variable {P : Program} {w : World} {K : PySem.W.Frag} {mg : Str → Option Value} {base : Heap}
theorem cal_lrp40 (nb : Nb mg) (c__law_over : Cal P w K mg base CX0 "_law_over" 1 ["_law_f", "_law_g"] (spLOver K)) (d : Dfn K mg "_law_root_poly" ["_law_n"] s__law_root_poly) : Cal P w K mg base CX0 "_law_root_poly" 2 ["_law_n"] spRoot := by
  refine d.cal sc__law_root_poly (fun vs H Q E h => ?_) (fun fa cdv A outer s H vs Q E hr h => ?_)
  · obtain ⟨n, rfl, _⟩ := h
    rfl
  · obtain ⟨n, rfl, n1, n2, q⟩ := h
    refine ⟨_, (pss_cons (ps_set (i := 1) sc__law_root_poly.nd rfl (.inl rfl) (pe_lst pa_nil))
      (pss_cons (ps_for PassesOwn.never rfl (pi_list (pe_lc (own := [("_law_k", 6)]) (g := gName 6) (by rfl) sc__law_root_poly.nd (pi_range2 (by rfl) nb.range (pa_cons pe_int (pa_cons (pe_op op_add (pv 0) pe_int) pa_nil))) (blkOk_by (N := ["_law_n", "_law_told", "_law_d", "_law_f", "_law_e", "_law_g", "_law_k"]) (sc := defScope s__law_root_poly) (by decide +kernel)) (fun _ _ _ _ _ => (pg_name (i := 6) sc__law_root_poly.nd rfl (Or.inl rfl))) (fun _ _ _ _ _ => pts_one (pt_cmpR op_eq (pe_op op_mod (pv 0) (pv 6)) pe_int (nomark _))) (fun _ _ _ _ _ => (pv 6)))) (pg_name (i := 2) sc__law_root_poly.nd rfl (.inl rfl)) (pss_cons (ps_set (i := 3) sc__law_root_poly.nd rfl (.inl rfl) (pe_op op_cat (pe_op op_cat (pe_lst (pa_cons (pe_op op_sub pe_int pe_int) pa_nil)) (pe_op op_rep (pe_lst (pa_cons pe_int pa_nil)) (pe_op op_sub (pv 2) pe_int))) (pe_lst (pa_cons pe_int pa_nil))))
      (pss_cons (ps_for PassesOwn.never rfl (pi_list (pv 1)) (pg_tup (by rfl) (pgs_cons (pg_name (i := 4) sc__law_root_poly.nd rfl (.inl rfl)) (pgs_cons (pg_name (i := 5) sc__law_root_poly.nd rfl (.inl rfl)) pgs_nil))) (pss_one (ps_if (pt_cmpR op_eq (pe_op op_mod (pv 2) (pv 4)) pe_int (nomark _)) (pss_one (ps_set (i := 3) sc__law_root_poly.nd rfl (.inl rfl) (pe_cal c__law_over (hr.mono (by first | decide | omega)) (by rfl) pass0 (pa_cons (pv 3) (pa_cons (pv 5) pa_nil))))) pss_nil)))
      (pss_one (ps_expr (pe_bm PySem.F.plainAttrs_list PySem.F.slot_list_append PySem.F.type_list_append mt_append (pv 1) (pa_cons (pe_tup (pa_cons (pv 2) (pa_cons (pv 3) pa_nil))) pa_nil)))))))
      (pss_one (ps_ret (pe_ix ix_tup (pe_ix ix_list (pv 1) (pe_un un_neg pe_int) (fun _ _ => rfl)) pe_int (fun _ _ => rfl)))))), ?_⟩
    have hdl := dvL_len n
    refine q_asgL (xs := []) (el_lst ea_nil (by decide)) fun T H1 nT e1 h1 => ?_
    refine q_forNLn (xs := (castI (dvL n)).map V.int) (el_is (el_lcR2 (lo := 1) (hi := (n : Int) + 1) (fun i => decide ((n : Int) % (1 + (i : Int)) = 0)) (fun i => .int (1 + (i : Int))) (by one_place) (by omega) (fun _ => rfl) (fun i H2 e2 hi => by one_place) (fun i H2 e2 hi _ => ev_var rfl)) ?_)
      (fun p i σ' H' => ∃ ts x2 x3 x4 x5, σ' = [some (.int (n : Nat)), some (.ref T), x2, x3, x4, x5, none] ∧ Ex H H' ∧ H' p = some (.lst ((castI (dvL n)).map V.int)) ∧ H' T = some (.lst (ts.map V.ref)) ∧ p ≠ T ∧ RwsN T H H' ts ((rootRows n).take i))
      (fun p H2 np e2 hp => ⟨[], none, none, none, none, rfl, e1.trans e2, hp, e2 _ _ h1, (ne_of_none h1 np).symm, .nil⟩) (fun p i σ' H' _ hp => ?_) (fun p i x σ' H' hx hp => ?_) (fun p σ' H' hp => ?_)
    · unfold castI dvL dvs
      rw [List.map_map, List.map_map, show ((n : Int) + 1 - 1).toNat = n by omega]
      have ef : (List.range n).filter (fun i : Nat => decide ((n : Int) % (1 + (i : Int)) = 0)) = (List.range n).filter fun i : Nat => decide (n % (i + 1) = 0) := by
        congr 1
        funext i
        refine decide_eq_decide.mpr ?_
        rw [show (1 + (i : Int)) = ((i + 1 : Nat) : Int) by omega]
        omega
      rw [ef]
      refine List.map_congr_left fun i _ => ?_
      show V.int (1 + (i : Int)) = V.int ((i + 1 : Nat) : Int)
      congr 1
      omega
    · obtain ⟨_, _, _, _, _, _, _, hp, _⟩ := hp
      exact SqL.of hp
    · obtain ⟨ts, x2, x3, x4, x5, rfl, e2, hpp, hT, npT, R⟩ := hp
      obtain ⟨z, hz, rfl⟩ := map_get hx
      unfold castI at hz
      rw [List.getElem?_map] at hz
      obtain ⟨d, hd, rfl⟩ := Option.map_eq_some_iff.mp hz
      have db := dvL_at n1 hd
      have hid := (List.getElem?_eq_some_iff.mp hd).1
      have hts : ts.length = i := by
        rw [Paired.length R, List.length_take, rows_len]
        omega
      obtain ⟨z1, z2⟩ := rsF_zero n1 n2 hd
      refine q_asgL (xs := (Kp.prodR (rsF n i d 0)).map V.int) (el_is (el_cat (el_cat (el_lst (vs := [.int (-1)]) (ea_cons (ev_is (ev_sub ev_c ev_c) rfl) ea_nil) (by show 1 ≤ 100000; decide)) (el_rep (x := .int 0) (k := (d : Int) - 1) (el_lst (by one_place) (by decide)) (by one_place) (by omega) (by omega)) (by rw [List.length_singleton, List.length_replicate]; omega)) (el_lst (vs := [.int 1]) (by one_place) (by decide)) (by rw [List.length_append, List.length_singleton, List.length_singleton, List.length_replicate]; omega)) ?_) fun f H3 nf e3 h3 => ?_
      · rw [z1]
        unfold xd1
        rw [List.map_append, List.map_append, List.map_replicate, show ((d : Int) - 1).toNat = d - 1 by omega]
        rfl
      have hT3 := e3 _ _ hT
      have fT : f ≠ T := fun z => by
        rw [z, hT] at nf
        cases nf
      refine q_forL (xs := ts.map V.ref) (by one_place) (SqL.of hT3) (fun j σ' H' => ∃ (f : Addr) (x4 x5 : Option V), σ' = [some (.int (n : Nat)), some (.ref T), some (.int (d : Nat)), some (.ref f), x4, x5, none] ∧ Ex H3 H' ∧ H f = none ∧ f ≠ T ∧ H' f = some (.lst ((Kp.prodR (rsF n i d j)).map V.int)))
        (fun H4 e4 => ⟨f, x4, x5, rfl, e4, fresh_back e2 nf, fT, e4 _ _ h3⟩) (fun j σ' H' _ hp => ?_) (fun j x σ' H' hx hp => ?_) (fun σ' H' hp => ?_)
      · obtain ⟨_, _, _, _, e4, _⟩ := hp
        exact SqL.of (e4 _ _ hT3)
      · obtain ⟨f, x4, x5, rfl, e4, nf, fT, h4⟩ := hp
        rw [List.getElem?_map] at hx
        obtain ⟨t, ht, rfl⟩ := Option.map_eq_some_iff.mp hx
        obtain ⟨r, hr, g, gT, nt, ng, ht4, hg4⟩ := Kp.paired_get R ht
        have hji : j < i := by
          have := (List.getElem?_eq_some_iff.mp ht).1
          omega
        rw [List.getElem?_take_of_lt hji] at hr
        obtain ⟨e, he, rfl⟩ := rows_get hr
        have eb := dvL_at n1 he
        have ht5 := e4 _ _ (e3 _ _ ht4)
        have hg5 := e4 _ _ (e3 _ _ hg4)
        refine ⟨t, _, rfl, SqT.of ht5, rfl, .int (e : Nat), [.ref g], rfl, .ref g, [], rfl, rfl, ?_⟩
        have hc := rsF_cons (d := d) (show j ≤ i by omega) he
        refine s_when (b := decide (d % e = 0)) (et_is (et_test (ev_eqI (ev_mod (ev_var rfl) (ev_var rfl) (by omega)) ev_c)) (decide_eq_decide.mpr (by omega))) (fun hb H5 e5 => ?_) (fun hb H5 e5 => ?_)
        · have hb := of_decide_eq_true hb
          rw [if_pos hb] at hc
          have hc : rsF n i d j = phi e :: rsF n i d (j + 1) := hc
          have hm : Kp.prodR (rsF n i d j) = mulK (Kp.prodR (rsF n i d (j + 1))) (phi e) := by rw [hc]; rfl
          obtain ⟨b1, b2, b3⟩ := rsF_bd n1 n2 hd (j + 1)
          have pm := phi_mon eb.1 (show e ≤ 420 by omega)
          refine s_asgL (xs := (Kp.prodR (rsF n i d (j + 1))).map V.int) (el_cal (vs := [.ref f, .ref g]) (by one_place) fun H6 e6 Q k E => ⟨f, g, Kp.prodR (rsF n i d (j + 1)), phi e, rfl, SqL.of (by rw [← hm]; exact e6 _ _ (e5 _ _ h4)), SqL.of (e6 _ _ (e5 _ _ hg5)), b2, ⟨pm.ne, pm.one⟩, by omega, by have := phi_le eb.1 (show e ≤ 420 by omega); omega, b1, (bd_of_l1 (phi_bd eb.1 (by omega))).mono (by decide), k⟩) fun f2 H6 nf2 e6 h6 => ⟨f2, _, _, rfl, (e4.trans e5).trans e6, fresh_back (e2.trans (e3.trans (e4.trans e5))) nf2, fun z => ?_, h6⟩
          rw [z, e5 _ _ (e4 _ _ hT3)] at nf2
          cases nf2
        · have hb := of_decide_eq_false hb
          rw [if_neg hb, List.nil_append] at hc
          exact ⟨f, _, _, rfl, e4.trans e5, nf, fT, by rw [← hc]; exact e5 _ _ h4⟩
      · obtain ⟨f, x4, x5, rfl, e4, nf, fT, h4⟩ := hp
        rw [List.length_map, hts, rsF_cons (Nat.le_refl i) hd, Nat.mod_self, if_pos rfl, rsF_end] at h4
        have pm := phi_mon db.1 (show d ≤ 420 by omega)
        have h4 : H' f = some (.lst ((phi d).map V.int)) := by
          rw [h4]
          show some (HO.lst ((Kp.prodR [phi d]).map V.int)) = _
          rw [prodR_one pm.ne]
        have hT4 := e4 _ _ hT3
        refine s_appU (ys := [.int (d : Nat), .ref f]) hT4 (by one_place) (eu_tup (by one_place) (by show 2 ≤ 100000; decide)) (by rw [List.length_map, hts]; omega) fun tp H5 ntp e5 h5 => ?_
        have e25 := (e2.trans e3).trans (e4.trans e5)
        have hT5 := e5 _ _ hT4
        have ntpT : tp ≠ T := fun z => by
          rw [z, hT4] at ntp
          cases ntp
        have nf5 : f ≠ tp := fun z => by
          rw [z, ntp] at h4
          cases h4
        refine ⟨ts ++ [tp], _, _, _, _, rfl, Ex.mut e25 nT, ?_, by rw [upd_same, List.map_append]; rfl, npT, ?_⟩
        · rw [upd_ne npT]
          exact e5 _ _ (e4 _ _ (e3 _ _ hpp))
        · have et : (rootRows n).take (i + 1) = (rootRows n).take i ++ [((d : Int), phi d)] := by
            rw [List.take_add_one, rows_at hd]
            rfl
          rw [et]
          refine Paired.snoc (Paired.mapP R fun t r ⟨g, a1, a2, a3, a4, a5⟩ => ⟨g, a1, a2, a3, ?_, ?_⟩) ⟨f, fT, fresh_back ((e2.trans e3).trans e4) ntp, nf, ?_, ?_⟩
          · rw [upd_ne (ne_of (e5 _ _ (e4 _ _ (e3 _ _ a4))) hT5 (by intro z; cases z))]
            exact e5 _ _ (e4 _ _ (e3 _ _ a4))
          · rw [upd_ne a1]
            exact e5 _ _ (e4 _ _ (e3 _ _ a5))
          · rw [upd_ne ntpT]
            exact h5
          · rw [upd_ne fT]
            exact e5 _ _ h4
    · obtain ⟨ts, x2, x3, x4, x5, rfl, e2, hpp, hT, npT, R⟩ := hp
      rw [List.length_map, castI_len, List.take_of_length_le (by rw [rows_len]; exact Nat.le_refl _)] at R
      have ll := dvL_last n1
      obtain ⟨t, ht⟩ : ∃ t, ts[(dvL n).length - 1]? = some t := by
        have hl := (List.getElem?_eq_some_iff.mp ll).1
        have := Paired.length R
        rw [rows_len] at this
        exact ⟨ts[(dvL n).length - 1]'(by omega), List.getElem?_eq_getElem (by omega)⟩
      obtain ⟨r, hr, g, gT, nt, ng, ht4, hg4⟩ := Kp.paired_get R ht
      rw [rows_at ll] at hr
      cases hr
      have hll : (ts.map V.ref)[(ts.map V.ref).length - 1]? = some (.ref t) := by
        have := Paired.length R
        rw [rows_len] at this
        rw [List.length_map, this, List.getElem?_map, ht]
        rfl
      exact s_ret (v := .ref g) (ev_ixT (j := 1) (SqT.of ht4) (ev_op (ev_var rfl) (ev_neg ev_c) (rv_ixL (v := .ref t) (SqL.of hT) (atI_last hll))) ev_c rfl) fun H5 e5 => q.go (Ex.refl H) ng (e2.trans e5) (e5 _ _ hg4)
end

/- _law_value: slots 0 _law_f, 1 _law_a, 2 _law_told, 3 _law_number; calls  -/
abbrev s__law_value : Stmt := topS 34
theorem sc__law_value : FnScope ["_law_f", "_law_a", "_law_told", "_law_number"] ["_law_f", "_law_a"] (defScope s__law_value) := ⟨rfl, rfl, rfl, by decide +kernel, rfl, by decide +kernel, by decide +kernel⟩

def spValue (K : PySem.W.Frag) : Sp := fun vs H Q _ => ∃ (a : Addr) (f : List Int) (x : Int) (n : Nat), vs = [.ref a, .int x] ∧ SqL K H a (f.map V.int) ∧ Bd n f ∧ x.natAbs < 2 ^ n ∧ (n + 1) * (f.length + 1) ≤ 900000 ∧ RetV (.int (valP x f)) H Q
theorem val_bd {x : Int} {f : List Int} {n : Nat} (hx : x.natAbs < 2 ^ n) (hf : Bd n f) : (valP x f).natAbs < 2 ^ ((n + 1) * f.length) := by
  induction f with
  | nil =>
    show 0 < _
    exact Nat.two_pow_pos _
  | cons a f ih =>
    have h1 := ih fun m => hf (m + 1)
    have h2 : a.natAbs < 2 ^ n := hf 0
    have h3 : (x * valP x f).natAbs < 2 ^ (n + (n + 1) * f.length) := wide_lt hx h1
    show (a + x * valP x f).natAbs < 2 ^ ((n + 1) * (f.length + 1))
    rw [show (n + 1) * (f.length + 1) = (n + (n + 1) * f.length) + 1 by rw [Nat.mul_add]; omega, Nat.pow_succ]
    have h4 : (2 : Nat) ^ n ≤ 2 ^ (n + (n + 1) * f.length) := Nat.pow_le_pow_right (by decide) (Nat.le_add_right _ _)
    have h5 := Int.natAbs_add_le a (x * valP x f)
    omega
theorem Bd.drop {n : Nat} {f : List Int} (h : Bd n f) (i : Nat) : Bd n (f.drop i) := fun m => by
  have e : coef (f.drop i) m = coef f (i + m) := by
    unfold coef
    rw [List.getD_eq_getElem?_getD, List.getElem?_drop, List.getD_eq_getElem?_getD]
  rw [e]
  exact h _
section
variable {P : Program} {w : World} {K : PySem.W.Frag} {mg : Str → Option Value} {base : Heap}
theorem cal_lv40 (nb : Nb mg) (d : Dfn K mg "_law_value" ["_law_f", "_law_a"] s__law_value) : Cal P w K mg base CX0 "_law_value" 1 ["_law_f", "_law_a"] (spValue K) := by
  refine d.cal sc__law_value (fun vs H Q E h => ?_) (fun fa cdv A outer s H vs Q E hr h => ?_)
  · obtain ⟨a, f, x, n, rfl, _⟩ := h
    rfl
  · obtain ⟨a, f, x, n, rfl, hF, bf, bx, hn, q⟩ := h
    refine ⟨_, (pss_cons (ps_set (i := 2) sc__law_value.nd rfl (.inl rfl) pe_int)
      (pss_cons (ps_for PassesOwn.never rfl (pi_reversed (by rfl) nb.reversed (pa_cons (pv 0) pa_nil)) (pg_name (i := 3) sc__law_value.nd rfl (.inl rfl)) (pss_one (ps_set (i := 2) sc__law_value.nd rfl (.inl rfl) (pe_op op_add (pe_op op_mulW (pv 2) (pv 1)) (pv 3)))))
      (pss_one (ps_ret (pv 2))))), ?_⟩
    refine q_asg (v := .int 0) (by one_place) fun H1 e1 => ?_
    refine q_forV (xs := f.map V.int) (by one_place) (ex_l e1 hF) (fun i σ' H' => ∃ y, σ' = [some (.ref a), some (.int x), some (.int (valP x (f.drop (f.length - i)))), y] ∧ Ex H H')
      (fun H2 e2 => ⟨none, by rw [Nat.sub_zero, List.drop_length]; rfl, e1.trans e2⟩) (fun i σ' H' _ hp => ?_) (fun i y σ' H' hi hy hp => ?_) (fun σ' H' hp => ?_)
    · obtain ⟨_, _, e3⟩ := hp
      exact ex_l e3 hF
    · obtain ⟨y', rfl, e3⟩ := hp
      rw [List.length_map] at hi hy
      obtain ⟨z, hz, rfl⟩ := map_get hy
      have hd : valP x (f.drop (f.length - (i + 1))) = z + x * valP x (f.drop (f.length - i)) := by
        rw [show f.length - (i + 1) = f.length - 1 - i by omega, val_drop hz, show f.length - 1 - i + 1 = f.length - i by omega]
      have hb := val_bd (x := x) bx (bf.drop (f.length - i))
      refine s_asg (v := .int (valP x (f.drop (f.length - (i + 1))))) (ev_is (ev_add (ev_mul (ev_var rfl) (ev_var rfl) (mulB hb bx ?_)) (ev_var rfl)) ?_) fun H4 e4 => ⟨_, rfl, e3.trans e4⟩
      · rw [List.length_drop]
        have : (n + 1) * (f.length - (f.length - i)) ≤ (n + 1) * f.length := Nat.mul_le_mul_left _ (by omega)
        rw [Nat.mul_add] at hn
        omega
      · rw [hd, Int.mul_comm, Int.add_comm]
    · obtain ⟨y', rfl, e3⟩ := hp
      refine s_ret (v := .int (valP x f)) (ev_is (ev_var rfl) ?_) fun H4 e4 => q _ (e3.trans e4)
      rw [List.length_map, Nat.sub_self]
      rfl
end

/-! ### led by units, of the law -/
/- _law_common: slots 0 _law_one, 1 _law_other; calls  -/
abbrev s__law_common : Stmt := topS 29
theorem sc__law_common : FnScope ["_law_one", "_law_other"] ["_law_one", "_law_other"] (defScope s__law_common) := ⟨rfl, rfl, rfl, by decide +kernel, rfl, by decide +kernel, by decide +kernel⟩

def spCommon : Sp := fun vs H Q _ => ∃ a b : Nat, vs = [.int (a : Nat), .int (b : Nat)] ∧ RetV (.int ((Nat.gcd a b : Nat) : Int)) H Q
section
variable {P : Program} {w : World} {K : PySem.W.Frag} {mg : Str → Option Value} {base : Heap}
theorem cal_common (nb : Nb mg) (d : Dfn K mg "_law_common" ["_law_one", "_law_other"] s__law_common) : Cal P w K mg base CX0 "_law_common" 1 ["_law_one", "_law_other"] spCommon := by
  refine d.cal sc__law_common (fun vs H Q E h => ?_) (fun f cdv A outer s H vs Q E hr h => ?_)
  · obtain ⟨a, b, rfl, _⟩ := h
    rfl
  · obtain ⟨a, b, rfl, q⟩ := h
    refine ⟨_, (pss_cons (ps_while PassesOwn.never (pt_cmpR op_ne (pv 1) pe_int (nomark _)) (pss_one (ps_par (i := 0) (j := 1) (by rfl) sc__law_common.nd rfl rfl (by decide) (by rfl) (by rfl) (pa_cons (pv 1) (pa_cons (pe_op op_mod (pv 0) (pv 1)) pa_nil)) (by rfl))))
      (pss_one (ps_ret (pv 0)))), ?_⟩
    refine q_while (fun k σ' H' => ∃ u v : Nat, σ' = [some (.int (u : Nat)), some (.int (v : Nat))] ∧ v = k ∧ Nat.gcd u v = Nat.gcd a b ∧ Ex H H') b ⟨a, b, rfl, rfl, rfl, Ex.refl _⟩ fun k σ' H' hW => ?_
    obtain ⟨u, v, rfl, hk, hg, e1⟩ := hW
    refine ⟨!decide ((v : Int) = 0), et_test (ev_neI (ev_var rfl) ev_c), fun hb H2 e2 => ?_, fun hb H2 e2 => ?_⟩
    · have hb : ¬ (v : Int) = 0 := by simpa using hb
      refine ⟨_, fun σ2 H3 hN => ⟨u % v, by have := Nat.mod_lt u (show 0 < v by omega); omega, hN⟩, ?_⟩
      refine (ea_cons (x := .int (v : Nat)) (ev_var rfl) (ea_cons (x := .int ((u % v : Nat) : Int)) (ev_is (ev_mod (ev_var rfl) (ev_var rfl) (by omega)) (by rw [Int.natCast_emod])) ea_nil)) H2 (Ex.refl H2) _ fun H3 e3 => ⟨_, _, rfl, v, u % v, rfl, rfl, ?_, e1.trans (e2.trans e3)⟩
      rw [← hg, Nat.gcd_comm v (u % v), ← Nat.gcd_rec v u, Nat.gcd_comm]
    · have hb : (v : Int) = 0 := by simpa using hb
      have v0 : v = 0 := by omega
      subst v0
      rw [Nat.gcd_zero_right] at hg
      refine s_ret (v := .int ((Nat.gcd a b : Nat) : Int)) (ev_is (ev_var rfl) (by rw [hg])) fun H3 e3 => q _ (e1.trans (e2.trans e3))
end
/- _law_units: slots 0 _law_n, 1 _law_k; calls _law_common -/
abbrev s__law_units : Stmt := topS 31
theorem sc__law_units : FnScope ["_law_n", "_law_k"] ["_law_n"] (defScope s__law_units) := ⟨rfl, rfl, rfl, by decide +kernel, rfl, by decide +kernel, by decide +kernel⟩

section
variable {P : Program} {w : World} {K : PySem.W.Frag} {mg : Str → Option Value} {base : Heap}
theorem cal_lunits (nb : Nb mg) (c__law_common : Cal P w K mg base CX0 "_law_common" 1 ["_law_one", "_law_other"] spCommon) (d : Dfn K mg "_law_units" ["_law_n"] s__law_units) : Cal P w K mg base CX0 "_law_units" 2 ["_law_n"] spUnits := by
  refine d.cal sc__law_units (fun vs H Q E h => ?_) (fun f cdv A outer s H vs Q E hr h => ?_)
  · obtain ⟨a, rfl, _⟩ := h
    rfl
  · obtain ⟨n, rfl, n1, n2, q⟩ := h
    refine ⟨_, (pss_one (ps_ret (pe_lc (own := [("_law_k", 1)]) (g := gName 1) (by rfl) sc__law_units.nd (pi_range1 (by rfl) nb.range (pa_cons (pv 0) pa_nil)) (blkOk_by (N := ["_law_n", "_law_k"]) (sc := defScope s__law_units) (by decide +kernel)) (fun _ _ _ _ _ => (pg_name (i := 1) sc__law_units.nd rfl (Or.inl rfl))) (fun _ _ _ _ _ => pts_one (pt_cmpR op_eq (pe_cal c__law_common (hr.mono (by first | decide | omega)) (by rfl) pass0 (pa_cons (pv 1) (pa_cons (pv 0) pa_nil))) pe_int (nomark _))) (fun _ _ _ _ _ => (pv 1))))), ?_⟩
    refine s_retL (el_lcR1 (n := n) (fun k => Nat.gcd k n.natAbs == 1) (fun k => .int (k : Nat)) (by one_place) (by omega) (fun x => rfl) (fun i H1 e1 hi => ?_) (fun i H1 e1 hi hf => ?_)) fun p H1 hp e1 h1 => q p H1 hp e1 h1
    · refine et_is (et_test (ev_eqI (ev_cal (vs := [.int (i : Nat), .int ((n.natAbs : Nat) : Int)]) (z := .int ((Nat.gcd i n.natAbs : Nat) : Int)) (ea_cons (by one_place) (ea_cons (ev_is (ev_var rfl) (by congr 1; omega)) ea_nil)) fun H2 e2 Q k E => ⟨i, n.natAbs, rfl, k⟩) ev_c)) ?_
      refine Bool.eq_iff_iff.mpr ?_
      rw [decide_eq_true_iff, beq_iff_eq]
      omega
    · exact ev_var rfl
end

/-! ### the mathematics: led sums, traces and norms -/
def ivF (n k : Nat) : Nat := ((List.range n).find? fun v => k * v % n == 1 % n).getD 0
def chkU (n : Nat) : Bool := (unitsF n).length != 0 && (unitsF n).all fun k => (k * ivF n k % n == 1 % n) && ((unitsF n).map fun j => j * k % n).isPerm (unitsF n)
theorem chkU_all : ((List.range 31).all fun i => chkU (i + 1)) = true := by decide +kernel
theorem chkU_at {n : Nat} (h1 : 1 ≤ n) (h2 : n ≤ 31) : (unitsF n).length ≠ 0 ∧ ∀ k ∈ unitsF n, k * ivF n k % n = 1 % n ∧ ((unitsF n).map fun j => j * k % n).Perm (unitsF n) := by
  have h := List.all_eq_true.mp chkU_all (n - 1) (List.mem_range.mpr (by omega))
  rw [show n - 1 + 1 = n by omega] at h
  unfold chkU at h
  rw [Bool.and_eq_true] at h
  refine ⟨by simpa using h.1, fun k hk => ?_⟩
  have h := List.all_eq_true.mp h.2 k hk
  rw [Bool.and_eq_true] at h
  exact ⟨by simpa using h.1, List.isPerm_iff.mp h.2⟩
theorem ledK_mv {n k v : Nat} {f : List Int} (hn : 0 < n) (h : k * v % n = 1 % n) : ∀ i, i ≤ n → ∀ m, m < n → coef (ledK k n f i) m = if v * m % n < i then coef f (v * m % n) else 0
  | 0, _, m, hm => by
    show coef (List.replicate n 0) m = _
    rw [coef_rep, if_neg (by omega)]
  | i + 1, hi, m, hm => by
    show coef ((ledK k n f i).set (k * i % n) (coef f i)) m = _
    rw [coef_set (by rw [ledK_len]; exact Nat.mod_lt _ hn), ledK_mv hn h i (by omega) m hm]
    have k1 := unit_iff hm (show i < n by omega) h
    by_cases c : m = k * i % n
    · rw [if_pos c, ← k1.mp c, if_pos (by omega)]
    · rw [if_neg c]
      have : v * m % n ≠ i := fun e => c (k1.mpr e.symm)
      by_cases d : v * m % n < i
      · rw [if_pos d, if_pos (by omega)]
      · rw [if_neg d, if_neg (by omega)]
theorem led_mv {n k v : Nat} {f : List Int} (hf : f.length = n) (hn : 0 < n) (h : k * v % n = 1 % n) : ledF f k = mv n v f := by
  refine ext_of (by rw [ledF_len, mv_len, hf]) fun m hm => ?_
  rw [ledF_len, hf] at hm
  unfold ledF mv
  rw [hf, ledK_mv hn h n (Nat.le_refl n) m hm, if_pos (Nat.mod_lt _ hn), coef_mkL, if_pos hm]
theorem coef_wsF {n m : Nat} {x : Int} (hm : m < n) : coef (wsF n x) m = if m = 0 then x else 0 := by
  unfold wsF
  cases m with
  | zero => rfl
  | succ m =>
    show coef (List.replicate (n - 1) 0) m = _
    rw [coef_rep]
    rfl
theorem mv_ws {n u v : Nat} {x : Int} (hn : 0 < n) (h : u * v % n = 1 % n) : mv n v (wsF n x) = wsF n x := by
  refine ext_of (by rw [mv_len, wsF_len hn]) fun m hm => ?_
  rw [mv_len] at hm
  unfold mv
  rw [coef_mkL, if_pos hm, coef_wsF (Nat.mod_lt _ hn), coef_wsF hm]
  have k := unit_iff (u := u) (v := v) hm hn h
  rw [Nat.mul_zero, Nat.zero_mod] at k
  by_cases c : m = 0
  · rw [if_pos c, if_pos (k.mp c).symm]
  · rw [if_neg c, if_neg (fun e => c (k.mpr e.symm))]
/-- all led sums multiplied out -/
def pmS (f : List Int) (ks : List Nat) (t : List Int) : List Int := ks.foldl (fun t k => mulS t (ledF f k)) t
theorem pmS_len {f : List Int} : ∀ (ks : List Nat) (t : List Int), (pmS f ks t).length = t.length
  | [], _ => rfl
  | k :: ks, t => by
    show (pmS f ks (mulS t (ledF f k))).length = _
    rw [pmS_len ks, mulS_len]
section
variable {n : Nat} {f : List Int}
theorem pm_mv (h1 : 1 ≤ n) (h2 : n ≤ 31) (hf : f.length = n) {u : Nat} (hu : u ∈ unitsF n) : ∀ (ks : List Nat) (t : List Int), (∀ k ∈ ks, k ∈ unitsF n) → t.length = n → mv n (ivF n u) (pmS f ks t) = pmS f (ks.map fun j => j * u % n) (mv n (ivF n u) t)
  | [], _, _, _ => rfl
  | k :: ks, t, hk, ht => by
    have eu := ((chkU_at h1 h2).2 u hu).1
    have ek := ((chkU_at h1 h2).2 k (hk k (List.mem_cons_self ..))).1
    show mv n (ivF n u) (pmS f ks (mulS t (ledF f k))) = pmS f (ks.map fun j => j * u % n) (mulS (mv n (ivF n u) t) (ledF f (k * u % n)))
    rw [pm_mv h1 h2 hf hu ks _ (fun z hz => hk z (List.mem_cons_of_mem _ hz)) (by rw [mulS_len]; exact ht), mv_mul h1 eu ht, led_mv hf h1 ek, mv_mv h1, ← led_mv (k := k * u % n) hf h1 ?_]
    have e : k * u % n * (ivF n k * ivF n u % n) % n = (k * ivF n k % n) * (u * ivF n u % n) % n := by
      rw [mm1, mm2, mm1, mm2]
      congr 1
      rw [Nat.mul_assoc, Nat.mul_assoc, Nat.mul_left_comm u]
    rw [e, ek, eu, mm1, mm2, Nat.one_mul]
theorem pm_perm (h1 : 1 ≤ n) (hf : f.length = n) {A B : List Nat} (p : A.Perm B) {t : List Int} (ht : t.length = n) : pmS f A t = pmS f B t :=
  fold_perm (op := fun t k => mulS t (ledF f k)) p (fun t => t.length = n) (fun t a h => by show (mulS t (ledF f a)).length = n; rw [mulS_len]; exact h) (fun t a b h => mulS_right (by rw [ledF_len, hf, h]) (by rw [ledF_len, hf, h])) t ht
/-- the product of all led sums is led to itself -/
theorem pm_led (h1 : 1 ≤ n) (h2 : n ≤ 31) (hf : f.length = n) {u : Nat} (hu : u ∈ unitsF n) : ledF (pmS f (unitsF n) (wsF n 1)) u = pmS f (unitsF n) (wsF n 1) := by
  obtain ⟨eu, pu⟩ := (chkU_at h1 h2).2 u hu
  have wl := wsF_len h1 1
  rw [led_mv (by rw [pmS_len, wl]) h1 eu, pm_mv h1 h2 hf hu _ _ (fun _ z => z) wl, mv_ws h1 eu, pm_perm h1 hf pu wl]
/-! traces -/
theorem led_lin {g h : List Int} {c : Int} (lf : f.length = n) (lg : g.length = n) (lh : h.length = n) (hn : 0 < n) (e : ∀ m, coef h m = coef f m + c * coef g m) (k m : Nat) : coef (ledF h k) m = coef (ledF f k) m + c * coef (ledF g k) m := by
  have key : ∀ i m, coef (ledK k n h i) m = coef (ledK k n f i) m + c * coef (ledK k n g i) m := by
    intro i
    induction i with
    | zero =>
      intro m
      show coef (List.replicate n 0) m = coef (List.replicate n 0) m + c * coef (List.replicate n 0) m
      rw [coef_rep, Int.mul_zero]
      rfl
    | succ i ih =>
      intro m
      have hm := Nat.mod_lt (k * i) hn
      show coef ((ledK k n h i).set (k * i % n) (coef h i)) m = coef ((ledK k n f i).set (k * i % n) (coef f i)) m + c * coef ((ledK k n g i).set (k * i % n) (coef g i)) m
      rw [coef_set (by rw [ledK_len]; exact hm), coef_set (by rw [ledK_len]; exact hm), coef_set (by rw [ledK_len]; exact hm)]
      split
      · exact e i
      · exact ih m
  unfold ledF
  rw [lf, lg, lh]
  exact key n m
theorem trS_lin {g h : List Int} {c : Int} (lf : f.length = n) (lg : g.length = n) (lh : h.length = n) (hn : 0 < n) (e : ∀ m, coef h m = coef f m + c * coef g m) (ks : List Nat) (m : Nat) : coef (trS h ks) m = coef (trS f ks) m + c * coef (trS g ks) m := by
  have key : ∀ (ks : List Nat) (a b d : List Int), a.length = n → b.length = n → d.length = n → (∀ m, coef a m = coef b m + c * coef d m) → ∀ m, coef (ks.foldl (fun t k => addS t (ledF h k)) a) m = coef (ks.foldl (fun t k => addS t (ledF f k)) b) m + c * coef (ks.foldl (fun t k => addS t (ledF g k)) d) m := by
    intro ks
    induction ks with
    | nil => exact fun a b d _ _ _ q m => q m
    | cons k ks ih =>
      intro a b d la lb ld q m
      refine ih _ _ _ (by rw [addS_len (by rw [ledF_len, la, lh])]; exact la) (by rw [addS_len (by rw [ledF_len, lb, lf])]; exact lb) (by rw [addS_len (by rw [ledF_len, ld, lg])]; exact ld) (fun m => ?_) m
      rw [coef_addS (by rw [ledF_len, la, lh]), coef_addS (by rw [ledF_len, lb, lf]), coef_addS (by rw [ledF_len, ld, lg]), q m, led_lin lf lg lh hn e k m, Int.mul_add]
      omega
  unfold trS
  rw [lf, lg, lh]
  refine key ks _ _ _ (wsF_len hn 0) (wsF_len hn 0) (wsF_len hn 0) (fun m => ?_) m
  have z : coef (wsF n 0) m = 0 := by
    by_cases hm : m < n
    · rw [coef_wsF hm]
      split <;> rfl
    · exact coef_ge (by rw [wsF_len hn]; omega)
  rw [z, Int.mul_zero]
  rfl
end
def uF (n j : Nat) : List Int := mkL n fun m => if m = j then 1 else 0
def lsgF (n : Int) : Int := (lpF n).foldl (fun g r => g * if r.2 = 1 then -1 else 0) 1
def oftF (n j : Nat) : Int := (((unitsF n).length / (unitsF (n / Nat.gcd n j : Nat)).length : Nat) : Int)
def ctF (n j m : Nat) : Int := (((unitsF n).filter fun k => k * j % n == m).length : Nat)
def chkT (n : Nat) : Bool := (List.range n).all fun j => decide (grF n (mkL n (ctF n j)) = wsF n (oftF n j * lsgF (n / Nat.gcd n j : Nat)))
theorem chkT_all : ((List.range 31).all fun i => chkT (i + 1)) = true := by decide +kernel

theorem chkT_at {n j : Nat} (h1 : 1 ≤ n) (h2 : n ≤ 31) (hj : j < n) : grF n (mkL n (ctF n j)) = wsF n (oftF n j * lsgF (n / Nat.gcd n j : Nat)) := by
  have h := List.all_eq_true.mp chkT_all (n - 1) (List.mem_range.mpr (by omega))
  rw [show n - 1 + 1 = n by omega] at h
  exact of_decide_eq_true (List.all_eq_true.mp h j (List.mem_range.mpr hj))
section
variable {n : Nat} {f : List Int}
theorem uF_len (n j : Nat) : (uF n j).length = n := mkL_len _ _
theorem led_uF (h1 : 1 ≤ n) (h2 : n ≤ 31) {j k m : Nat} (hj : j < n) (hm : m < n) (hk : k ∈ unitsF n) : coef (ledF (uF n j) k) m = if k * j % n = m then 1 else 0 := by
  have ek := ((chkU_at h1 h2).2 k hk).1
  rw [led_mv (uF_len n j) h1 ek]
  unfold mv uF
  rw [coef_mkL, if_pos hm, coef_mkL, if_pos (Nat.mod_lt _ h1)]
  have q := unit_iff hm hj ek
  by_cases c : k * j % n = m
  · rw [if_pos c, if_pos (q.mp c.symm).symm]
  · rw [if_neg c, if_neg (fun e => c (q.mpr e.symm).symm)]
theorem trS_uF (h1 : 1 ≤ n) (h2 : n ≤ 31) {j : Nat} (hj : j < n) : trS (uF n j) (unitsF n) = mkL n (ctF n j) := by
  have tl := trS_len (f := uF n j) (by rw [uF_len]; exact h1) (unitsF n)
  rw [uF_len] at tl
  refine mkL_of tl fun m hm => ?_
  have key : ∀ (ks : List Nat) (t : List Int), (∀ k ∈ ks, k ∈ unitsF n) → t.length = n → coef (ks.foldl (fun t k => addS t (ledF (uF n j) k)) t) m = coef t m + (((ks.filter fun k => k * j % n == m).length : Nat) : Int) := by
    intro ks
    induction ks with
    | nil => exact fun t _ _ => (Int.add_zero _).symm
    | cons k ks ih =>
      intro t hk ht
      rw [List.foldl_cons, ih _ (fun z hz => hk z (List.mem_cons_of_mem _ hz)) (by rw [addS_len (by rw [ledF_len, uF_len, ht])]; exact ht), coef_addS (by rw [ledF_len, uF_len, ht]), led_uF h1 h2 hj hm (hk k (List.mem_cons_self ..)), List.filter_cons]
      by_cases c : k * j % n = m
      · rw [if_pos c, if_pos (by rw [beq_iff_eq]; exact c), List.length_cons]
        omega
      · rw [if_neg c, if_neg (by rw [beq_iff_eq]; exact c)]
        omega
  unfold trS
  rw [key _ _ (fun _ z => z) (by rw [uF_len]; exact wsF_len h1 0), uF_len, coef_wsF hm]
  unfold ctF
  split <;> omega
/-- the law's trace, of the first i numbers -/
def ltK (f : List Int) : Nat → Int
  | 0 => 0
  | i + 1 => ltK f i + coef f i * oftF f.length i * lsgF (f.length / Nat.gcd f.length i : Nat)
def preF (n : Nat) (f : List Int) (i : Nat) : List Int := mkL n fun m => if m < i then coef f m else 0
theorem ws_lin {n : Nat} {x c y : Int} (h1 : 1 ≤ n) : ∀ m, coef (wsF n (x + c * y)) m = coef (wsF n x) m + c * coef (wsF n y) m := fun m => by
  by_cases hm : m < n
  · rw [coef_wsF hm, coef_wsF hm, coef_wsF hm]
    split
    · rfl
    · rw [Int.mul_zero]
      rfl
  · rw [coef_ge (by rw [wsF_len h1]; omega), coef_ge (by rw [wsF_len h1]; omega), coef_ge (by rw [wsF_len h1]; omega), Int.mul_zero]
    rfl
theorem trace_pre (h1 : 1 ≤ n) (h2 : n ≤ 31) (hf : f.length = n) : ∀ i, i ≤ n → grF n (trS (preF n f i) (unitsF n)) = wsF n (ltK f i)
  | 0, _ => by
    have X := nokX (n := (n : Int)) (by omega) (by omega)
    have pl : (preF n f 0).length = n := mkL_len _ _
    have tl := trS_len (f := preF n f 0) (by rw [pl]; exact h1) (unitsF n)
    have gl := grF_len (n := (n : Int)) (f := trS (preF n f 0) (unitsF n)) (by rw [tl, pl])
    have z : ∀ m, coef (trS (preF n f 0) (unitsF n)) m = 0 := fun m => by
      have := trS_lin (c := 1) pl pl pl h1 (fun m => by
        have : coef (preF n f 0) m = 0 := by
          unfold preF
          rw [coef_mkL]
          split
          · rw [if_neg (by omega)]
          · rfl
        rw [this]
        rfl) (unitsF n) m
      omega
    refine ext_of (by rw [wsF_len h1]; omega) fun m hm => ?_
    rw [gr_zero X (fun m _ => z m) m (by omega), coef_wsF (by omega)]
    show 0 = if m = 0 then 0 else 0
    split <;> rfl
  | i + 1, hi => by
    have X := nokX (n := (n : Int)) (by omega) (by omega)
    have pl : ∀ i, (preF n f i).length = n := fun i => mkL_len _ _
    have tl := fun i => trS_len (f := preF n f i) (by rw [pl]; exact h1) (unitsF n)
    have gl := grF_len (n := (n : Int)) (f := trS (preF n f (i + 1)) (unitsF n)) (by rw [tl, pl])
    have e : ∀ m, coef (preF n f (i + 1)) m = coef (preF n f i) m + coef f i * coef (uF n i) m := fun m => by
      unfold preF uF
      rw [coef_mkL, coef_mkL, coef_mkL]
      by_cases hm : m < n
      · rw [if_pos hm, if_pos hm, if_pos hm]
        by_cases c : m = i
        · rw [if_pos (by omega), if_neg (by omega), if_pos c, c, Int.mul_one, Int.zero_add]
        · rw [if_neg c, Int.mul_zero, Int.add_zero]
          by_cases d : m < i
          · rw [if_pos d, if_pos (by omega)]
          · rw [if_neg d, if_neg (by omega)]
      · rw [if_neg hm, if_neg hm, if_neg hm, Int.mul_zero]
        rfl
    refine ext_of (by rw [wsF_len h1]; omega) fun m hm => ?_
    have hmn : m < n := by omega
    rw [gr_lin X (coef f i) (f := trS (preF n f i) (unitsF n)) (g := trS (uF n i) (unitsF n)) (fun m _ => trS_lin (pl i) (uF_len n i) (pl (i + 1)) h1 e (unitsF n) m) (by omega), trace_pre h1 h2 hf i (by omega), trS_uF h1 h2 (by omega), chkT_at h1 h2 (by omega), ← ws_lin h1]
    show coef (wsF n (ltK f i + coef f i * _)) m = coef (wsF n (ltK f i + _)) m
    rw [hf, Int.mul_assoc]
theorem trace_all (h1 : 1 ≤ n) (h2 : n ≤ 31) (hf : f.length = n) : grF n (trS f (unitsF n)) = wsF n (ltK f n) := by
  have h := trace_pre h1 h2 hf n (Nat.le_refl n)
  have e : preF n f n = f := ext_of (by unfold preF; rw [mkL_len, hf]) fun m hm => by
    unfold preF at hm ⊢
    rw [mkL_len] at hm
    rw [coef_mkL, if_pos hm, if_pos hm]
  rw [e] at h
  exact h
theorem traceF_is (h1 : 1 ≤ n) (h2 : n ≤ 31) (hf : f.length = n) : traceF f = ltK f n := by
  have tl := trS_len (f := f) (by rw [hf]; exact h1) (unitsF n)
  unfold traceF woF
  rw [hf, tl, hf, trace_all h1 h2 hf]
  rfl
/-! norms -/
theorem gr_ws (h1 : 1 ≤ n) (h2 : n ≤ 31) (x : Int) : grF n (wsF n x) = wsF n x := by
  -- a whole number is what the trace of it is, so often as there are units
  have X := nokX (n := (n : Int)) (by omega) (by omega)
  have wl := wsF_len h1 x
  refine (gr_fix X (by rw [wl]) fun r hr m hm hb => ?_).1
  have hmn : m < n := by omega
  rw [coef_wsF hmn]
  split
  · rename_i c
    subst c
    obtain ⟨b1, b2, b3, b4, b5, b6, b7⟩ := (nok (n := (n : Int)) (by omega) (by omega)).pw r hr
    unfold barB at hb
    have hb := of_decide_eq_true hb
    rw [show ((0 : Nat) : Int) % r.2.1 = 0 from Int.zero_emod _] at hb
    have h2 : 0 < r.2.2 := by
      by_cases c : 0 < r.2.2
      · exact c
      · have := Int.mul_nonpos_of_nonpos_of_nonneg (a := r.2.2) (b := r.1) (by omega) (by omega)
        omega
    have h3 : r.2.2 * 2 ≤ r.2.2 * r.1 := Int.mul_le_mul_of_nonneg_left b3 (by omega)
    omega
  · rfl
/-- the norm, as a list -/
theorem pm_whole (h1 : 1 ≤ n) (h2 : n ≤ 31) (hf : f.length = n) : ∃ t, grF n (pmS f (unitsF n) (wsF n 1)) = wsF n t := by
  have X := nokX (n := (n : Int)) (by omega) (by omega)
  generalize hP : pmS f (unitsF n) (wsF n 1) = p
  have pl : p.length = n := by rw [← hP, pmS_len, wsF_len h1]
  have inv : ∀ k ∈ unitsF n, ledF p k = p := fun k hk => by
    rw [← hP]
    exact pm_led h1 h2 hf hk
  have key : ∀ (ks : List Nat) (t : List Int), (∀ k ∈ ks, k ∈ unitsF n) → t.length = n → ∀ m, coef (ks.foldl (fun t k => addS t (ledF p k)) t) m = coef t m + (ks.length : Nat) * coef p m := by
    intro ks
    induction ks with
    | nil =>
      intro t _ _ m
      show coef t m = coef t m + (0 : Int) * coef p m
      rw [Int.zero_mul, Int.add_zero]
    | cons k ks ih =>
      intro t hk ht m
      rw [List.foldl_cons, inv k (hk k (List.mem_cons_self ..)), ih _ (fun z hz => hk z (List.mem_cons_of_mem _ hz)) (by rw [addS_len (by rw [ht, pl])]; exact ht), coef_addS (by rw [ht, pl]), List.length_cons, Int.natCast_add, Int.add_mul]
      show _ = coef t m + (((ks.length : Nat) : Int) * coef p m + 1 * coef p m)
      omega
  have tr := trace_all h1 h2 pl
  have gl := grF_len (n := (n : Int)) (f := p) (by rw [pl])
  refine ⟨coef (grF n p) 0, ext_of (by rw [wsF_len h1]; omega) fun m hm => ?_⟩
  have hmn : m < n := by omega
  rw [coef_wsF hmn]
  by_cases c : m = 0
  · rw [if_pos c, c]
  · rw [if_neg c]
    have lin := gr_lin X (((unitsF n).length : Nat) : Int) (f := wsF n 0) (g := p) (h := trS p (unitsF n)) (fun m hm => by
      unfold trS
      rw [pl, key _ _ (fun _ z => z) (wsF_len h1 0)]) (m := m) (by omega)
    rw [tr, gr_ws h1 h2, coef_wsF hmn, coef_wsF hmn, if_neg c, if_neg c] at lin
    have ne := (chkU_at h1 h2).1
    have z : (((unitsF n).length : Nat) : Int) * coef (grF n p) m = 0 := by omega
    rcases Int.mul_eq_zero.mp z with q | q
    · omega
    · exact q
theorem nm_gr (h1 : 1 ≤ n) (h2 : n ≤ 31) (hf : f.length = n) : ∀ (ks : List Nat) (t t' : List Int), t.length = n → t'.length = n → grF n t = grF n t' → grF n (ks.foldl (fun t k => grF f.length (mulS t (ledF f k))) t) = grF n (pmS f ks t')
  | [], _, _, _, _, e => e
  | k :: ks, t, t', lt, lt', e => by
    have X := nokX (n := (n : Int)) (by omega) (by omega)
    have l1 : (mulS t (ledF f k)).length = n := by rw [mulS_len, lt]
    have l2 : (mulS t' (ledF f k)).length = n := by rw [mulS_len, lt']
    have gl := grF_len (n := (n : Int)) (f := mulS t (ledF f k)) (by rw [l1])
    refine nm_gr h1 h2 hf ks (grF f.length (mulS t (ledF f k))) (mulS t' (ledF f k)) (by rw [hf]; omega) l2 ?_
    rw [hf, (gr_twice X (by rw [l1])).1]
    exact gr_mulS h1 (by omega) lt lt' (by rw [ledF_len, hf]) e
/-- what is left, with noughts behind -/
def padL (n : Nat) (l : List Int) : List Int := l ++ List.replicate (n - l.length) 0
theorem pad_len {h : List Int} {n : Nat} (hn : h.length ≤ n) : (padL n h).length = n := by
  unfold padL
  rw [List.length_append, List.length_replicate]
  omega
theorem coef_pad (n : Nat) (l : List Int) (m : Nat) : coef (padL n l) m = coef l m := by
  unfold padL
  rw [coef_app]
  by_cases c : m < l.length
  · rw [if_pos c]
  · rw [if_neg c, coef_rep, coef_ge (by omega)]
end

theorem mv_one {n : Nat} {f : List Int} (hf : f.length = n) : mv n (1 % n) f = f := by
  refine ext_of (by rw [mv_len, hf]) fun m hm => ?_
  rw [mv_len] at hm
  unfold mv
  rw [coef_mkL, if_pos hm, mm2, Nat.one_mul, Nat.mod_eq_of_lt hm]
theorem zr_mv {n : Nat} (n1 : 1 ≤ n) (n2 : n ≤ 61) {d : List Int} (v : Nat) (z : Zr n (grF n d)) : Zr n (grF n (mv n v d)) := by
  have X := nokX (n := (n : Int)) (by omega) (by omega)
  have G := gok (n := (n : Int)) (by omega) (by omega)
  refine gr_sumZ X (wlF n (pwF n) d) (fun r => mkL n fun m => wh n r (v * m % n)) _ (fun r hr => ?_) fun m hm => ?_
  · obtain ⟨q, hq, e⟩ := wlF_prime hr
    refine ⟨q, hq, fun m i hm hi hmi => ?_⟩
    rw [coef_mkL, coef_mkL, if_pos (by omega), if_pos (by omega)]
    have st := (G.all q hq).step (by omega)
    have key : ∀ m : Nat, ((v * m % n : Nat) : Int) % ((n : Int) / q.1) = ((v : Int) % ((n : Int) / q.1)) * ((m : Int) % ((n : Int) / q.1)) % ((n : Int) / q.1) := fun m => by
      rw [Int.natCast_emod, Int.emod_emod_of_dvd _ ⟨q.1, st.2.2⟩, Int.natCast_mul, Int.mul_emod]
    unfold wh
    rw [← e, key m, key i, hmi]
  · have hmn : m < n := by omega
    have hl := Nat.mod_lt (v * m) (show 0 < n by omega)
    have mk := gr_makes (n := (n : Int)) (by omega) (pwF n) d G.all (v * m % n) (by omega)
    have zz := z (v * m % n) (by omega)
    unfold grF at zz
    rw [zz, cmAt_sum, Int.zero_add] at mk
    unfold mv
    rw [coef_mkL, if_pos hmn, ← mk]
    congr 1
    refine List.map_congr_left fun r _ => ?_
    rw [coef_mkL, if_pos hmn]
theorem gr_mv {n : Nat} (n1 : 1 ≤ n) (n2 : n ≤ 61) {f g : List Int} (hf : f.length = n) (hg : g.length = n) (v : Nat) (e : grF n f = grF n g) : grF n (mv n v f) = grF n (mv n v g) := by
  refine (gr_eq_iff n1 n2 (mv_len _ _ _) (mv_len _ _ _)).mpr ?_
  have z := zr_mv n1 n2 v ((gr_eq_iff n1 n2 hf hg).mp e)
  have q : (mkL n fun m => coef (mv n v f) m - coef (mv n v g) m) = mv n v (mkL n fun m => coef f m - coef g m) := by
    refine ext_of (by rw [mkL_len, mv_len]) fun m hm => ?_
    rw [mkL_len] at hm
    unfold mv
    rw [coef_mkL, if_pos hm, coef_mkL, if_pos hm, coef_mkL, if_pos hm, coef_mkL, if_pos hm, coef_mkL, if_pos (Nat.mod_lt _ (by omega))]
  rw [q]
  exact z
section
variable {n : Nat} {f g : List Int}
theorem unit_mul (h1 : 1 ≤ n) (h2 : n ≤ 31) {a b : Nat} (ha : a ∈ unitsF n) (hb : b ∈ unitsF n) : a * b % n ∈ unitsF n :=
  (((chkU_at h1 h2).2 b hb).2.mem_iff).mp (List.mem_map.mpr ⟨a, ha, rfl⟩)
theorem led_led (h1 : 1 ≤ n) (h2 : n ≤ 31) (hf : f.length = n) {a b : Nat} (ha : a ∈ unitsF n) (hb : b ∈ unitsF n) : ledF (ledF f a) b = ledF f (a * b % n) := by
  have ia := ((chkU_at h1 h2).2 a ha).1
  have ib := ((chkU_at h1 h2).2 b hb).1
  have iab : (a * b % n) * (ivF n a * ivF n b % n) % n = 1 % n := by
    rw [mm1, mm2, show a * b * (ivF n a * ivF n b) = (a * ivF n a) * (b * ivF n b) by rw [Nat.mul_assoc, Nat.mul_left_comm b, ← Nat.mul_assoc], Nat.mul_mod, ia, ib, ← Nat.mul_mod]
  rw [led_mv (by rw [ledF_len, hf]) h1 ib, led_mv hf h1 ia, led_mv hf h1 iab, mv_mv h1]
theorem led_gr (h1 : 1 ≤ n) (h2 : n ≤ 31) (hf : f.length = n) (hg : g.length = n) {a : Nat} (ha : a ∈ unitsF n) : grF n (ledF f a) = grF n (ledF g a) ↔ grF n f = grF n g := by
  have ia := ((chkU_at h1 h2).2 a ha).1
  rw [led_mv hf h1 ia, led_mv hg h1 ia]
  refine ⟨fun e => ?_, gr_mv h1 (by omega) hf hg _⟩
  have := gr_mv h1 (by omega) (mv_len _ _ _) (mv_len _ _ _) a e
  rwa [mv_mv h1, mv_mv h1, Nat.mul_comm, ia, mv_one hf, mv_one hg] at this
theorem keep_mul (h1 : 1 ≤ n) (h2 : n ≤ 31) (hf : f.length = n) {a b : Nat} (ha : a ∈ keepF f) (hb : b ∈ keepF f) : a * b % n ∈ keepF f := by
  unfold keepF at *
  rw [hf] at ha hb ⊢
  rw [List.mem_filter] at *
  refine ⟨unit_mul h1 h2 ha.1 hb.1, decide_eq_true ?_⟩
  rw [← led_led h1 h2 hf ha.1 hb.1, (led_gr h1 h2 (by rw [ledF_len, hf]) hf hb.1).mpr (of_decide_eq_true ha.2)]
  exact of_decide_eq_true hb.2
theorem led_add (h1 : 1 ≤ n) (h2 : n ≤ 31) (hf : f.length = n) (hg : g.length = n) {a : Nat} (ha : a ∈ unitsF n) : ledF (addS f g) a = addS (ledF f a) (ledF g a) := by
  have ia := ((chkU_at h1 h2).2 a ha).1
  have la : (addS f g).length = n := by rw [addS_len (by omega)]; exact hf
  rw [led_mv la h1 ia, led_mv hf h1 ia, led_mv hg h1 ia]
  refine ext_of (by rw [mv_len, addS_len (by rw [mv_len, mv_len]), mv_len]) fun m hm => ?_
  rw [mv_len] at hm
  have hl := Nat.mod_lt (ivF n a * m) (show 0 < n by omega)
  rw [coef_addS (by rw [mv_len, mv_len]) m]
  unfold mv
  rw [coef_mkL, if_pos hm, coef_mkL, if_pos hm, coef_mkL, if_pos hm, coef_addS (by omega) _]
theorem led_mul (h1 : 1 ≤ n) (h2 : n ≤ 31) (hf : f.length = n) (hg : g.length = n) {a : Nat} (ha : a ∈ unitsF n) : ledF (mulS f g) a = mulS (ledF f a) (ledF g a) := by
  have ia := ((chkU_at h1 h2).2 a ha).1
  rw [led_mv (by rw [mulS_len, hf]) h1 ia, led_mv hf h1 ia, led_mv hg h1 ia, mv_mul h1 ia hf]
end
/-! counting -/
theorem filt_two {α : Type} (p : α → Bool) : ∀ l : List α, l.length = (l.filter p).length + (l.filter fun x => !p x).length
  | [] => rfl
  | x :: l => by
    have ih := filt_two p l
    rw [List.filter_cons, List.filter_cons]
    cases h : p x with
    | true =>
      rw [if_pos rfl, if_neg (by decide), List.length_cons, List.length_cons]
      omega
    | false =>
      rw [if_neg (by decide), if_pos (by decide), List.length_cons, List.length_cons]
      omega
theorem part_count {α : Type} {φ : α → List Int} {c : Nat} : ∀ (D : List (List Int)), D.Nodup → ∀ U : List α, (∀ k ∈ U, φ k ∈ D) → (∀ r ∈ D, (U.filter fun k => decide (φ k = r)).length = c) → D.length * c = U.length
  | [], _, U, h, _ => by
    cases U with
    | nil => rw [List.length_nil, List.length_nil, Nat.zero_mul]
    | cons k U => exact absurd (h k List.mem_cons_self) List.not_mem_nil
  | r :: D, nd, U, h, hc => by
    obtain ⟨nr, nd⟩ := List.nodup_cons.mp nd
    have ih := part_count D nd (U.filter fun k => !decide (φ k = r)) (fun k hk => by
      obtain ⟨a, b⟩ := List.mem_filter.mp hk
      rcases List.mem_cons.mp (h k a) with e | e
      · rw [decide_eq_true e] at b
        cases b
      · exact e) (fun s hs => by
      rw [List.filter_filter]
      refine Eq.trans ?_ (hc s (List.mem_cons_of_mem _ hs))
      congr 1
      refine List.filter_congr fun k _ => ?_
      by_cases e : φ k = s
      · rw [decide_eq_true e, decide_eq_false (fun e2 : φ k = r => nr (by rw [← e2, e]; exact hs))]
        rfl
      · rw [decide_eq_false e]
        rfl)
    have two := filt_two (fun k => decide (φ k = r)) U
    have hr := hc r List.mem_cons_self
    rw [List.length_cons, Nat.succ_mul]
    omega
theorem ins_mem (x : List Int) : ∀ (l acc : List (List Int)), x ∈ l.foldl insR acc ↔ x ∈ acc ∨ x ∈ l
  | [], acc => by simp
  | y :: l, acc => by
    rw [List.foldl_cons, ins_mem x l, List.mem_cons]
    unfold insR
    split
    · rename_i h
      constructor
      · rintro (a | a)
        · exact .inl a
        · exact .inr (.inr a)
      · rintro (a | rfl | a)
        · exact .inl a
        · exact .inl h
        · exact .inr a
    · rw [List.mem_append, List.mem_singleton, or_assoc]
theorem ins_nodup : ∀ (l acc : List (List Int)), acc.Nodup → (l.foldl insR acc).Nodup
  | [], _, h => h
  | y :: l, acc, h => by
    refine ins_nodup l _ ?_
    unfold insR
    split
    · exact h
    · rename_i hn
      refine List.nodup_append.mpr ⟨h, List.nodup_cons.mpr ⟨List.not_mem_nil, List.nodup_nil⟩, fun a ha b hb e => hn ?_⟩
      rw [← List.mem_singleton.mp hb, ← e]
      exact ha
theorem ins_map (g : List Int → List Int) : ∀ (l acc : List (List Int)), (∀ a ∈ acc ++ l, ∀ b ∈ acc ++ l, g a = g b → a = b) → (l.map g).foldl insR (acc.map g) = (l.foldl insR acc).map g
  | [], _, _ => rfl
  | y :: l, acc, h => by
    rw [List.map_cons, List.foldl_cons, List.foldl_cons]
    have e : insR (acc.map g) (g y) = (insR acc y).map g := by
      unfold insR
      by_cases c : y ∈ acc
      · rw [if_pos c, if_pos (List.mem_map.mpr ⟨y, c, rfl⟩)]
      · rw [if_neg c, if_neg, List.map_append]
        · rfl
        · intro m
          obtain ⟨a, ha, e⟩ := List.mem_map.mp m
          exact c (h a (List.mem_append.mpr (.inl ha)) y (List.mem_append.mpr (.inr List.mem_cons_self)) e ▸ ha)
    rw [e, ins_map g l]
    intro a ha b hb
    refine h a ?_ b ?_
    · rcases List.mem_append.mp ha with ha | ha
      · unfold insR at ha
        split at ha
        · exact List.mem_append.mpr (.inl ha)
        · rcases List.mem_append.mp ha with ha | ha
          · exact List.mem_append.mpr (.inl ha)
          · exact List.mem_append.mpr (.inr (List.mem_cons.mpr (.inl (List.mem_singleton.mp ha))))
      · exact List.mem_append.mpr (.inr (List.mem_cons_of_mem _ ha))
    · rcases List.mem_append.mp hb with hb | hb
      · unfold insR at hb
        split at hb
        · exact List.mem_append.mpr (.inl hb)
        · rcases List.mem_append.mp hb with hb | hb
          · exact List.mem_append.mpr (.inl hb)
          · exact List.mem_append.mpr (.inr (List.mem_cons.mpr (.inl (List.mem_singleton.mp hb))))
      · exact List.mem_append.mpr (.inr (List.mem_cons_of_mem _ hb))
theorem rnd_mem {f r : List Int} : r ∈ rndF f ↔ ∃ k ∈ unitsF f.length, grF f.length (ledF f k) = r := by
  unfold rndF ddp
  rw [ins_mem]
  unfold rsI
  rw [List.mem_map]
  exact ⟨fun h => h.elim (fun h => nomatch h) id, .inr⟩
theorem rnd_count {n : Nat} {f : List Int} (h1 : 1 ≤ n) (h2 : n ≤ 31) (hf : f.length = n) : (rndF f).length * (keepF f).length = (unitsF n).length := by
  refine part_count (φ := fun k => grF n (ledF f k)) (rndF f) (ins_nodup _ _ List.nodup_nil) (unitsF n) (fun k hk => rnd_mem.mpr ⟨k, by rw [hf]; exact hk, by rw [hf]⟩) fun r hr => ?_
  obtain ⟨k, hk, rfl⟩ := rnd_mem.mp hr
  rw [hf] at hk ⊢
  have pm := ((chkU_at h1 h2).2 k hk).2
  rw [← (pm.filter _).length_eq, List.filter_map, List.length_map]
  unfold keepF
  rw [hf]
  congr 1
  refine List.filter_congr fun j hj => ?_
  show decide (grF n (ledF f (j * k % n)) = grF n (ledF f k)) = _
  rw [← led_led h1 h2 hf hj hk]
  exact decide_eq_decide.mpr (led_gr h1 h2 (by rw [ledF_len, hf]) hf hk)

/-! ### the mathematics: led numbers in the ring -/
theorem itS_ws (n : Nat) (i : Int) : itS n i = wsF n i := rfl
section
variable {n : Nat} [O : Ok61 n] {f g : List Int}
/-- the number led by k -/
def sg (n k : Nat) [O : Ok61 n] (a : Zn n) : Zn n := zc n (ledF a.v k)
theorem ledl (hf : f.length = n) (k : Nat) : (ledF f k).length = n := by rw [ledF_len, hf]
theorem zc_led (h2 : n ≤ 31) (hf : f.length = n) {k : Nat} (hk : k ∈ unitsF n) : zc n (ledF f k) = sg n k (zc n f) := by
  show _ = zc n (ledF (zc n f).v k)
  rw [zc_v hf, zc_eq (ledl hf k) (ledl (gr_len hf) k)]
  exact (led_gr O.h1 h2 hf (gr_len hf) hk).mpr (gr_gr hf).symm
theorem sg_add (h2 : n ≤ 31) {k : Nat} (hk : k ∈ unitsF n) (a b : Zn n) : sg n k (a + b) = sg n k a + sg n k b := by
  rw [← zc_self a, ← zc_self b]
  have l1 : (addS a.v b.v).length = n := by rw [addS_len (by rw [a.len, b.len]), a.len]
  rw [← zc_add a.len b.len, ← zc_led h2 l1 hk, ← zc_led h2 a.len hk, ← zc_led h2 b.len hk, led_add O.h1 h2 a.len b.len hk, zc_add (ledl a.len k) (ledl b.len k)]
theorem sg_mul (h2 : n ≤ 31) {k : Nat} (hk : k ∈ unitsF n) (a b : Zn n) : sg n k (a * b) = sg n k a * sg n k b := by
  rw [← zc_self a, ← zc_self b]
  have l1 : (mulS a.v b.v).length = n := by rw [mulS_len, a.len]
  rw [← zc_mul a.len b.len, ← zc_led h2 l1 hk, ← zc_led h2 a.len hk, ← zc_led h2 b.len hk, led_mul O.h1 h2 a.len b.len hk, zc_mul (ledl a.len k) (ledl b.len k)]
theorem led_ws (h1 : 1 ≤ n) (h2 : n ≤ 31) {k : Nat} (hk : k ∈ unitsF n) (i : Int) : ledF (wsF n i) k = wsF n i := by
  have ia := ((chkU_at h1 h2).2 k hk).1
  rw [led_mv (wsF_len h1 i) h1 ia, mv_ws h1 ia]
theorem sg_int (h2 : n ≤ 31) {k : Nat} (hk : k ∈ unitsF n) (i : Int) : sg n k ((i : Int) : Zn n) = (i : Zn n) := by
  show sg n k (zc n (itS n i)) = zc n (itS n i)
  rw [← zc_led h2 (itS_len O.h1 i) hk, itS_ws, led_ws O.h1 h2 hk]
theorem sg_zero (h2 : n ≤ 31) {k : Nat} (hk : k ∈ unitsF n) : sg n k (0 : Zn n) = 0 := sg_int h2 hk 0
theorem sg_one (h2 : n ≤ 31) {k : Nat} (hk : k ∈ unitsF n) : sg n k (1 : Zn n) = 1 := sg_int h2 hk 1
theorem sg_neg (h2 : n ≤ 31) {k : Nat} (hk : k ∈ unitsF n) (a : Zn n) : sg n k (-a) = - sg n k a := by
  have h := sg_add h2 hk (-a) a
  rw [show -a + a = (0 : Zn n) by grind, sg_zero h2 hk] at h
  grind
theorem sg_sub (h2 : n ≤ 31) {k : Nat} (hk : k ∈ unitsF n) (a b : Zn n) : sg n k (a - b) = sg n k a - sg n k b := by
  rw [show a - b = a + -b by grind, sg_add h2 hk, sg_neg h2 hk]
  grind
theorem sg_sg (h2 : n ≤ 31) {a b : Nat} (ha : a ∈ unitsF n) (hb : b ∈ unitsF n) (x : Zn n) : sg n b (sg n a x) = sg n (a * b % n) x := by
  rw [← zc_self x, ← zc_led h2 x.len ha, ← zc_led h2 (ledl x.len a) hb, ← zc_led h2 x.len (unit_mul O.h1 h2 ha hb), led_led O.h1 h2 x.len ha hb]
/-- each unit has one that leads back -/
theorem unit_one (h2 : n ≤ 31) {a : Nat} (ha : a ∈ unitsF n) : ∃ b ∈ unitsF n, b * a % n = 1 % n := by
  have p := ((chkU_at O.h1 h2).2 a ha).2
  have i1 : 1 % n ∈ unitsF n := by
    unfold unitsF
    have h1 := O.h1
    refine List.mem_filter.mpr ⟨List.mem_range.mpr ?_, ?_⟩
    · show 1 % n < (n : Int).toNat
      rw [Int.toNat_natCast]
      exact Nat.mod_lt _ h1
    · show (Nat.gcd (1 % n) (n : Int).natAbs == 1) = true
      rw [Int.natAbs_natCast, ← Nat.gcd_rec, Nat.gcd_comm, Nat.gcd_comm, Nat.gcd_one_right]
      rfl
  obtain ⟨b, hb, e⟩ := List.mem_map.mp (p.mem_iff.mpr i1)
  exact ⟨b, hb, e⟩
theorem sg_id (x : Zn n) : sg n (1 % n) x = x := by
  have h1 := O.h1
  show zc n (ledF x.v (1 % n)) = x
  have e : (1 % n) * (1 % n) % n = 1 % n := by rw [← Nat.mul_mod]
  rw [led_mv x.len h1 e, mv_one x.len, zc_self]
theorem sg_inj (h2 : n ≤ 31) {a : Nat} (ha : a ∈ unitsF n) {x y : Zn n} (h : sg n a x = sg n a y) : x = y := by
  obtain ⟨b, hb, e⟩ := unit_one h2 ha
  have := congrArg (sg n b) h
  rw [sg_sg h2 ha hb, sg_sg h2 ha hb, Nat.mul_comm, e, sg_id, sg_id] at this
  exact this
/-- what a whole number is, as one -/
theorem int_v (h2 : n ≤ 31) (t : Int) : ((t : Int) : Zn n).v = wsF n t := by
  show (zc n (itS n t)).v = _
  rw [zc_v (itS_len O.h1 t), itS_ws, gr_ws O.h1 h2]
theorem wo_int (h2 : n ≤ 31) (hf : f.length = n) {t : Int} (h : zc n f = (t : Zn n)) : woF f = t := by
  have := congrArg Zn.v h
  rw [zc_v hf, int_v h2] at this
  unfold woF
  rw [hf, this]
  rfl
theorem int_inj (h2 : n ≤ 31) {s t : Int} (h : ((s : Int) : Zn n) = (t : Zn n)) : s = t := by
  have := congrArg Zn.v h
  rw [int_v h2, int_v h2] at this
  exact (List.cons.inj this).1
def smZ (ks : List Nat) (φ : Nat → Zn n) (t : Zn n) : Zn n := ks.foldl (fun t k => t + φ k) t
def prZ (ks : List Nat) (φ : Nat → Zn n) (t : Zn n) : Zn n := ks.foldl (fun t k => t * φ k) t
theorem trS_zc (h2 : n ≤ 31) (hf : f.length = n) : ∀ (ks : List Nat) (t : List Int), (∀ k ∈ ks, k ∈ unitsF n) → t.length = n → zc n (ks.foldl (fun t k => addS t (ledF f k)) t) = smZ ks (fun k => sg n k (zc n f)) (zc n t) ∧ (ks.foldl (fun t k => addS t (ledF f k)) t).length = n
  | [], t, _, ht => ⟨rfl, ht⟩
  | k :: ks, t, hk, ht => by
    have l1 : (addS t (ledF f k)).length = n := by rw [addS_len (by rw [ht, ledl hf]), ht]
    have := trS_zc h2 hf ks (addS t (ledF f k)) (fun j hj => hk j (List.mem_cons_of_mem _ hj)) l1
    rw [zc_add ht (ledl hf k), zc_led h2 hf (hk k List.mem_cons_self)] at this
    exact this
theorem trace_zc (h2 : n ≤ 31) (hf : f.length = n) : smZ (unitsF n) (fun k => sg n k (zc n f)) 0 = ((traceF f : Int) : Zn n) := by
  have h := trS_zc h2 hf (unitsF n) (wsF n 0) (fun _ z => z) (wsF_len O.h1 0)
  have e : (zc n (wsF n 0) : Zn n) = 0 := rfl
  rw [e] at h
  rw [← h.1]
  show _ = zc n (itS n (traceF f))
  have := trace_all O.h1 h2 hf
  unfold trS at this
  rw [hf] at this
  rw [zc_eq h.2 (itS_len O.h1 _), this, traceF_is O.h1 h2 hf, itS_ws, gr_ws O.h1 h2]
theorem pmS_zc (h2 : n ≤ 31) (hf : f.length = n) : ∀ (ks : List Nat) (t : List Int), (∀ k ∈ ks, k ∈ unitsF n) → t.length = n → zc n (pmS f ks t) = prZ ks (fun k => sg n k (zc n f)) (zc n t)
  | [], t, _, ht => rfl
  | k :: ks, t, hk, ht => by
    have l1 : (mulS t (ledF f k)).length = n := by rw [mulS_len, ht]
    have := pmS_zc h2 hf ks (mulS t (ledF f k)) (fun j hj => hk j (List.mem_cons_of_mem _ hj)) l1
    rw [zc_mul ht (ledl hf k), zc_led h2 hf (hk k List.mem_cons_self)] at this
    exact this
theorem norm_zc (h2 : n ≤ 31) (hf : f.length = n) : prZ (unitsF n) (fun k => sg n k (zc n f)) 1 = ((normF f : Int) : Zn n) := by
  have w := wsF_len O.h1 1
  have h := pmS_zc h2 hf (unitsF n) (wsF n 1) (fun _ z => z) w
  have e : (zc n (wsF n 1) : Zn n) = 1 := rfl
  rw [e] at h
  rw [← h]
  have pl : (pmS f (unitsF n) (wsF n 1)).length = n := by rw [pmS_len, w]
  obtain ⟨t, ht⟩ := pm_whole O.h1 h2 hf
  have g := nm_gr O.h1 h2 hf (unitsF n) (wsF n 1) (wsF n 1) w w rfl
  have z : zc n (pmS f (unitsF n) (wsF n 1)) = ((t : Int) : Zn n) := by
    show _ = zc n (itS n t)
    rw [zc_eq pl (itS_len O.h1 _), ht, itS_ws, gr_ws O.h1 h2]
  have nl : (nmS f (unitsF n)).length = n := by
    have key : ∀ (ks : List Nat) (t : List Int), t.length = n → (ks.foldl (fun t k => grF f.length (mulS t (ledF f k))) t).length = n := by
      intro ks
      induction ks with
      | nil => exact fun t ht => ht
      | cons k ks ih => exact fun t ht => ih _ (by rw [hf]; exact gr_len (by rw [mulS_len, ht]))
    unfold nmS
    rw [hf]
    rw [hf] at key
    exact key _ _ w
  have z2 : zc n (nmS f (unitsF n)) = zc n (pmS f (unitsF n) (wsF n 1)) := by
    rw [zc_eq nl pl]
    unfold nmS
    rw [hf] at g ⊢
    exact g
  rw [z]
  congr 1
  have := wo_int h2 nl (z2.trans z)
  unfold normF
  rw [hf]
  exact this.symm
/-- what each unit leads to itself is whole -/
theorem whole_of_fix (h2 : n ≤ 31) {a : Zn n} (h : ∀ k ∈ unitsF n, sg n k a = a) : ∃ t : Int, a = (t : Zn n) := by
  have key : ∀ (ks : List Nat) (t : Zn n), (∀ k ∈ ks, k ∈ unitsF n) → smZ ks (fun k => sg n k a) t = t + ((ks.length : Int) : Zn n) * a := by
    intro ks
    induction ks with
    | nil =>
      intro t _
      show t = t + (0 : Zn n) * a
      grind
    | cons k ks ih =>
      intro t hk
      show smZ ks (fun k => sg n k a) (t + sg n k a) = _
      rw [ih _ (fun j hj => hk j (List.mem_cons_of_mem _ hj)), h k (hk k List.mem_cons_self)]
      have e : (((k :: ks).length : Int) : Zn n) = ((ks.length : Int) : Zn n) + 1 := by
        rw [List.length_cons, Int.natCast_add]
        exact zc_it_add _ _
      rw [e]
      grind
  have tr := trace_zc h2 a.len
  rw [zc_self, key _ _ (fun _ z => z)] at tr
  have ne : ((unitsF n).length : Int) ≠ 0 := by
    have := (chkU_at O.h1 h2).1
    omega
  refine ⟨coef a.v 0, Zn.ext' ?_⟩
  have e : ((((unitsF n).length : Int)) : Zn n) * a = ((traceF a.v : Int) : Zn n) := by grind
  have e2 := congrArg Zn.v e
  have e3 : ((((unitsF n).length : Int)) : Zn n) * a = zc n (mkL n fun m => ((unitsF n).length : Int) * coef a.v m) := by
    rw [← zc_it_mul a.len, zc_self]
    rfl
  rw [e3, int_v h2, zc_v (mkL_len _ _)] at e2
  rw [int_v h2]
  refine ext_of (by rw [a.len, wsF_len O.h1]) fun m hm => ?_
  rw [a.len] at hm
  rw [coef_wsF hm]
  split
  · next q => rw [q]
  · next q =>
    have l := zc_lin (f := itS n 0) (c := ((unitsF n).length : Int)) (g := a.v) (h := mkL n fun m => ((unitsF n).length : Int) * coef a.v m) (itS_len O.h1 0) a.len (mkL_len _ _) (fun m hm => by rw [coef_mkL, if_pos hm, coef_itS]; split <;> omega) hm
    rw [e2, itS_ws, gr_ws O.h1 h2, a.fix, coef_wsF hm, coef_wsF hm, if_neg q, if_neg q] at l
    have z : ((unitsF n).length : Int) * coef a.v m = 0 := by omega
    rcases Int.mul_eq_zero.mp z with y | y
    · exact absurd y ne
    · exact y
/-! polynomials whose numbers are such -/
def tlR (a : Zn n) : Zn n → List (Zn n) → List (Zn n)
  | p, [] => [p]
  | p, c :: cs => (p - a * c) :: tlR a c cs
def tlZ (P : List (Zn n)) (a : Zn n) : List (Zn n) := tlR a 0 P
def evZ (P : List (Zn n)) (x : Zn n) : Zn n := P.foldr (fun c acc => c + x * acc) 0
theorem ev_tlR (a x : Zn n) : ∀ (P : List (Zn n)) (p : Zn n), evZ (tlR a p P) x = p + (x - a) * evZ P x
  | [], p => by
    show p + x * 0 = p + (x - a) * 0
    grind
  | c :: cs, p => by
    show (p - a * c) + x * evZ (tlR a c cs) x = p + (x - a) * (c + x * evZ cs x)
    rw [ev_tlR a x cs c]
    grind
theorem ev_tl (P : List (Zn n)) (a x : Zn n) : evZ (tlZ P a) x = (x - a) * evZ P x := by
  unfold tlZ
  rw [ev_tlR]
  grind
theorem tlR_swap (a b : Zn n) : ∀ (P : List (Zn n)) (w p : Zn n), tlR b (w - a * p) (tlR a p P) = tlR a (w - b * p) (tlR b p P)
  | [], w, p => by
    show [w - a * p - b * p, p] = [w - b * p - a * p, p]
    congr 1
    grind
  | c :: cs, w, p => by
    show (w - a * p - b * (p - a * c)) :: tlR b (p - a * c) (tlR a c cs) = (w - b * p - a * (p - b * c)) :: tlR a (p - b * c) (tlR b c cs)
    rw [tlR_swap a b cs p c]
    congr 1
    grind
theorem tl_swap (P : List (Zn n)) (a b : Zn n) : tlZ (tlZ P a) b = tlZ (tlZ P b) a := by
  have := tlR_swap a b P 0 0
  rw [show (0 : Zn n) - a * 0 = 0 by grind, show (0 : Zn n) - b * 0 = 0 by grind] at this
  exact this
theorem fold_tl_perm {A B : List (Zn n)} (p : A.Perm B) : ∀ P : List (Zn n), A.foldl tlZ P = B.foldl tlZ P := by
  induction p with
  | nil => exact fun _ => rfl
  | cons x _ ih => exact fun P => ih _
  | swap x y l =>
    intro P
    show l.foldl tlZ (tlZ (tlZ P y) x) = l.foldl tlZ (tlZ (tlZ P x) y)
    rw [tl_swap]
  | trans _ _ h1 h2 => exact fun P => (h1 P).trans (h2 P)
theorem tlR_sg (h2 : n ≤ 31) {k : Nat} (hk : k ∈ unitsF n) (a : Zn n) : ∀ (P : List (Zn n)) (p : Zn n), (tlR a p P).map (sg n k) = tlR (sg n k a) (sg n k p) (P.map (sg n k))
  | [], p => rfl
  | c :: cs, p => by
    show sg n k (p - a * c) :: (tlR a c cs).map (sg n k) = (sg n k p - sg n k a * sg n k c) :: tlR (sg n k a) (sg n k c) (cs.map (sg n k))
    rw [tlR_sg h2 hk a cs c, sg_sub h2 hk, sg_mul h2 hk]
theorem fold_tl_sg (h2 : n ≤ 31) {k : Nat} (hk : k ∈ unitsF n) : ∀ (R P : List (Zn n)), (R.foldl tlZ P).map (sg n k) = (R.map (sg n k)).foldl tlZ (P.map (sg n k))
  | [], P => rfl
  | a :: R, P => by
    show (R.foldl tlZ (tlZ P a)).map (sg n k) = (R.map (sg n k)).foldl tlZ (tlZ (P.map (sg n k)) (sg n k a))
    rw [fold_tl_sg h2 hk R]
    unfold tlZ
    rw [tlR_sg h2 hk, sg_zero h2 hk]
/-- the last two numbers -/
theorem tlR_top (a s : Zn n) : ∀ (pre : List (Zn n)) (p : Zn n), ∃ pre', tlR a p (pre ++ [s, 1]) = pre' ++ [s - a, 1] ∧ pre'.length = pre.length + 1
  | [], p => ⟨[p - a * s], by
    show (p - a * s) :: (s - a * 1) :: [1] = _
    rw [show s - a * 1 = s - a by grind]
    rfl, rfl⟩
  | c :: cs, p => by
    obtain ⟨pre', h, l⟩ := tlR_top a s cs c
    exact ⟨(p - a * c) :: pre', by
      show (p - a * c) :: tlR a c (cs ++ [s, 1]) = _
      rw [h]
      rfl, by rw [List.length_cons, l, List.length_cons]⟩
theorem fold_tl_top : ∀ (R : List (Zn n)) (pre : List (Zn n)) (s : Zn n), ∃ pre', R.foldl tlZ (pre ++ [s, 1]) = pre' ++ [s - R.foldl (fun t a => t + a) 0, 1] ∧ pre'.length = pre.length + R.length := by
  have sm : ∀ (R : List (Zn n)) (t : Zn n), R.foldl (fun t a => t + a) t = t + R.foldl (fun t a => t + a) 0 := by
    intro R
    induction R with
    | nil =>
      intro t
      show t = t + 0
      grind
    | cons a R ih =>
      intro t
      show R.foldl _ (t + a) = t + R.foldl _ (0 + a)
      rw [ih (t + a), ih (0 + a)]
      grind
  intro R
  induction R with
  | nil => exact fun pre s => ⟨pre, by show pre ++ [s, 1] = pre ++ [s - 0, 1]; rw [show s - 0 = s by grind], rfl⟩
  | cons a R ih =>
    intro pre s
    obtain ⟨p1, h1, l1⟩ := tlR_top a s pre 0
    obtain ⟨p2, h2, l2⟩ := ih p1 (s - a)
    refine ⟨p2, ?_, by rw [l2, l1, List.length_cons]; omega⟩
    show R.foldl tlZ (tlR a 0 (pre ++ [s, 1])) = p2 ++ [s - R.foldl _ (0 + a), 1]
    rw [h1, h2, sm R (0 + a)]
    congr 2
    grind
/-- the first number -/
theorem fold_tl_head : ∀ (R : List (Zn n)) (c : Zn n) (cs : List (Zn n)), ∃ cs', R.foldl tlZ (c :: cs) = R.foldl (fun t a => t * -a) c :: cs'
  | [], c, cs => ⟨cs, rfl⟩
  | a :: R, c, cs => by
    obtain ⟨cs', h⟩ := fold_tl_head R (0 - a * c) (tlR a c cs)
    refine ⟨cs', ?_⟩
    show R.foldl tlZ ((0 - a * c) :: tlR a c cs) = R.foldl _ (c * -a) :: cs'
    rw [h]
    congr 2
    grind
theorem fold_tl_ev (x : Zn n) : ∀ (R P : List (Zn n)), evZ (R.foldl tlZ P) x = R.foldl (fun t a => (x - a) * t) (evZ P x)
  | [], P => rfl
  | a :: R, P => by
    show evZ (R.foldl tlZ (tlZ P a)) x = _
    rw [fold_tl_ev x R, ev_tl]
    rfl
theorem fold_zero {x : Zn n} : ∀ (R : List (Zn n)) (t : Zn n), x ∈ R → R.foldl (fun t a => (x - a) * t) t = 0 := by
  have z : ∀ (R : List (Zn n)), R.foldl (fun t a => (x - a) * t) 0 = 0 := by
    intro R
    induction R with
    | nil => rfl
    | cons a R ih =>
      show R.foldl _ ((x - a) * 0) = 0
      rw [show (x - a) * (0 : Zn n) = 0 by grind]
      exact ih
  intro R
  induction R with
  | nil => exact fun t h => nomatch h
  | cons a R ih =>
    intro t h
    rcases List.mem_cons.mp h with rfl | h
    · show R.foldl _ ((x - x) * t) = 0
      rw [show (x - x) * t = (0 : Zn n) by grind]
      exact z R
    · exact ih _ h
/-! each of the round as often as there are keepers -/
theorem rep_sum (a : Zn n) : ∀ (c : Nat) (t : Zn n), (List.replicate c a).foldl (fun t a => t + a) t = t + ((c : Int) : Zn n) * a
  | 0, t => by
    show t = t + (0 : Zn n) * a
    grind
  | c + 1, t => by
    show (List.replicate c a).foldl _ (t + a) = _
    rw [rep_sum a c]
    have e : (((c + 1 : Nat) : Int) : Zn n) = ((c : Int) : Zn n) + 1 := by
      rw [Int.natCast_add]
      exact zc_it_add _ _
    rw [e]
    grind
theorem rep_prod (a : Zn n) : ∀ (c : Nat) (t : Zn n), (List.replicate c a).foldl (fun t a => t * a) t = t * a ^ c
  | 0, t => by
    show t = t * a ^ 0
    grind
  | c + 1, t => by
    show (List.replicate c a).foldl _ (t * a) = _
    rw [rep_prod a c]
    grind
theorem flat_sum (c : Nat) : ∀ (R : List (Zn n)) (t : Zn n), (R.map (List.replicate c)).flatten.foldl (fun t a => t + a) t = t + ((c : Int) : Zn n) * R.foldl (fun t a => t + a) 0 := by
  have sm : ∀ (R : List (Zn n)) (t : Zn n), R.foldl (fun t a => t + a) t = t + R.foldl (fun t a => t + a) 0 := by
    intro R
    induction R with
    | nil =>
      intro t
      show t = t + 0
      grind
    | cons a R ih =>
      intro t
      show R.foldl _ (t + a) = t + R.foldl _ (0 + a)
      rw [ih (t + a), ih (0 + a)]
      grind
  intro R
  induction R with
  | nil =>
    intro t
    show t = t + _ * 0
    grind
  | cons a R ih =>
    intro t
    rw [List.map_cons, List.flatten_cons, List.foldl_append, rep_sum, ih, List.foldl_cons, sm R (0 + a)]
    grind
theorem flat_prod (c : Nat) : ∀ (R : List (Zn n)) (t : Zn n), (R.map (List.replicate c)).flatten.foldl (fun t a => t * a) t = t * (R.foldl (fun t a => t * a) 1) ^ c := by
  have sm : ∀ (R : List (Zn n)) (t : Zn n), R.foldl (fun t a => t * a) t = t * R.foldl (fun t a => t * a) 1 := by
    intro R
    induction R with
    | nil =>
      intro t
      show t = t * 1
      grind
    | cons a R ih =>
      intro t
      show R.foldl _ (t * a) = t * R.foldl _ (1 * a)
      rw [ih (t * a), ih (1 * a)]
      grind
  have pw : ∀ (x y : Zn n) (c : Nat), (x * y) ^ c = x ^ c * y ^ c := by
    intro x y c
    induction c with
    | zero => grind
    | succ c ih =>
      rw [Lean.Grind.Semiring.pow_succ, Lean.Grind.Semiring.pow_succ, Lean.Grind.Semiring.pow_succ, ih]
      grind
  have p1 : ∀ c : Nat, (1 : Zn n) ^ c = 1 := by
    intro c
    induction c with
    | zero => grind
    | succ c ih =>
      rw [Lean.Grind.Semiring.pow_succ, ih]
      grind
  intro R
  induction R with
  | nil =>
    intro t
    show t = t * (1 : Zn n) ^ c
    rw [p1]
    grind
  | cons a R ih =>
    intro t
    rw [List.map_cons, List.flatten_cons, List.foldl_append, rep_prod, ih, List.foldl_cons, sm R (1 * a), show (1 : Zn n) * a * R.foldl (fun t a => t * a) 1 = a * R.foldl (fun t a => t * a) 1 by grind, pw]
    grind
theorem perm_flat {φ : Nat → Zn n} {c : Nat} {U : List Nat} {R : List (Zn n)} (nd : R.Nodup) (hR : ∀ k ∈ U, φ k ∈ R) (hc : ∀ r ∈ R, (U.filter fun k => decide (φ k = r)).length = c) : (U.map φ).Perm (R.map (List.replicate c)).flatten := by
  refine List.perm_iff_count.mpr fun a => ?_
  have l : (U.map φ).count a = (U.filter fun k => decide (φ k = a)).length := by
    rw [List.count_eq_countP, List.countP_map, List.countP_eq_length_filter]
    congr 1
  have r : ∀ R : List (Zn n), R.Nodup → ((R.map (List.replicate c)).flatten).count a = if a ∈ R then c else 0 := by
    intro R
    induction R with
    | nil => exact fun _ => rfl
    | cons b R ih =>
      intro nd
      have nd' := List.nodup_cons.mp nd
      rw [List.map_cons, List.flatten_cons, List.count_append, ih nd'.2, List.count_replicate]
      by_cases e : b = a
      · subst e
        simp [nd'.1]
      · have e2 : ¬ a = b := fun z => e z.symm
        simp [e, e2]
  rw [l, r R nd]
  by_cases h : a ∈ R
  · rw [if_pos h, hc a h]
  · rw [if_neg h, List.length_eq_zero_iff, List.filter_eq_nil_iff]
    intro k hk z
    exact h (of_decide_eq_true z ▸ hR k hk)
/-- the round, as numbers -/
def Rz (f : List Int) : List (Zn n) := (rndF f).map (zc n)
theorem rz_mem (h2 : n ≤ 31) (hf : f.length = n) {x : Zn n} : x ∈ Rz f ↔ ∃ k ∈ unitsF n, sg n k (zc n f) = x := by
  unfold Rz
  rw [List.mem_map]
  constructor
  · rintro ⟨r, hr, rfl⟩
    obtain ⟨k, hk, rfl⟩ := rnd_mem.mp hr
    rw [hf] at hk ⊢
    exact ⟨k, hk, by rw [zc_gr (ledl hf k), zc_led h2 hf hk]⟩
  · rintro ⟨k, hk, rfl⟩
    exact ⟨grF f.length (ledF f k), rnd_mem.mpr ⟨k, by rw [hf]; exact hk, rfl⟩, by rw [hf, zc_gr (ledl hf k), zc_led h2 hf hk]⟩
theorem rnd_len (hf : f.length = n) {r : List Int} (hr : r ∈ rndF f) : r.length = n ∧ grF n r = r := by
  obtain ⟨k, hk, rfl⟩ := rnd_mem.mp hr
  rw [hf]
  exact ⟨gr_len (ledl hf k), gr_gr (ledl hf k)⟩
theorem nodup_map {α β : Type} {g : α → β} : ∀ {l : List α}, (∀ a ∈ l, ∀ b ∈ l, g a = g b → a = b) → l.Nodup → (l.map g).Nodup
  | [], _, _ => List.nodup_nil
  | a :: l, h, nd => by
    have nd := List.nodup_cons.mp nd
    rw [List.map_cons]
    refine List.nodup_cons.mpr ⟨fun m => ?_, nodup_map (fun x hx y hy => h x (List.mem_cons_of_mem _ hx) y (List.mem_cons_of_mem _ hy)) nd.2⟩
    obtain ⟨b, hb, e⟩ := List.mem_map.mp m
    have := h b (List.mem_cons_of_mem _ hb) a List.mem_cons_self e
    exact nd.1 (this ▸ hb)
theorem rz_nodup (hf : f.length = n) : (Rz f : List (Zn n)).Nodup := nodup_map (fun a ha b hb e => by
  have h1 := rnd_len hf ha
  have h2 := rnd_len hf hb
  have := (zc_eq h1.1 h2.1).mp e
  rwa [h1.2, h2.2] at this) (ins_nodup _ _ List.nodup_nil)
theorem rz_perm (h2 : n ≤ 31) (hf : f.length = n) {k : Nat} (hk : k ∈ unitsF n) : ((Rz f).map (sg n k)).Perm (Rz f) := by
  refine (List.perm_ext_iff_of_nodup (nodup_map (fun a _ b _ e => sg_inj h2 hk e) (rz_nodup hf)) (rz_nodup hf)).mpr fun x => ?_
  rw [List.mem_map, rz_mem h2 hf]
  constructor
  · rintro ⟨y, hy, rfl⟩
    obtain ⟨j, hj, rfl⟩ := (rz_mem h2 hf).mp hy
    exact ⟨j * k % n, unit_mul O.h1 h2 hj hk, (sg_sg h2 hj hk _).symm⟩
  · rintro ⟨j, hj, rfl⟩
    obtain ⟨b, hb, e⟩ := unit_one h2 hk
    refine ⟨sg n (j * b % n) (zc n f), (rz_mem h2 hf).mpr ⟨_, unit_mul O.h1 h2 hj hb, rfl⟩, ?_⟩
    rw [sg_sg h2 (unit_mul O.h1 h2 hj hb) hk]
    congr 1
    rw [mm2, Nat.mul_assoc, ← mm1, e, mm1, Nat.mul_one]
    have := units_lt hj
    exact Nat.mod_eq_of_lt this
theorem rz_class (h2 : n ≤ 31) (hf : f.length = n) {r : Zn n} (hr : r ∈ Rz f) : ((unitsF n).filter fun k => decide (sg n k (zc n f) = r)).length = (keepF f).length := by
  obtain ⟨k, hk, rfl⟩ := (rz_mem h2 hf).mp hr
  have pm := ((chkU_at O.h1 h2).2 k hk).2
  rw [← (pm.filter _).length_eq, List.filter_map, List.length_map]
  unfold keepF
  rw [hf]
  congr 1
  refine List.filter_congr fun j hj => ?_
  show decide (sg n (j * k % n) (zc n f) = sg n k (zc n f)) = _
  rw [← sg_sg h2 hj hk]
  refine decide_eq_decide.mpr ⟨fun e => ?_, fun e => ?_⟩
  · have := sg_inj h2 hk e
    rw [← zc_led h2 hf hj, zc_eq (ledl hf j) hf] at this
    exact this
  · rw [← zc_led h2 hf hj, (zc_eq (ledl hf j) hf).mpr e]
theorem prZ_map (ks : List Nat) (φ : Nat → Zn n) (t : Zn n) : prZ ks φ t = (ks.map φ).foldl (fun t a => t * a) t := by
  unfold prZ
  rw [List.foldl_map]
theorem smZ_map (ks : List Nat) (φ : Nat → Zn n) (t : Zn n) : smZ ks φ t = (ks.map φ).foldl (fun t a => t + a) t := by
  unfold smZ
  rw [List.foldl_map]
theorem perm_sum {A B : List (Zn n)} (p : A.Perm B) : ∀ t : Zn n, A.foldl (fun t a => t + a) t = B.foldl (fun t a => t + a) t := by
  induction p with
  | nil => exact fun _ => rfl
  | cons x _ ih => exact fun P => ih _
  | swap x y l =>
    intro P
    show l.foldl _ (P + y + x) = l.foldl _ (P + x + y)
    congr 1
    grind
  | trans _ _ h1 h2 => exact fun P => (h1 P).trans (h2 P)
theorem perm_prod {A B : List (Zn n)} (p : A.Perm B) : ∀ t : Zn n, A.foldl (fun t a => t * a) t = B.foldl (fun t a => t * a) t := by
  induction p with
  | nil => exact fun _ => rfl
  | cons x _ ih => exact fun P => ih _
  | swap x y l =>
    intro P
    show l.foldl _ (P * y * x) = l.foldl _ (P * x * y)
    congr 1
    grind
  | trans _ _ h1 h2 => exact fun P => (h1 P).trans (h2 P)
theorem rz_trace (h2 : n ≤ 31) (hf : f.length = n) : (((keepF f).length : Int) : Zn n) * (Rz f).foldl (fun t a => t + a) 0 = ((traceF f : Int) : Zn n) := by
  rw [← trace_zc h2 hf, smZ_map, perm_sum (perm_flat (rz_nodup hf) (fun k hk => (rz_mem h2 hf).mpr ⟨k, hk, rfl⟩) fun r hr => rz_class h2 hf hr), flat_sum]
  grind
theorem rz_norm (h2 : n ≤ 31) (hf : f.length = n) : ((Rz f).foldl (fun t a => t * a) 1) ^ (keepF f).length = ((normF f : Int) : Zn n) := by
  rw [← norm_zc h2 hf, prZ_map, perm_prod (perm_flat (rz_nodup hf) (fun k hk => (rz_mem h2 hf).mpr ⟨k, hk, rfl⟩) fun r hr => rz_class h2 hf hr), flat_prod]
  grind
/-- the least polynomial's numbers, in the ring -/
def lpZ (f : List Int) : List (Zn n) := (Rz f).foldl tlZ [1]
theorem lp_whole (h2 : n ≤ 31) (hf : f.length = n) {c : Zn n} (hc : c ∈ (lpZ f : List (Zn n))) : ∃ t : Int, c = (t : Zn n) := by
  refine whole_of_fix h2 fun k hk => ?_
  have e : (lpZ f : List (Zn n)).map (sg n k) = lpZ f := by
    unfold lpZ
    rw [fold_tl_sg h2 hk, List.map_cons, List.map_nil, sg_one h2 hk]
    exact fold_tl_perm (rz_perm h2 hf hk) _
  obtain ⟨i, hi, rfl⟩ := List.getElem_of_mem hc
  have := congrArg (fun l => l[i]?) e
  simp only [List.getElem?_map, List.getElem?_eq_getElem hi] at this
  exact Option.some.inj this
theorem lp_val (h2 : n ≤ 31) (hf : f.length = n) : evZ (lpZ f) (zc n f) = (0 : Zn n) := by
  unfold lpZ
  rw [fold_tl_ev]
  have i1 := (unit_one h2 (a := 1 % n) (by
    unfold unitsF
    have h1 := O.h1
    refine List.mem_filter.mpr ⟨List.mem_range.mpr ?_, ?_⟩
    · show 1 % n < (n : Int).toNat
      rw [Int.toNat_natCast]
      exact Nat.mod_lt _ h1
    · show (Nat.gcd (1 % n) (n : Int).natAbs == 1) = true
      rw [Int.natAbs_natCast, ← Nat.gcd_rec, Nat.gcd_comm, Nat.gcd_comm, Nat.gcd_one_right]
      rfl))
  obtain ⟨b, hb, e⟩ := i1
  have b1 : b = 1 % n := by
    rw [mm1, Nat.mul_one, Nat.mod_eq_of_lt (units_lt hb)] at e
    exact e
  exact fold_zero _ _ ((rz_mem h2 hf).mpr ⟨b, hb, by rw [b1, sg_id]⟩)
end

/-! ### the mathematics: traces and norms of sums, of products, of what is led -/
theorem it_mul35 (n : Nat) [O : Ok61 n] (i j : Int) : (((i * j : Int)) : Zn n) = (i : Zn n) * (j : Zn n) := by
  show zc n (itS n (i * j)) = zc n (itS n i) * zc n (itS n j)
  rw [zc_it_mul (itS_len O.h1 j)]
  congr 1
  refine ext_of (by rw [mkL_len, itS_len O.h1]) fun m hm => ?_
  rw [itS_len O.h1] at hm
  rw [coef_mkL, if_pos hm, coef_itS, coef_itS]
  split
  · rfl
  · rw [Int.mul_zero]
theorem it_pow35 (n : Nat) [O : Ok61 n] (i : Int) : ∀ c : Nat, (((i ^ c : Int)) : Zn n) = (i : Zn n) ^ c
  | 0 => by
    rw [Int.pow_zero, Lean.Grind.Semiring.pow_zero]
    rfl
  | c + 1 => by
    rw [Int.pow_succ, it_mul35, it_pow35 n i c, Lean.Grind.Semiring.pow_succ]
section
variable {n : Nat} [O : Ok61 n] {f g : List Int}
theorem smZ_add (φ ψ : Nat → Zn n) : ∀ (ks : List Nat) (s t : Zn n), smZ ks (fun k => φ k + ψ k) (s + t) = smZ ks φ s + smZ ks ψ t
  | [], s, t => rfl
  | k :: ks, s, t => by
    show smZ ks _ (s + t + (φ k + ψ k)) = smZ ks φ (s + φ k) + smZ ks ψ (t + ψ k)
    rw [← smZ_add φ ψ ks, show s + t + (φ k + ψ k) = s + φ k + (t + ψ k) by grind]
theorem prZ_mul (φ ψ : Nat → Zn n) : ∀ (ks : List Nat) (s t : Zn n), prZ ks (fun k => φ k * ψ k) (s * t) = prZ ks φ s * prZ ks ψ t
  | [], s, t => rfl
  | k :: ks, s, t => by
    show prZ ks _ (s * t * (φ k * ψ k)) = prZ ks φ (s * φ k) * prZ ks ψ (t * ψ k)
    rw [← prZ_mul φ ψ ks, show s * t * (φ k * ψ k) = s * φ k * (t * ψ k) by grind]
theorem smZ_congr {φ ψ : Nat → Zn n} {ks : List Nat} {s : Zn n} (h : ∀ k ∈ ks, φ k = ψ k) : smZ ks φ s = smZ ks ψ s := by
  rw [smZ_map, smZ_map, List.map_congr_left h]
theorem prZ_congr {φ ψ : Nat → Zn n} {ks : List Nat} {s : Zn n} (h : ∀ k ∈ ks, φ k = ψ k) : prZ ks φ s = prZ ks ψ s := by
  rw [prZ_map, prZ_map, List.map_congr_left h]
theorem trace_add (h2 : n ≤ 31) (hf : f.length = n) (hg : g.length = n) : traceF (addS f g) = traceF f + traceF g := by
  refine int_inj (n := n) h2 ?_
  have l1 : (addS f g).length = n := by rw [addS_len (by rw [hf, hg]), hf]
  have e : (((traceF f + traceF g : Int)) : Zn n) = (traceF f : Zn n) + (traceF g : Zn n) := zc_it_add _ _
  rw [← trace_zc h2 l1, e, ← trace_zc h2 hf, ← trace_zc h2 hg, ← smZ_add, zc_add hf hg, show (0 : Zn n) + 0 = 0 by grind]
  exact smZ_congr fun k hk => sg_add h2 hk _ _
theorem norm_mul (h2 : n ≤ 31) (hf : f.length = n) (hg : g.length = n) : normF (mulS f g) = normF f * normF g := by
  refine int_inj (n := n) h2 ?_
  have l1 : (mulS f g).length = n := by rw [mulS_len, hf]
  rw [← norm_zc h2 l1, it_mul35, ← norm_zc h2 hf, ← norm_zc h2 hg, ← prZ_mul, zc_mul hf hg, show (1 : Zn n) * 1 = 1 by grind]
  exact prZ_congr fun k hk => sg_mul h2 hk _ _
theorem unit_swap (h2 : n ≤ 31) {k : Nat} (hk : k ∈ unitsF n) (x : Zn n) : ((unitsF n).map fun j => sg n j (sg n k x)).Perm ((unitsF n).map fun j => sg n j x) := by
  have p := (((chkU_at O.h1 h2).2 k hk).2).map fun u => sg n u x
  rw [List.map_map] at p
  refine List.Perm.trans (List.Perm.of_eq (List.map_congr_left fun j hj => ?_)) p
  show _ = sg n (j * k % n) x
  rw [sg_sg h2 hk hj, Nat.mul_comm]
theorem trace_led (h2 : n ≤ 31) (hf : f.length = n) {k : Nat} (hk : k ∈ unitsF n) : traceF (ledF f k) = traceF f := by
  refine int_inj (n := n) h2 ?_
  rw [← trace_zc h2 (ledl hf k), ← trace_zc h2 hf, smZ_map, smZ_map, zc_led h2 hf hk]
  exact perm_sum (unit_swap h2 hk _) _
theorem norm_led (h2 : n ≤ 31) (hf : f.length = n) {k : Nat} (hk : k ∈ unitsF n) : normF (ledF f k) = normF f := by
  refine int_inj (n := n) h2 ?_
  rw [← norm_zc h2 (ledl hf k), ← norm_zc h2 hf, prZ_map, prZ_map, zc_led h2 hf hk]
  exact perm_prod (unit_swap h2 hk _) _
/-- the round of a led sum -/
theorem rnd_led (h2 : n ≤ 31) (hf : f.length = n) {k : Nat} (hk : k ∈ unitsF n) : (rndF (ledF f k)).Perm (rndF f) := by
  refine (List.perm_ext_iff_of_nodup (ins_nodup _ _ List.nodup_nil) (ins_nodup _ _ List.nodup_nil)).mpr fun r => ?_
  refine Iff.trans rnd_mem (Iff.trans ?_ rnd_mem.symm)
  rw [ledF_len, hf]
  constructor
  · rintro ⟨j, hj, rfl⟩
    exact ⟨k * j % n, unit_mul O.h1 h2 hk hj, by rw [led_led O.h1 h2 hf hk hj]⟩
  · rintro ⟨j, hj, rfl⟩
    obtain ⟨b, hb, e⟩ := unit_one h2 hk
    refine ⟨b * j % n, unit_mul O.h1 h2 hb hj, ?_⟩
    rw [led_led O.h1 h2 hf hk (unit_mul O.h1 h2 hb hj)]
    congr 2
    rw [mm1, ← Nat.mul_assoc, Nat.mul_comm k b, ← mm2, e, mm2, Nat.one_mul]
    exact Nat.mod_eq_of_lt (units_lt hj)
theorem rnd_closed (h2 : n ≤ 31) (hf : f.length = n) {k : Nat} (hk : k ∈ unitsF n) {r : List Int} (hr : r ∈ rndF f) : grF n (ledF r k) ∈ rndF f := by
  have rl := rnd_len (n := n) hf hr
  obtain ⟨j, hj, e⟩ := rnd_mem.mp hr
  rw [hf] at hj e
  refine rnd_mem.mpr ⟨j * k % n, by rw [hf]; exact unit_mul O.h1 h2 hj hk, ?_⟩
  rw [hf, ← led_led O.h1 h2 hf hj hk]
  refine ((led_gr O.h1 h2 rl.1 (ledl hf j) hk).mpr ?_).symm
  rw [rl.2, e]
end
/-! bounds -/
theorem addS_bd {a b : Nat} {f g : List Int} (l : f.length = g.length) (hf : Bd a f) (hg : Bd b g) (h : b ≤ a) : Bd (a + 1) (addS f g) := fun m => by
  rw [coef_addS l]
  have h1 := hf m
  have h2 := Nat.lt_of_lt_of_le (hg m) (Nat.pow_le_pow_right (by decide) h)
  rw [Nat.pow_succ]
  omega
theorem trS_bd {f : List Int} {b : Nat} (h : 1 ≤ f.length) (hb : Bd b f) : ∀ (ks : List Nat) (t : List Int) (c : Nat), t.length = f.length → Bd c t → b ≤ c → Bd (c + ks.length) (ks.foldl (fun t k => addS t (ledF f k)) t)
  | [], t, c, _, hc, _ => hc
  | k :: ks, t, c, ht, hc, bc => by
    have l1 : (addS t (ledF f k)).length = f.length := by rw [addS_len (by rw [ht, ledF_len]), ht]
    have := trS_bd h hb ks _ (c + 1) l1 (addS_bd (by rw [ht, ledF_len]) hc (ledK_bd hb (by omega) _) bc) (by omega)
    rw [List.length_cons, show c + (ks.length + 1) = c + 1 + ks.length by omega]
    exact this
theorem ws_bd (n : Nat) : Bd 1 (wsF n 0) := fun m => by
  unfold wsF
  cases m with
  | zero =>
    show (0 : Int).natAbs < 2 ^ 1
    decide
  | succ m =>
    show (coef (List.replicate (n - 1) 0) m).natAbs < _
    rw [coef_rep]
    decide
theorem wo_bd {f : List Int} {b : Nat} (h : 1 ≤ f.length) (h2 : f.length ≤ 61) (hb : Bd b f) : (woF f).natAbs < 2 ^ (b + 4) := grF_bd hb h h2 0
theorem trace_bd {f : List Int} (h : 1 ≤ f.length) (h2 : f.length ≤ 31) (hb : Bd 200 f) : (traceF f).natAbs < 2 ^ 250 := by
  have l := trS_len (f := f) h (unitsF f.length)
  have u := units_le f.length
  have b := trS_bd h hb (unitsF f.length) (wsF f.length 0) 200 (wsF_len h 0) (bd_mono (ws_bd _) (by decide)) (Nat.le_refl _)
  have := wo_bd (f := trS f (unitsF f.length)) (b := 200 + (unitsF f.length).length) (by omega) (by omega) b
  exact Nat.lt_of_lt_of_le this (Nat.pow_le_pow_right (by decide) (by omega))
theorem norm_bd {f : List Int} (h : 1 ≤ f.length) (h2 : f.length ≤ 31) (hb : Bd 200 f) : (normF f).natAbs < 2 ^ 6600 := by
  have u := units_le f.length
  obtain ⟨l, b⟩ := nmS_ok h (by omega) hb (unitsF f.length)
  have := wo_bd (by omega) (by omega) b
  have : (unitsF f.length).length * (200 + 10) ≤ 31 * 210 := Nat.mul_le_mul_right _ (by omega)
  exact Nat.lt_of_lt_of_le ‹(woF _).natAbs < _› (Nat.pow_le_pow_right (by decide) (by omega))

/-! ### the mathematics: sums laid round n out of polynomials -/
section
variable {n : Nat} [O : Ok61 n] {f g : List Int}
/-- the root itself -/
def om (n : Nat) [O : Ok61 n] : Zn n := zc n (uF n (1 % n))
theorem uFl (j : Nat) : (uF n j).length = n := mkL_len _ _
theorem coef_uF {j m : Nat} (hm : m < n) : coef (uF n j) m = if m = j then 1 else 0 := by
  unfold uF
  rw [coef_mkL, if_pos hm]
theorem uF_mul {i j : Nat} (hi : i < n) (hj : j < n) : mulS (uF n i) (uF n j) = uF n ((i + j) % n) := by
  have h1 := O.h1
  refine ext_of (by rw [mulS_len, uFl, uFl]) fun m hm => ?_
  rw [mulS_len, uFl] at hm
  rw [mulS_at (uFl i) hm, coef_uF hm]
  have e := S_one (fun k => coef (uF n j) ((m + n - k) % n)) (i := i) n
  rw [if_pos hi] at e
  refine (S_congr n fun k hk => ?_).trans (e.trans ?_)
  · rw [coef_uF hk]
    split
    · rw [Int.one_mul]
    · rw [Int.zero_mul]
  · show coef (uF n j) ((m + n - i) % n) = _
    rw [coef_uF (Nat.mod_lt _ h1)]
    have iff : (m + n - i) % n = j ↔ m = (i + j) % n := by
      constructor
      · intro z
        rw [← z, Nat.add_mod, Nat.mod_mod, ← Nat.add_mod, show i + (m + n - i) = m + n by omega, Nat.add_mod_right, Nat.mod_eq_of_lt hm]
      · intro z
        by_cases c : i + j < n
        · rw [Nat.mod_eq_of_lt c] at z
          rw [z, show i + j + n - i = j + n by omega, Nat.add_mod_right, Nat.mod_eq_of_lt hj]
        · rw [Nat.mod_eq_sub_mod (by omega), Nat.mod_eq_of_lt (by omega)] at z
          rw [z, show i + j - n + n - i = j by omega, Nat.mod_eq_of_lt hj]
    by_cases c : m = (i + j) % n
    · rw [if_pos c, if_pos (iff.mpr c)]
    · rw [if_neg c, if_neg fun z => c (iff.mp z)]
theorem om_pow (k : Nat) : om n ^ k = zc n (uF n (k % n)) := by
  have h1 := O.h1
  induction k with
  | zero =>
    rw [Lean.Grind.Semiring.pow_zero, Nat.zero_mod]
    show zc n (itS n 1) = _
    congr 1
    refine ext_of (by rw [itS_len h1, uFl]) fun m hm => ?_
    rw [itS_len h1] at hm
    rw [coef_itS, coef_uF hm]
  | succ k ih =>
    rw [Lean.Grind.Semiring.pow_succ, ih]
    show _ * zc n (uF n (1 % n)) = _
    rw [← zc_mul (uFl _) (uFl _), uF_mul (Nat.mod_lt _ h1) (Nat.mod_lt _ h1), ← Nat.add_mod]
theorem om_n : om n ^ n = 1 := by
  rw [om_pow, Nat.mod_self, ← Nat.zero_mod n, ← om_pow, Lean.Grind.Semiring.pow_zero]
/-- a polynomial at the root -/
def evI (n : Nat) [O : Ok61 n] (f : List Int) : Zn n := f.foldr (fun c acc => ((c : Int) : Zn n) + om n * acc) 0
theorem evI_nil : evI n [] = 0 := rfl
theorem evI_cons (c : Int) (f : List Int) : evI n (c :: f) = ((c : Int) : Zn n) + om n * evI n f := rfl
theorem it_zero : ((0 : Int) : Zn n) = 0 := rfl
theorem it_one : ((1 : Int) : Zn n) = 1 := rfl
theorem it_add40 (i j : Int) : (((i + j : Int)) : Zn n) = (i : Zn n) + (j : Zn n) := zc_it_add i j
theorem evI_add : ∀ f g : List Int, evI n (addK f g) = evI n f + evI n g
  | [], g => by
    show evI n g = 0 + evI n g
    grind
  | a :: f, [] => by
    show evI n (a :: f) = evI n (a :: f) + 0
    grind
  | a :: f, b :: g => by
    show evI n ((a + b) :: addK f g) = _
    rw [evI_cons, evI_cons, evI_cons, evI_add f g, it_add40]
    grind
theorem evI_scale (a : Int) : ∀ g : List Int, evI n (g.map fun x => a * x) = ((a : Int) : Zn n) * evI n g
  | [] => by
    show (0 : Zn n) = _ * 0
    grind
  | b :: g => by
    rw [List.map_cons, evI_cons, evI_cons, evI_scale a g, it_mul35]
    grind
theorem evI_mul : ∀ f g : List Int, evI n (mulK f g) = evI n f * evI n g
  | [], g => by
    show (0 : Zn n) = 0 * _
    grind
  | a :: f, g => by
    show evI n (addK (g.map fun x => a * x) (0 :: mulK f g)) = _
    rw [evI_add, evI_scale, evI_cons, evI_cons, evI_mul f g, it_zero]
    grind
theorem evI_congr : ∀ f g : List Int, (∀ m, coef f m = coef g m) → evI n f = evI n g
  | [], [], _ => rfl
  | a :: f, [], h => by
    rw [evI_cons, show a = 0 from h 0, evI_congr f [] fun m => h (m + 1), evI_nil, it_zero]
    grind
  | [], b :: g, h => by
    rw [evI_cons, show b = 0 from (h 0).symm, ← evI_congr [] g fun m => h (m + 1), evI_nil, it_zero]
    grind
  | a :: f, b :: g, h => by
    rw [evI_cons, evI_cons, show a = b from h 0, evI_congr f g fun m => h (m + 1)]
theorem evI_app : ∀ f g : List Int, evI n (f ++ g) = evI n f + om n ^ f.length * evI n g
  | [], g => by
    show evI n g = 0 + om n ^ 0 * evI n g
    rw [Lean.Grind.Semiring.pow_zero]
    grind
  | a :: f, g => by
    rw [List.cons_append, evI_cons, evI_cons, evI_app f g, List.length_cons, Lean.Grind.Semiring.pow_succ]
    grind
theorem evI_rep : ∀ k : Nat, evI n (List.replicate k 0) = 0
  | 0 => rfl
  | k + 1 => by
    rw [List.replicate_succ, evI_cons, evI_rep k, it_zero]
    grind
/-- the polynomial laid round n -/
def layK (n : Nat) (f : List Int) : Nat → List Int
  | 0 => List.replicate n 0
  | i + 1 => (layK n f i).set (i % n) (coef (layK n f i) (i % n) + coef f i)
def layF (n : Nat) (f : List Int) : List Int := layK n f f.length
theorem layK_len (f : List Int) : ∀ i, (layK n f i).length = n
  | 0 => List.length_replicate
  | i + 1 => by
    show ((layK n f i).set _ _).length = n
    rw [List.length_set, layK_len f i]
theorem layF_len (f : List Int) : (layF n f).length = n := layK_len f _
theorem zc_set {T : List Int} (hT : T.length = n) {j : Nat} (hj : j < n) (c : Int) : zc n (T.set j (coef T j + c)) = zc n T + ((c : Int) : Zn n) * zc n (uF n j) := by
  have ml : (mkL n fun m => c * coef (uF n j) m).length = n := mkL_len _ _
  have e : T.set j (coef T j + c) = addS T (mkL n fun m => c * coef (uF n j) m) := by
    refine ext_of (by rw [List.length_set, addS_len (by rw [hT, ml])]) fun m hm => ?_
    rw [List.length_set, hT] at hm
    rw [coef_set (by omega), coef_addS (by rw [hT, ml]), coef_mkL, if_pos hm, coef_uF hm]
    by_cases q : m = j
    · rw [if_pos q, if_pos q, q, Int.mul_one]
    · rw [if_neg q, if_neg q, Int.mul_zero, Int.add_zero]
  rw [e, zc_add hT ml]
  show _ = _ + zc n (itS n c) * _
  rw [zc_it_mul (uFl j)]
theorem layK_ev (f : List Int) : ∀ i, i ≤ f.length → zc n (layK n f i) = evI n (f.take i)
  | 0, _ => by
    rw [List.take_zero, evI_nil]
    show zc n (List.replicate n 0) = zc n (itS n 0)
    congr 1
    have h1 := O.h1
    refine ext_of (by rw [List.length_replicate, itS_len h1]) fun m hm => ?_
    rw [coef_rep, coef_itS]
    split <;> rfl
  | i + 1, h => by
    show zc n ((layK n f i).set (i % n) (coef (layK n f i) (i % n) + coef f i)) = _
    rw [zc_set (layK_len f i) (Nat.mod_lt _ O.h1), layK_ev f i (by omega), List.take_add_one, coef_get (by omega), ← om_pow]
    show _ = evI n (f.take i ++ [coef f i])
    rw [evI_app, List.length_take, Nat.min_eq_left (by omega), evI_cons, evI_nil]
    grind
theorem lay_ev (f : List Int) : zc n (layF n f) = evI n f := by
  unfold layF
  rw [layK_ev f _ (Nat.le_refl _), List.take_length]
/-- the product of all that it is led to -/
def nz (a : Zn n) : Zn n := prZ (unitsF n) (fun k => sg n k a) 1
theorem nz_norm (h2 : n ≤ 31) (hf : f.length = n) : nz (zc n f) = ((normF f : Int) : Zn n) := norm_zc h2 hf
theorem nz_mul (h2 : n ≤ 31) (a b : Zn n) : nz (a * b) = nz a * nz b := by
  unfold nz
  rw [← prZ_mul, show (1 : Zn n) * 1 = 1 by grind]
  exact prZ_congr fun k hk => sg_mul h2 hk _ _
theorem nz_int (h2 : n ≤ 31) (c : Int) : nz ((c : Int) : Zn n) = (((c ^ (unitsF (n : Int)).length : Int)) : Zn n) := by
  unfold nz
  rw [prZ_congr (ψ := fun _ => ((c : Int) : Zn n)) fun k hk => sg_int h2 hk c, it_pow35]
  have key : ∀ (ks : List Nat) (t : Zn n), prZ ks (fun _ => ((c : Int) : Zn n)) t = t * ((c : Int) : Zn n) ^ ks.length := by
    intro ks
    induction ks with
    | nil =>
      intro t
      show t = t * _ ^ 0
      rw [Lean.Grind.Semiring.pow_zero]
      grind
    | cons k ks ih =>
      intro t
      show prZ ks _ (t * _) = _
      rw [ih, List.length_cons, Lean.Grind.Semiring.pow_succ]
      grind
  rw [key]
  grind
end

theorem pow_bits {t : Int} {a : Nat} (h : t.natAbs < 2 ^ a) : ∀ c : Nat, (t ^ c).natAbs < 2 ^ (a * c + 1)
  | 0 => by
    rw [Int.pow_zero, Nat.mul_zero]
    decide
  | c + 1 => by
    have ih := pow_bits h c
    rw [Int.pow_succ, Int.natAbs_mul]
    have := Nat.mul_lt_mul'' ih h
    rw [← Nat.pow_add] at this
    exact Nat.lt_of_lt_of_le this (Nat.pow_le_pow_right (by decide) (by rw [Nat.mul_succ]; omega))

/-! ### tables: the norms of the root's powers less 1, of root polynomials, of y less a number -/
/-- l turned by k -/
def rotL (n k : Nat) (l : List Int) : List Int := l.drop (n - k) ++ l.take (n - k)
def subL (a b : List Int) : List Int := List.zipWith (fun x y => x - y) a b
def prodU (n g : Nat) : List Int := (unitsF (n : Int)).foldl (fun t k => subL (rotL n (k * g % n) t) t) (wsF n 1)
def lamF (m : Nat) : Int := match partedF (m : Int) with | [r] => r.1 | _ => 1
def cN (n e : Nat) : Int := (if n / Nat.gcd n e = 2 then -2 else lamF (n / Nat.gcd n e)) ^ ((unitsF (n : Int)).length / (unitsF ((n / Nat.gcd n e : Nat) : Int)).length)
def chkC (n : Nat) : Bool := (List.range n).all fun g => decide (g = 0) || decide (grF n (prodU n g) = wsF n (cN n g))
theorem chkC_all : ((List.range 30).all fun i => chkC (i + 1)) = true := by decide +kernel
def onL (n : Nat) : Nat → List Int
  | 0 => []
  | c + 1 => 1 :: (List.replicate (n - 1) 0 ++ onL n c)
def AP (n e : Nat) : List Int := if e % n = 0 then onL n (e / n) else xd1 e
def NA (n e : Nat) : Int := if e % n = 0 then ((e / n : Nat) : Int) ^ (unitsF (n : Int)).length else cN n (e % n)
def muF (m : Nat) : Int := if (partedF (m : Int)).all fun r => r.2 == 1 then (if (partedF (m : Int)).length % 2 = 0 then 1 else -1) else 0
def muE (d : Nat) (s : Int) : List Nat := (List.range (d + 1)).filter fun e => e != 0 && (d % e == 0 && muF (d / e) == s)
def pE (n : Nat) (l : List Nat) : Int := l.foldl (fun t e => t * NA n e) 1
def prF (m : Nat) : Int := match partedF (m : Int) with | [r] => r.1 | _ => 0
/-- what the norm of the d-th root polynomial at a root of n is -/
def meetF (n d : Nat) : Int := if n = d then 0 else
  let told : Int := if max n d % min n d = 0 ∧ 0 < prF (max n d / min n d) then prF (max n d / min n d) ^ (unitsF ((min n d : Nat) : Int)).length else 1
  if n = 2 ∧ d = 1 then 0 - told else told
def chkI (n d : Nat) : Bool := decide (n = d) || (decide (l1R (phi d :: (muE d (-1)).map (AP n)) + l1R ((muE d 1).map (AP n)) < 18446744073709551616) && (decide (valR 18446744073709551616 (phi d :: (muE d (-1)).map (AP n)) = valR 18446744073709551616 ((muE d 1).map (AP n))) && (decide (meetF n d * pE n (muE d (-1)) = pE n (muE d 1)) && decide (pE n (muE d (-1)) ≠ 0))))
theorem chkI_0 : ((List.range 10).all fun i => (List.range 60).all fun d => chkI (i + 1) (d + 1)) = true := by decide +kernel
theorem chkI_1 : ((List.range 10).all fun i => (List.range 60).all fun d => chkI (i + 11) (d + 1)) = true := by decide +kernel
theorem chkI_2 : ((List.range 10).all fun i => (List.range 60).all fun d => chkI (i + 21) (d + 1)) = true := by decide +kernel
def chkZ (n : Nat) : Bool := decide (grF n (layF n (phi n)) = List.replicate n 0) && (decide ((unitsF (n : Int)).length = 1 ∨ (unitsF (n : Int)).length % 2 = 0) && (decide (valP 1 (phi n) ≠ 0 ∨ n = 1) && decide (valP (-1) (phi n) ≠ 0 ∨ n = 2)))
theorem chkZ_all : ((List.range 30).all fun i => chkZ (i + 1)) = true := by decide +kernel
def tlT (n k : Nat) : List Int → List (List Int) → List (List Int)
  | p, [] => [p]
  | p, c :: cs => subL p (rotL n k c) :: tlT n k c cs
def polyU (n : Nat) : List (List Int) := (unitsF (n : Int)).foldl (fun P k => tlT n (k % n) (List.replicate n 0) P) [wsF n 1]
def chkT40 (n : Nat) : Bool := decide ((polyU n).map (grF n) = (phi n).map (wsF n))
theorem chkT40_all : ((List.range 30).all fun i => chkT40 (i + 1)) = true := by decide +kernel

/-! ### the norms, out of the tables -/
theorem coef_drop (l : List Int) (j m : Nat) : coef (l.drop j) m = coef l (j + m) := by
  unfold coef
  rw [List.getD_eq_getElem?_getD, List.getD_eq_getElem?_getD, List.getElem?_drop]
theorem coef_take {l : List Int} {j m : Nat} (h : m < j) : coef (l.take j) m = coef l m := by
  unfold coef
  rw [List.getD_eq_getElem?_getD, List.getD_eq_getElem?_getD, List.getElem?_take_of_lt h]
section
variable {n : Nat} [O : Ok61 n] {f g l : List Int}
theorem rotL_len {k : Nat} (hl : l.length = n) : (rotL n k l).length = n := by
  unfold rotL
  rw [List.length_append, List.length_drop, List.length_take]
  omega
theorem rot_coef {k m : Nat} (hl : l.length = n) (hk : k < n) (hm : m < n) : coef (rotL n k l) m = coef l ((m + n - k) % n) := by
  unfold rotL
  rw [coef_app, List.length_drop, hl, show n - (n - k) = k by omega]
  split
  · rw [coef_drop, Nat.mod_eq_of_lt (by omega)]
    congr 1
    omega
  · rw [coef_take (by omega), show m + n - k = m - k + n by omega, Nat.add_mod_right, Nat.mod_eq_of_lt (by omega)]
theorem rot_zc {k : Nat} (hl : l.length = n) (hk : k < n) : zc n (rotL n k l) = om n ^ k * zc n l := by
  rw [om_pow, Nat.mod_eq_of_lt hk, ← zc_mul (uFl k) hl]
  congr 1
  refine ext_of (by rw [rotL_len hl, mulS_len, uFl]) fun m hm => ?_
  rw [rotL_len hl] at hm
  rw [rot_coef hl hk hm, mulS_at (uFl k) hm]
  have e := S_one (fun i => coef l ((m + n - i) % n)) (i := k) n
  rw [if_pos hk] at e
  refine Eq.symm ((S_congr n fun i hi => ?_).trans e)
  rw [coef_uF hi]
  split
  · rw [Int.one_mul]
  · rw [Int.zero_mul]
theorem subL_len {a b : List Int} (ha : a.length = n) (hb : b.length = n) : (subL a b).length = n := by
  unfold subL
  rw [List.length_zipWith]
  omega
theorem sub_zc {a b : List Int} (ha : a.length = n) (hb : b.length = n) : zc n (subL a b) = zc n a - zc n b := by
  have nb : (negS b).length = n := by rw [negS_len, hb]
  have e : subL a b = addS a (negS b) := by
    refine ext_of (by rw [subL_len ha hb, addS_len (by rw [ha, nb]), ha]) fun m hm => ?_
    rw [subL_len ha hb] at hm
    rw [coef_addS (by rw [ha, nb]), coef_negS, coef_lt (by rw [subL_len ha hb]; exact hm), coef_lt (by omega), coef_lt (by omega)]
    unfold subL
    rw [List.getElem_zipWith]
    omega
  rw [e, zc_add ha nb, zc_neg hb]
  grind
theorem sg_om (h2 : n ≤ 31) {k : Nat} (hk : k ∈ unitsF n) (g : Nat) : sg n k (om n ^ g) = om n ^ (k * g) := by
  have h1 := O.h1
  rw [om_pow, ← zc_led h2 (uFl _) hk, om_pow]
  congr 1
  refine ext_of (by rw [ledF_len, uFl, uFl]) fun m hm => ?_
  rw [ledF_len, uFl] at hm
  rw [led_uF h1 h2 (Nat.mod_lt _ h1) hm hk, coef_uF hm, mm1]
  by_cases c : k * g % n = m
  · rw [if_pos c, if_pos c.symm]
  · rw [if_neg c, if_neg fun z => c z.symm]
theorem om_mod (k : Nat) : om n ^ (k % n) = om n ^ k := by rw [om_pow, om_pow, Nat.mod_mod]
theorem whole_zc (h2 : n ≤ 31) (hl : l.length = n) {c : Int} (h : grF n l = wsF n c) : zc n l = ((c : Int) : Zn n) := by
  show _ = zc n (itS n c)
  rw [zc_eq hl (itS_len O.h1 c), h, itS_ws, gr_ws O.h1 h2]
theorem nz_U (h2 : n ≤ 30) {g : Nat} (g1 : 1 ≤ g) (g2 : g < n) : nz (om n ^ g - 1) = ((cN n g : Int) : Zn n) := by
  have h1 := O.h1
  have key : ∀ (ks : List Nat) (t : List Int), (∀ k ∈ ks, k ∈ unitsF n) → t.length = n → zc n (ks.foldl (fun t k => subL (rotL n (k * g % n) t) t) t) = prZ ks (fun k => sg n k (om n ^ g - 1)) (zc n t) ∧ (ks.foldl (fun t k => subL (rotL n (k * g % n) t) t) t).length = n := by
    intro ks
    induction ks with
    | nil => exact fun t _ ht => ⟨rfl, ht⟩
    | cons k ks ih =>
      intro t hk ht
      have hk1 := hk k List.mem_cons_self
      have rl := rotL_len (k := k * g % n) ht
      have := ih (subL (rotL n (k * g % n) t) t) (fun j hj => hk j (List.mem_cons_of_mem _ hj)) (subL_len rl ht)
      refine ⟨this.1.trans ?_, this.2⟩
      show prZ ks _ _ = prZ ks _ (zc n t * sg n k (om n ^ g - 1))
      congr 1
      rw [sub_zc rl ht, rot_zc ht (Nat.mod_lt _ h1), om_mod, sg_sub (by omega) hk1, sg_om (by omega) hk1, sg_one (by omega) hk1]
      grind
  have t := List.all_eq_true.mp (List.all_eq_true.mp chkC_all (n - 1) (List.mem_range.mpr (by omega))) g (List.mem_range.mpr (by omega))
  rw [show n - 1 + 1 = n by omega, decide_eq_false (by omega), Bool.false_or] at t
  have w := key (unitsF n) (wsF n 1) (fun _ z => z) (wsF_len h1 1)
  have e := whole_zc (l := prodU n g) (by omega) w.2 (of_decide_eq_true t)
  rw [← e]
  exact w.1.symm
theorem ev_on (c : Nat) : evI n (onL n c) = (((c : Nat) : Int) : Zn n) := by
  induction c with
  | zero => rfl
  | succ c ih =>
    have h1 := O.h1
    show evI n (1 :: (List.replicate (n - 1) 0 ++ onL n c)) = _
    have e : om n * om n ^ (n - 1) = 1 := by
      have := Lean.Grind.Semiring.pow_succ (om n) (n - 1)
      rw [show n - 1 + 1 = n by omega, om_n] at this
      grind
    rw [evI_cons, evI_app, List.length_replicate, evI_rep, ih, Int.natCast_add, it_add40]
    show (1 : Zn n) + om n * (0 + om n ^ (n - 1) * _) = _ + (1 : Zn n)
    grind
theorem ev_xd {e : Nat} (h : 1 ≤ e) : evI n (xd1 e) = om n ^ e - 1 := by
  unfold xd1
  have m1 : (((-1 : Int)) : Zn n) = -1 := zc_it_neg 1
  have p : om n ^ e = om n * om n ^ (e - 1) := by
    have := Lean.Grind.Semiring.pow_succ (om n) (e - 1)
    rw [show e - 1 + 1 = e by omega] at this
    rw [this]
    grind
  rw [List.append_assoc, List.singleton_append, evI_cons, evI_app, evI_rep, List.length_replicate, evI_cons, evI_nil, m1, it_one, p]
  grind
theorem nz_A (h2 : n ≤ 30) (e : Nat) : nz (evI n (AP n e)) = ((NA n e : Int) : Zn n) := by
  unfold AP NA
  by_cases c : e % n = 0
  · rw [if_pos c, if_pos c, ev_on, nz_int (by omega)]
  · rw [if_neg c, if_neg c, ev_xd (Nat.pos_of_ne_zero fun z => c (by rw [z, Nat.zero_mod])), ← om_mod, nz_U h2 (by omega) (Nat.mod_lt _ O.h1)]
theorem nz_P (h2 : n ≤ 30) : ∀ (es : List Nat) (t : Int), nz (evI n (prodR (es.map (AP n)))) * ((t : Int) : Zn n) = ((es.foldl (fun t e => t * NA n e) t : Int) : Zn n)
  | [], t => by
    show nz (evI n [1]) * _ = _
    have : evI n [1] = ((1 : Int) : Zn n) := by
      rw [evI_cons, evI_nil]
      grind
    rw [this, nz_int (by omega), Int.one_pow, it_one]
    show 1 * ((t : Int) : Zn n) = ((t : Int) : Zn n)
    grind
  | e :: es, t => by
    show nz (evI n (mulK (prodR (es.map (AP n))) (AP n e))) * _ = _
    rw [evI_mul, nz_mul (by omega), nz_A h2, List.foldl_cons, ← nz_P h2 es (t * NA n e), it_mul35]
    grind
theorem chkI_at (h2 : n ≤ 30) {d : Nat} (d1 : 1 ≤ d) (d2 : d ≤ 60) : chkI n d = true := by
  have h1 := O.h1
  have key : ∀ k, k ≤ n - 1 → n - 1 < k + 10 → ((List.range 10).all fun i => (List.range 60).all fun d => chkI (i + (k + 1)) (d + 1)) = true → chkI n d = true := fun k a b h => by
    have h := List.all_eq_true.mp (List.all_eq_true.mp h (n - 1 - k) (List.mem_range.mpr (by omega))) (d - 1) (List.mem_range.mpr (by omega))
    rwa [show n - 1 - k + (k + 1) = n by omega, show d - 1 + 1 = d by omega] at h
  have c : n - 1 < 10 ∨ (10 ≤ n - 1 ∧ n - 1 < 20) ∨ 20 ≤ n - 1 := by omega
  rcases c with c | c | c
  · exact key 0 (by omega) (by omega) chkI_0
  · exact key 10 (by omega) (by omega) chkI_1
  · exact key 20 (by omega) (by omega) chkI_2
theorem chkZ_at (h2 : n ≤ 30) : chkZ n = true := by
  have h1 := O.h1
  have h := List.all_eq_true.mp chkZ_all (n - 1) (List.mem_range.mpr (by omega))
  rwa [show n - 1 + 1 = n by omega] at h
theorem phi_nought (h2 : n ≤ 30) : evI n (phi n) = 0 := by
  have t := chkZ_at h2
  unfold chkZ at t
  rw [Bool.and_eq_true] at t
  have t := of_decide_eq_true t.1
  rw [← lay_ev]
  have rl : (List.replicate n (0 : Int)).length = n := List.length_replicate
  have e : zc n (List.replicate n (0 : Int)) = 0 := by
    have := layK_ev (n := n) [] 0 (Nat.le_refl 0)
    exact this
  rw [← e, ← zc_gr (layF_len _), t]
theorem nz_phi (h2 : n ≤ 30) {d : Nat} (d1 : 1 ≤ d) (d2 : d ≤ 60) : nz (evI n (phi d)) = ((meetF n d : Int) : Zn n) := by
  by_cases c : n = d
  · subst c
    have m0 : meetF n n = 0 := by
      unfold meetF
      rw [if_pos rfl]
    have u0 : (unitsF (n : Int)).length ≠ 0 := (chkU_at O.h1 (by omega)).1
    rw [m0, phi_nought h2, ← it_zero, nz_int (by omega), Int.zero_pow u0]
  · have t := chkI_at h2 d1 d2
    unfold chkI at t
    rw [decide_eq_false c, Bool.false_or, Bool.and_eq_true, Bool.and_eq_true, Bool.and_eq_true] at t
    obtain ⟨t1, t2, t3, t4⟩ := t
    have t1 := of_decide_eq_true t1
    have t2 := of_decide_eq_true t2
    have t3 := of_decide_eq_true t3
    have t4 := of_decide_eq_true t4
    have lf := lift (B := 18446744073709551616) (prodR (phi d :: (muE d (-1)).map (AP n))) (prodR ((muE d 1).map (AP n))) (Nat.lt_of_le_of_lt (Nat.add_le_add (prodR_l1 _) (prodR_l1 _)) t1) (by rw [prodR_val, prodR_val]; exact t2)
    have ev := evI_congr (n := n) _ _ lf
    have ev : evI n (prodR ((muE d (-1)).map (AP n))) * evI n (phi d) = evI n (prodR ((muE d 1).map (AP n))) := by
      rw [← evI_mul]
      exact ev
    have nv := congrArg nz ev
    rw [nz_mul (by omega)] at nv
    have p1 := nz_P h2 (muE d (-1)) 1
    have p2 := nz_P h2 (muE d 1) 1
    have e1 : ((pE n (muE d (-1)) : Int) : Zn n) = nz (evI n (prodR ((muE d (-1)).map (AP n)))) := by
      unfold pE
      rw [← p1, it_one]
      grind
    have e2 : ((pE n (muE d 1) : Int) : Zn n) = nz (evI n (prodR ((muE d 1).map (AP n)))) := by
      unfold pE
      rw [← p2, it_one]
      grind
    refine zn_tor t4 ?_
    rw [e1, nv, ← e2, ← t3, it_mul35, e1]
    grind
end

/-! ### y less a number, at the root -/
theorem val_xd40 (a : Int) {n : Nat} (h : 1 ≤ n) : valP a (xd1 n) = a ^ n - 1 := by
  have app : ∀ f g : List Int, valP a (f ++ g) = valP a f + a ^ f.length * valP a g := by
    intro f
    induction f with
    | nil =>
      intro g
      show valP a g = 0 + a ^ 0 * valP a g
      rw [Int.pow_zero]
      omega
    | cons c f ih =>
      intro g
      show c + a * valP a (f ++ g) = c + a * valP a f + a ^ (f.length + 1) * valP a g
      rw [ih, Int.pow_succ, Int.mul_add, Int.mul_comm (a ^ f.length) a, Int.mul_assoc]
      omega
  have rep : ∀ k : Nat, valP a (List.replicate k 0) = 0 := by
    intro k
    induction k with
    | zero => rfl
    | succ k ih =>
      rw [List.replicate_succ]
      show 0 + a * valP a (List.replicate k 0) = 0
      rw [ih]
      omega
  unfold xd1
  rw [app, app, rep]
  show -1 + a * 0 + a ^ 1 * 0 + a ^ (([-1] : List Int) ++ List.replicate (n - 1) 0).length * (1 + a * 0) = _
  rw [List.length_append, List.length_replicate, List.length_singleton, show 1 + (n - 1) = n by omega, Int.mul_zero, Int.mul_zero, Int.add_zero, Int.add_zero, Int.add_zero, Int.mul_one]
  omega
theorem valR_zero {a : Int} {g : List Int} (h : valP a g = 0) : ∀ l : List (List Int), g ∈ l → valR a l = 0
  | [], m => nomatch m
  | f :: r, m => by
    show valR a r * valP a f = 0
    rcases List.mem_cons.mp m with e | m
    · rw [← e, h, Int.mul_zero]
    · rw [valR_zero h r m, Int.zero_mul]
section
variable {n : Nat} [O : Ok61 n]
def linF (n : Nat) (a : Int) : Int := if (unitsF (n : Int)).length = 1 then 0 - valP a (phi n) else valP a (phi n)
theorem tlT_zc {k : Nat} (hk : k < n) : ∀ (P : List (List Int)) (p : List Int), p.length = n → (∀ c ∈ P, c.length = n) → (tlT n k p P).map (zc n) = tlR (om n ^ k) (zc n p) (P.map (zc n)) ∧ ∀ c ∈ tlT n k p P, c.length = n
  | [], p, hp, _ => ⟨rfl, fun c m => by
    have m : c ∈ [p] := m
    rw [List.mem_singleton.mp m, hp]⟩
  | c :: cs, p, hp, h => by
    have hc := h c List.mem_cons_self
    have rl := rotL_len (k := k) hc
    obtain ⟨a, b⟩ := tlT_zc hk cs c hc fun x m => h x (List.mem_cons_of_mem _ m)
    refine ⟨?_, fun x m => ?_⟩
    · show zc n (subL p (rotL n k c)) :: (tlT n k c cs).map (zc n) = (zc n p - om n ^ k * zc n c) :: tlR (om n ^ k) (zc n c) (cs.map (zc n))
      rw [a, sub_zc hp rl, rot_zc hc hk]
    · have m : x ∈ subL p (rotL n k c) :: tlT n k c cs := m
      rcases List.mem_cons.mp m with e | m
      · rw [e, subL_len hp rl]
      · exact b x m
theorem poly_zc : ∀ (ks : List Nat) (P : List (List Int)), (∀ c ∈ P, c.length = n) → (ks.foldl (fun P k => tlT n (k % n) (List.replicate n 0) P) P).map (zc n) = (ks.map fun k => om n ^ k).foldl tlZ (P.map (zc n)) ∧ ∀ c ∈ ks.foldl (fun P k => tlT n (k % n) (List.replicate n 0) P) P, c.length = n
  | [], P, h => ⟨rfl, h⟩
  | k :: ks, P, h => by
    have z0 : zc n (List.replicate n (0 : Int)) = 0 := layK_ev (n := n) [] 0 (Nat.le_refl 0)
    obtain ⟨a, b⟩ := tlT_zc (Nat.mod_lt k O.h1) P (List.replicate n 0) List.length_replicate h
    obtain ⟨c, d⟩ := poly_zc ks _ b
    refine ⟨c.trans ?_, d⟩
    rw [a, z0, om_mod]
    rfl
theorem poly_at (h2 : n ≤ 30) : ((unitsF n).map fun k => om n ^ k).foldl tlZ [1] = (phi n).map fun c => ((c : Int) : Zn n) := by
  have h1 := O.h1
  obtain ⟨a, b⟩ := poly_zc (unitsF n) [wsF n 1] (fun c m => by rw [List.mem_singleton.mp m, wsF_len h1])
  have a : (polyU n).map (zc n) = ((unitsF n).map fun k => om n ^ k).foldl tlZ [1] := a
  rw [← a]
  have t := List.all_eq_true.mp chkT40_all (n - 1) (List.mem_range.mpr (by omega))
  rw [show n - 1 + 1 = n by omega] at t
  have t := congrArg (List.map (zc n)) (of_decide_eq_true t)
  rw [List.map_map, List.map_map] at t
  refine Eq.trans (List.map_congr_left fun c m => ?_) t
  show zc n c = zc n (grF n c)
  rw [zc_gr (b c m)]
theorem evZ_at (a : Int) : ∀ f : List Int, evZ (f.map fun c => ((c : Int) : Zn n)) ((a : Int) : Zn n) = ((valP a f : Int) : Zn n)
  | [] => rfl
  | c :: f => by
    show ((c : Int) : Zn n) + ((a : Int) : Zn n) * evZ (f.map fun c => ((c : Int) : Zn n)) ((a : Int) : Zn n) = ((c + a * valP a f : Int) : Zn n)
    rw [evZ_at a f, it_add40, it_mul35]
theorem neg_fold (x : Zn n) : ∀ (ks : List (Zn n)) (t : Zn n), ks.foldl (fun t a => (x - a) * t) (-t) = - ks.foldl (fun t a => (x - a) * t) t
  | [], t => rfl
  | k :: ks, t => by
    rw [List.foldl_cons, List.foldl_cons, show (x - k) * -t = -((x - k) * t) by grind, neg_fold x ks]
theorem sgn_fold (x : Zn n) : ∀ (ks : List Nat) (t : Zn n), prZ ks (fun k => om n ^ k - x) t = (if ks.length % 2 = 0 then (ks.map fun k => om n ^ k).foldl (fun t a => (x - a) * t) t else - (ks.map fun k => om n ^ k).foldl (fun t a => (x - a) * t) t)
  | [], t => by
    rw [if_pos (show ([] : List Nat).length % 2 = 0 from rfl)]
    rfl
  | k :: ks, t => by
    show prZ ks _ (t * (om n ^ k - x)) = _
    rw [sgn_fold x ks, List.map_cons, List.foldl_cons, show t * (om n ^ k - x) = -((x - om n ^ k) * t) by grind, neg_fold, List.length_cons]
    by_cases c : ks.length % 2 = 0
    · rw [if_pos c, if_neg (by omega)]
    · rw [if_neg c, if_pos (by omega)]
      grind
theorem nz_lin (h2 : n ≤ 30) (a : Int) : nz (om n - ((a : Int) : Zn n)) = ((linF n a : Int) : Zn n) := by
  have one : om n ^ 1 = om n := by
    have := Lean.Grind.Semiring.pow_succ (om n) 0
    rw [Lean.Grind.Semiring.pow_zero] at this
    rw [this]
    grind
  have e : nz (om n - ((a : Int) : Zn n)) = prZ (unitsF n) (fun k => om n ^ k - ((a : Int) : Zn n)) 1 := by
    unfold nz
    refine prZ_congr fun k hk => ?_
    have s := sg_om (by omega) hk 1
    rw [one, Nat.mul_one] at s
    rw [sg_sub (by omega) hk, s, sg_int (by omega) hk]
  have v : ((unitsF n).map fun k => om n ^ k).foldl (fun t r => (((a : Int) : Zn n) - r) * t) 1 = ((valP a (phi n) : Int) : Zn n) := by
    rw [← evZ_at, ← poly_at h2, fold_tl_ev]
    show _ = List.foldl _ (1 + ((a : Int) : Zn n) * 0) _
    rw [show (1 : Zn n) + ((a : Int) : Zn n) * 0 = 1 by grind]
  have t := chkZ_at (n := n) h2
  unfold chkZ at t
  rw [Bool.and_eq_true, Bool.and_eq_true] at t
  have t := of_decide_eq_true t.2.1
  rw [e, sgn_fold, v]
  unfold linF
  by_cases c : (unitsF (n : Int)).length = 1
  · rw [if_pos c, if_neg (by omega), show (0 : Int) - valP a (phi n) = - valP a (phi n) by omega]
    exact (zc_it_neg _).symm
  · rw [if_neg c, if_pos (by omega)]
/-- the number is 0 where the sum is -/
theorem lin0_zero (h2 : n ≤ 30) {a : Int} (h : linF n a = 0) : om n - ((a : Int) : Zn n) = 0 := by
  have h1 := O.h1
  have v : valP a (phi n) = 0 := by
    unfold linF at h
    split at h <;> omega
  have mem : n - 1 ∈ dvs n := by
    unfold dvs
    refine List.mem_filter.mpr ⟨List.mem_range.mpr (by omega), ?_⟩
    rw [show n - 1 + 1 = n by omega, Nat.mod_self]
    rfl
  have z := valR_zero v ((dvs n).map fun i => phi (i + 1)) (List.mem_map.mpr ⟨n - 1, mem, by rw [show n - 1 + 1 = n by omega]⟩)
  rw [← prodR_val, (phi_prod h1 (show n ≤ 420 by omega)).1, val_xd40 a h1] at z
  have p : a ^ n = 1 := by omega
  have pn : a.natAbs ^ n = 1 := by rw [← Int.natAbs_pow, p]; rfl
  have ab : a.natAbs = 1 := by
    rcases Nat.pow_eq_one.mp pn with e | e
    · exact e
    · omega
  have t := chkZ_at (n := n) h2
  unfold chkZ at t
  rw [Bool.and_eq_true, Bool.and_eq_true, Bool.and_eq_true] at t
  have t1 := of_decide_eq_true t.2.2.1
  have t2 := of_decide_eq_true t.2.2.2
  have aa : a = 1 ∨ a = -1 := by omega
  rcases aa with rfl | rfl
  · have n1 : n = 1 := t1.resolve_left fun z => z v
    subst n1
    have e := om_n (n := 1)
    have p1 := Lean.Grind.Semiring.pow_succ (om 1) 0
    rw [Lean.Grind.Semiring.pow_zero] at p1
    have p1 : om 1 ^ 1 = 1 * om 1 := p1
    rw [it_one]
    grind
  · have n1 : n = 2 := t2.resolve_left fun z => z v
    subst n1
    have e := phi_nought (n := 2) (by decide)
    rw [show phi 2 = [1, 1] by decide +kernel, evI_cons, evI_cons, evI_nil, it_one] at e
    have m1 : (((-1 : Int)) : Zn 2) = -1 := zc_it_neg 1
    rw [m1]
    grind
theorem ev_lin (a : Int) : evI n [0 - a, 1] = om n - ((a : Int) : Zn n) := by
  have m1 : (((0 - a : Int)) : Zn n) = - ((a : Int) : Zn n) := by
    rw [show (0 : Int) - a = -a by omega]
    exact zc_it_neg a
  rw [evI_cons, evI_cons, evI_nil, m1, it_one]
  grind
end

/-! ### what norms are due, of the law -/
/- _law_prime_of: slots 0 _law_number, 1 _law_p; calls  -/
abbrev s__law_prime_of : Stmt := topS 35
theorem sc__law_prime_of : FnScope ["_law_number", "_law_p"] ["_law_number"] (defScope s__law_prime_of) := ⟨rfl, rfl, rfl, by decide +kernel, rfl, by decide +kernel, by decide +kernel⟩

def chkPr (m : Nat) : Bool := (List.range (m + 1)).all fun p => decide (p < 2) || (decide (m % p ≠ 0) || (!((List.range p).all fun q => decide (q < 2) || decide (m % q ≠ 0)) || (List.range (m + 1)).all fun u => decide (u = 0) || (decide (u % p = 0) || (!((List.range 7).any fun i => decide (u * p ^ i = m)) || decide ((p : Int) * (if u = 1 then 1 else 0) = prF m)))))
theorem chkPr_all : ((List.range 59).all fun i => chkPr (i + 2)) = true := by decide +kernel
theorem pr_at {m p u i : Nat} (h1 : 2 ≤ m) (h2 : m ≤ 60) (p2 : 2 ≤ p) (pd : m % p = 0) (pl : ∀ q, 2 ≤ q → q < p → m % q ≠ 0) (u1 : 1 ≤ u) (ud : u % p ≠ 0) (e : u * p ^ i = m) : (p : Int) * (if u = 1 then 1 else 0) = prF m := by
  have pm : p ≤ m := Nat.le_of_dvd (by omega) (Nat.dvd_of_mod_eq_zero pd)
  have um : u ≤ m := by
    have := Nat.mul_le_mul_left u (Nat.pos_of_ne_zero (show p ^ i ≠ 0 from Nat.pos_iff_ne_zero.mp (Nat.pow_pos (by omega))))
    omega
  have i6 : i < 7 := by
    refine Classical.byContradiction fun no => ?_
    have a1 : 2 ^ 7 ≤ 2 ^ i := Nat.pow_le_pow_right (by decide) (by omega)
    have a2 : 2 ^ i ≤ p ^ i := Nat.pow_le_pow_left p2 i
    have a3 : p ^ i ≤ u * p ^ i := Nat.le_mul_of_pos_left _ u1
    omega
  have t := List.all_eq_true.mp chkPr_all (m - 2) (List.mem_range.mpr (by omega))
  rw [show m - 2 + 2 = m by omega] at t
  have t := List.all_eq_true.mp t p (List.mem_range.mpr (by omega))
  rw [decide_eq_false (by omega), decide_eq_false (by omega), Bool.false_or, Bool.false_or] at t
  have all : ((List.range p).all fun q => decide (q < 2) || decide (m % q ≠ 0)) = true := List.all_eq_true.mpr fun q hq => by
    have hq := List.mem_range.mp hq
    by_cases c : q < 2
    · rw [decide_eq_true c, Bool.true_or]
    · rw [decide_eq_true (pl q (by omega) hq), Bool.or_true]
  rw [all, Bool.not_true, Bool.false_or] at t
  have t := List.all_eq_true.mp t u (List.mem_range.mpr (by omega))
  have any : ((List.range 7).any fun i => decide (u * p ^ i = m)) = true := List.any_eq_true.mpr ⟨i, List.mem_range.mpr i6, decide_eq_true e⟩
  rw [decide_eq_false (by omega), decide_eq_false ud, any, Bool.not_true, Bool.false_or, Bool.false_or, Bool.false_or] at t
  exact of_decide_eq_true t
def spPr : Sp := fun vs H Q _ => ∃ m : Nat, vs = [.int (m : Nat)] ∧ 2 ≤ m ∧ m ≤ 60 ∧ RetV (.int (prF m)) H Q
section
variable {P : Program} {w : World} {K : PySem.W.Frag} {mg : Str → Option Value} {base : Heap}
theorem cal_pr40 (nb : Nb mg) (d : Dfn K mg "_law_prime_of" ["_law_number"] s__law_prime_of) : Cal P w K mg base CX0 "_law_prime_of" 1 ["_law_number"] spPr := by
  refine d.cal sc__law_prime_of (fun vs H Q E h => ?_) (fun f cdv A outer s H vs Q E hr h => ?_)
  · obtain ⟨a, rfl, _⟩ := h
    rfl
  · obtain ⟨m, rfl, m1, m2, q⟩ := h
    refine ⟨_, (pss_cons (ps_set (i := 1) sc__law_prime_of.nd rfl (.inl rfl) pe_int)
      (pss_cons (ps_while PassesOwn.never (pt_cmpR op_ne (pe_op op_mod (pv 0) (pv 1)) pe_int (nomark _)) (pss_one (ps_set (i := 1) sc__law_prime_of.nd rfl (.inl rfl) (pe_op op_add (pv 1) pe_int))))
      (pss_cons (ps_while PassesOwn.never (pt_cmpR op_eq (pe_op op_mod (pv 0) (pv 1)) pe_int (nomark _)) (pss_one (ps_set (i := 0) sc__law_prime_of.nd rfl (.inl rfl) (pe_op op_fdivW (pv 0) (pv 1)))))
      (pss_one (ps_ret (pe_op op_mulW (pv 1) (pe_callTy call_int1 (by rfl) nb.int (by decide +kernel) (pa_cons (pe_cmpR op_eq (pv 0) pe_int (nomark _)) pa_nil)))))))), ?_⟩
    refine q_asg (v := .int ((2 : Nat) : Int)) ev_c fun H1 e1 => ?_
    refine q_while (fun k σ' H' => ∃ p : Nat, σ' = [some (.int (m : Nat)), some (.int (p : Nat))] ∧ 2 ≤ p ∧ p ≤ m ∧ k = m - p ∧ (∀ q, 2 ≤ q → q < p → m % q ≠ 0) ∧ Ex H H') (m - 2) ⟨2, rfl, Nat.le_refl 2, m1, rfl, fun q a b => by omega, e1⟩ fun k σ' H' hW => ?_
    obtain ⟨p, rfl, p2, pm, hk, pl, e2⟩ := hW
    refine ⟨!decide ((m : Int) % (p : Int) = 0), et_test (ev_neI (ev_mod (ev_var rfl) (ev_var rfl) (by omega)) ev_c), fun hb H2 e3 => ?_, fun hb H2 e3 => ?_⟩
    · have hb : ¬ (m : Int) % (p : Int) = 0 := by simpa using hb
      have hn : m % p ≠ 0 := fun z => hb (by omega)
      have plt : p < m := by
        rcases Nat.lt_or_ge p m with c | c
        · exact c
        · have : p = m := by omega
          rw [this, Nat.mod_self] at hn
          exact absurd rfl hn
      refine ⟨_, fun σ2 H3 hN => ⟨m - (p + 1), by omega, hN⟩, ?_⟩
      refine s_asg (v := .int ((p + 1 : Nat) : Int)) (ev_is (ev_add (ev_var rfl) ev_c) (by rw [Int.natCast_add]; rfl)) fun H4 e4 => ⟨p + 1, rfl, by omega, by omega, rfl, fun q a b => ?_, e2.trans (e3.trans e4)⟩
      rcases Nat.lt_or_ge q p with c | c
      · exact pl q a c
      · rw [show q = p by omega]
        exact hn
    · have hb : (m : Int) % (p : Int) = 0 := by simpa using hb
      have pd : m % p = 0 := by omega
      refine q_while (fun k σ' H' => ∃ u i : Nat, σ' = [some (.int (u : Nat)), some (.int (p : Nat))] ∧ 1 ≤ u ∧ k = u ∧ u * p ^ i = m ∧ Ex H H') m ⟨m, 0, rfl, by omega, rfl, by rw [Nat.pow_zero, Nat.mul_one], e2.trans e3⟩ fun k σ' H' hW => ?_
      obtain ⟨u, i, rfl, u1, hk, eu, e4⟩ := hW
      refine ⟨decide ((u : Int) % (p : Int) = 0), et_test (ev_eqI (ev_mod (ev_var rfl) (ev_var rfl) (by omega)) ev_c), fun hb H5 e5 => ?_, fun hb H5 e5 => ?_⟩
      · have hb := of_decide_eq_true hb
        have ud : u % p = 0 := by omega
        have mu : p * (u / p) = u := Nat.mul_div_cancel' (Nat.dvd_of_mod_eq_zero ud)
        have up : 1 ≤ u / p := Nat.div_pos (Nat.le_of_dvd (by omega) (Nat.dvd_of_mod_eq_zero ud)) (by omega)
        refine ⟨_, fun σ2 H6 hN => ⟨u / p, by rw [hk]; exact Nat.div_lt_self (by omega) (by omega), hN⟩, ?_⟩
        refine s_asg (v := .int ((u / p : Nat) : Int)) (ev_is (ev_div (ev_var rfl) (ev_var rfl) (divW (by omega) (by omega))) (by rw [Int.natCast_ediv])) fun H6 e6 => ⟨u / p, i + 1, rfl, up, rfl, ?_, e4.trans (e5.trans e6)⟩
        rw [Nat.pow_succ, ← Nat.mul_assoc, Nat.mul_right_comm, Nat.mul_comm (u / p) p, mu, eu]
      · have hb := of_decide_eq_false hb
        have pr := pr_at m1 m2 p2 pd pl u1 (fun z => hb (by omega)) eu
        have b1 : decide ((u : Int) = 1) = decide (u = 1) := decide_eq_decide.mpr (by omega)
        refine s_ret (v := .int (prF m)) (ev_is (ev_mul (ev_var rfl) (ev_int1b (b := decide ((u : Int) = 1)) (ev_eqI (ev_var rfl) ev_c)) (mulW (by omega) (by split <;> decide))) ?_) fun H6 e6 => q H6 (e4.trans (e5.trans e6))
        rw [← pr, b1]
        by_cases c : u = 1
        · rw [if_pos c, decide_eq_true c, if_pos rfl]
        · rw [if_neg c, decide_eq_false c, if_neg (by decide)]
end
/- _law_meeting: slots 0 _law_n, 1 _law_d, 2 _law_low, 3 _law_high, 4 _law_told, 5 _law_unit; calls _law_prime_of, _law_units -/
abbrev s__law_meeting : Stmt := topS 36
theorem sc__law_meeting : FnScope ["_law_n", "_law_d", "_law_low", "_law_high", "_law_told", "_law_unit"] ["_law_n", "_law_d"] (defScope s__law_meeting) := ⟨rfl, rfl, rfl, by decide +kernel, rfl, by decide +kernel, by decide +kernel⟩

def spMt : Sp := fun vs H Q _ => ∃ n d : Nat, vs = [.int (n : Nat), .int (d : Nat)] ∧ 1 ≤ n ∧ n ≤ 60 ∧ 1 ≤ d ∧ d ≤ 60 ∧ RetV (.int (meetF n d)) H Q
section
variable {P : Program} {w : World} {K : PySem.W.Frag} {mg : Str → Option Value} {base : Heap}
theorem s_forNLn40 {K : PySem.W.Frag} {σ : L2.St} {H : Hp} {D : Ends} {tu : TS} {xs : List V} {tl : TE} {j : Nat} (h : EvL tl σ H xs) (Pv : Addr → Nat → L2.St → Hp → Prop) (h0 : ∀ p H1, H p = none → Ex H H1 → H1 p = some (.lst xs) → Pv p 0 σ H1) (hl : ∀ p i σ' H', i ≤ xs.length → Pv p i σ' H' → SqL K H' p xs)
    (hs : ∀ p i x σ' H', xs[i]? = some x → Pv p i σ' H' → tu { D with nx := Pv p (i + 1), ct := Pv p (i + 1), bk := D.nx } (σ'.set j (some x)) H') (hd : ∀ p σ' H', Pv p xs.length σ' H' → D.nx σ' H') : tFor (iList K tl) (gName j) tu D σ H :=
  q_forNLn (tz := fun D' => D.nx) (D := D) h Pv h0 hl hs hd
theorem q_par40 {σ : L2.St} {H : Hp} {tr : TA} {x y : V} {i j : Nat} {D : Ends} {tz : TS} (h : EvA tr σ H [x, y]) (k : ∀ H1, Ex H H1 → tz D ((σ.set i (some x)).set j (some y)) H1) : tSeq (tPar i j tr) tz D σ H := h H (Ex.refl H) _ fun H1 e1 => ⟨x, y, rfl, k H1 e1⟩
theorem ev_min2 {σ : L2.St} {H : Hp} {ta tb : TE} {i j : Int} (ha : Ev ta σ H (.int i)) (hb : Ev tb σ H (.int j)) : Ev (tCB (fun xs H Q => ∃ i j, xs = [.int i, .int j] ∧ Q (.int (if j < i then j else i)) H) (tCons ta (tCons tb tNil))) σ H (.int (if j < i then j else i)) := fun H1 e Q q =>
  ha H1 e _ fun H2 e2 => hb H2 (e.trans e2) _ fun H3 e3 => ⟨i, j, rfl, q H3 (e2.trans e3)⟩
theorem prF_bd (m : Nat) (h1 : 2 ≤ m) (h2 : m ≤ 60) : 0 ≤ prF m ∧ prF m ≤ 60 := by
  have t : ((List.range 59).all fun i => decide (0 ≤ prF (i + 2) ∧ prF (i + 2) ≤ 60)) = true := by decide +kernel
  have t := List.all_eq_true.mp t (m - 2) (List.mem_range.mpr (by omega))
  rw [show m - 2 + 2 = m by omega] at t
  exact of_decide_eq_true t
theorem cal_mt40 (nb : Nb mg) (c__law_units : Cal P w K mg base CX0 "_law_units" 2 ["_law_n"] spUnits) (c__law_prime_of : Cal P w K mg base CX0 "_law_prime_of" 1 ["_law_number"] spPr) (d : Dfn K mg "_law_meeting" ["_law_n", "_law_d"] s__law_meeting) : Cal P w K mg base CX0 "_law_meeting" 3 ["_law_n", "_law_d"] spMt := by
  refine d.cal sc__law_meeting (fun vs H Q E h => ?_) (fun f cdv A outer s H vs Q E hr h => ?_)
  · obtain ⟨a, b, rfl, _⟩ := h
    rfl
  · obtain ⟨n, d, rfl, n1, n2, d1, d2, q⟩ := h
    refine ⟨_, (pss_cons (ps_par (i := 2) (j := 3) (by rfl) sc__law_meeting.nd rfl rfl (by decide) (by rfl) (by rfl) (pa_cons (pe_callB (call_min2 rfl) (by rfl) nb.min (by decide +kernel) (pa_cons (pv 0) (pa_cons (pv 1) pa_nil))) (pa_cons (pe_callB (call_max2 rfl) (by rfl) nb.max (by decide +kernel) (pa_cons (pv 0) (pa_cons (pv 1) pa_nil))) pa_nil)) (by rfl))
      (pss_cons (ps_if (pt_cmpR op_eq (pv 2) (pv 3) (nomark _)) (pss_one (ps_ret pe_int)) pss_nil)
      (pss_cons (ps_set (i := 4) sc__law_meeting.nd rfl (.inl rfl) pe_int)
      (Evl.pss_cut (ps_if (PW.pt (pw_and (pt_cmpR op_eq (pe_op op_mod (pv 3) (pv 2)) pe_int (nomark _)) (pw_and1 (pt_cmpR op_gt (pe_cal c__law_prime_of (hr.mono (by first | decide | omega)) (by rfl) pass0 (pa_cons (pe_op op_fdivW (pv 3) (pv 2)) pa_nil)) pe_int (nomark _))))) (pss_one (ps_for PassesOwn.never rfl (pi_list (pe_cal c__law_units (hr.mono (by first | decide | omega)) (by rfl) pass0 (pa_cons (pv 2) pa_nil))) (pg_name (i := 5) sc__law_meeting.nd rfl (.inl rfl)) (pss_one (ps_set (i := 4) sc__law_meeting.nd rfl (.inl rfl) (pe_op op_mulW (pv 4) (pe_cal c__law_prime_of (hr.mono (by first | decide | omega)) (by rfl) pass0 (pa_cons (pe_op op_fdivW (pv 3) (pv 2)) pa_nil))))))) pss_nil)
      (pss_cons (ps_if (PW.pt (pw_and (pt_cmpR op_eq (pv 0) pe_int (nomark _)) (pw_and1 (pt_cmpR op_eq (pv 1) pe_int (nomark _))))) (pss_one (ps_ret (pe_op op_sub pe_int (pv 4)))) pss_nil)
      (pss_one (ps_ret (pv 4)))))))), ?_⟩
    refine q_par40 (x := .int ((min n d : Nat) : Int)) (y := .int ((max n d : Nat) : Int)) (ea_cons (ev_is (ev_min2 (i := (n : Int)) (j := (d : Int)) (ev_var rfl) (ev_var rfl)) (by congr 1; split <;> omega)) (ea_cons (ev_is (ev_max2 (i := (n : Int)) (j := (d : Int)) (ev_var rfl) (ev_var rfl)) (by congr 1; split <;> omega)) ea_nil)) fun H1 e1 => ?_
    have lo1 : 1 ≤ min n d := by omega
    have hi2 : max n d ≤ 60 := by omega
    have lh : min n d ≤ max n d := by omega
    have mz : meetF n d = if n = d then 0 else (if n = 2 ∧ d = 1 then 0 - (if max n d % min n d = 0 ∧ 0 < prF (max n d / min n d) then prF (max n d / min n d) ^ (unitsF ((min n d : Nat) : Int)).length else 1) else (if max n d % min n d = 0 ∧ 0 < prF (max n d / min n d) then prF (max n d / min n d) ^ (unitsF ((min n d : Nat) : Int)).length else 1)) := rfl
    have nd : n = d ↔ min n d = max n d := by omega
    generalize min n d = lo at *
    generalize max n d = hi at *
    refine q_when (b := decide ((lo : Int) = (hi : Int))) (et_test (ev_eqI (ev_var rfl) (ev_var rfl))) (fun hb H2 e2 => ?_) (fun hb H2 e2 => ?_)
    · have hb := of_decide_eq_true hb
      rw [if_pos (nd.mpr (by omega))] at mz
      exact s_ret (v := .int (meetF n d)) (ev_is ev_c (by rw [mz])) fun H3 e3 => q H3 (e1.trans (e2.trans e3))
    · have hb := of_decide_eq_false hb
      have ne : ¬ lo = hi := fun z => hb (by omega)
      rw [if_neg fun z => ne (nd.mp z)] at mz
      have ul := units_le lo
      refine q_asg (v := .int 1) ev_c fun H3 e3 => ?_
      have e13 := (e1.trans e2).trans e3
      have q2 : hi % lo = 0 → 2 ≤ hi / lo ∧ hi / lo ≤ 60 := fun z => by
        have mu : lo * (hi / lo) = hi := Nat.mul_div_cancel' (Nat.dvd_of_mod_eq_zero z)
        have a := Nat.div_le_self hi lo
        have b : hi / lo ≠ 0 := fun z => by
          rw [z, Nat.mul_zero] at mu
          omega
        have c : hi / lo ≠ 1 := fun z => by
          rw [z, Nat.mul_one] at mu
          exact ne mu
        generalize hi / lo = w at *
        exact ⟨by omega, by omega⟩
      have PR : ∀ {σ : L2.St} {H' : Hp}, hi % lo = 0 → σ[2]? = some (some (.int (lo : Nat))) → σ[3]? = some (some (.int (hi : Nat))) → Ev (tCall spPr [] E0 (tCons (tOp (rI CDivW fun i j => .int (i / j)) (tVar 3) (tVar 2)) tNil)) σ H' (.int (prF (hi / lo))) := fun z h2 h3 => ev_cal (vs := [.int ((hi / lo : Nat) : Int)]) (ea_cons (ev_is (ev_div (ev_var h3) (ev_var h2) (divW (by omega) (by omega))) (by rw [Int.natCast_ediv])) ea_nil) fun H5 e5 Q kk E => ⟨hi / lo, rfl, (q2 z).1, (q2 z).2, kk⟩
      refine q_cut (M := fun σ' H' => ∃ y, σ' = [some (.int (n : Nat)), some (.int (d : Nat)), some (.int (lo : Nat)), some (.int (hi : Nat)), some (.int (if hi % lo = 0 ∧ 0 < prF (hi / lo) then prF (hi / lo) ^ (unitsF (lo : Int)).length else 1)), y] ∧ Ex H H') ?_ (fun σ' H' h => ?_)
      · refine s_when (b := decide (hi % lo = 0) && decide (0 < prF (hi / lo))) (et_and (et_is (et_test (ev_eqI (ev_mod (ev_var rfl) (ev_var rfl) (by omega)) ev_c)) (decide_eq_decide.mpr (by omega))) fun z => et_is (et_test (ev_gt (PR (of_decide_eq_true z) rfl rfl) ev_c)) (decide_eq_decide.mpr (by omega))) (fun hb H4 e4 => ?_) (fun hb H4 e4 => ?_)
        · rw [Bool.and_eq_true] at hb
          have z := of_decide_eq_true hb.1
          have pp := of_decide_eq_true hb.2
          have pb := prF_bd _ (q2 z).1 (q2 z).2
          rw [if_pos ⟨z, pp⟩]
          refine s_forNLn40 (xs := (unitsF (lo : Int)).map fun k => V.int (k : Nat)) (el_cal (vs := [.int (lo : Nat)]) (by one_place) fun H5 e5 Q kk E => ⟨(lo : Nat), rfl, by omega, by omega, kk⟩)
            (fun p i σ' H' => ∃ y, σ' = [some (.int (n : Nat)), some (.int (d : Nat)), some (.int (lo : Nat)), some (.int (hi : Nat)), some (.int (prF (hi / lo) ^ i)), y] ∧ Ex H H' ∧ H' p = some (.lst ((unitsF (lo : Int)).map fun k => V.int (k : Nat))))
            (fun p H5 np e5 hp => ⟨none, by rw [Int.pow_zero]; rfl, e13.trans (e4.trans e5), hp⟩) (fun p i σ' H' _ hp => SqL.of (by obtain ⟨_, _, _, hp⟩ := hp; exact hp)) (fun p i x σ' H' hx hp => ?_) (fun p σ' H' hp => ?_)
          · obtain ⟨y, rfl, e5, hp⟩ := hp
            have il := (List.getElem?_eq_some_iff.mp hx).1
            rw [List.length_map] at il
            have pw := pow_bits (t := prF (hi / lo)) (a := 7) (by omega) i
            refine s_asg (v := .int (prF (hi / lo) ^ (i + 1))) (ev_is (ev_mul (ev_var rfl) (PR z rfl rfl) (wide_mul (a := 7 * 60 + 1) (b := 7) (Nat.lt_of_lt_of_le pw (Nat.pow_le_pow_right (by decide) (by omega))) (by omega) (by decide) (by decide) (by decide))) (by rw [Int.pow_succ])) fun H6 e6 => ⟨_, rfl, e5.trans e6, e6 _ _ hp⟩
          · obtain ⟨y, rfl, e5, _⟩ := hp
            rw [List.length_map]
            exact ⟨_, rfl, e5⟩
        · have hn : ¬ (hi % lo = 0 ∧ 0 < prF (hi / lo)) := fun z => by
            rw [decide_eq_true z.1, decide_eq_true z.2] at hb
            cases hb
          rw [if_neg hn]
          exact ⟨_, rfl, e13.trans e4⟩
      · obtain ⟨y, rfl, e4⟩ := h
        generalize (if hi % lo = 0 ∧ 0 < prF (hi / lo) then prF (hi / lo) ^ (unitsF (lo : Int)).length else 1 : Int) = t at *
        refine q_when (b := decide (n = 2) && decide (d = 1)) (et_and (et_is (et_test (ev_eqI (ev_var rfl) ev_c)) (decide_eq_decide.mpr (by omega))) fun _ => et_is (et_test (ev_eqI (ev_var rfl) ev_c)) (decide_eq_decide.mpr (by omega))) (fun hb H5 e5 => ?_) (fun hb H5 e5 => ?_)
        · rw [Bool.and_eq_true] at hb
          rw [if_pos ⟨of_decide_eq_true hb.1, of_decide_eq_true hb.2⟩] at mz
          exact s_ret (v := .int (meetF n d)) (ev_is (ev_sub ev_c (ev_var rfl)) (by rw [mz])) fun H6 e6 => q H6 (e4.trans (e5.trans e6))
        · have hn : ¬ (n = 2 ∧ d = 1) := fun z => by
            rw [decide_eq_true z.1, decide_eq_true z.2] at hb
            cases hb
          rw [if_neg hn] at mz
          exact s_ret (v := .int (meetF n d)) (ev_is (ev_var rfl) (by rw [mz])) fun H6 e6 => q H6 (e4.trans (e5.trans e6))
end

/-! ### the numbers that the law draws -/
/-- all but what stands at d -/
def ExB (d : Addr) (H H2 : Hp) : Prop := ∀ a o, a ≠ d → H a = some o → H2 a = some o
theorem ExB.of {d : Addr} {H H2 : Hp} (e : Ex H H2) : ExB d H H2 := fun a o _ h => e a o h
theorem ExB.trans {d : Addr} {H H2 H3 : Hp} (a : ExB d H H2) (b : ExB d H2 H3) : ExB d H H3 := fun x o n h => b x o n (a x o n h)
theorem ExB.upd {d : Addr} {H : Hp} {o : HO} : ExB d H (upd H d o) := fun x o n h => by rw [upd_ne n]; exact h
def Dr (d : Addr) (H : Hp) (k : Int) : Prop := ∃ (x : Int) (b : Bool), 0 ≤ x ∧ x.natAbs < 2 ^ 2500 ∧ H d = some (.lst [.int x, .int k, .bl b])
/- _law_draws: slots 0 _law_cell; calls  -/
abbrev s__law_draws : Stmt := topS 27
theorem sc__law_draws : FnScope ["_law_cell"] ["_law_cell"] (defScope s__law_draws) := ⟨rfl, rfl, rfl, by decide +kernel, rfl, by decide +kernel, by decide +kernel⟩

def spDrw : Sp := fun vs H Q _ => ∃ c : Int, vs = [.int c] ∧ ∀ d H2, H d = none → Ex H H2 → Dr d H2 0 → Q (.ref d) H2
section
variable {P : Program} {w : World} {K : PySem.W.Frag} {mg : Str → Option Value} {base : Heap}
theorem cal_drw (nb : Nb mg) (d : Dfn K mg "_law_draws" ["_law_cell"] s__law_draws) : Cal P w K mg base CX0 "_law_draws" 1 ["_law_cell"] spDrw := by
  refine d.cal sc__law_draws (fun vs H Q E h => ?_) (fun f cdv A outer s H vs Q E hr h => ?_)
  · obtain ⟨a, rfl, _⟩ := h
    rfl
  · obtain ⟨c, rfl, q⟩ := h
    refine ⟨_, (pss_cons (ps_if (pt_cmpR op_ge (pv 0) (pe_op op_powW pe_int pe_int) (nomark _)) (pss_one (ps_ret (pe_lst (pa_cons (pe_op op_mod (pv 0) (pe_op op_powW (pe_op op_powW pe_int pe_int) pe_int)) (pa_cons pe_int (pa_cons pe_bl pa_nil)))))) pss_nil)
      (pss_one (ps_ret (pe_lst (pa_cons (pe_op op_mod (pv 0) pe_int) (pa_cons pe_int (pa_cons pe_bl pa_nil))))))), ?_⟩
    have p1 : (10 : Int) ^ 18 = 1000000000000000000 := by decide
    refine q_when (b := decide ((1000000000000000000 : Int) ≤ c)) (et_test (ev_ge (ev_var rfl) (ev_pow (i := 10) (j := 18) (c := 1000000000000000000) ev_c ev_c ⟨by decide, by decide +kernel⟩ (by rfl)))) (fun hb H1 e1 => ?_) (fun hb H1 e1 => ?_)
    · have pos : (0 : Int) < ((1000000000000000000000000000000000000000000000000000000000000 : Int)) ^ 12 := by decide
      refine s_retL (xs := [.int (c % (1000000000000000000000000000000000000000000000000000000000000 : Int) ^ 12), .int 0, .bl true]) (el_lst (ea_cons (ev_mod (ev_var rfl) (ev_pow (i := 1000000000000000000000000000000000000000000000000000000000000) (j := 12) (ev_pow (i := 10) (j := 60) ev_c ev_c ⟨by decide, by decide +kernel⟩ (by rfl)) ev_c ⟨by decide, by decide +kernel⟩ rfl) pos) (ea_cons ev_c (ea_cons ev_c ea_nil))) (by show 3 ≤ 100000; decide)) fun p H2 np e2 h2 => q p H2 (fresh_back e1 np) (e1.trans e2) ⟨_, true, Int.emod_nonneg _ (by omega), ?_, h2⟩
      have a := Int.emod_nonneg c (show ((1000000000000000000000000000000000000000000000000000000000000 : Int)) ^ 12 ≠ 0 by omega)
      have b := Int.emod_lt_of_pos c pos
      have l : ((1000000000000000000000000000000000000000000000000000000000000 : Int)) ^ 12 ≤ 2 ^ 2500 := by decide +kernel
      omega
    · refine s_retL (xs := [.int (c % 1000003), .int 0, .bl false]) (el_lst (ea_cons (ev_mod (ev_var rfl) ev_c (by decide)) (ea_cons ev_c (ea_cons ev_c ea_nil))) (by show 3 ≤ 100000; decide)) fun p H2 np e2 h2 => q p H2 (fresh_back e1 np) (e1.trans e2) ⟨_, false, by omega, ?_, h2⟩
      have : (c % 1000003).natAbs < 2 ^ 20 := by omega
      exact Nat.lt_of_lt_of_le this (Nat.pow_le_pow_right (by decide) (by decide))
end
/- _law_next: slots 0 _law_draws_here, 1 _law_number, 2 _law_k; calls  -/
abbrev s__law_next : Stmt := topS 28
theorem sc__law_next : FnScope ["_law_draws_here", "_law_number", "_law_k"] ["_law_draws_here"] (defScope s__law_next) := ⟨rfl, rfl, rfl, by decide +kernel, rfl, by decide +kernel, by decide +kernel⟩

def spNxt : Sp := fun vs H Q _ => ∃ (d : Addr) (k : Nat), vs = [.ref d] ∧ Dr d H (k : Nat) ∧ k ≤ 200 ∧ ∀ z H2, 0 ≤ z → z < 2147483648 → ExB d H H2 → Dr d H2 ((k + 1 : Nat) : Int) → Q (.int z) H2
section
variable {P : Program} {w : World} {K : PySem.W.Frag} {mg : Str → Option Value} {base : Heap}
theorem ev_ixV40 {σ : L2.St} {H : Hp} {a : Addr} {xs : List V} {j : Nat} {v : V} {ta tb : TE} (hl : H a = some (.lst xs)) (ho : Ev ta σ H (.ref a)) (hi : Ev tb σ H (.int (j : Nat))) (hj : xs[j]? = some v) : Ev (tOp (rIxL K) ta tb) σ H v := ev_op ho hi (rv_ixL (SqL.of hl) (atI_nat hj))
theorem cal_nxt (nb : Nb mg) (d : Dfn K mg "_law_next" ["_law_draws_here"] s__law_next) : Cal P w K mg base CX0 "_law_next" 1 ["_law_draws_here"] spNxt := by
  refine d.cal sc__law_next (fun vs H Q E h => ?_) (fun f cdv A outer s H vs Q E hr h => ?_)
  · obtain ⟨a, k, rfl, _⟩ := h
    rfl
  · obtain ⟨d, k, rfl, ⟨x, b, x0, xb, hd⟩, kb, q⟩ := h
    refine ⟨_, (pss_cons (ps_asg (pe_op op_add (pe_ix ix_list (pv 0) pe_int (fun _ _ => rfl)) pe_int) (pg_sub (pv 0) pe_int set_list))
      (pss_cons (ps_if (pt_val (pe_ix ix_list (pv 0) pe_int (fun _ _ => rfl))) (pss_cons (ps_set (i := 1) sc__law_next.nd rfl (.inl rfl) (pe_op op_mod (pe_ix ix_list (pv 0) pe_int (fun _ _ => rfl)) (pe_op op_powW pe_int pe_int)))
      (pss_cons (ps_asg (pe_op op_fdivW (pe_ix ix_list (pv 0) pe_int (fun _ _ => rfl)) (pe_op op_powW pe_int pe_int)) (pg_sub (pv 0) pe_int set_list))
      (pss_one (ps_ret (pv 1))))) pss_nil)
      (pss_cons (ps_set (i := 2) sc__law_next.nd rfl (.inl rfl) (pe_ix ix_list (pv 0) pe_int (fun _ _ => rfl)))
      (pss_cons (ps_set (i := 1) sc__law_next.nd rfl (.inl rfl) (pe_op op_mod (pe_op op_mulW (pe_op op_add (pe_op op_add (pe_ix ix_list (pv 0) pe_int (fun _ _ => rfl)) (pe_op op_mulW (pe_op op_mulW (pv 2) (pv 2)) pe_int)) (pv 2)) pe_int) pe_int))
      (pss_cons (ps_set (i := 1) sc__law_next.nd rfl (.inl rfl) (pe_op op_mod (pe_op op_mulW (pv 1) (pv 1)) pe_int))
      (pss_one (ps_ret (pe_op op_fdivW (pe_op op_mod (pe_op op_mulW (pv 1) (pe_op op_add (pv 1) pe_int)) pe_int) pe_int)))))))), ?_⟩
    refine q_setL (j := 1) (v := .int ((k + 1 : Nat) : Int)) hd (ev_is (ev_add (ev_ixV40 (j := 1) (v := .int (k : Nat)) hd (ev_var rfl) ev_c rfl) ev_c) (by rw [Int.natCast_add]; rfl)) (ev_var rfl) ev_c (by show 1 < 3; decide) fun H1 e1 => ?_
    have hd1 : (upd H1 d (.lst [.int x, .int ((k + 1 : Nat) : Int), .bl b])) d = some (.lst [.int x, .int ((k + 1 : Nat) : Int), .bl b]) := upd_same
    have E1 : ExB d H (upd H1 d (.lst [.int x, .int ((k + 1 : Nat) : Int), .bl b])) := (ExB.of e1).trans ExB.upd
    show tSeq _ _ _ _ (upd H1 d (.lst [.int x, .int ((k + 1 : Nat) : Int), .bl b]))
    generalize upd H1 d (.lst [.int x, .int ((k + 1 : Nat) : Int), .bl b]) = H2 at hd1 E1 ⊢
    have six : (10 : Int) ^ (6 : Int).toNat = 1000000 := by decide
    refine q_when (b := b) (et_B (ev_ixV40 (j := 2) (v := .bl b) hd1 (ev_var rfl) ev_c rfl)) (fun hb H3 e3 => ?_) (fun hb H3 e3 => ?_)
    · have hd3 := e3 _ _ hd1
      refine q_asg (v := .int (x % 1000000)) (ev_mod (ev_ixV40 (j := 0) (v := .int x) hd3 (ev_var rfl) ev_c rfl) (ev_pow (i := 10) (j := 6) (c := 1000000) ev_c ev_c ⟨by decide, by decide +kernel⟩ (by rfl)) (by decide)) fun H4 e4 => ?_
      have hd4 := e4 _ _ hd3
      refine q_setL (j := 0) (v := .int (x / 1000000)) hd4 (ev_div (ev_ixV40 (j := 0) (v := .int x) hd4 (ev_var rfl) ev_c rfl) (ev_pow (i := 10) (j := 6) (c := 1000000) ev_c ev_c ⟨by decide, by decide +kernel⟩ (by rfl)) (divW (by decide) (by decide))) (ev_var rfl) ev_c (by show 0 < 3; decide) fun H5 e5 => ?_
      refine s_ret (v := .int (x % 1000000)) (ev_var rfl) fun H6 e6 => q _ H6 (by omega) (by omega) (E1.trans ((ExB.of (e3.trans (e4.trans e5))).trans (ExB.upd.trans (ExB.of e6)))) ⟨x / 1000000, b, Int.ediv_nonneg x0 (by decide), ?_, e6 _ _ upd_same⟩
      have : x / 1000000 ≤ x := Int.ediv_le_self _ x0
      have := Int.ediv_nonneg x0 (show (0 : Int) ≤ 1000000 by decide)
      omega
    · have hd3 := e3 _ _ hd1
      refine q_asg (v := .int ((k + 1 : Nat) : Int)) (ev_ixV40 (j := 1) (v := .int ((k + 1 : Nat) : Int)) hd3 (ev_var rfl) ev_c rfl) fun H4 e4 => ?_
      have hd4 := e4 _ _ hd3
      have km : ((k + 1 : Nat) : Int) * ((k + 1 : Nat) : Int) ≤ 201 * 201 := Int.mul_le_mul (by omega) (by omega) (by omega) (by omega)
      have k0 : 0 ≤ ((k + 1 : Nat) : Int) * ((k + 1 : Nat) : Int) := Int.mul_nonneg (by omega) (by omega)
      have kb2 : (((k + 1 : Nat) : Int) * ((k + 1 : Nat) : Int)).natAbs < 2 ^ 300 := Nat.lt_of_lt_of_le (show _ < 2 ^ 20 by omega) (Nat.pow_le_pow_right (by decide) (by decide))
      have ws : ∀ {i : Int} {a : Nat}, i.natAbs < 2 ^ a → a ≤ 2500 → i.natAbs < 2 ^ 2500 := fun h l => Nat.lt_of_lt_of_le h (Nat.pow_le_pow_right (by decide) l)
      have sb : (x + ((k + 1 : Nat) : Int) * ((k + 1 : Nat) : Int) * 7919 + ((k + 1 : Nat) : Int)).natAbs < 2 ^ 2501 := by
        have : ((k + 1 : Nat) : Int) * ((k + 1 : Nat) : Int) * 7919 ≤ 201 * 201 * 7919 := Int.mul_le_mul_of_nonneg_right km (by decide)
        have : 0 ≤ ((k + 1 : Nat) : Int) * ((k + 1 : Nat) : Int) * 7919 := Int.mul_nonneg k0 (by decide)
        have big : (2 : Nat) ^ 40 ≤ 2 ^ 2500 := Nat.pow_le_pow_right (by decide) (by decide)
        rw [show (2 : Nat) ^ 2501 = 2 ^ 2500 * 2 from Nat.pow_succ 2 2500]
        omega
      generalize hS : x + ((k + 1 : Nat) : Int) * ((k + 1 : Nat) : Int) * 7919 + ((k + 1 : Nat) : Int) = S at sb
      refine q_asg (v := .int (S * 48271 % 2147483629)) (ev_mod (ev_mul (ev_is (ev_add (ev_add (ev_ixV40 (j := 0) (v := .int x) hd4 (ev_var rfl) ev_c rfl) (ev_mul (ev_mul (ev_var rfl) (ev_var rfl) (mulW (by omega) (by omega))) ev_c (mulW kb2 (by decide)))) (ev_var rfl)) (by rw [← hS])) ev_c (wide_mul (a := 2501) (b := 20) sb (by decide) (by decide) (by decide) (by decide))) ev_c (by decide)) fun H5 e5 => ?_
      have y0 := Int.emod_nonneg (S * 48271) (show (2147483629 : Int) ≠ 0 by decide)
      have y1 := Int.emod_lt_of_pos (S * 48271) (show (0 : Int) < 2147483629 by decide)
      generalize S * 48271 % 2147483629 = Y at *
      refine q_asg (v := .int (Y * Y % 2147483587)) (ev_mod (ev_mul (ev_var rfl) (ev_var rfl) (mulW (by omega) (by omega))) ev_c (by decide)) fun H6 e6 => ?_
      have z0 := Int.emod_nonneg (Y * Y) (show (2147483587 : Int) ≠ 0 by decide)
      have z1 := Int.emod_lt_of_pos (Y * Y) (show (0 : Int) < 2147483587 by decide)
      generalize Y * Y % 2147483587 = Z at *
      refine s_ret (v := .int (Z * (Z + 2) % 2147483579 / 7)) (ev_div (ev_mod (ev_mul (ev_var rfl) (ev_add (ev_var rfl) ev_c) (mulW (by omega) (by omega))) ev_c (by decide)) ev_c (divW (by decide) (by decide))) fun H7 e7 => q _ H7 (by omega) (by omega) (E1.trans (ExB.of (e3.trans (e4.trans (e5.trans (e6.trans e7)))))) ⟨x, b, x0, xb, (e5.trans (e6.trans e7)) _ _ hd4⟩
end
/- _law_count: slots 0 _law_draws_here, 1 _law_pick; calls _law_next -/
abbrev s__law_count : Stmt := topS 30
theorem sc__law_count : FnScope ["_law_draws_here", "_law_pick"] ["_law_draws_here"] (defScope s__law_count) := ⟨rfl, rfl, rfl, by decide +kernel, rfl, by decide +kernel, by decide +kernel⟩

def spCnt40 : Sp := fun vs H Q _ => ∃ (d : Addr) (k : Nat), vs = [.ref d] ∧ Dr d H (k : Nat) ∧ k ≤ 200 ∧ ∀ (n : Nat) H2, 1 ≤ n → n ≤ 30 → ExB d H H2 → Dr d H2 ((k + 1 : Nat) : Int) → Q (.int (n : Nat)) H2
section
variable {P : Program} {w : World} {K : PySem.W.Frag} {mg : Str → Option Value} {base : Heap}
/-- x = a drawn number -/
theorem q_asgNx {σ : L2.St} {H : Hp} {ta : TA} {E : XK} {D : Ends} {tz : TS} {i : Nat} {d : Addr} {k : Nat} (h : EvA ta σ H [.ref d]) (hd : Dr d H (k : Nat)) (kb : k ≤ 200) (kk : ∀ z H2, 0 ≤ z → z < 2147483648 → ExB d H H2 → Dr d H2 ((k + 1 : Nat) : Int) → tz D (σ.set i (some (.int z))) H2) : tSeq (tAsg (tCall spNxt [] E ta) (gName i)) tz D σ H :=
  h H (Ex.refl H) _ fun H1 e1 => by
    obtain ⟨x, b, x0, xb, hd⟩ := hd
    exact ⟨d, k, rfl, ⟨x, b, x0, xb, e1 _ _ hd⟩, kb, fun z H2 z0 z1 e2 d2 => kk z H2 z0 z1 ((ExB.of e1).trans e2) d2⟩
theorem cal_cnt40 (nb : Nb mg) (c__law_next : Cal P w K mg base CX0 "_law_next" 1 ["_law_draws_here"] spNxt) (d : Dfn K mg "_law_count" ["_law_draws_here"] s__law_count) : Cal P w K mg base CX0 "_law_count" 2 ["_law_draws_here"] spCnt40 := by
  refine d.cal sc__law_count (fun vs H Q E h => ?_) (fun f cdv A outer s H vs Q E hr h => ?_)
  · obtain ⟨a, k, rfl, _⟩ := h
    rfl
  · obtain ⟨d, k, rfl, hd, kb, q⟩ := h
    refine ⟨_, (pss_cons (ps_set (i := 1) sc__law_count.nd rfl (.inl rfl) (pe_cal c__law_next (hr.mono (by first | decide | omega)) (by rfl) pass0 (pa_cons (pv 0) pa_nil)))
      (pss_one (ps_ret (pe_ix ix_list (pe_lst (pa_cons (pe_op op_add pe_int (pe_op op_mod (pe_op op_fdivW (pv 1) pe_int) pe_int)) (pa_cons (pe_op op_add pe_int (pe_op op_mod (pe_op op_fdivW (pv 1) pe_int) pe_int)) pa_nil))) (pe_callTy call_int1 (by rfl) nb.int (by decide +kernel) (pa_cons (pe_cmpR op_eq (pe_op op_mod (pv 1) pe_int) pe_int (nomark _)) pa_nil)) (fun _ _ => rfl))))), ?_⟩
    refine q_asgNx (by one_place) hd kb fun z H1 z0 z1 E1 d1 => ?_
    have e : ∃ n : Nat, 1 ≤ n ∧ n ≤ 30 ∧ ([1 + z / 4 % 12, 13 + z / 4 % 18] : List Int).getD (if decide (z % 4 = 3) then 1 else 0 : Int).toNat 0 = (n : Int) := by
      split
      · exact ⟨(13 + z / 4 % 18).toNat, by omega, by omega, by show 13 + z / 4 % 18 = _; omega⟩
      · exact ⟨(1 + z / 4 % 12).toNat, by omega, by omega, by show 1 + z / 4 % 12 = _; omega⟩
    obtain ⟨n, n1, n2, en⟩ := e
    refine s_ret (v := .int (n : Nat)) (ev_is (ev_ixN (ns := [1 + z / 4 % 12, 13 + z / 4 % 18]) (i := if decide (z % 4 = 3) then 1 else 0) (el_lst (by one_place) (by show 2 ≤ 100000; decide)) (fun _ _ => ev_int1b (b := decide (z % 4 = 3)) (by one_place)) (by split <;> decide) (by show _ < (2 : Int); split <;> decide)) (by rw [en])) fun H2 e2 => ?_
    obtain ⟨x, b, x0, xb, hd1⟩ := d1
    exact q n H2 n1 n2 (E1.trans (ExB.of e2)) ⟨x, b, x0, xb, e2 _ _ hd1⟩
end

section
variable {K : PySem.W.Frag} {σ : L2.St} {H : Hp} {te : TE} {z : V}
/-- a call, a new list first -/
theorem ev_calLA {sp : Sp} {tr : TA} {xs vs : List V} {E : XK} (h : EvL te σ H xs) (h2 : EvA tr σ H vs) (hs : ∀ p H1, Ex H H1 → H1 p = some (.lst xs) → ∀ Q : VK, RetV z H1 Q → ∀ E : XK, sp (.ref p :: vs) H1 Q E) : Ev (tCall sp [] E (tCons te tr)) σ H z := fun H1 e Q q =>
  h H1 e _ fun p H2 np e2 hp => h2 H2 (e.trans e2) _ fun H3 e3 => by
    show sp ((.ref p :: vs) ++ []) H3 Q E
    rw [List.append_nil]
    exact hs p H3 ((e.trans e2).trans e3) (e3 _ _ hp) Q (fun H4 e4 => q H4 ((e2.trans e3).trans e4)) E
end

/-! ### the factors that the law draws -/
section
variable {σ : L2.St} {H : Hp} {ta tc : TE} {tr : TA} {D : Ends} {tz : TS} {E : XK}
/-- x = a drawn number round m -/
theorem q_asgNxM {i : Nat} {d : Addr} {k : Nat} {m : Int} (hm : 0 < m) (h : EvA tr σ H [.ref d]) (hd : Dr d H (k : Nat)) (kb : k ≤ 200) (kk : ∀ z H2, 0 ≤ z → z < m → ExB d H H2 → Dr d H2 ((k + 1 : Nat) : Int) → tz D (σ.set i (some (.int z))) H2) : tSeq (tAsg (tOp (rI (fun _ j => 0 < j) fun i j => .int (i % j)) (tCall spNxt [] E tr) (tC (.int m))) (gName i)) tz D σ H :=
  h H (Ex.refl H) _ fun H1 e1 => by
    obtain ⟨x, b, x0, xb, hd⟩ := hd
    refine ⟨d, k, rfl, ⟨x, b, x0, xb, e1 _ _ hd⟩, kb, fun z H2 z0 z1 e2 d2 => ?_⟩
    obtain ⟨x, b, x0, xb, hd2⟩ := d2
    have q := kk (z % m)
    show tC (.int m) σ H2 _
    refine (ev_c : Ev (tC (.int m)) σ H2 (.int m)) H2 (Ex.refl H2) _ fun H3 e3 => ?_
    exact (rv_I (C := fun _ j => 0 < j) (g := fun i j => V.int (i % j)) hm : RV (rI (fun _ j => 0 < j) fun i j => V.int (i % j)) (.int z) (.int m) H3 (.int (z % m))) H3 (Ex.refl H3) _ fun H4 e4 => q H4 (Int.emod_nonneg _ (by omega)) (Int.emod_lt_of_pos _ hm) ((ExB.of e1).trans (e2.trans (ExB.of (e3.trans e4)))) ⟨x, b, x0, xb, (e3.trans e4) _ _ hd2⟩
/-- return (a new list, v) -/
theorem s_retLVt {ys : List V} {v : V} (h1 : EvL ta σ H ys) (h2 : ∀ H1, Ex H H1 → Ev tc σ H1 v) (k : ∀ t p H1, H t = none → H p = none → Ex H H1 → H1 t = some (.tup [.ref p, v]) → H1 p = some (.lst ys) → D.rt (.ref t) H1) : tRet (tTup (tCons ta (tCons tc tNil))) D σ H :=
  h1 H (Ex.refl H) _ fun p H1 np e1 hp => h2 H1 e1 H1 (Ex.refl H1) _ fun H2 e2 => ⟨sz_of (show 2 ≤ 100000 by decide), fun t nt =>
    k t p _ (fresh_back (e1.trans e2) nt) np ((e1.trans e2).trans (Ex.new nt)) upd_same (by rw [upd_ne (ne_of_none (e2 _ _ hp) nt)]; exact e2 _ _ hp)⟩
end
theorem chkM_0 : ((List.range 30).all fun i => (List.range 60).all fun d => decide (i = d) || decide (meetF (i + 1) (d + 1) ≠ 0)) = true := by decide +kernel
theorem chkM_1 : ((List.range 30).all fun i => (List.range 60).all fun d => decide ((meetF (i + 1) (d + 1)).natAbs < 2 ^ 400)) = true := by decide +kernel
theorem mt_nz {n d : Nat} (h1 : 1 ≤ n) (h2 : n ≤ 30) (d1 : 1 ≤ d) (d2 : d ≤ 60) (ne : n ≠ d) : meetF n d ≠ 0 := by
  have t := List.all_eq_true.mp (List.all_eq_true.mp chkM_0 (n - 1) (List.mem_range.mpr (by omega))) (d - 1) (List.mem_range.mpr (by omega))
  rw [show n - 1 + 1 = n by omega, show d - 1 + 1 = d by omega, decide_eq_false (by omega), Bool.false_or] at t
  exact of_decide_eq_true t
theorem mt_bd {n d : Nat} (h1 : 1 ≤ n) (h2 : n ≤ 30) (d1 : 1 ≤ d) (d2 : d ≤ 60) : (meetF n d).natAbs < 2 ^ 8000 := by
  have t := List.all_eq_true.mp (List.all_eq_true.mp chkM_1 (n - 1) (List.mem_range.mpr (by omega))) (d - 1) (List.mem_range.mpr (by omega))
  rw [show n - 1 + 1 = n by omega, show d - 1 + 1 = d by omega] at t
  exact Nat.lt_of_lt_of_le (of_decide_eq_true t) (Nat.pow_le_pow_right (by decide) (by decide))
/-- a factor and the norm that it has at the root -/
structure FacOk (n : Nat) [O : Ok61 n] (g : List Int) (c : Int) : Prop where
  nz : nz (evI n g) = ((c : Int) : Zn n)
  zero : c = 0 → evI n g = 0
  ne : g ≠ []
  len : g.length ≤ 61
  bd : Bd 256 g
  cb : c.natAbs < 2 ^ 8000
theorem fac_phi {n : Nat} [O : Ok61 n] (h2 : n ≤ 30) {d : Nat} (d1 : 1 ≤ d) (d2 : d ≤ 60) : FacOk n (phi d) (meetF n d) := by
  have h1 := O.h1
  have pm := phi_mon d1 (show d ≤ 420 by omega)
  refine ⟨nz_phi h2 d1 d2, fun z => ?_, pm.ne, by have := phi_le d1 (show d ≤ 420 by omega); omega, bd_of_l1 (phi_bd d1 (by omega)), ?_⟩
  · by_cases c : n = d
    · rw [← c]
      exact phi_nought h2
    · have t := chkI_at (n := n) h2 d1 d2
      unfold chkI at t
      rw [decide_eq_false c, Bool.false_or, Bool.and_eq_true, Bool.and_eq_true, Bool.and_eq_true] at t
      have t3 := of_decide_eq_true t.2.2.1
      have t4 : meetF n d ≠ 0 := by
        have u := mt_nz h1 h2 d1 d2
        exact u c
      exact absurd z t4
  · exact mt_bd h1 h2 d1 d2
theorem fac_lin {n : Nat} [O : Ok61 n] (h2 : n ≤ 30) {a : Int} (ha : a.natAbs ≤ 1000000) : FacOk n [0 - a, 1] (linF n a) := by
  have h1 := O.h1
  refine ⟨by rw [ev_lin]; exact nz_lin h2 a, fun z => by rw [ev_lin]; exact lin0_zero h2 z, by simp, by simp, fun m => ?_, ?_⟩
  · have big : (2 : Nat) ^ 40 ≤ 2 ^ 256 := Nat.pow_le_pow_right (by decide) (by decide)
    match m with
    | 0 =>
      show (0 - a).natAbs < _
      omega
    | 1 =>
      show (1 : Int).natAbs < _
      omega
    | m + 2 =>
      rw [coef_ge (by simp)]
      exact Nat.two_pow_pos 256
  · have pb := bd_of_l1 (phi_bd h1 (show n ≤ 420 by omega))
    have big : (2 : Nat) ^ 40 ≤ 2 ^ 256 := Nat.pow_le_pow_right (by decide) (by decide)
    have vb := val_bd (x := a) (n := 256) (by omega) pb
    have pl := phi_le h1 (show n ≤ 420 by omega)
    have vb2 : (valP a (phi n)).natAbs < 2 ^ 8000 := Nat.lt_of_lt_of_le vb (Nat.pow_le_pow_right (by decide) (by omega))
    unfold linF
    split
    · rw [show (0 - valP a (phi n)).natAbs = (valP a (phi n)).natAbs by omega]
      exact vb2
    · exact vb2
/- _law_factor: slots 0 _law_n, 1 _law_draws_here, 2 _law_way, 3 _law_pick, 4 _law_a, 5 _law_told, 6 _law_d, 7 _law_some, 8 _law_k; calls _law_next, _law_value, _law_root_poly, _law_units, _law_meeting, root_poly -/
abbrev s__law_factor : Stmt := topS 37
theorem sc__law_factor : FnScope ["_law_n", "_law_draws_here", "_law_way", "_law_pick", "_law_a", "_law_told", "_law_d", "_law_some", "_law_k"] ["_law_n", "_law_draws_here"] (defScope s__law_factor) := ⟨rfl, rfl, rfl, by decide +kernel, rfl, by decide +kernel, by decide +kernel⟩

def spFac : Sp := fun vs H Q _ => ∃ (n : Nat) (d : Addr) (k : Nat) (O : Ok61 n), vs = [.int (n : Nat), .ref d] ∧ n ≤ 30 ∧ Dr d H (k : Nat) ∧ k ≤ 150 ∧ ∀ g c t p H2, FacOk n g c → ExB d H H2 → Dr d H2 ((k + 2 : Nat) : Int) → H2 t = some (.tup [.ref p, .int c]) → H2 p = some (.lst (g.map V.int)) → Q (.ref t) H2
section
variable {P : Program} {w : World} {K : PySem.W.Frag} {mg : Str → Option Value} {base : Heap}
theorem cal_fac (nb : Nb mg) (c_root_poly : Cal P w K mg base CX0 "root_poly" 3 ["n"] spRoot) (c__law_next : Cal P w K mg base CX0 "_law_next" 1 ["_law_draws_here"] spNxt) (c__law_units : Cal P w K mg base CX0 "_law_units" 2 ["_law_n"] spUnits) (c__law_root_poly : Cal P w K mg base CX0 "_law_root_poly" 2 ["_law_n"] spRoot) (c__law_value : Cal P w K mg base CX0 "_law_value" 1 ["_law_f", "_law_a"] (spValue K)) (c__law_meeting : Cal P w K mg base CX0 "_law_meeting" 3 ["_law_n", "_law_d"] spMt) (d : Dfn K mg "_law_factor" ["_law_n", "_law_draws_here"] s__law_factor) : Cal P w K mg base CX0 "_law_factor" 4 ["_law_n", "_law_draws_here"] spFac := by
  refine d.cal sc__law_factor (fun vs H Q E h => ?_) (fun f cdv A outer s H vs Q E hr h => ?_)
  · obtain ⟨a, b, c, d, rfl, _⟩ := h
    rfl
  · obtain ⟨n, dr, k, O, rfl, n2, hd, kb, q⟩ := h
    refine ⟨_, (pss_cons (ps_set (i := 2) sc__law_factor.nd rfl (.inl rfl) (pe_op op_mod (pe_cal c__law_next (hr.mono (by first | decide | omega)) (by rfl) pass0 (pa_cons (pv 1) pa_nil)) pe_int))
      (pss_cons (ps_set (i := 3) sc__law_factor.nd rfl (.inl rfl) (pe_cal c__law_next (hr.mono (by first | decide | omega)) (by rfl) pass0 (pa_cons (pv 1) pa_nil)))
      (pss_cons (ps_if (pt_cmpR op_lt (pv 2) pe_int (nomark _)) (pss_cons (ps_set (i := 4) sc__law_factor.nd rfl (.inl rfl) (pe_ix ix_list (pe_lst (pa_cons (pe_op op_sub (pe_op op_mod (pv 3) pe_int) pe_int) (pa_cons (pe_op op_sub (pe_op op_mod (pv 3) pe_int) pe_int) pa_nil))) (pv 2) (fun _ _ => rfl)))
      (pss_cons (ps_set (i := 5) sc__law_factor.nd rfl (.inl rfl) (pe_cal c__law_value (hr.mono (by first | decide | omega)) (by rfl) pass0 (pa_cons (pe_cal c__law_root_poly (hr.mono (by first | decide | omega)) (by rfl) pass0 (pa_cons (pv 0) pa_nil)) (pa_cons (pv 4) pa_nil))))
      (Evl.pss_cut (ps_if (pt_cmpR op_eq (pe_callB call_len_seq (by rfl) nb.len PySem.boot_len (pa_cons (pe_cal c__law_units (hr.mono (by first | decide | omega)) (by rfl) pass0 (pa_cons (pv 0) pa_nil)) pa_nil)) pe_int (nomark _)) (pss_one (ps_set (i := 5) sc__law_factor.nd rfl (.inl rfl) (pe_op op_sub pe_int (pv 5)))) pss_nil)
      (pss_one (ps_ret (pe_tup (pa_cons (pe_lst (pa_cons (pe_op op_sub pe_int (pv 4)) (pa_cons pe_int pa_nil))) (pa_cons (pv 5) pa_nil)))))))) pss_nil)
      (pss_cons (ps_set (i := 6) sc__law_factor.nd rfl (.inl rfl) (pe_op op_add pe_int (pe_op op_mod (pv 3) pe_int)))
      (Evl.pss_cut (ps_if (pt_cmpR op_eq (pv 2) pe_int (nomark _)) (pss_cons (ps_setLc (i := 7) (own := [("_law_k", 8)]) (g := gName 8) (by rfl) sc__law_factor.nd rfl rfl (sw_true rfl rfl rfl (by decide +kernel)) (pi_range2 (by rfl) nb.range (pa_cons pe_int (pa_cons (pe_op op_add (pv 0) pe_int) pa_nil))) (blkOk_by (N := ["_law_n", "_law_draws_here", "_law_way", "_law_pick", "_law_a", "_law_told", "_law_d", "_law_some", "_law_k"]) (sc := defScope s__law_factor) (by decide +kernel)) (fun _ _ _ _ _ => (pg_name (i := 8) sc__law_factor.nd rfl (Or.inl rfl))) (fun _ _ _ _ _ => pts_one (pt_cmpR op_eq (pe_op op_mod (pv 0) (pv 8)) pe_int (nomark _))) (fun _ _ _ _ _ => (pv 8)))
      (pss_one (ps_set (i := 6) sc__law_factor.nd rfl (.inl rfl) (pe_ix ix_list (pv 7) (pe_op op_mod (pv 3) (pe_callB call_len_seq (by rfl) nb.len PySem.boot_len (pa_cons (pv 7) pa_nil))) (fun _ _ => rfl))))) pss_nil)
      (Evl.pss_cut (ps_if (PW.pt (pw_and (pt_cmpR op_eq (pv 2) pe_int (nomark _)) (pw_and1 (pt_cmpR op_eq (pe_op op_mod (pv 3) pe_int) pe_int (nomark _))))) (pss_one (ps_set (i := 6) sc__law_factor.nd rfl (.inl rfl) (pv 0))) pss_nil)
      (Evl.pss_cut (ps_if (PW.pt (pw_and (pt_cmpR op_gt (pv 2) pe_int (nomark _)) (pw_and1 (pt_cmpR op_lt (pe_op op_mulW (pv 0) (pe_op op_add pe_int (pe_op op_mod (pv 3) pe_int))) pe_int (nomark _))))) (pss_one (ps_set (i := 6) sc__law_factor.nd rfl (.inl rfl) (pe_op op_mulW (pv 0) (pe_op op_add pe_int (pe_op op_mod (pv 3) pe_int))))) pss_nil)
      (pss_one (ps_ret (pe_tup (pa_cons (pe_cal c_root_poly (hr.mono (by first | decide | omega)) (by rfl) pass0 (pa_cons (pv 6) pa_nil)) (pa_cons (pe_cal c__law_meeting (hr.mono (by first | decide | omega)) (by rfl) pass0 (pa_cons (pv 0) (pa_cons (pv 6) pa_nil))) pa_nil)))))))))))), ?_⟩
    have n1 := O.h1
    have ul := units_le n
    refine q_asgNxM (d := dr) (k := k) (by decide) (by one_place) hd (by omega) fun way H1 w0 w1 E1 d1 => ?_
    refine q_asgNx (d := dr) (k := k + 1) (by one_place) d1 (by omega) fun z H2 z0 z1 E2 d2 => ?_
    have E12 := E1.trans E2
    have fin : ∀ g c t p H3, Ex H2 H3 → FacOk n g c → H3 t = some (.tup [.ref p, .int c]) → H3 p = some (.lst (g.map V.int)) → Q (.ref t) H3 := fun g c t p H3 e3 F ht hp => by
      obtain ⟨x, b, x0, xb, hd2⟩ := d2
      exact q g c t p H3 F (E12.trans (ExB.of e3)) ⟨x, b, x0, xb, e3 _ _ hd2⟩ ht hp
    refine q_when (b := decide (way < 2)) (et_test (ev_lt (ev_var rfl) ev_c)) (fun hb H3 e3 => ?_) (fun hb H3 e3 => ?_)
    · have hb := of_decide_eq_true hb
      have ha : ∃ a : Int, ([z % 19 - 9, z % 2000001 - 1000000] : List Int).getD way.toNat 0 = a ∧ a.natAbs ≤ 1000000 := by
        have c : way = 0 ∨ way = 1 := by omega
        rcases c with rfl | rfl
        · exact ⟨z % 19 - 9, rfl, by omega⟩
        · exact ⟨z % 2000001 - 1000000, rfl, by omega⟩
      obtain ⟨a, ea, ab⟩ := ha
      refine q_asg (v := .int a) (ev_is (ev_ixN (ns := [z % 19 - 9, z % 2000001 - 1000000]) (i := way) (el_lst (by one_place) (by show 2 ≤ 100000; decide)) (fun _ _ => ev_var rfl) w0 (by show way < 2; omega)) (by rw [ea])) fun H4 e4 => ?_
      have big : (2 : Nat) ^ 40 ≤ 2 ^ 256 := Nat.pow_le_pow_right (by decide) (by decide)
      have pl := phi_le n1 (show n ≤ 420 by omega)
      refine q_asg (v := .int (valP a (phi n))) (ev_calLA (xs := (phi n).map V.int) (vs := [.int a]) (el_cal (vs := [.int (n : Nat)]) (by one_place) fun H5 e5 Q kk E => ⟨n, rfl, n1, by omega, kk⟩) (by one_place) fun p H5 e5 hp Q kk E => ⟨p, phi n, a, 256, rfl, SqL.of hp, bd_of_l1 (phi_bd n1 (by omega)), by omega, by omega, kk⟩) fun H5 e5 => ?_
      have e35 := e3.trans (e4.trans e5)
      refine q_cut (M := fun σ' H' => σ' = [some (.int (n : Nat)), some (.ref dr), some (.int way), some (.int z), some (.int a), some (.int (linF n a)), none, none, none] ∧ Ex H2 H') ?_ (fun σ' H' h => ?_)
      · refine s_when (b := decide ((unitsF (n : Int)).length = 1)) (et_is (et_test (ev_eqI (i := ((unitsF (n : Int)).length : Int)) (ev_is (ev_lenN (xs := (unitsF (n : Int)).map fun k => V.int (k : Nat)) (el_cal (vs := [.int (n : Nat)]) (by one_place) fun H6 e6 Q kk E => ⟨(n : Nat), rfl, by omega, by omega, kk⟩)) (by rw [List.length_map])) ev_c)) (decide_eq_decide.mpr (by omega))) (fun hb H6 e6 => ?_) (fun hb H6 e6 => ?_)
        · have hb := of_decide_eq_true hb
          exact s_asg (v := .int (linF n a)) (ev_is (ev_sub ev_c (ev_var rfl)) (by unfold linF; rw [if_pos hb])) fun H7 e7 => ⟨rfl, e35.trans (e6.trans e7)⟩
        · have hb := of_decide_eq_false hb
          exact ⟨by unfold linF; rw [if_neg hb]; rfl, e35.trans e6⟩
      · obtain ⟨rfl, e6⟩ := h
        exact s_retLVt (ys := ([0 - a, 1] : List Int).map V.int) (el_lst (vs := [.int (0 - a), .int 1]) (ea_cons (ev_sub ev_c (ev_var rfl)) (ea_cons ev_c ea_nil)) (by show 2 ≤ 100000; decide)) (fun _ _ => ev_var rfl) fun t p H7 nt np e7 ht hp => fin _ _ t p H7 (e6.trans e7) (fac_lin n2 ab) ht hp
    · have hb := of_decide_eq_false hb
      obtain ⟨d0, ed, l0, l1⟩ : ∃ d0 : Nat, (d0 : Int) = 1 + z % 30 ∧ 1 ≤ d0 ∧ d0 ≤ 60 := ⟨(1 + z % 30).toNat, by omega, by omega, by omega⟩
      refine q_asg (v := .int (d0 : Nat)) (ev_is (ev_add ev_c (ev_mod (ev_var rfl) ev_c (by decide))) (by rw [ed])) fun H4 e4 => ?_
      refine q_cut (M := fun σ' H' => ∃ d : Nat, ∃ y8, σ' = [some (.int (n : Nat)), some (.ref dr), some (.int way), some (.int z), none, none, some (.int (d : Nat)), y8, none] ∧ 1 ≤ d ∧ d ≤ 60 ∧ Ex H2 H') ?_ (fun σ' H' h => ?_)
      · refine s_when (b := decide (way = 3)) (et_test (ev_eqI (ev_var rfl) ev_c)) (fun hb H5 e5 => ?_) (fun hb H5 e5 => ⟨d0, _, rfl, l0, l1, e3.trans (e4.trans e5)⟩)
        generalize hds : ((List.range n).filter fun i : Nat => decide ((n : Int) % (1 + (i : Int)) = 0)) = ds
        have dn : 0 ∈ ds := by
          rw [← hds]
          refine List.mem_filter.mpr ⟨List.mem_range.mpr (by omega), decide_eq_true ?_⟩
          show (n : Int) % (1 + 0) = 0
          omega
        have dl : 0 < ds.length := List.length_pos_of_mem dn
        have dl2 : ds.length ≤ n := by
          rw [← hds]
          have := List.length_filter_le (fun i : Nat => decide ((n : Int) % (1 + (i : Int)) = 0)) (List.range n)
          rw [List.length_range] at this
          exact this
        refine q_asgL (xs := (ds.map fun i : Nat => 1 + (i : Int)).map V.int) (el_is (el_lcR2 (lo := 1) (hi := (n : Int) + 1) (fun i => decide ((n : Int) % (1 + (i : Int)) = 0)) (fun i => .int (1 + (i : Int))) (by one_place) (by omega) (fun _ => rfl) (fun i H2 e2 hi => by one_place) (fun i H2 e2 hi _ => ev_var rfl)) (by rw [show ((n : Int) + 1 - 1).toNat = n by omega, hds, List.map_map]; rfl)) fun dv H6 ndv e6 h6 => ?_
        have jm := Int.emod_lt_of_pos z (show (0 : Int) < (ds.length : Nat) by omega)
        have jn := Int.emod_nonneg z (show ((ds.length : Nat) : Int) ≠ 0 by omega)
        obtain ⟨j, hj⟩ : ∃ j : Nat, (j : Int) = z % (ds.length : Nat) := ⟨(z % (ds.length : Nat)).toNat, by omega⟩
        have jl : j < ds.length := by omega
        have get : (ds.map fun i : Nat => 1 + (i : Int))[j]? = some (1 + (ds[j] : Int)) := by
          rw [List.getElem?_map, List.getElem?_eq_getElem jl]
          rfl
        have key : ∀ v ∈ ds, v < n := by
          rw [← hds]
          exact fun v m => List.mem_range.mp (List.mem_filter.mp m).1
        have dj : ds[j] < n := key _ (List.getElem_mem jl)
        refine s_asg (v := .int ((1 + ds[j] : Nat) : Int)) (ev_is (ev_ixI (j := j) (b := 1 + (ds[j] : Int)) (SqL.of h6) (ev_var rfl) (ev_is (ev_mod (ev_var rfl) (ev_is (ev_len (ev_var rfl) (SqL.of h6)) (by rw [List.length_map, List.length_map])) (by omega)) (by rw [hj])) get) (by rw [Int.natCast_add]; rfl)) fun H7 e7 => ⟨1 + ds[j], _, rfl, by omega, by omega, e3.trans (e4.trans (e5.trans (e6.trans e7)))⟩
      · obtain ⟨d1', y8, rfl, a1, a2, e5⟩ := h
        refine q_cut (M := fun σ' H' => ∃ d : Nat, σ' = [some (.int (n : Nat)), some (.ref dr), some (.int way), some (.int z), none, none, some (.int (d : Nat)), y8, none] ∧ 1 ≤ d ∧ d ≤ 60 ∧ Ex H2 H') ?_ (fun σ' H' h => ?_)
        · refine s_when (b := decide (way = 4) && decide (z % 8 = 1)) (et_and (et_test (ev_eqI (ev_var rfl) ev_c)) fun _ => et_test (ev_eqI (ev_mod (ev_var rfl) ev_c (by decide)) ev_c)) (fun hb H6 e6 => ?_) (fun hb H6 e6 => ⟨d1', rfl, a1, a2, e5.trans e6⟩)
          exact s_asg (v := .int (n : Nat)) (ev_var rfl) fun H7 e7 => ⟨n, rfl, n1, by omega, e5.trans (e6.trans e7)⟩
        · obtain ⟨d2', rfl, a3, a4, e6⟩ := h
          refine q_cut (M := fun σ' H' => ∃ d : Nat, σ' = [some (.int (n : Nat)), some (.ref dr), some (.int way), some (.int z), none, none, some (.int (d : Nat)), y8, none] ∧ 1 ≤ d ∧ d ≤ 60 ∧ Ex H2 H') ?_ (fun σ' H' h => ?_)
          · obtain ⟨m, em, m1, m2⟩ : ∃ m : Nat, (m : Int) = 2 + z % 4 ∧ 2 ≤ m ∧ m ≤ 5 := ⟨(2 + z % 4).toNat, by omega, by omega, by omega⟩
            have NM : ∀ {σ : L2.St} {H' : Hp}, σ[0]? = some (some (.int (n : Nat))) → σ[3]? = some (some (.int z)) → Ev (tOp (rI CMulW fun i j => .int (i * j)) (tVar 0) (tOp (rI0 fun i j => .int (i + j)) (tC (.int 2)) (tOp (rI (fun _ j => 0 < j) fun i j => .int (i % j)) (tVar 3) (tC (.int 4))))) σ H' (.int ((n * m : Nat) : Int)) := fun h0 h3 => ev_is (ev_mul (ev_var h0) (ev_is (ev_add ev_c (ev_mod (ev_var h3) ev_c (by decide))) (by rw [← em])) (mulW (by omega) (by omega))) (by rw [Int.natCast_mul])
            have nm1 : n ≤ n * m := Nat.le_mul_of_pos_right _ (by omega)
            refine s_when (b := decide ((4 : Int) < way) && decide (((n * m : Nat) : Int) < 61)) (et_and (et_test (ev_gt (ev_var rfl) ev_c)) fun _ => et_test (ev_lt (NM rfl rfl) ev_c)) (fun hb H7 e7 => ?_) (fun hb H7 e7 => ⟨d2', rfl, a3, a4, e6.trans e7⟩)
            rw [Bool.and_eq_true] at hb
            have hb := of_decide_eq_true hb.2
            exact s_asg (v := .int ((n * m : Nat) : Int)) (NM rfl rfl) fun H8 e8 => ⟨n * m, rfl, by omega, by omega, e6.trans (e7.trans e8)⟩
          · obtain ⟨d3', rfl, a5, a6, e7⟩ := h
            exact s_retLVt (ys := (phi d3').map V.int) (el_cal (vs := [.int (d3' : Nat)]) (by one_place) fun H8 e8 Q kk E => ⟨d3', rfl, a5, by omega, kk⟩) (fun H8 e8 => ev_cal (vs := [.int (n : Nat), .int (d3' : Nat)]) (z := .int (meetF n d3')) (by one_place) fun H9 e9 Q kk E => ⟨n, d3', rfl, n1, by omega, a5, a6, kk⟩) fun t p H8 nt np e8 ht hp => fin _ _ t p H8 (e7.trans e8) (fac_phi n2 a5 a6) ht hp
end

section
variable {K : PySem.W.Frag} {σ : L2.St} {H : Hp} {te : TE} {f : List Int} {rows : List I3} {z : Bool}
def EvNt (K : PySem.W.Frag) (te : TE) (σ : L2.St) (H : Hp) (f : List Int) (rows : List I3) (z : Bool) : Prop := ∀ H1, Ex H H1 → ∀ Q : VK, RetN K f rows z H1 Q → te σ H1 Q
theorem RetN.back {Q : VK} {H1 : Hp} (e : Ex H H1) (q : RetN K f rows z H Q) : RetN K f rows z H1 Q := fun t p w ws H2 nt np nw ne e2 h1 h2 h3 R => q t p w ws H2 (fresh_back e nt) (fresh_back e np) (fresh_back e nw) ne (e.trans e2) h1 h2 h3 R
theorem evNt_cal {sp : Sp} {vs : List V} {E : XK} {ta : TA} (h : EvA ta σ H vs) (hs : ∀ H1, Ex H H1 → ∀ Q : VK, RetN K f rows z H1 Q → ∀ E : XK, sp vs H1 Q E) : EvNt K (tCall sp [] E ta) σ H f rows z := fun H1 e Q q =>
  h H1 e _ fun H2 e2 => by
    show sp (vs ++ []) H2 Q E
    rw [List.append_nil]
    exact hs H2 (e.trans e2) Q (q.back e2) E
end
/-! ### the law's own steps -/
section
variable {K : PySem.W.Frag} {σ : L2.St} {H : Hp} {tr : TA} {D : Ends} {tz : TS} {E : XK}
theorem q_asgDrw {i : Nat} {c : Int} (h : EvA tr σ H [.int c]) (k : ∀ d H1, H d = none → Ex H H1 → Dr d H1 ((0 : Nat) : Int) → tz D (σ.set i (some (.ref d))) H1) : tSeq (tAsg (tCall spDrw [] E tr) (gName i)) tz D σ H :=
  h H (Ex.refl H) _ fun H1 e1 => ⟨c, rfl, fun d H2 nd e2 hd => k d H2 (fresh_back e1 nd) (e1.trans e2) hd⟩
theorem Dr.ex {d : Addr} {H H1 : Hp} {k : Int} (h : Dr d H k) (e : Ex H H1) : Dr d H1 k := by
  obtain ⟨x, b, x0, xb, hd⟩ := h
  exact ⟨x, b, x0, xb, e _ _ hd⟩
theorem q_asgCnt {i : Nat} {d : Addr} {k : Nat} (h : EvA tr σ H [.ref d]) (hd : Dr d H (k : Nat)) (kb : k ≤ 200) (kk : ∀ (n : Nat) H2, 1 ≤ n → n ≤ 30 → ExB d H H2 → Dr d H2 ((k + 1 : Nat) : Int) → tz D (σ.set i (some (.int (n : Nat)))) H2) : tSeq (tAsg (tCall spCnt40 [] E tr) (gName i)) tz D σ H :=
  h H (Ex.refl H) _ fun H1 e1 => ⟨d, k, rfl, hd.ex e1, kb, fun n H2 n1 n2 e2 d2 => kk n H2 n1 n2 ((ExB.of e1).trans e2) d2⟩
theorem q_asgFac {i j : Nat} {d : Addr} {k n : Nat} (O : Ok61 n) (n2 : n ≤ 30) (h : EvA tr σ H [.int (n : Nat), .ref d]) (hd : Dr d H (k : Nat)) (kb : k ≤ 150) (kk : ∀ g c p H2, FacOk n g c → ExB d H H2 → Dr d H2 ((k + 2 : Nat) : Int) → H2 p = some (.lst (g.map V.int)) → tz D ((σ.set i (some (.ref p))).set j (some (.int c))) H2) : tSeq (tAsg (tCall spFac [] E tr) (gTup K 2 (gCons (gName i) (gCons (gName j) gNil)))) tz D σ H :=
  h H (Ex.refl H) _ fun H1 e1 => ⟨n, d, k, O, rfl, n2, hd.ex e1, kb, fun g c t p H2 F e2 d2 ht hp => ⟨t, _, rfl, SqT.of ht, rfl, .ref p, [.int c], rfl, .int c, [], rfl, rfl, kk g c p H2 F ((ExB.of e1).trans e2) d2 hp⟩⟩
/-- for x in range(1 + a drawn number % 4) -/
theorem q_forNx {tu : TS} {j : Nat} {d : Addr} {k : Nat} (h : EvA tr σ H [.ref d]) (hd : Dr d H (k : Nat)) (kb : k ≤ 200) (kk : ∀ (m : Int) H2, 1 ≤ m → m ≤ 4 → ExB d H H2 → Dr d H2 ((k + 1 : Nat) : Int) → tSeq (tFor (iRng1 (tCons (tC (.int m)) tNil)) (gName j) tu) tz D σ H2) :
    tSeq (tFor (iRng1 (tCons (tOp (rI0 fun i j => .int (i + j)) (tC (.int 1)) (tOp (rI (fun _ j => 0 < j) fun i j => .int (i % j)) (tCall spNxt [] E tr) (tC (.int 4)))) tNil)) (gName j) tu) tz D σ H := by
  have key : ∀ Q : List V → Hp → Prop, (∀ (m : Int) H2, 1 ≤ m → m ≤ 4 → ExB d H H2 → Dr d H2 ((k + 1 : Nat) : Int) → Q [.int m] H2) → (tCons (tOp (rI0 fun i j => .int (i + j)) (tC (.int 1)) (tOp (rI (fun _ j => 0 < j) fun i j => .int (i % j)) (tCall spNxt [] E tr) (tC (.int 4)))) tNil) σ H Q := fun Q q => by
    unfold tCons tOp tC
    refine h H (Ex.refl H) _ fun H1 e1 => ?_
    refine ⟨d, k, rfl, hd.ex e1, kb, fun z H2 z0 z1 e2 d2 => ?_⟩
    refine (rv_I (C := fun _ j => 0 < j) (g := fun i j => V.int (i % j)) (by decide) : RV (rI (fun _ j => 0 < j) fun i j => V.int (i % j)) (.int z) (.int 4) H2 (.int (z % 4))) H2 (Ex.refl H2) _ fun H4 e4 => ?_
    refine (rv_I0 (g := fun i j => V.int (i + j)) : RV (rI0 fun i j => V.int (i + j)) (.int 1) (.int (z % 4)) H4 (.int (1 + z % 4))) H4 (Ex.refl H4) _ fun H5 e5 => ?_
    exact q (1 + z % 4) H5 (by omega) (by omega) ((ExB.of e1).trans (e2.trans (ExB.of (e4.trans e5)))) ((d2.ex e4).ex e5)
  unfold tSeq tFor iRng1 at kk ⊢
  exact key _ fun m H2 m1 m4 e d2 => kk m H2 m1 m4 e d2
theorem ev_nt0 {te : TE} {f : List Int} {rows : List I3} {z : Bool} (h : EvNt K te σ H f rows z) : Ev (tOp rEq (tOp (rIxT K) te (tC (.int 0))) (tC (.str (Str.ofString "nought")))) σ H (.bl z) := fun H1 e Q q =>
  h H1 e _ fun t p w ws H2 nt np nw ne e2 ht hp hw R => by
    have hv : (ntT z p w)[0]? = some (.str (if z then Str.ofString "nought" else Str.ofString "not")) := by
      cases z <;> rfl
    show tC (.int 0) σ H2 _
    refine (ev_c : Ev (tC (.int 0)) σ H2 (.int 0)) H2 (Ex.refl H2) _ fun H2' e2' => ?_
    refine (rv_ixT (K := K) (SqT.of (e2' _ _ ht)) (atI_nat (j := 0) hv)) H2' (Ex.refl H2') _ fun H3 e3' => ?_
    have e3 := e2'.trans e3'
    show tC (.str (Str.ofString "nought")) σ H3 _
    have hs : V.bl (decide (V.str (if z then Str.ofString "nought" else Str.ofString "not") = V.str (Str.ofString "nought"))) = V.bl z := by
      cases z <;> decide +kernel
    refine (ev_c : Ev (tC (.str (Str.ofString "nought"))) σ H3 (.str (Str.ofString "nought"))) H3 (Ex.refl H3) _ fun H4 e4 => ?_
    have r := rv_eq (H := H4) (x := V.str (if z then Str.ofString "nought" else Str.ofString "not")) (y := V.str (Str.ofString "nought")) rfl
    rw [hs] at r
    exact r H4 (Ex.refl H4) _ fun H5 e5 => q H5 (e2.trans (e3.trans (e4.trans e5)))
end
theorem layK_bd {n b : Nat} {f : List Int} (hb : Bd b f) : ∀ i m, (coef (layK n f i) m).natAbs ≤ i * 2 ^ b
  | 0, m => by
    show (coef (List.replicate n 0) m).natAbs ≤ _
    rw [coef_rep]
    exact Nat.zero_le _
  | i + 1, m => by
    show (coef ((layK n f i).set (i % n) (coef (layK n f i) (i % n) + coef f i)) m).natAbs ≤ _
    have h1 := layK_bd (n := n) hb i
    have h2 := hb i
    rw [Nat.add_mul, Nat.one_mul]
    by_cases c : i % n < (layK n f i).length
    · rw [coef_set c]
      split
      · have := h1 (i % n)
        omega
      · have := h1 m
        omega
    · rw [List.set_eq_of_length_le (by omega)]
      have := h1 m
      omega
/-- what the product so far keeps -/
structure AccOk (n : Nat) [O : Ok61 n] (i : Nat) (F : List Int) (c : Int) : Prop where
  nz : nz (evI n F) = ((c : Int) : Zn n)
  zero : c = 0 → evI n F = 0
  ne : F ≠ []
  len : F.length ≤ 1 + 61 * i
  bd : Bd (1 + 600 * i) F
  cb : c.natAbs < 2 ^ (1 + 8000 * i)
theorem cv_bd40 {a b : Nat} {f g : List Int} (hf : Bd a f) (hg : Bd b g) (m : Nat) : ∀ i, (cv f g i m).natAbs < 2 ^ (a + b + i)
  | 0 => Nat.two_pow_pos _
  | i + 1 => by
    have h1 := cv_bd40 hf hg m i
    have h2 := Nat.mul_lt_mul'' (hf i) (hg (m - i))
    rw [← Int.natAbs_mul, ← Nat.pow_add] at h2
    have h3 : 2 ^ (a + b) ≤ 2 ^ (a + b + i) := Nat.pow_le_pow_right (by decide) (by omega)
    have h4 : 2 ^ (a + b + (i + 1)) = 2 * 2 ^ (a + b + i) := by
      rw [show a + b + (i + 1) = a + b + i + 1 by omega, Nat.pow_succ, Nat.mul_comm]
    show (cv f g i m + if i ≤ m then coef f i * coef g (m - i) else 0).natAbs < _
    split <;> omega
section
variable {n : Nat} [O : Ok61 n]
theorem acc_one (h2 : n ≤ 30) : AccOk n 0 [1] 1 := by
  have e : evI n [1] = ((1 : Int) : Zn n) := by
    rw [evI_cons, evI_nil]
    grind
  refine ⟨by rw [e, nz_int (by omega), Int.one_pow], fun z => by omega, by simp, by simp, fun m => ?_, by decide⟩
  match m with
  | 0 => decide
  | m + 1 =>
    rw [coef_ge (by simp)]
    decide
theorem acc_step (h2 : n ≤ 30) {i : Nat} (hi : i < 4) {F g : List Int} {c e : Int} (A : AccOk n i F c) (B : FacOk n g e) : AccOk n (i + 1) (mulP F g) (c * e) := by
  have ev : evI n (mulP F g) = evI n F * evI n g := by
    rw [← evI_mul]
    exact evI_congr _ _ fun m => by rw [coef_mulP, coef_mulK]
  have fl : 0 < F.length := List.length_pos_iff.mpr A.ne
  have gl : 0 < g.length := List.length_pos_iff.mpr B.ne
  have ml : (mulP F g).length = F.length + g.length - 1 := by
    unfold mulP
    rw [if_neg (fun z => z.elim A.ne B.ne), mkL_len]
  have fl2 := A.len
  have gl2 := B.len
  refine ⟨by rw [ev, nz_mul (by omega), A.nz, B.nz, it_mul35], fun z => ?_, fun z => by rw [z] at ml; simp at ml; omega, by omega, fun m => ?_, ?_⟩
  · rw [ev]
    rcases Int.mul_eq_zero.mp z with y | y
    · rw [A.zero y]
      grind
    · rw [B.zero y]
      grind
  · rw [coef_mulP]
    exact Nat.lt_of_lt_of_le (cv_bd40 A.bd B.bd m F.length) (Nat.pow_le_pow_right (by decide) (by omega))
  · rw [Int.natAbs_mul]
    have := Nat.mul_lt_mul'' A.cb B.cb
    rw [← Nat.pow_add] at this
    exact Nat.lt_of_lt_of_le this (Nat.pow_le_pow_right (by decide) (by omega))
/-- what is found of the sum laid round -/
theorem acc_norm (h2 : n ≤ 30) {i : Nat} {F : List Int} {c : Int} (A : AccOk n i F c) : normF (layF n F) = c := by
  refine int_inj (n := n) (by omega) ?_
  rw [← nz_norm (by omega) (layF_len F), lay_ev, A.nz]
theorem allz_iff {g : List Int} : allZ g = true ↔ ∀ m, coef g m = 0 := by
  unfold allZ
  rw [List.all_eq_true]
  constructor
  · intro h m
    by_cases c : m < g.length
    · rw [coef_lt c]
      simpa using h _ (List.getElem_mem c)
    · exact coef_ge (by omega)
  · intro h x hx
    obtain ⟨j, hj, e⟩ := List.getElem_of_mem hx
    have := h j
    rw [coef_lt hj, e] at this
    simpa using this
theorem acc_nought (h2 : n ≤ 30) {i : Nat} {F : List Int} {c : Int} (A : AccOk n i F c) : allZ (grF n (layF n F)) = decide (c = 0) := by
  have h1 := O.h1
  have z0 : (0 : Zn n).v = grF n (itS n 0) := zc_v (itS_len h1 0)
  have gi : grF n (itS n 0) = itS n 0 := by
    rw [itS_ws]
    exact gr_ws h1 (by omega) 0
  refine Bool.eq_iff_iff.mpr ?_
  rw [allz_iff, decide_eq_true_iff]
  constructor
  · intro h
    have e : grF n (layF n F) = grF n (itS n 0) := by
      rw [gi]
      refine ext_of (by rw [gr_len (layF_len F), itS_len h1]) fun m _ => ?_
      rw [h m, coef_itS]
      split <;> rfl
    have ez : zc n (layF n F) = ((0 : Int) : Zn n) := (zc_eq (layF_len F) (itS_len h1 0)).mpr e
    rw [lay_ev] at ez
    have := A.nz
    rw [ez, nz_int (by omega), Int.zero_pow (chkU_at h1 (by omega)).1] at this
    exact (int_inj (n := n) (by omega) this).symm
  · intro h m
    have ez : zc n (layF n F) = ((0 : Int) : Zn n) := by
      rw [lay_ev, A.zero h]
      rfl
    have e := (zc_eq (layF_len F) (itS_len h1 0)).mp ez
    rw [e, gi, coef_itS]
    split <;> rfl
end

/- law: slots 0 _law_script, 1 _law_cell, 2 _law_draws_here, 3 _law_n, 4 _law_f, 5 _law_due, 6 _law_turn, 7 _law_g, 8 _law_number, 9 _law_laid, 10 _law_k, 11 _law_found; calls _law_draws, _law_count, _law_next, _law_factor, times, norm, nought -/
abbrev s_law : Stmt := topS 38
theorem sc_law : FnScope ["_law_script", "_law_cell", "_law_draws_here", "_law_n", "_law_f", "_law_due", "_law_turn", "_law_g", "_law_number", "_law_laid", "_law_k", "_law_found"] ["_law_script"] (defScope s_law) := ⟨rfl, rfl, rfl, by decide +kernel, rfl, by decide +kernel, by decide +kernel⟩

def spLaw (K : PySem.W.Frag) : Sp := fun vs H Q _ => ∃ (a : Addr) (ns : List Int), vs = [.ref a] ∧ SqL K H a (ns.map V.int) ∧ ns.length ≤ 63 ∧ ∀ H', Q (.bl true) H'
section
variable {P : Program} {w : World} {K : PySem.W.Frag} {mg : Str → Option Value} {base : Heap} {C : Addr}
theorem law_ok {f : Addr} {fd : FuncData} (F : Fun K "law" "law" s_law f fd) (nb : Nb mg) (nb_gcd : mg "gcd" = some (.builtin "math.gcd")) (z_ValueError : mg "ValueError" = none) (hv : PySem.W.kitOne K (.ref C) (.type "ValueError") = some true) (x_NoPart : OwnX K mg "NoPart" C) {Wc : Addr} (x_WheelError : GlX mg "WheelError" Wc) (hex : PySem.W.exmOne K (.ref C) (.ref Wc) = some true)
    (d_parted : Dfn K mg "parted" ["n"] s_parted) (d_units : Dfn K mg "units" ["n"] s_units) (d_sum_times : Dfn K mg "sum_times" ["one", "other"] s_sum_times) (d_powers_of : Dfn K mg "powers_of" ["n"] s_powers_of) (d_grounded : Dfn K mg "grounded" ["some"] s_grounded) (d_all_noughts : Dfn K mg "all_noughts" ["numbers"] s_all_noughts) (d_nought : Dfn K mg "nought" ["some"] s_nought) (d_led : Dfn K mg "led" ["some", "k"] s_led) (d_rest_of : Dfn K mg "rest_of" ["some"] s_rest_of) (d_whole_sum : Dfn K mg "whole_sum" ["n", "number"] s_whole_sum) (d_whole_of : Dfn K mg "whole_of" ["some"] s_whole_of) (d_norm : Dfn K mg "norm" ["some"] s_norm) (d_trimmed : Dfn K mg "trimmed" ["numbers"] s_trimmed) (d_times : Dfn K mg "times" ["f", "g"] s_times) (d_over : Dfn K mg "over" ["f", "g"] s_over) (d_at_power : Dfn K mg "at_power" ["f", "k"] s_at_power) (d_root_poly : Dfn K mg "root_poly" ["n"] s_root_poly) (d__law_draws : Dfn K mg "_law_draws" ["_law_cell"] s__law_draws) (d__law_next : Dfn K mg "_law_next" ["_law_draws_here"] s__law_next) (d__law_common : Dfn K mg "_law_common" ["_law_one", "_law_other"] s__law_common) (d__law_count : Dfn K mg "_law_count" ["_law_draws_here"] s__law_count) (d__law_units : Dfn K mg "_law_units" ["_law_n"] s__law_units) (d__law_over : Dfn K mg "_law_over" ["_law_f", "_law_g"] s__law_over) (d__law_root_poly : Dfn K mg "_law_root_poly" ["_law_n"] s__law_root_poly) (d__law_value : Dfn K mg "_law_value" ["_law_f", "_law_a"] s__law_value) (d__law_prime_of : Dfn K mg "_law_prime_of" ["_law_number"] s__law_prime_of) (d__law_meeting : Dfn K mg "_law_meeting" ["_law_n", "_law_d"] s__law_meeting) (d__law_factor : Dfn K mg "_law_factor" ["_law_n", "_law_draws_here"] s__law_factor) :
    FnOk P w K mg base CX0 7 f fd ["_law_script"] (spLaw K) := by
  have c_parted : Cal P w K mg base CX0 "parted" 1 ["n"] (spParted K) := cal_parted nb d_parted
  have c_over : Cal P w K mg base CX0 "over" 2 ["f", "g"] (spOverX K) := (cal_over nb x_NoPart (cal_trimmed nb d_trimmed) d_over).calm.imp fun vs H Q E h => overX_of h
  have c_root_poly : Cal P w K mg base CX0 "root_poly" 3 ["n"] spRoot := cal_root nb c_parted c_over (cal_atP nb d_at_power) d_root_poly
  have c_units : Cal P w K mg base CX0 "units" 1 ["n"] spUnits := cal_units nb nb_gcd d_units
  have c_led : Cal P w K mg base CX0 "led" 1 ["some", "k"] (spLed K) := cal_led nb d_led
  have c_gr : Cal P w K mg base CX0 "grounded" 3 ["some"] (spGr K) := cal_grounded nb (cal_powers nb c_parted d_powers_of) d_grounded
  have c_rest_of : Cal P w K mg base CX0 "rest_of" 4 ["some"] (spRest K) := cal_rest nb c_gr d_rest_of
  have c_ws : Cal P w K mg base CX0 "whole_sum" 1 ["n", "number"] spWS := cal_ws nb d_whole_sum
  have c_wo : Cal P w K mg base CX0 "whole_of" 5 ["some"] (spWO K) := cal_wo nb c_rest_of d_whole_of
  have c_norm : Cal P w K mg base CX0 "norm" 6 ["some"] (spNorm K) := cal_norm nb c_ws c_units (cal_stimes nb d_sum_times) c_rest_of c_led c_wo d_norm
  have c_nought : Cal P w K mg base CX0 "nought" 4 ["some"] (spNt K) := cal_nought nb c_gr (cal_allz nb d_all_noughts) d_nought
  have c_times : Cal P w K mg base CX0 "times" 1 ["f", "g"] (spTimes K) := cal_times nb d_times
  have c__law_draws : Cal P w K mg base CX0 "_law_draws" 1 ["_law_cell"] spDrw := cal_drw nb d__law_draws
  have c__law_next : Cal P w K mg base CX0 "_law_next" 1 ["_law_draws_here"] spNxt := cal_nxt nb d__law_next
  have c__law_count : Cal P w K mg base CX0 "_law_count" 2 ["_law_draws_here"] spCnt40 := cal_cnt40 nb c__law_next d__law_count
  have c__law_units : Cal P w K mg base CX0 "_law_units" 2 ["_law_n"] spUnits := cal_lunits nb (cal_common nb d__law_common) d__law_units
  have c__law_root_poly : Cal P w K mg base CX0 "_law_root_poly" 2 ["_law_n"] spRoot := cal_lrp40 nb (cal_lover nb d__law_over) d__law_root_poly
  have c__law_factor : Cal P w K mg base CX0 "_law_factor" 4 ["_law_n", "_law_draws_here"] spFac := cal_fac nb c_root_poly c__law_next c__law_units c__law_root_poly (cal_lv40 nb d__law_value) (cal_mt40 nb c__law_units (cal_pr40 nb d__law_prime_of) d__law_meeting) d__law_factor
  refine F.ok sc_law (fun vs H Q E h => ?_) (fun cdv A outer s H vs Q E hr h => ?_)
  · obtain ⟨a, ns, rfl, _⟩ := h
    rfl
  · obtain ⟨a, ns, rfl, hS, hlen, q⟩ := h
    refine ⟨_, (pss_cons (ps_for PassesOwn.never rfl (pi_list (pe_op op_cat (pe_slice sl_list (pv 0) po_none (po_some pe_int)) (pe_lst (pa_cons pe_int pa_nil)))) (pg_name (i := 1) sc_law.nd rfl (.inl rfl)) (pss_cons (ps_set (i := 2) sc_law.nd rfl (.inl rfl) (pe_cal c__law_draws (hr.mono (by first | decide | omega)) (by rfl) pass0 (pa_cons (pv 1) pa_nil)))
      (pss_cons (ps_set (i := 3) sc_law.nd rfl (.inl rfl) (pe_cal c__law_count (hr.mono (by first | decide | omega)) (by rfl) pass0 (pa_cons (pv 2) pa_nil)))
      (pss_cons (ps_set (i := 4) sc_law.nd rfl (.inl rfl) (pe_lst (pa_cons pe_int pa_nil)))
      (pss_cons (ps_set (i := 5) sc_law.nd rfl (.inl rfl) pe_int)
      (pss_cons (ps_for PassesOwn.never rfl (pi_range1 (by rfl) nb.range (pa_cons (pe_op op_add pe_int (pe_op op_mod (pe_cal c__law_next (hr.mono (by first | decide | omega)) (by rfl) pass0 (pa_cons (pv 2) pa_nil)) pe_int)) pa_nil)) (pg_name (i := 6) sc_law.nd rfl (.inl rfl)) (pss_cons (ps_asg (pe_cal c__law_factor (hr.mono (by first | decide | omega)) (by rfl) pass0 (pa_cons (pv 3) (pa_cons (pv 2) pa_nil))) (pg_tup (by rfl) (pgs_cons (pg_name (i := 7) sc_law.nd rfl (.inl rfl)) (pgs_cons (pg_name (i := 8) sc_law.nd rfl (.inl rfl)) pgs_nil))))
      (pss_cons (ps_set (i := 4) sc_law.nd rfl (.inl rfl) (pe_cal c_times (hr.mono (by first | decide | omega)) (by rfl) pass0 (pa_cons (pv 4) (pa_cons (pv 7) pa_nil))))
      (pss_one (ps_set (i := 5) sc_law.nd rfl (.inl rfl) (pe_op op_mulW (pv 5) (pv 8)))))))
      (pss_cons (ps_set (i := 9) sc_law.nd rfl (.inl rfl) (pe_op op_rep (pe_lst (pa_cons pe_int pa_nil)) (pv 3)))
      (pss_cons (ps_for PassesOwn.never rfl (pi_enum (by rfl) nb.enumerate (pa_cons (pv 4) pa_nil)) (pg_tup (by rfl) (pgs_cons (pg_name (i := 10) sc_law.nd rfl (.inl rfl)) (pgs_cons (pg_name (i := 8) sc_law.nd rfl (.inl rfl)) pgs_nil))) (pss_one (ps_asg (pe_op op_add (pe_ix ix_list (pv 9) (pe_op op_mod (pv 10) (pv 3)) (fun _ _ => rfl)) (pv 8)) (pg_sub (pv 9) (pe_op op_mod (pv 10) (pv 3)) set_list))))
      (pss_cons (ps_set (i := 11) sc_law.nd rfl (.inl rfl) (pe_cal c_norm (hr.mono (by first | decide | omega)) (by rfl) pass0 (pa_cons (pv 9) pa_nil)))
      (pss_cons (ps_if (PW.pt (pw_or (pt_not (pt_val (pe_callB call_isi (by rfl) nb.isinstance (by decide +kernel) (pa_cons (pv 11) (pa_cons (pe_bltn (v := .ty "int") (by rfl) nb.int (by decide +kernel) rfl) pa_nil))))) (pw_or (pt_val (pe_callB call_isi (by rfl) nb.isinstance (by decide +kernel) (pa_cons (pv 11) (pa_cons (pe_bltn (v := .ty "bool") (by rfl) nb.bool (by decide +kernel) rfl) pa_nil)))) (pw_or1 (pt_cmpR op_ne (pv 11) (pv 5) (nomark _)))))) (pss_one (ps_ret pe_bl)) pss_nil)
      (pss_one (ps_if (pt_cmpR op_ne (pe_cmpR op_eq (pe_ix ix_tup (pe_cal c_nought (hr.mono (by first | decide | omega)) (by rfl) pass0 (pa_cons (pv 9) pa_nil)) pe_int (fun _ _ => rfl)) pe_str (nomark _)) (pe_cmpR op_eq (pv 5) pe_int (nomark _)) (nomark _)) (pss_one (ps_ret pe_bl)) pss_nil))))))))))))
      (pss_one (ps_ret pe_bl))), ?_⟩
    have hz : (cutV (ns.map V.int) none (some 4) ++ [V.int 0]).length ≤ 64 := by
      have := cutV_length (ns.map V.int) none (some 4)
      rw [List.length_map] at this
      rw [List.length_append, List.length_singleton]
      omega
    refine q_forNLn (xs := cutV (ns.map V.int) none (some 4) ++ [V.int 0]) (el_cat (el_sl (by one_place) eo_none (eo_some ev_c) hS) (el_lst (by one_place) (by decide)) (by rw [List.length_append] at hz; omega))
      (fun p i σ' H' => ∃ x1 x2 x3 x4 x5 x6 x7 x8 x9 x10 x11, σ' = [some (.ref a), x1, x2, x3, x4, x5, x6, x7, x8, x9, x10, x11] ∧ H' p = some (.lst (cutV (ns.map V.int) none (some 4) ++ [V.int 0])))
      (fun p H1 np e1 hp => ⟨none, none, none, none, none, none, none, none, none, none, none, rfl, hp⟩) (fun p i σ' H' _ hp => ?_) (fun p i x σ' H0 hx hp => ?_) (fun p σ' H' hp => ?_)
    · obtain ⟨_, _, _, _, _, _, _, _, _, _, _, _, hp⟩ := hp
      exact SqL.of hp
    · obtain ⟨x1, x2, x3, x4, x5, x6, x7, x8, x9, x10, x11, rfl, hp⟩ := hp
      obtain ⟨c, rfl⟩ : ∃ c, x = V.int c := by
        rcases List.mem_append.mp (List.mem_of_getElem? hx) with h | h
        · exact int_of_mem (cut_mem h)
        · exact ⟨0, List.mem_singleton.mp h⟩
      refine q_asgDrw (c := c) (by one_place) fun d H1 nd e1 d1 => ?_
      refine q_asgCnt (d := d) (k := 0) (by one_place) d1 (by decide) fun n H2 n1 n2 E2 d2 => ?_
      haveI O : Ok61 n := ⟨n1, by omega⟩
      have pd : p ≠ d := ne_of_none hp nd
      have hp2 := E2 p _ pd (e1 _ _ hp)
      have used : ∀ {H' : Hp}, Dr d H' ((1 : Nat) : Int) → H' d ≠ none := fun h => by
        obtain ⟨x, b, _, _, hd⟩ := h
        rw [hd]
        exact fun z => nomatch z
      refine q_asgL (xs := ([1] : List Int).map V.int) (el_lst (vs := [.int 1]) (by one_place) (by decide)) fun f0 H3 nf0 e3 h3 => ?_
      have f0d : f0 ≠ d := fun z => used d2 (by rw [← z]; exact nf0)
      refine q_asg (v := .int 1) ev_c fun H4 e4 => ?_
      refine q_forNx (d := d) (k := 1) (by one_place) ((d2.ex e3).ex e4) (by decide) fun m H5 m1 m4 E5 d5 => ?_
      have h5 := E5 f0 _ f0d (e4 _ _ h3)
      have hp5 := E5 p _ pd ((e3.trans e4) _ _ hp2)
      refine q_forR1 (n := m) (ea_cons ev_c ea_nil) (by omega) (fun i σ' H' => ∃ fp G cc y6 y7 y8, σ' = [some (.ref a), some (.int c), some (.ref d), some (.int (n : Nat)), some (.ref fp), some (.int cc), y6, y7, y8, x9, x10, x11] ∧ H' p = some (.lst (cutV (ns.map V.int) none (some 4) ++ [V.int 0])) ∧ Dr d H' ((2 + 2 * i : Nat) : Int) ∧ fp ≠ d ∧ H' fp = some (.lst (G.map V.int)) ∧ AccOk n i G cc)
        (fun H6 e6 => ⟨f0, [1], 1, x6, x7, x8, rfl, e6 _ _ hp5, d5.ex e6, f0d, e6 _ _ h5, acc_one n2⟩) (fun i σ' H6 hi h => ?_) (fun σ' H6 h => ?_)
      · obtain ⟨fp, G, cc, y6, y7, y8, rfl, hp6, d6, fpd, h6, A6⟩ := h
        have i4 : i < 4 := by omega
        refine q_asgFac O n2 (d := d) (k := 2 + 2 * i) (by one_place) d6 (by omega) fun g e gp H7 B E7 d7 h7 => ?_
        have h6' := E7 fp _ fpd h6
        have hp7 := E7 p _ pd hp6
        have fl := A6.len
        have gl := B.len
        refine q_asgL (xs := (mulP G g).map V.int) (el_cal (vs := [.ref fp, .ref gp]) (by one_place) fun H8 e8 Q kk E => ⟨fp, gp, G, g, 1 + 600 * i, 256, rfl, SqL.of (e8 _ _ h6'), SqL.of (e8 _ _ h7), by omega, by omega, A6.bd, B.bd, by omega, kk⟩) fun np H8 nnp e8 h8 => ?_
        have npd : np ≠ d := fun z => by
          obtain ⟨x, b, _, _, hd⟩ := d7
          rw [z, hd] at nnp
          cases nnp
        refine s_asg (v := .int (cc * e)) (ev_mul (ev_var rfl) (ev_var rfl) (wide_mul (a := 32001) (b := 8000) (Nat.lt_of_lt_of_le A6.cb (Nat.pow_le_pow_right (by decide) (by omega))) B.cb (by decide) (by decide) (by decide))) fun H9 e9 => ⟨np, mulP G g, cc * e, _, _, _, rfl, (e8.trans e9) _ _ hp7, (d7.ex e8).ex e9, npd, e9 _ _ h8, acc_step n2 i4 A6 B⟩
      · obtain ⟨fp, G, cc, y6, y7, y8, rfl, hp6, d6, fpd, h6, A6⟩ := h
        have it4 : m.toNat ≤ 4 := by omega
        generalize m.toNat = mi at *
        have fl := A6.len
        have ll := layK_len (n := n) G
        refine q_asgL (xs := (List.replicate n (0 : Int)).map V.int) (el_is (el_rep (k := (n : Nat)) (x := .int 0) (el_lst (by one_place) (by decide)) (ev_var rfl) (by omega) (by omega)) (by rw [List.map_replicate, Int.toNat_natCast])) fun t H7 nt e7 h7 => ?_
        refine q_forE (xs := G.map V.int) (by one_place) (SqL.of (e7 _ _ h6)) (fun i σ' H' => ∃ (z8 z10 : Option V), σ' = [some (.ref a), some (.int c), some (.ref d), some (.int (n : Nat)), some (.ref fp), some (.int cc), y6, y7, z8, some (.ref t), z10, x11] ∧ Ex H6 H' ∧ H' t = some (.lst ((layK n G i).map V.int)))
          (fun H8 e8 => ⟨_, _, rfl, e7.trans e8, e8 _ _ h7⟩) (fun i σ' H' _ hp => ?_) (fun i x σ' H' hx hp H8 e8 => ?_) (fun σ' H8 hp => ?_)
        · obtain ⟨_, _, _, e8, _⟩ := hp
          exact SqL.of (e8 _ _ h6)
        · obtain ⟨z8, z10, rfl, e9, h9⟩ := hp
          obtain ⟨z, hz, rfl⟩ := map_get hx
          have hzc : coef G i = z := coef_of hz
          have hm := Nat.mod_lt i (show 0 < n by omega)
          have ll := layK_len (n := n) G i
          refine s_setI (j := i % n) (b := coef (layK n G i) (i % n) + z) (e8 _ _ h9) (by one_place) (ev_is (ev_mod (ev_var rfl) (ev_var rfl) (by omega)) (by rw [Int.natCast_emod])) (by omega) (ev_add (ev_ixI (j := i % n) (SqL.of (e8 _ _ h9)) (ev_var rfl) (ev_is (ev_mod (ev_var rfl) (ev_var rfl) (by omega)) (by rw [Int.natCast_emod])) (coef_get (by omega))) (ev_var rfl)) fun H10 e10 => ⟨_, _, rfl, Ex.mut ((e9.trans e8).trans e10) nt, ?_⟩
          rw [upd_same]
          show _ = some (HO.lst (((layK n G i).set (i % n) (coef (layK n G i) (i % n) + coef G i)).map V.int))
          rw [hzc]
        · obtain ⟨z8, z10, rfl, e8, h8⟩ := hp
          rw [List.length_map] at h8
          have h8 : H8 t = some (.lst ((layF n G).map V.int)) := h8
          have hp8 := e8 _ _ hp6
          have tl := layF_len (n := n) G
          have tb : Bd 3000 (layF n G) := fun j => by
            have h1 := layK_bd (n := n) A6.bd G.length j
            have h2 : G.length ≤ 2 ^ 10 := by
              have : (2 : Nat) ^ 10 = 1024 := by decide
              omega
            have h3 : G.length * 2 ^ (1 + 600 * mi) ≤ 2 ^ 10 * 2 ^ 2401 := Nat.mul_le_mul h2 (Nat.pow_le_pow_right (by decide) (by omega))
            have h4 : (2 : Nat) ^ 10 * 2 ^ 2401 < 2 ^ 3000 := by
              rw [← Nat.pow_add]
              exact Nat.pow_lt_pow_right (by decide) (by decide)
            exact Nat.lt_of_le_of_lt h1 (Nat.lt_of_le_of_lt h3 h4)
          have nm := acc_norm n2 A6
          have ng := acc_nought n2 A6
          refine q_asg (v := .int cc) (ev_is (ev_cal (vs := [.ref t]) (z := .int (normF (layF n G))) (by one_place) fun H9 e9 Q kk E => ⟨t, _, rfl, SqL.of (e9 _ _ h8), by omega, by omega, tb, kk⟩) (by rw [nm])) fun H9 e9 => ?_
          refine q_when (b := false) (et_is (et_or (et_not (et_B (ev_isi (b := true) (ev_var rfl) tx_int (by decide +kernel)))) fun _ => et_or (et_B (ev_isi (b := false) (ev_var rfl) tx_int (by decide +kernel))) fun _ => et_test (ev_neI (i := cc) (j := cc) (ev_var rfl) (ev_var rfl))) (by rw [decide_eq_true rfl]; rfl)) (fun hb => nomatch hb) (fun _ H10 e10 => ?_)
          have h10 := (e9.trans e10) _ _ h8
          refine s_when (b := false) (et_is (et_test (ev_op (ev_nt0 (z := allZ (grF n (layF n G))) (f := grF n (layF n G)) (rows := wlF n (pwF n) (layF n G)) (evNt_cal (vs := [.ref t]) (by one_place) fun H11 e11 Q kk E => ⟨t, _, rfl, SqL.of (e11 _ _ h10), by omega, by omega, by rw [tl]; exact kk⟩)) (ev_eqI (ev_var rfl) ev_c) (rv_ne rfl))) (by rw [ng, decide_eq_true rfl]; rfl)) (fun hb => nomatch hb) (fun _ H11 e11 => ?_)
          exact ⟨_, _, _, _, _, _, _, _, _, _, _, rfl, (e9.trans (e10.trans e11)) _ _ hp8⟩
    · exact s_ret (v := .bl true) ev_c fun H11 e11 => q H11
end
theorem all_mk {l : PySem.W.OpenLaw} {w : World} {K : PySem.W.Frag} {h : Heap} {mg : Str → Option Value} {fa : Addr} (X : K.In h) (G : h.Ns mainGlobals mg) (hfa : mg "law" = some (.ref fa))
    {C_NoPart C_WheelError : Addr}
    {f0 f1 f2 f3 f4 f5 f6 f7 f8 f9 f10 f11 f12 f13 f14 f15 f16 f17 f18 f19 f20 f21 f22 f23 f24 f25 f26 f27 f28 : Addr} {od0 an0 od1 an1 od2 an2 od3 an3 od4 an4 od5 an5 od6 an6 od7 an7 od8 an8 od9 an9 od10 an10 od11 an11 od12 an12 od13 an13 od14 an14 od15 an15 od16 an16 od17 an17 od18 an18 od19 an19 od20 an20 od21 an21 od22 an22 od23 an23 od24 an24 od25 an25 od26 an26 od27 an27 od28 an28 : Option Addr} {sl0 sl1 sl2 sl3 sl4 sl5 sl6 sl7 sl8 sl9 sl10 sl11 sl12 sl13 sl14 sl15 sl16 sl17 sl18 sl19 sl20 sl21 sl22 sl23 sl24 sl25 sl26 sl27 sl28 : Array (Option Value)} {oc0 kV0 dc0 pm0 cd0 ct0 oc1 kV1 dc1 pm1 cd1 ct1 oc2 kV2 dc2 pm2 cd2 ct2 oc3 kV3 dc3 pm3 cd3 ct3 oc4 kV4 dc4 pm4 cd4 ct4 oc5 kV5 dc5 pm5 cd5 ct5 oc6 kV6 dc6 pm6 cd6 ct6 oc7 kV7 dc7 pm7 cd7 ct7 oc8 kV8 dc8 pm8 cd8 ct8 oc9 kV9 dc9 pm9 cd9 ct9 oc10 kV10 dc10 pm10 cd10 ct10 oc11 kV11 dc11 pm11 cd11 ct11 oc12 kV12 dc12 pm12 cd12 ct12 oc13 kV13 dc13 pm13 cd13 ct13 oc14 kV14 dc14 pm14 cd14 ct14 oc15 kV15 dc15 pm15 cd15 ct15 oc16 kV16 dc16 pm16 cd16 ct16 oc17 kV17 dc17 pm17 cd17 ct17 oc18 kV18 dc18 pm18 cd18 ct18 oc19 kV19 dc19 pm19 cd19 ct19 oc20 kV20 dc20 pm20 cd20 ct20 oc21 kV21 dc21 pm21 cd21 ct21 oc22 kV22 dc22 pm22 cd22 ct22 oc23 kV23 dc23 pm23 cd23 ct23 oc24 kV24 dc24 pm24 cd24 ct24 oc25 kV25 dc25 pm25 cd25 ct25 oc26 kV26 dc26 pm26 cd26 ct26 oc27 kV27 dc27 pm27 cd27 ct27 oc28 kV28 dc28 pm28 cd28 ct28 : Value}
    (a0 : PySem.W.nsIn K mainGlobals "parted" = some (some (.ref f0))) (l0 : K.lookup f0 = some ⟨oc0, od0, .func (PySem.W.fnOf "parted" "parted" (defArgs s_parted) (defBody s_parted) (defScope s_parted) .none kV0 dc0 pm0 an0 cd0 ct0), sl0⟩) (c0 : PySem.W.codeIn K cd0 "parted" = true) (k0 : PySem.W.keepIn K (.ref f0) = true)
    (a1 : PySem.W.nsIn K mainGlobals "units" = some (some (.ref f1))) (l1 : K.lookup f1 = some ⟨oc1, od1, .func (PySem.W.fnOf "units" "units" (defArgs s_units) (defBody s_units) (defScope s_units) .none kV1 dc1 pm1 an1 cd1 ct1), sl1⟩) (c1 : PySem.W.codeIn K cd1 "units" = true) (k1 : PySem.W.keepIn K (.ref f1) = true)
    (a2 : PySem.W.nsIn K mainGlobals "sum_times" = some (some (.ref f2))) (l2 : K.lookup f2 = some ⟨oc2, od2, .func (PySem.W.fnOf "sum_times" "sum_times" (defArgs s_sum_times) (defBody s_sum_times) (defScope s_sum_times) .none kV2 dc2 pm2 an2 cd2 ct2), sl2⟩) (c2 : PySem.W.codeIn K cd2 "sum_times" = true) (k2 : PySem.W.keepIn K (.ref f2) = true)
    (a3 : PySem.W.nsIn K mainGlobals "powers_of" = some (some (.ref f3))) (l3 : K.lookup f3 = some ⟨oc3, od3, .func (PySem.W.fnOf "powers_of" "powers_of" (defArgs s_powers_of) (defBody s_powers_of) (defScope s_powers_of) .none kV3 dc3 pm3 an3 cd3 ct3), sl3⟩) (c3 : PySem.W.codeIn K cd3 "powers_of" = true) (k3 : PySem.W.keepIn K (.ref f3) = true)
    (a4 : PySem.W.nsIn K mainGlobals "grounded" = some (some (.ref f4))) (l4 : K.lookup f4 = some ⟨oc4, od4, .func (PySem.W.fnOf "grounded" "grounded" (defArgs s_grounded) (defBody s_grounded) (defScope s_grounded) .none kV4 dc4 pm4 an4 cd4 ct4), sl4⟩) (c4 : PySem.W.codeIn K cd4 "grounded" = true) (k4 : PySem.W.keepIn K (.ref f4) = true)
    (a5 : PySem.W.nsIn K mainGlobals "all_noughts" = some (some (.ref f5))) (l5 : K.lookup f5 = some ⟨oc5, od5, .func (PySem.W.fnOf "all_noughts" "all_noughts" (defArgs s_all_noughts) (defBody s_all_noughts) (defScope s_all_noughts) .none kV5 dc5 pm5 an5 cd5 ct5), sl5⟩) (c5 : PySem.W.codeIn K cd5 "all_noughts" = true) (k5 : PySem.W.keepIn K (.ref f5) = true)
    (a6 : PySem.W.nsIn K mainGlobals "nought" = some (some (.ref f6))) (l6 : K.lookup f6 = some ⟨oc6, od6, .func (PySem.W.fnOf "nought" "nought" (defArgs s_nought) (defBody s_nought) (defScope s_nought) .none kV6 dc6 pm6 an6 cd6 ct6), sl6⟩) (c6 : PySem.W.codeIn K cd6 "nought" = true) (k6 : PySem.W.keepIn K (.ref f6) = true)
    (a7 : PySem.W.nsIn K mainGlobals "led" = some (some (.ref f7))) (l7 : K.lookup f7 = some ⟨oc7, od7, .func (PySem.W.fnOf "led" "led" (defArgs s_led) (defBody s_led) (defScope s_led) .none kV7 dc7 pm7 an7 cd7 ct7), sl7⟩) (c7 : PySem.W.codeIn K cd7 "led" = true) (k7 : PySem.W.keepIn K (.ref f7) = true)
    (a8 : PySem.W.nsIn K mainGlobals "rest_of" = some (some (.ref f8))) (l8 : K.lookup f8 = some ⟨oc8, od8, .func (PySem.W.fnOf "rest_of" "rest_of" (defArgs s_rest_of) (defBody s_rest_of) (defScope s_rest_of) .none kV8 dc8 pm8 an8 cd8 ct8), sl8⟩) (c8 : PySem.W.codeIn K cd8 "rest_of" = true) (k8 : PySem.W.keepIn K (.ref f8) = true)
    (a9 : PySem.W.nsIn K mainGlobals "whole_sum" = some (some (.ref f9))) (l9 : K.lookup f9 = some ⟨oc9, od9, .func (PySem.W.fnOf "whole_sum" "whole_sum" (defArgs s_whole_sum) (defBody s_whole_sum) (defScope s_whole_sum) .none kV9 dc9 pm9 an9 cd9 ct9), sl9⟩) (c9 : PySem.W.codeIn K cd9 "whole_sum" = true) (k9 : PySem.W.keepIn K (.ref f9) = true)
    (a10 : PySem.W.nsIn K mainGlobals "whole_of" = some (some (.ref f10))) (l10 : K.lookup f10 = some ⟨oc10, od10, .func (PySem.W.fnOf "whole_of" "whole_of" (defArgs s_whole_of) (defBody s_whole_of) (defScope s_whole_of) .none kV10 dc10 pm10 an10 cd10 ct10), sl10⟩) (c10 : PySem.W.codeIn K cd10 "whole_of" = true) (k10 : PySem.W.keepIn K (.ref f10) = true)
    (a11 : PySem.W.nsIn K mainGlobals "norm" = some (some (.ref f11))) (l11 : K.lookup f11 = some ⟨oc11, od11, .func (PySem.W.fnOf "norm" "norm" (defArgs s_norm) (defBody s_norm) (defScope s_norm) .none kV11 dc11 pm11 an11 cd11 ct11), sl11⟩) (c11 : PySem.W.codeIn K cd11 "norm" = true) (k11 : PySem.W.keepIn K (.ref f11) = true)
    (a12 : PySem.W.nsIn K mainGlobals "trimmed" = some (some (.ref f12))) (l12 : K.lookup f12 = some ⟨oc12, od12, .func (PySem.W.fnOf "trimmed" "trimmed" (defArgs s_trimmed) (defBody s_trimmed) (defScope s_trimmed) .none kV12 dc12 pm12 an12 cd12 ct12), sl12⟩) (c12 : PySem.W.codeIn K cd12 "trimmed" = true) (k12 : PySem.W.keepIn K (.ref f12) = true)
    (a13 : PySem.W.nsIn K mainGlobals "times" = some (some (.ref f13))) (l13 : K.lookup f13 = some ⟨oc13, od13, .func (PySem.W.fnOf "times" "times" (defArgs s_times) (defBody s_times) (defScope s_times) .none kV13 dc13 pm13 an13 cd13 ct13), sl13⟩) (c13 : PySem.W.codeIn K cd13 "times" = true) (k13 : PySem.W.keepIn K (.ref f13) = true)
    (a14 : PySem.W.nsIn K mainGlobals "over" = some (some (.ref f14))) (l14 : K.lookup f14 = some ⟨oc14, od14, .func (PySem.W.fnOf "over" "over" (defArgs s_over) (defBody s_over) (defScope s_over) .none kV14 dc14 pm14 an14 cd14 ct14), sl14⟩) (c14 : PySem.W.codeIn K cd14 "over" = true) (k14 : PySem.W.keepIn K (.ref f14) = true)
    (a15 : PySem.W.nsIn K mainGlobals "at_power" = some (some (.ref f15))) (l15 : K.lookup f15 = some ⟨oc15, od15, .func (PySem.W.fnOf "at_power" "at_power" (defArgs s_at_power) (defBody s_at_power) (defScope s_at_power) .none kV15 dc15 pm15 an15 cd15 ct15), sl15⟩) (c15 : PySem.W.codeIn K cd15 "at_power" = true) (k15 : PySem.W.keepIn K (.ref f15) = true)
    (a16 : PySem.W.nsIn K mainGlobals "root_poly" = some (some (.ref f16))) (l16 : K.lookup f16 = some ⟨oc16, od16, .func (PySem.W.fnOf "root_poly" "root_poly" (defArgs s_root_poly) (defBody s_root_poly) (defScope s_root_poly) .none kV16 dc16 pm16 an16 cd16 ct16), sl16⟩) (c16 : PySem.W.codeIn K cd16 "root_poly" = true) (k16 : PySem.W.keepIn K (.ref f16) = true)
    (a17 : PySem.W.nsIn K mainGlobals "_law_draws" = some (some (.ref f17))) (l17 : K.lookup f17 = some ⟨oc17, od17, .func (PySem.W.fnOf "_law_draws" "_law_draws" (defArgs s__law_draws) (defBody s__law_draws) (defScope s__law_draws) .none kV17 dc17 pm17 an17 cd17 ct17), sl17⟩) (c17 : PySem.W.codeIn K cd17 "_law_draws" = true) (k17 : PySem.W.keepIn K (.ref f17) = true)
    (a18 : PySem.W.nsIn K mainGlobals "_law_next" = some (some (.ref f18))) (l18 : K.lookup f18 = some ⟨oc18, od18, .func (PySem.W.fnOf "_law_next" "_law_next" (defArgs s__law_next) (defBody s__law_next) (defScope s__law_next) .none kV18 dc18 pm18 an18 cd18 ct18), sl18⟩) (c18 : PySem.W.codeIn K cd18 "_law_next" = true) (k18 : PySem.W.keepIn K (.ref f18) = true)
    (a19 : PySem.W.nsIn K mainGlobals "_law_common" = some (some (.ref f19))) (l19 : K.lookup f19 = some ⟨oc19, od19, .func (PySem.W.fnOf "_law_common" "_law_common" (defArgs s__law_common) (defBody s__law_common) (defScope s__law_common) .none kV19 dc19 pm19 an19 cd19 ct19), sl19⟩) (c19 : PySem.W.codeIn K cd19 "_law_common" = true) (k19 : PySem.W.keepIn K (.ref f19) = true)
    (a20 : PySem.W.nsIn K mainGlobals "_law_count" = some (some (.ref f20))) (l20 : K.lookup f20 = some ⟨oc20, od20, .func (PySem.W.fnOf "_law_count" "_law_count" (defArgs s__law_count) (defBody s__law_count) (defScope s__law_count) .none kV20 dc20 pm20 an20 cd20 ct20), sl20⟩) (c20 : PySem.W.codeIn K cd20 "_law_count" = true) (k20 : PySem.W.keepIn K (.ref f20) = true)
    (a21 : PySem.W.nsIn K mainGlobals "_law_units" = some (some (.ref f21))) (l21 : K.lookup f21 = some ⟨oc21, od21, .func (PySem.W.fnOf "_law_units" "_law_units" (defArgs s__law_units) (defBody s__law_units) (defScope s__law_units) .none kV21 dc21 pm21 an21 cd21 ct21), sl21⟩) (c21 : PySem.W.codeIn K cd21 "_law_units" = true) (k21 : PySem.W.keepIn K (.ref f21) = true)
    (a22 : PySem.W.nsIn K mainGlobals "_law_over" = some (some (.ref f22))) (l22 : K.lookup f22 = some ⟨oc22, od22, .func (PySem.W.fnOf "_law_over" "_law_over" (defArgs s__law_over) (defBody s__law_over) (defScope s__law_over) .none kV22 dc22 pm22 an22 cd22 ct22), sl22⟩) (c22 : PySem.W.codeIn K cd22 "_law_over" = true) (k22 : PySem.W.keepIn K (.ref f22) = true)
    (a23 : PySem.W.nsIn K mainGlobals "_law_root_poly" = some (some (.ref f23))) (l23 : K.lookup f23 = some ⟨oc23, od23, .func (PySem.W.fnOf "_law_root_poly" "_law_root_poly" (defArgs s__law_root_poly) (defBody s__law_root_poly) (defScope s__law_root_poly) .none kV23 dc23 pm23 an23 cd23 ct23), sl23⟩) (c23 : PySem.W.codeIn K cd23 "_law_root_poly" = true) (k23 : PySem.W.keepIn K (.ref f23) = true)
    (a24 : PySem.W.nsIn K mainGlobals "_law_value" = some (some (.ref f24))) (l24 : K.lookup f24 = some ⟨oc24, od24, .func (PySem.W.fnOf "_law_value" "_law_value" (defArgs s__law_value) (defBody s__law_value) (defScope s__law_value) .none kV24 dc24 pm24 an24 cd24 ct24), sl24⟩) (c24 : PySem.W.codeIn K cd24 "_law_value" = true) (k24 : PySem.W.keepIn K (.ref f24) = true)
    (a25 : PySem.W.nsIn K mainGlobals "_law_prime_of" = some (some (.ref f25))) (l25 : K.lookup f25 = some ⟨oc25, od25, .func (PySem.W.fnOf "_law_prime_of" "_law_prime_of" (defArgs s__law_prime_of) (defBody s__law_prime_of) (defScope s__law_prime_of) .none kV25 dc25 pm25 an25 cd25 ct25), sl25⟩) (c25 : PySem.W.codeIn K cd25 "_law_prime_of" = true) (k25 : PySem.W.keepIn K (.ref f25) = true)
    (a26 : PySem.W.nsIn K mainGlobals "_law_meeting" = some (some (.ref f26))) (l26 : K.lookup f26 = some ⟨oc26, od26, .func (PySem.W.fnOf "_law_meeting" "_law_meeting" (defArgs s__law_meeting) (defBody s__law_meeting) (defScope s__law_meeting) .none kV26 dc26 pm26 an26 cd26 ct26), sl26⟩) (c26 : PySem.W.codeIn K cd26 "_law_meeting" = true) (k26 : PySem.W.keepIn K (.ref f26) = true)
    (a27 : PySem.W.nsIn K mainGlobals "_law_factor" = some (some (.ref f27))) (l27 : K.lookup f27 = some ⟨oc27, od27, .func (PySem.W.fnOf "_law_factor" "_law_factor" (defArgs s__law_factor) (defBody s__law_factor) (defScope s__law_factor) .none kV27 dc27 pm27 an27 cd27 ct27), sl27⟩) (c27 : PySem.W.codeIn K cd27 "_law_factor" = true) (k27 : PySem.W.keepIn K (.ref f27) = true)
    (a28 : PySem.W.nsIn K mainGlobals "law" = some (some (.ref f28))) (l28 : K.lookup f28 = some ⟨oc28, od28, .func (PySem.W.fnOf "law" "law" (defArgs s_law) (defBody s_law) (defScope s_law) .none kV28 dc28 pm28 an28 cd28 ct28), sl28⟩) (c28 : PySem.W.codeIn K cd28 "law" = true) (k28 : PySem.W.keepIn K (.ref f28) = true)
    (z_len : PySem.W.nsIn K mainGlobals "len" = some none)    (z_range : PySem.W.nsIn K mainGlobals "range" = some none)    (z_max : PySem.W.nsIn K mainGlobals "max" = some none)    (z_list : PySem.W.nsIn K mainGlobals "list" = some none)    (z_int : PySem.W.nsIn K mainGlobals "int" = some none)    (z_bool : PySem.W.nsIn K mainGlobals "bool" = some none)    (z_tuple : PySem.W.nsIn K mainGlobals "tuple" = some none)    (z_isinstance : PySem.W.nsIn K mainGlobals "isinstance" = some none)    (z_enumerate : PySem.W.nsIn K mainGlobals "enumerate" = some none)    (z_reversed : PySem.W.nsIn K mainGlobals "reversed" = some none)    (z_sorted : PySem.W.nsIn K mainGlobals "sorted" = some none)    (z_zip : PySem.W.nsIn K mainGlobals "zip" = some none)    (z_all : PySem.W.nsIn K mainGlobals "all" = some none)    (z_str : PySem.W.nsIn K mainGlobals "str" = some none)    (z_min : PySem.W.nsIn K mainGlobals "min" = some none)    (z_sum : PySem.W.nsIn K mainGlobals "sum" = some none)    (z_any : PySem.W.nsIn K mainGlobals "any" = some none)    (z_set : PySem.W.nsIn K mainGlobals "set" = some none)    (z_abs : PySem.W.nsIn K mainGlobals "abs" = some none)    (z_dict : PySem.W.nsIn K mainGlobals "dict" = some none)
    (i_gcd : PySem.W.nsIn K mainGlobals "gcd" = some (some (.builtin "math.gcd")))
    (q1_NoPart : PySem.W.nsIn K mainGlobals "NoPart" = some (some (.ref C_NoPart)))
    (q2_NoPart : PySem.W.keepIn K (.ref C_NoPart) = true)
    (q3_NoPart : PySem.W.excIn K C_NoPart [.type "ValueError", .type "Exception", .type "BaseException", .type "object"] "ValueError.__new__" = true)
    (q4_NoPart : PySem.W.typeIn K (.ref C_NoPart) = some (.type "type"))
    (q5_NoPart : PySem.W.findIn K (.ref C_NoPart) "__getattribute__" = some (some (.builtin "BaseException.__getattribute__")))
    (q6_NoPart : PySem.W.findIn K (.ref C_NoPart) "__getattr__" = some none)
    (q7_NoPart : PySem.W.subIn K (.ref C_NoPart) (.type "BaseException") = some true)
    (q8_NoPart : PySem.W.hasDictIn K C_NoPart = true)
    (q9_NoPart : PySem.W.findIn K (.ref C_NoPart) "__class__" = some (some (.builtin "object.__class__")))
    (qa_NoPart : PySem.W.specialIn K (.builtin "object.__class__") "__get__" = some (some (.builtin "getset_descriptor.__get__")))
    (qb_NoPart : PySem.W.takesIn K (.builtin "object.__class__") = some true)
    (qc_NoPart : PySem.W.mroIn K C_NoPart (.type "object") = some true)
    (qd_NoPart : PySem.W.subIn K (.ref C_NoPart) (.ref C_NoPart) = some true)
    (qe_NoPart : PySem.W.subIn K (.ref C_NoPart) (.type "ValueError") = some true)
    (z_ValueError : PySem.W.nsIn K mainGlobals "ValueError" = some none)
    (q1_WheelError : PySem.W.nsIn K mainGlobals "WheelError" = some (some (.ref C_WheelError)))
    (q4_WheelError : PySem.W.typeIn K (.ref C_WheelError) = some (.type "type"))
    (q7_WheelError : PySem.W.subIn K (.ref C_WheelError) (.type "BaseException") = some true)
    (q8_WheelError : PySem.W.hasDictIn K C_WheelError = true)
    (qs_WheelError : PySem.W.subIn K (.ref C_NoPart) (.ref C_WheelError) = some true) :
    ∃ fd : FuncData, (∀ (s : Shared) (v : Value), BindsTo s fd ⟨[v], []⟩ [("_law_script", v)]) ∧ ∀ base : Heap, K.In base → base.Ns mainGlobals mg → FnOk l.prog w K mg base CX0 7 fa fd ["_law_script"] (spLaw K) := by
  have e := hfa.symm.trans (PySem.W.mg_of X G a28)
  cases e
  have nb : Nb mg := ⟨PySem.W.mg_none_of X G z_len, PySem.W.mg_none_of X G z_range, PySem.W.mg_none_of X G z_max, PySem.W.mg_none_of X G z_list, PySem.W.mg_none_of X G z_int, PySem.W.mg_none_of X G z_bool, PySem.W.mg_none_of X G z_tuple, PySem.W.mg_none_of X G z_isinstance, PySem.W.mg_none_of X G z_enumerate, PySem.W.mg_none_of X G z_reversed, PySem.W.mg_none_of X G z_sorted, PySem.W.mg_none_of X G z_zip, PySem.W.mg_none_of X G z_all, PySem.W.mg_none_of X G z_str, PySem.W.mg_none_of X G z_min, PySem.W.mg_none_of X G z_sum, PySem.W.mg_none_of X G z_any, PySem.W.mg_none_of X G z_set, PySem.W.mg_none_of X G z_abs, PySem.W.mg_none_of X G z_dict⟩
  have nb_gcd := PySem.W.mg_of X G i_gcd
  have x_NoPart : OwnX K mg "NoPart" C_NoPart := ⟨PySem.W.mg_of X G q1_NoPart, q2_NoPart, q3_NoPart, q4_NoPart, ⟨q5_NoPart, q6_NoPart, q7_NoPart, q8_NoPart, q9_NoPart, qa_NoPart, qb_NoPart, qc_NoPart⟩⟩
  have x_WheelError : GlX mg "WheelError" C_WheelError := ⟨PySem.W.mg_of X G q1_WheelError⟩
  have hex := PySem.W.exm_ref q7_WheelError q8_WheelError q4_WheelError qs_WheelError
  have d_parted : Dfn K mg "parted" ["n"] s_parted := by
    have F := fun_mk (st := s_parted) l0 c0 k0
    exact ⟨_, _, F, PySem.W.mg_of X G a0, F.binds (ps := ["n"]) fun _ _ _ _ _ _ us hl => match us, hl with | [_], _ => rfl⟩
  have d_units : Dfn K mg "units" ["n"] s_units := by
    have F := fun_mk (st := s_units) l1 c1 k1
    exact ⟨_, _, F, PySem.W.mg_of X G a1, F.binds (ps := ["n"]) fun _ _ _ _ _ _ us hl => match us, hl with | [_], _ => rfl⟩
  have d_sum_times : Dfn K mg "sum_times" ["one", "other"] s_sum_times := by
    have F := fun_mk (st := s_sum_times) l2 c2 k2
    exact ⟨_, _, F, PySem.W.mg_of X G a2, F.binds (ps := ["one", "other"]) fun _ _ _ _ _ _ us hl => match us, hl with | [_, _], _ => rfl⟩
  have d_powers_of : Dfn K mg "powers_of" ["n"] s_powers_of := by
    have F := fun_mk (st := s_powers_of) l3 c3 k3
    exact ⟨_, _, F, PySem.W.mg_of X G a3, F.binds (ps := ["n"]) fun _ _ _ _ _ _ us hl => match us, hl with | [_], _ => rfl⟩
  have d_grounded : Dfn K mg "grounded" ["some"] s_grounded := by
    have F := fun_mk (st := s_grounded) l4 c4 k4
    exact ⟨_, _, F, PySem.W.mg_of X G a4, F.binds (ps := ["some"]) fun _ _ _ _ _ _ us hl => match us, hl with | [_], _ => rfl⟩
  have d_all_noughts : Dfn K mg "all_noughts" ["numbers"] s_all_noughts := by
    have F := fun_mk (st := s_all_noughts) l5 c5 k5
    exact ⟨_, _, F, PySem.W.mg_of X G a5, F.binds (ps := ["numbers"]) fun _ _ _ _ _ _ us hl => match us, hl with | [_], _ => rfl⟩
  have d_nought : Dfn K mg "nought" ["some"] s_nought := by
    have F := fun_mk (st := s_nought) l6 c6 k6
    exact ⟨_, _, F, PySem.W.mg_of X G a6, F.binds (ps := ["some"]) fun _ _ _ _ _ _ us hl => match us, hl with | [_], _ => rfl⟩
  have d_led : Dfn K mg "led" ["some", "k"] s_led := by
    have F := fun_mk (st := s_led) l7 c7 k7
    exact ⟨_, _, F, PySem.W.mg_of X G a7, F.binds (ps := ["some", "k"]) fun _ _ _ _ _ _ us hl => match us, hl with | [_, _], _ => rfl⟩
  have d_rest_of : Dfn K mg "rest_of" ["some"] s_rest_of := by
    have F := fun_mk (st := s_rest_of) l8 c8 k8
    exact ⟨_, _, F, PySem.W.mg_of X G a8, F.binds (ps := ["some"]) fun _ _ _ _ _ _ us hl => match us, hl with | [_], _ => rfl⟩
  have d_whole_sum : Dfn K mg "whole_sum" ["n", "number"] s_whole_sum := by
    have F := fun_mk (st := s_whole_sum) l9 c9 k9
    exact ⟨_, _, F, PySem.W.mg_of X G a9, F.binds (ps := ["n", "number"]) fun _ _ _ _ _ _ us hl => match us, hl with | [_, _], _ => rfl⟩
  have d_whole_of : Dfn K mg "whole_of" ["some"] s_whole_of := by
    have F := fun_mk (st := s_whole_of) l10 c10 k10
    exact ⟨_, _, F, PySem.W.mg_of X G a10, F.binds (ps := ["some"]) fun _ _ _ _ _ _ us hl => match us, hl with | [_], _ => rfl⟩
  have d_norm : Dfn K mg "norm" ["some"] s_norm := by
    have F := fun_mk (st := s_norm) l11 c11 k11
    exact ⟨_, _, F, PySem.W.mg_of X G a11, F.binds (ps := ["some"]) fun _ _ _ _ _ _ us hl => match us, hl with | [_], _ => rfl⟩
  have d_trimmed : Dfn K mg "trimmed" ["numbers"] s_trimmed := by
    have F := fun_mk (st := s_trimmed) l12 c12 k12
    exact ⟨_, _, F, PySem.W.mg_of X G a12, F.binds (ps := ["numbers"]) fun _ _ _ _ _ _ us hl => match us, hl with | [_], _ => rfl⟩
  have d_times : Dfn K mg "times" ["f", "g"] s_times := by
    have F := fun_mk (st := s_times) l13 c13 k13
    exact ⟨_, _, F, PySem.W.mg_of X G a13, F.binds (ps := ["f", "g"]) fun _ _ _ _ _ _ us hl => match us, hl with | [_, _], _ => rfl⟩
  have d_over : Dfn K mg "over" ["f", "g"] s_over := by
    have F := fun_mk (st := s_over) l14 c14 k14
    exact ⟨_, _, F, PySem.W.mg_of X G a14, F.binds (ps := ["f", "g"]) fun _ _ _ _ _ _ us hl => match us, hl with | [_, _], _ => rfl⟩
  have d_at_power : Dfn K mg "at_power" ["f", "k"] s_at_power := by
    have F := fun_mk (st := s_at_power) l15 c15 k15
    exact ⟨_, _, F, PySem.W.mg_of X G a15, F.binds (ps := ["f", "k"]) fun _ _ _ _ _ _ us hl => match us, hl with | [_, _], _ => rfl⟩
  have d_root_poly : Dfn K mg "root_poly" ["n"] s_root_poly := by
    have F := fun_mk (st := s_root_poly) l16 c16 k16
    exact ⟨_, _, F, PySem.W.mg_of X G a16, F.binds (ps := ["n"]) fun _ _ _ _ _ _ us hl => match us, hl with | [_], _ => rfl⟩
  have d__law_draws : Dfn K mg "_law_draws" ["_law_cell"] s__law_draws := by
    have F := fun_mk (st := s__law_draws) l17 c17 k17
    exact ⟨_, _, F, PySem.W.mg_of X G a17, F.binds (ps := ["_law_cell"]) fun _ _ _ _ _ _ us hl => match us, hl with | [_], _ => rfl⟩
  have d__law_next : Dfn K mg "_law_next" ["_law_draws_here"] s__law_next := by
    have F := fun_mk (st := s__law_next) l18 c18 k18
    exact ⟨_, _, F, PySem.W.mg_of X G a18, F.binds (ps := ["_law_draws_here"]) fun _ _ _ _ _ _ us hl => match us, hl with | [_], _ => rfl⟩
  have d__law_common : Dfn K mg "_law_common" ["_law_one", "_law_other"] s__law_common := by
    have F := fun_mk (st := s__law_common) l19 c19 k19
    exact ⟨_, _, F, PySem.W.mg_of X G a19, F.binds (ps := ["_law_one", "_law_other"]) fun _ _ _ _ _ _ us hl => match us, hl with | [_, _], _ => rfl⟩
  have d__law_count : Dfn K mg "_law_count" ["_law_draws_here"] s__law_count := by
    have F := fun_mk (st := s__law_count) l20 c20 k20
    exact ⟨_, _, F, PySem.W.mg_of X G a20, F.binds (ps := ["_law_draws_here"]) fun _ _ _ _ _ _ us hl => match us, hl with | [_], _ => rfl⟩
  have d__law_units : Dfn K mg "_law_units" ["_law_n"] s__law_units := by
    have F := fun_mk (st := s__law_units) l21 c21 k21
    exact ⟨_, _, F, PySem.W.mg_of X G a21, F.binds (ps := ["_law_n"]) fun _ _ _ _ _ _ us hl => match us, hl with | [_], _ => rfl⟩
  have d__law_over : Dfn K mg "_law_over" ["_law_f", "_law_g"] s__law_over := by
    have F := fun_mk (st := s__law_over) l22 c22 k22
    exact ⟨_, _, F, PySem.W.mg_of X G a22, F.binds (ps := ["_law_f", "_law_g"]) fun _ _ _ _ _ _ us hl => match us, hl with | [_, _], _ => rfl⟩
  have d__law_root_poly : Dfn K mg "_law_root_poly" ["_law_n"] s__law_root_poly := by
    have F := fun_mk (st := s__law_root_poly) l23 c23 k23
    exact ⟨_, _, F, PySem.W.mg_of X G a23, F.binds (ps := ["_law_n"]) fun _ _ _ _ _ _ us hl => match us, hl with | [_], _ => rfl⟩
  have d__law_value : Dfn K mg "_law_value" ["_law_f", "_law_a"] s__law_value := by
    have F := fun_mk (st := s__law_value) l24 c24 k24
    exact ⟨_, _, F, PySem.W.mg_of X G a24, F.binds (ps := ["_law_f", "_law_a"]) fun _ _ _ _ _ _ us hl => match us, hl with | [_, _], _ => rfl⟩
  have d__law_prime_of : Dfn K mg "_law_prime_of" ["_law_number"] s__law_prime_of := by
    have F := fun_mk (st := s__law_prime_of) l25 c25 k25
    exact ⟨_, _, F, PySem.W.mg_of X G a25, F.binds (ps := ["_law_number"]) fun _ _ _ _ _ _ us hl => match us, hl with | [_], _ => rfl⟩
  have d__law_meeting : Dfn K mg "_law_meeting" ["_law_n", "_law_d"] s__law_meeting := by
    have F := fun_mk (st := s__law_meeting) l26 c26 k26
    exact ⟨_, _, F, PySem.W.mg_of X G a26, F.binds (ps := ["_law_n", "_law_d"]) fun _ _ _ _ _ _ us hl => match us, hl with | [_, _], _ => rfl⟩
  have d__law_factor : Dfn K mg "_law_factor" ["_law_n", "_law_draws_here"] s__law_factor := by
    have F := fun_mk (st := s__law_factor) l27 c27 k27
    exact ⟨_, _, F, PySem.W.mg_of X G a27, F.binds (ps := ["_law_n", "_law_draws_here"]) fun _ _ _ _ _ _ us hl => match us, hl with | [_, _], _ => rfl⟩
  have F := fun_mk (st := s_law) l28 c28 k28
  exact ⟨PySem.W.fnOf "law" "law" (defArgs s_law) (defBody s_law) (defScope s_law) .none kV28 dc28 pm28 an28 cd28 ct28, fun s v => .of_eq rfl, fun base _ _ => law_ok F nb nb_gcd (PySem.W.mg_none_of X G z_ValueError) (kit_VE qe_NoPart) x_NoPart x_WheelError hex d_parted d_units d_sum_times d_powers_of d_grounded d_all_noughts d_nought d_led d_rest_of d_whole_sum d_whole_of d_norm d_trimmed d_times d_over d_at_power d_root_poly d__law_draws d__law_next d__law_common d__law_count d__law_units d__law_over d__law_root_poly d__law_value d__law_prime_of d__law_meeting d__law_factor⟩
end Own
open PySem PySem.W PyProof.Rows
set_option maxHeartbeats 0 in
theorem PySem.Challenge.cw_rootwheel_k40_whole_norms_of_root_polyno_holds : PySem.Challenge.rw_rootwheel_k40_whole_norms_of_root_polyno.Holds := by
  w_on; o_law; k_head; (case hw => w_witness2)
  k_fill
  refine L2.walk_of (l := PySem.Challenge.rw_rootwheel_k40_whole_norms_of_root_polyno) (n := 63) (k := 7) (x := "_law_script") (CX := fun _ => L2.CX0) (sp := fun w => Own.spLaw _) rfl (by decide) rfl ⟨rfl, by decide, by decide⟩ (fun w h Y => PySem.W.kIn_of Y) ?F (fun _ _ a ns hl _ hS => ⟨a, ns, rfl, hS, hl, fun _ => rfl⟩) (fun _ _ _ _ _ h => h)
  case F =>
    intro w mg fa h KX G hmg
    refine' Own.all_mk KX G hmg ?a0 ?l0 ?c0 ?k0 ?a1 ?l1 ?c1 ?k1 ?a2 ?l2 ?c2 ?k2 ?a3 ?l3 ?c3 ?k3 ?a4 ?l4 ?c4 ?k4 ?a5 ?l5 ?c5 ?k5 ?a6 ?l6 ?c6 ?k6 ?a7 ?l7 ?c7 ?k7 ?a8 ?l8 ?c8 ?k8 ?a9 ?l9 ?c9 ?k9 ?a10 ?l10 ?c10 ?k10 ?a11 ?l11 ?c11 ?k11 ?a12 ?l12 ?c12 ?k12 ?a13 ?l13 ?c13 ?k13 ?a14 ?l14 ?c14 ?k14 ?a15 ?l15 ?c15 ?k15 ?a16 ?l16 ?c16 ?k16 ?a17 ?l17 ?c17 ?k17 ?a18 ?l18 ?c18 ?k18 ?a19 ?l19 ?c19 ?k19 ?a20 ?l20 ?c20 ?k20 ?a21 ?l21 ?c21 ?k21 ?a22 ?l22 ?c22 ?k22 ?a23 ?l23 ?c23 ?k23 ?a24 ?l24 ?c24 ?k24 ?a25 ?l25 ?c25 ?k25 ?a26 ?l26 ?c26 ?k26 ?a27 ?l27 ?c27 ?k27 ?a28 ?l28 ?c28 ?k28 ?z_len ?z_range ?z_max ?z_list ?z_int ?z_bool ?z_tuple ?z_isinstance ?z_enumerate ?z_reversed ?z_sorted ?z_zip ?z_all ?z_str ?z_min ?z_sum ?z_any ?z_set ?z_abs ?z_dict ?i_gcd ?q1_NoPart ?q2_NoPart ?q3_NoPart ?q4_NoPart ?q5_NoPart ?q6_NoPart ?q7_NoPart ?q8_NoPart ?q9_NoPart ?qa_NoPart ?qb_NoPart ?qc_NoPart ?qd_NoPart ?qe_NoPart ?z_ValueError ?q1_WheelError ?q4_WheelError ?q7_WheelError ?q8_WheelError ?qs_WheelError
    (case a0 => k_is)
    (case l0 => k_is)
    (case c0 => k_is)
    (case k0 => k_is)
    (case a1 => k_is)
    (case l1 => k_is)
    (case c1 => k_is)
    (case k1 => k_is)
    (case a2 => k_is)
    (case l2 => k_is)
    (case c2 => k_is)
    (case k2 => k_is)
    (case a3 => k_is)
    (case l3 => k_is)
    (case c3 => k_is)
    (case k3 => k_is)
    (case a4 => k_is)
    (case l4 => k_is)
    (case c4 => k_is)
    (case k4 => k_is)
    (case a5 => k_is)
    (case l5 => k_is)
    (case c5 => k_is)
    (case k5 => k_is)
    (case a6 => k_is)
    (case l6 => k_is)
    (case c6 => k_is)
    (case k6 => k_is)
    (case a7 => k_is)
    (case l7 => k_is)
    (case c7 => k_is)
    (case k7 => k_is)
    (case a8 => k_is)
    (case l8 => k_is)
    (case c8 => k_is)
    (case k8 => k_is)
    (case a9 => k_is)
    (case l9 => k_is)
    (case c9 => k_is)
    (case k9 => k_is)
    (case a10 => k_is)
    (case l10 => k_is)
    (case c10 => k_is)
    (case k10 => k_is)
    (case a11 => k_is)
    (case l11 => k_is)
    (case c11 => k_is)
    (case k11 => k_is)
    (case a12 => k_is)
    (case l12 => k_is)
    (case c12 => k_is)
    (case k12 => k_is)
    (case a13 => k_is)
    (case l13 => k_is)
    (case c13 => k_is)
    (case k13 => k_is)
    (case a14 => k_is)
    (case l14 => k_is)
    (case c14 => k_is)
    (case k14 => k_is)
    (case a15 => k_is)
    (case l15 => k_is)
    (case c15 => k_is)
    (case k15 => k_is)
    (case a16 => k_is)
    (case l16 => k_is)
    (case c16 => k_is)
    (case k16 => k_is)
    (case a17 => k_is)
    (case l17 => k_is)
    (case c17 => k_is)
    (case k17 => k_is)
    (case a18 => k_is)
    (case l18 => k_is)
    (case c18 => k_is)
    (case k18 => k_is)
    (case a19 => k_is)
    (case l19 => k_is)
    (case c19 => k_is)
    (case k19 => k_is)
    (case a20 => k_is)
    (case l20 => k_is)
    (case c20 => k_is)
    (case k20 => k_is)
    (case a21 => k_is)
    (case l21 => k_is)
    (case c21 => k_is)
    (case k21 => k_is)
    (case a22 => k_is)
    (case l22 => k_is)
    (case c22 => k_is)
    (case k22 => k_is)
    (case a23 => k_is)
    (case l23 => k_is)
    (case c23 => k_is)
    (case k23 => k_is)
    (case a24 => k_is)
    (case l24 => k_is)
    (case c24 => k_is)
    (case k24 => k_is)
    (case a25 => k_is)
    (case l25 => k_is)
    (case c25 => k_is)
    (case k25 => k_is)
    (case a26 => k_is)
    (case l26 => k_is)
    (case c26 => k_is)
    (case k26 => k_is)
    (case a27 => k_is)
    (case l27 => k_is)
    (case c27 => k_is)
    (case k27 => k_is)
    (case a28 => k_is)
    (case l28 => k_is)
    (case c28 => k_is)
    (case k28 => k_is)
    (case z_len => k_is)
    (case z_range => k_is)
    (case z_max => k_is)
    (case z_list => k_is)
    (case z_int => k_is)
    (case z_bool => k_is)
    (case z_tuple => k_is)
    (case z_isinstance => k_is)
    (case z_enumerate => k_is)
    (case z_reversed => k_is)
    (case z_sorted => k_is)
    (case z_zip => k_is)
    (case z_all => k_is)
    (case z_str => k_is)
    (case z_min => k_is)
    (case z_sum => k_is)
    (case z_any => k_is)
    (case z_set => k_is)
    (case z_abs => k_is)
    (case z_dict => k_is)
    (case i_gcd => k_is)
    (case q1_NoPart => k_is)
    (case q2_NoPart => k_is)
    (case q3_NoPart => k_exc)
    (case q4_NoPart => k_is)
    (case q5_NoPart => k_is)
    (case q6_NoPart => k_is)
    (case q7_NoPart => k_is)
    (case q8_NoPart => k_is)
    (case q9_NoPart => k_is)
    (case qa_NoPart => k_is)
    (case qb_NoPart => k_is)
    (case qc_NoPart => k_is)
    (case qd_NoPart => k_is)
    (case qe_NoPart => k_is)
    (case z_ValueError => k_is)
    (case q1_WheelError => k_is)
    (case q4_WheelError => k_is)
    (case q7_WheelError => k_is)
    (case q8_WheelError => k_is)
    (case qs_WheelError => k_is)


