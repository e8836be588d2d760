import PyProof.Rows.All
import Wide.All
import OpenK.AllK
import Wide.FinOn
import HandS.ForMost
import HandS.Strs
import HandS.DictComp
import HandS.IsInst
import HandS.Style
import HandS.Wide
import HandS.MakeKw
import HandS.MakeKwOnly
import HandS.Evl
import PySem.Challenge.RW_carrykeys_k01_schemas_told
set_option Elab.async false
set_option linter.all false
set_option maxRecDepth 100000
set_option maxHeartbeats 4000000

namespace My
open PySem PySem.Spec PyProof.Rows

def addOnce (l : List Str) (x : Str) : List Str := if l.any (· == x) then l else l ++ [x]
def onces (xs : List Str) : List Str := xs.foldl addOnce []
theorem onces_snoc (xs : List Str) (x : Str) : onces (xs ++ [x]) = addOnce (onces xs) x := by
  unfold onces
  rw [List.foldl_append]
  rfl
theorem addOnce_any (l : List Str) (x k : Str) : (addOnce l x).any (· == k) = (l.any (· == k) || decide (k = x)) := by
  unfold addOnce
  by_cases h : l.any (· == x) = true
  · rw [if_pos h]
    by_cases e : k = x
    · rw [e, h]; simp
    · simp [e]
  · rw [if_neg h, List.any_append]
    by_cases e : k = x
    · rw [e]; simp
    · have hb : (x == k) = false := by
        rw [beq_eq_false_iff_ne]
        exact fun q => e q.symm
      simp [hb, e]
theorem addOnce_len (l : List Str) (x : Str) : (addOnce l x).length = if l.any (· == x) then l.length else l.length + 1 := by
  unfold addOnce; split <;> simp
theorem onces_take (xs : List Str) (i : Nat) (h : i < xs.length) : onces (xs.take (i + 1)) = addOnce (onces (xs.take i)) xs[i] := by
  rw [List.take_succ_eq_append_getElem h, onces_snoc]
theorem onces_le (xs : List Str) : ∀ n, (onces (xs.take n)).length ≤ n
  | 0 => by simp [onces]
  | n + 1 => by
    by_cases h : n < xs.length
    · rw [onces_take xs n h, addOnce_len]
      have := onces_le xs n
      split <;> omega
    · rw [List.take_of_length_le (by omega)]
      have := onces_le xs n
      rw [List.take_of_length_le (by omega)] at this
      omega
theorem onces_nodup : ∀ (xs : List Str), xs.Nodup → onces xs = xs := by
  intro xs h
  have : ∀ n, n ≤ xs.length → onces (xs.take n) = xs.take n := by
    intro n
    induction n with
    | zero => intro _; simp [onces]
    | succ n ih =>
      intro hn
      have hlt : n < xs.length := by omega
      rw [onces_take xs n hlt, ih (by omega), List.take_succ_eq_append_getElem hlt]
      unfold addOnce
      rw [if_neg]
      intro q
      obtain ⟨y, hy, ey⟩ := List.any_eq_true.mp q
      have ey : y = xs[n] := beq_iff_eq.mp ey
      subst ey
      obtain ⟨j, hj, ej⟩ := List.getElem_of_mem hy
      rw [List.getElem_take] at ej
      have hjn : j < n := by
        rw [List.length_take] at hj; omega
      have := (List.getElem_inj h).mp ej
      omega
  have := this xs.length (Nat.le_refl _)
  rwa [List.take_length] at this
theorem onces_lt : ∀ (xs : List Str), ¬ xs.Nodup → (onces xs).length < xs.length := by
  intro xs
  have key : ∀ n, n ≤ xs.length → ((onces (xs.take n)).length = n → (xs.take n).Nodup ∧ onces (xs.take n) = xs.take n) := by
    intro n
    induction n with
    | zero => intro _ _; simp [onces]
    | succ n ih =>
      intro hn he
      have hlt : n < xs.length := by omega
      rw [onces_take xs n hlt, addOnce_len] at he
      have hle := onces_le xs n
      by_cases ha : (onces (xs.take n)).any (· == xs[n]) = true
      · rw [if_pos ha] at he; omega
      · rw [if_neg ha] at he
        obtain ⟨h1, h2⟩ := ih (by omega) (by omega)
        rw [onces_take xs n hlt, List.take_succ_eq_append_getElem hlt]
        unfold addOnce
        rw [if_neg ha, h2]
        refine ⟨L2.nd_snoc h1 fun m => ha ?_, rfl⟩
        rw [h2]
        exact List.any_eq_true.mpr ⟨_, m, beq_self_eq_true _⟩
  intro h
  have h1 := onces_le xs xs.length
  rw [List.take_length] at h1
  by_cases e : (onces xs).length = xs.length
  · have := (key xs.length (Nat.le_refl _) (by rw [List.take_length]; exact e)).1
    rw [List.take_length] at this
    exact absurd this h
  · omega

section
variable {prog : Program} {w : World} {A : Around} {R : Result → Shared → Prop} {It : Addr} {fp wr : List Addr} {G : Array GenState → Array GenState → Prop} {n : Nat} {Pv : Nat → Value → Prop} {Stn : Nat → Shared → Prop}
theorem fills (W : WalksS prog w A.in1 It fp wr G n Pv Stn) (D : Addr) (hD : D ∉ fp) (xs : List Str) (hl : xs.length = n) (hb : n + 1 < scanBound)
    (hv : ∀ i v, Pv i v → ∃ t, v = .str (xs.getD i Str.empty) t) :
    ∀ (k i : Nat) (s0 : Shared), n - i = k → i ≤ n → Stn i s0 →
      s0.heap.SetOf (PySem.strKind prog w) D (fun y => (onces (xs.take i)).any (· == y)) (onces (xs.take i)).length →
      (∀ s9, Moved (D :: wr) G s0 s9 → s9.heap.SetOf (PySem.strKind prog w) D (fun y => (onces xs).any (· == y)) (onces xs).length → R (.ok (.ret .none)) s9) →
      codeAny (model prog w) A (.builtin "set.update.loop" ⟨[.ref D, .ref It], []⟩) R s0 := by
  have hDw : D ∉ wr := fun q => hD (W.sub _ q)
  have hin : ∀ b ∈ wr, b ∈ D :: wr := fun b q => List.mem_cons_of_mem _ q
  intro k
  induction k with
  | zero =>
    intro i s0 hk hi hst hS hR
    obtain rfl : i = n := by omega
    refine codeAny_builtin (R := R) PyProof.Rows.F.entry_set_update_loop ?_
    rw [Around.under_plainId (PyProof.Rows.F.plain_set_update_loop) _]
    show wpAny _ A.in1 (pyNext (.ref It) >>= _) _ _ s0
    refine wpAny_bind (W.done s0 _ _ hst fun s9 hm => ?_)
    show wpAny _ A.in1 (ret Value.none) _ _ s9
    refine wpAny_pure (hR s9 (hm.mono hin) ?_)
    obtain ⟨o, es, ep, t, ho, more⟩ := hS
    rw [List.take_of_length_le (by omega)] at more
    exact ⟨o, es, ep, t, hm.heap D _ hDw ho, more⟩
  | succ k ih =>
    intro i s0 hk hi hst hS hR
    have hlt : i < n := by omega
    have hx : i < xs.length := by omega
    refine codeAny_builtin (R := R) PyProof.Rows.F.entry_set_update_loop ?_
    rw [Around.under_plainId (PyProof.Rows.F.plain_set_update_loop) _]
    show wpAny _ A.in1 (pyNext (.ref It) >>= _) _ _ s0
    refine wpAny_bind (W.item i s0 _ _ hlt hst fun v s9 hP hst9 hm => ?_)
    obtain ⟨t, rfl⟩ := hv i v hP
    have ex : xs.getD i Str.empty = xs[i] := by
      rw [List.getD_eq_getElem?_getD, List.getElem?_eq_getElem hx]
      rfl
    rw [ex]
    have hS9 : s9.heap.SetOf (PySem.strKind prog w) D (fun y => (onces (xs.take i)).any (· == y)) (onces (xs.take i)).length := by
      obtain ⟨o, es, ep, tb, ho, more⟩ := hS
      exact ⟨o, es, ep, tb, hm.heap D _ hDw ho, more⟩
    show wpAny _ A.in1 (holding [Value.str (xs[i]) t] (setAdd D (.str (xs[i]) t)) >>= _) _ _ s9
    refine wpAny_bind (wpAny_holding ?_)
    unfold setAdd
    refine wpAny_holding ?_
    refine wpAny_bind ((PySem.strKind prog w).pyHash (k := xs[i]) (strKind_is _ _ _ _) ?_)
    have room : (onces (xs.take i)).length + 1 < scanBound := by
      have := onces_le xs i
      omega
    refine wpAny_setAddHashed_of (knd := PySem.strKind prog w) (s := { s9 with toks := s9.toks + 1 }) (strKind_is _ _ _ _) rfl hS9 room fun h9 sb hS2 => ?_
    have hSn : h9.SetOf (PySem.strKind prog w) D (fun y => (onces (xs.take (i + 1))).any (· == y)) (onces (xs.take (i + 1))).length :=
      SetOf_congr hS2 (fun y => by rw [onces_take xs i hx, addOnce_any]) (by rw [onces_take xs i hx, addOnce_len])
    refine wpAny_pure ⟨plainId_quiet (PyProof.Rows.F.plain_set_update_loop) _, ih (i + 1) _ (by omega) hlt (W.frame _ s9 _ _ hst9 (Nat.le_succ _) fun b q o e => ?_) hSn fun z hmz hSz => ?_⟩
    · rw [sb.2 b (fun r : b = D => hD (by rw [← r]; exact q))]
      exact e
    · refine hR z (Moved.trans W.gtrans ((hm.mono hin).then_heap (Nat.le_succ _) fun b o q e => ?_) hmz) hSz
      rw [sb.2 b (fun r : b = D => q (by rw [r]; exact List.mem_cons_self))]
      exact e
end
section
variable {prog : Program} {w : World} {A : Around} {E : Value → Shared → Prop} {s : Shared}
abbrev emptySet (led : Bool) : Obj := { cls := .type "set", dict := none, data := .set #[] 0 (.fresh 0 0 led) }
theorem made_set {l : Addr} {its : Array Value} {xs : List Str} {Q : Value → Shared → Prop}
    (calm : A.handled = none) (hl : s.heap.IsList l its) (hi : StrsAre its.toList xs) (hb : its.size + 1 < scanBound) (hn : xs.length = its.size)
    (h : ∀ (h9 : Heap) (tk : Nat), h9.SetOf (PySem.strKind prog w) s.heap.objs.size (fun y => (onces xs).any (· == y)) (onces xs).length →
      (∀ b o, b < s.heap.objs.size → s.heap.get? b = some o → h9.get? b = some o) → Q (.ref s.heap.objs.size) { s with heap := h9, toks := tk }) :
    wpAny (model prog w) A (call (.type "set") [.ref l]) Q E s := by
  obtain ⟨c, tl, hmro⟩ := (PySem.F.called_set).mro
  have made := (PySem.F.called_set).made
  have sub := (PySem.F.called_set).sub
  refine wpAny_call (codeAny_of_tree ?_)
  show wpAny _ _ (callAny (.type "set") _) _ _ _
  refine wpAny_pure ⟨Code.quiet_builtin _ (by decide +kernel), (codeAny_builtin PySem.F.entry_type_call ?_)⟩
  rw [Around.under_plain (weight_type_call_type "set" [.ref l] []) (by rfl)]
  have n1 := (PySem.F.called_set).notType
  have n2 := (PySem.F.called_set).canCreate
  have n3 := PySem.F.typeCall_set_1 (.ref l)
  repeat (any_goals (first | assumption | wp_step))
  refine codeAny_mono (code_set_new_1 (.ref l) (E := E) (Q₁ := fun ob s1 => ∃ led : Bool, ob = .ref s.heap.objs.size ∧ s1 = { s with heap := s.heap.push (emptySet led) }) fun led => ⟨led, rfl, rfl⟩) fun r s1 hr => ?_
  cases r with
  | error e => exact hr
  | ok fl =>
    cases fl with
    | ret ob =>
      obtain ⟨led, rfl, rfl⟩ := hr
      have hS : (s.heap.push (emptySet led)).get? s.heap.objs.size = some (emptySet led) := Heap.get?_push_size _ rfl
      have hT : Shared.TypeIs { s with heap := s.heap.push (emptySet led) } (.ref s.heap.objs.size) "set" := ⟨_, hS, rfl⟩
      have q1 := (PySem.F.called_set).init.lookup
      have q2 := (PySem.F.called_set).init.bind (.ref s.heap.objs.size)
      repeat (any_goals (first | assumption | wp_step))
      refine codeAny_mono (codeAny_call_builtin (R := wants (fun r s2 => r = .none ∧ ∃ h9 tk, s2 = { s with heap := h9, toks := tk } ∧
          h9.SetOf (PySem.strKind prog w) s.heap.objs.size (fun y => (onces xs).any (· == y)) (onces xs).length ∧
          (∀ b o, b < s.heap.objs.size → s.heap.get? b = some o → h9.get? b = some o)) E) (PySem.F.called_set).init.plain (PySem.F.entry_set_init) (check_set_init_1 hT ?_)) fun r2 s2 hr2 => ?_
      · obtain ⟨ol, hol, hcl, nl, hdl⟩ := hl
        obtain ⟨ocls, odict, odata, oslots⟩ := ol
        simp only at hcl hdl
        subst hcl
        subst hdl
        have hol2 : (s.heap.push (emptySet led)).get? l = some { cls := .type "list", dict := odict, data := .seq its nl, slots := oslots } := Heap.get?_push_of_some _ hol
        have u1 := PySem.F.sub_list_set
        have u2 := PySem.F.sub_list_frozenset
        have u3 : (Value.type "list" == Value.type "dict") = false := by decide
        have hl1 : (s.heap.push (emptySet led)).IsList l its := ⟨_, hol2, rfl, nl, rfl⟩
        unfold Builtin.«set.__init__» noKeywords Builtin.Frozenset.updateFrom
        generalize hPI : pyIter = PI
        wp_walk
        subst hPI
        refine wpAny_pyIter_list hl1 ?_
        refine wpAny_bind (wpAny_runValue ?_)
        have hlt : l < s.heap.objs.size := Heap.lt_size hol
        have calm3 : A.in1.in1.in1.handled = none := by simp [calm]
        have ne1 : l ≠ (s.heap.push (emptySet led)).objs.size := by
          rw [Heap.size_push]
          exact Nat.ne_of_lt (Nat.lt_succ_of_lt hlt)
        have ne2 : s.heap.objs.size ∉ [(s.heap.push (emptySet led)).objs.size, l] := by
          rw [Heap.size_push]
          simp only [List.mem_cons, List.mem_singleton, List.not_mem_nil, or_false, not_or]
          exact ⟨Nat.ne_of_lt (Nat.lt_succ_self _), Nat.ne_of_gt hlt⟩
        have hv : ∀ (i : Nat) (v : Value), its[i]? = some v → ∃ t, v = .str (xs.getD i Str.empty) t := fun i v e => SS.strs_at hi i v (by rw [Array.getElem?_toList]; exact e)
        refine fills ((Walks.list calm3 _ l ne1 its).toS) s.heap.objs.size ne2 xs hn hb hv (its.size - 0) 0 _ (by omega) (Nat.zero_le _)
          ⟨⟨_, Heap.get?_push_size _ rfl, rfl, rfl⟩, (hl1.push _)⟩ ?h0 ?h1
        case h0 =>
          have hg : ((s.heap.push (emptySet led)).push { cls := .type "list_iterator", data := .fields #[.ref l, .int 0 0] }).get? s.heap.objs.size = some (emptySet led) := Heap.get?_push_of_some _ hS
          exact SetOf_congr ((setObjOf_fresh (knd := PySem.strKind prog w) led).setOf hg (by unfold scanBound; omega)) (fun _ => rfl) rfl
        case h1 =>
          intro z hm hSz
          obtain ⟨h9, g9, d9, tk9, os9⟩ := z
          obtain rfl : g9 = s.gens := hm.gens
          obtain rfl : d9 = s.drawn := hm.drawn
          obtain rfl : os9 = s.os := hm.os
          show wpAny _ _ _ _ _ _
          refine wpAny_pure ?_
          show wpAny _ _ (ret Value.none) _ _ _
          refine wpAny_pure ⟨rfl, h9, tk9, rfl, hSz, fun b o hb e => ?_⟩
          have m1 : b ≠ s.heap.objs.size := Nat.ne_of_lt hb
          have m2 : b ≠ (s.heap.push (emptySet led)).objs.size := by
            rw [Heap.size_push]
            exact Nat.ne_of_lt (Nat.lt_succ_of_lt hb)
          exact hm.heap b o (by simp only [List.mem_cons, List.mem_singleton, List.not_mem_nil, or_false, not_or]; exact ⟨m1, m2⟩) (Heap.get?_push_of_some _ (Heap.get?_push_of_some _ e))
      · cases r2 with
        | error e => exact hr2
        | ok fl2 =>
          cases fl2 with
          | ret r =>
            obtain ⟨rfl, h9, tk, rfl, hSz, hkz⟩ := hr2
            repeat (any_goals (first | assumption | wp_step))
            exact h _ _ hSz hkz
          | _ => exact hr2.elim
    | _ => exact hr.elim
end
section
open L2
def tLenSetS (K : PySem.W.Frag) (ta : TE) : TE := fun σ H Q => ta σ H fun x H1 => ∃ (l : Addr) (xs : List Str), x = .ref l ∧ SqL K H1 l (xs.map V.str) ∧ xs.length ≤ 1000 ∧ Q (.int ((onces xs).length : Nat)) H1
theorem pe_lenSetS {X : Cx} {a : Expr} {ta : TE} {p p2 q pos : Pos} (hm : X.mg "len" = none) (hm2 : X.mg "set" = none) (ha : PE X a ta) (hg : Gl X "len" := by rfl) (hg2 : Gl X "set" := by rfl) (hc : X.calm = true := by rfl)
    (na : starEach [a] X.env = (false, eval a X.env) :: starEach [] X.env := by rfl) : PE X (.Call (.Name "len" p) [.Call (.Name "set" p2) [a] [] q] [] pos) (tLenSetS X.K ta) := by
  refine ⟨fun pins s σ H Q I h => Call_ (ld_blt I hg hm boot_len ?_)⟩
  refine callWith_builtin1 (args_cons (Call_ (ld_blt I hg2 hm2 boot_set ?_)) rfl) rfl rfl
  refine callWith_type1 (args_cons (thn (ha.run pins s σ H _ I h) fun v s1 ⟨x, H1, I1, r1, q1⟩ => args_nil ?_) na) na rfl
  obtain ⟨l, xs, rfl, hq, hz, q1⟩ := q1
  cases r1
  obtain ⟨its, r, pl, _⟩ := I1.list hq
  have hlen : its.toArray.size = xs.length := by rw [List.size_toArray, ← r.length, List.length_map]
  refine made_set (I1.ok.hd hc) pl.isList (by simpa using strsAre_of r) (by rw [hlen]; unfold scanBound; omega) hlen.symm fun h9 tk hS hk => args_nil ?_
  obtain ⟨o, es, ep, t, ho, hex, hd, _, _, _, hf, hn⟩ := hS
  have I2 : Inv X pins σ H1 { s1 with heap := h9, toks := tk } := I1.kept fun b o e => hk b o (Heap.lt_size e) e
  have hle := onces_le xs xs.length
  rw [List.take_length] at hle
  exact call_len_set ho hex hd hf (by rw [hn]; omega) ⟨.int ((onces xs).length : Nat), H1, I2.tok _, ⟨_, by rw [hn]⟩, q1⟩
end
end My
namespace My
open PySem PySem.Spec PyProof.Rows L2

structure DefAt (K : PySem.W.Frag) (mg : Str → Option Value) (x : Str) (st : Stmt) (ps : List Str) : Prop where
  ex : ∃ f fd, Fun K x x st f fd ∧ mg x = some (.ref f) ∧ Binds K fd ps []
structure MethAt (K : PySem.W.Frag) (C : Addr) (m q : Str) (st : Stmt) (ps : List Str) : Prop where
  ex : ∃ f fd, Fun K m q st f fd ∧ Meth K C m f ∧ Binds K fd ps []
structure ClassAt (K : PySem.W.Frag) (mg : Str → Option Value) (C : Addr) (x : Str) : Prop where
  mg : mg x = some (.ref C)
  cl : Cls K C
  makes : PySem.W.makesIn K C = true
  kp : PySem.W.keepIn K (.ref C) = true
structure CallOk (P : Program) (w : World) (K : PySem.W.Frag) (mg : Str → Option Value) (base : Heap) (k : Nat) (x : Str) (sp : Sp) : Prop where
  ex : ∃ f fd ps, FnOk P w K mg base CX0 k f fd ps sp ∧ mg x = some (.ref f) ∧ PySem.W.keepIn K (.ref f) = true ∧ Binds K fd ps []
structure MethOk (P : Program) (w : World) (K : PySem.W.Frag) (mg : Str → Option Value) (base : Heap) (k : Nat) (C : Addr) (m : Str) (sp : Sp) : Prop where
  ex : ∃ f fd ps, FnOk P w K mg base CX0 k f fd ps sp ∧ Meth K C m f ∧ Binds K fd ps [] ∧ Cls K C
structure MakeOk (P : Program) (w : World) (K : PySem.W.Frag) (mg : Str → Option Value) (base : Heap) (k : Nat) (C : Addr) (x : Str) (sp : Sp) : Prop where
  ex : ∃ f fd ps, FnOk P w K mg base CX0 k f fd ps sp ∧ Mk K C f ∧ Binds K fd ps [] ∧ mg x = some (.ref C)
section
variable {P : Program} {w : World} {K : PySem.W.Frag} {mg : Str → Option Value} {base : Heap} {k : Nat} {x m q : Str} {C : Addr} {sp : Sp} {N ps : List Str} {st : Stmt}
def BodyOk (P : Program) (w : World) (K : PySem.W.Frag) (mg : Str → Option Value) (base : Heap) (k : Nat) (N : List Str) (q : Str) (st : Stmt) (sp : Sp) : Prop :=
  ∀ (f : Addr) (cdv : Value) (A : Around) (outer : List Env) (s : Shared) (H : Hp) (vs : List V) (Q : VK) (E : XK), Room k (A.deeper (envOfC q (defScope st) s.heap.objs.size f cdv)) → sp vs H Q E →
    ∃ t, PSs (cxOf CX0 P w K mg base N q (defScope st) f cdv A outer s H E).nox (defBody st) t ∧ t { nx := fun _ H' => Q .non H', rt := Q } (start N vs) H
theorem DefAt.ok (D : DefAt K mg x st ps) (S : FnScope N ps (defScope st)) (len : ∀ vs H Q E, sp vs H Q E → vs.length = ps.length) (b : BodyOk P w K mg base k N x st sp) : CallOk P w K mg base (k + 1) x sp := by
  obtain ⟨f, fd, F, hm, hb⟩ := D.ex
  exact ⟨f, fd, ps, F.ok S len (fun cdv A outer s H vs Q E hr h => b f cdv A outer s H vs Q E hr h), hm, F.kp, hb⟩
theorem MethAt.ok (D : MethAt K C m q st ps) (c : Cls K C) (S : FnScope N ps (defScope st)) (len : ∀ vs H Q E, sp vs H Q E → vs.length = ps.length) (b : BodyOk P w K mg base k N q st sp) : MethOk P w K mg base (k + 1) C m sp := by
  obtain ⟨f, fd, F, hm, hb⟩ := D.ex
  exact ⟨f, fd, ps, F.ok S len (fun cdv A outer s H vs Q E hr h => b f cdv A outer s H vs Q E hr h), hm, hb, c⟩
theorem MethAt.make (D : MethAt K C "__init__" q st ps) (c : ClassAt K mg C x) (S : FnScope N ps (defScope st)) (len : ∀ vs H Q E, sp vs H Q E → vs.length = ps.length) (b : BodyOk P w K mg base k N q st sp) : MakeOk P w K mg base (k + 1) C x sp := by
  obtain ⟨f, fd, F, hm, hb⟩ := D.ex
  exact ⟨f, fd, ps, F.ok S len (fun cdv A outer s H vs Q E hr h => b f cdv A outer s H vs Q E hr h), ⟨c.makes, hm.at_, hm.fn, c.kp⟩, hb, c.mg⟩
end
structure MakeKOk (P : Program) (w : World) (K : PySem.W.Frag) (mg : Str → Option Value) (base : Heap) (k : Nat) (C : Addr) (x : Str) (n : Nat) (ks : List Str) (gV : List V → List V → List V) (sp : Sp) : Prop where
  ex : ∃ f fd ps g, FnOk P w K mg base CX0 k f fd ps sp ∧ Mk K C f ∧ KBn K fd ps (n + 1) ks g gV ∧ mg x = some (.ref C)
section
variable {P : Program} {w : World} {K : PySem.W.Frag} {mg : Str → Option Value} {base : Heap} {k n : Nat} {x m q : Str} {C : Addr} {sp : Sp} {N ps ks : List Str} {st : Stmt}
theorem MethAt.makeK (D : MethAt K C "__init__" q st ps) (c : ClassAt K mg C x) (S : FnScope N ps (defScope st)) (len : ∀ vs H Q E, sp vs H Q E → vs.length = ps.length) (b : BodyOk P w K mg base k N q st sp)
    (g : {α : Type} → List α → List α → List α) (hrel : ∀ {vs zs : List V} {us ws : List Value}, Vals vs us → Vals zs ws → Vals (g vs zs) (g us ws))
    (h : ∀ (kV doc pm : Value) (an : Option Addr) (cdv ct : Value) (us ws : List Value), us.length = n + 1 → ws.length = ks.length → bindArgs (PySem.W.fnOf "__init__" q (defArgs st) (defBody st) (defScope st) .none kV doc pm an cdv ct) ⟨us, ks.zip ws⟩ = pure (ps.zip (g us ws))) :
    MakeKOk P w K mg base (k + 1) C x n ks (fun vs zs => g vs zs) sp := by
  obtain ⟨f, fd, F, hm, hb⟩ := D.ex
  refine ⟨f, fd, ps, fun us ws => g us ws, F.ok S len (fun cdv A outer s H vs Q E hr h => b f cdv A outer s H vs Q E hr h), ⟨c.makes, hm.at_, hm.fn, c.kp⟩, ?_, c.mg⟩
  obtain ⟨oc, od, kV, doc, pm, an, cdv, ct, osl, rfl, lk, hcd⟩ := F.ex
  exact ⟨fun s us ws _ l1 l2 => .of_eq (h kV doc pm an cdv ct us ws l1 l2), fun r1 r2 => hrel r1 r2⟩
end
section
variable {X : Cx} {k : Nat} {x m : Str} {C : Addr} {sp : Sp} {p pos apos : Pos} {e o : Expr} {es : List Expr} {t tk : TA} {ta : TE} {kws : List Keyword} {ks : List Str} {gV : List V → List V → List V}
theorem pe_makeKC (G : MakeKOk X.prog X.w X.K X.mg X.base k C x 0 ks gV sp) (hr : Room (k + 1) X.A) (hkw : PK X kws tk) (hg : Gl X x := by rfl)
    (hall : (backToKw pos (keywordEach kws X.env)).all (·.1.isSome) = true := by rfl) (hks : (backToKw pos (keywordEach kws X.env)).filterMap (·.1) = ks := by rfl) (hdb : (x == ("__debug__" : Str)) = false := by decide)
    (hpl : ((backTo pos (starEach [] X.env)).any (·.1) || (backToKw pos (keywordEach kws X.env)).any (·.1.isNone)) = false := by rfl) : PE X (.Call (.Name x p) [] kws pos) (tMakeK C 0 ks.length sp gV E0 tNil tk) := by
  obtain ⟨f, fd, ps, g, F, hM, hb, hm⟩ := G.ex
  exact pe_makeK0 hM F hr hg hm hb pass0 hkw hall hks hdb hpl
theorem pe_callC (G : CallOk X.prog X.w X.K X.mg X.base k x sp) (hr : Room k X.A) (ha : PA X (e :: es) t) (hg : Gl X x := by rfl) (hdb : (x == ("__debug__" : Str)) = false := by decide)
    (he : starEach (e :: es) X.env = (false, eval e X.env) :: starEach es X.env := by rfl) (hpl : (backTo pos (starEach es X.env)).any (·.1) = false := by rfl) : PE X (.Call (.Name x p) (e :: es) [] pos) (tCall sp [] E0 t) := by
  obtain ⟨f, fd, ps, F, hm, hk, hb⟩ := G.ex
  exact pe_call F hr hg hm hk hb .nil pass0 ha hdb he hpl
theorem pe_makeC (G : MakeOk X.prog X.w X.K X.mg X.base k C x sp) (hr : Room (k + 1) X.A) (ha : PA X (e :: es) t) (hg : Gl X x := by rfl) (hdb : (x == ("__debug__" : Str)) = false := by decide)
    (he : starEach (e :: es) X.env = (false, eval e X.env) :: starEach es X.env := by rfl) (hpl : (backTo pos (starEach es X.env)).any (·.1) = false := by rfl) : PE X (.Call (.Name x p) (e :: es) [] pos) (tMake C sp [] E0 t) := by
  obtain ⟨f, fd, ps, F, hM, hb, hm⟩ := G.ex
  exact pe_make hM F hr hg hm hb .nil pass0 ha hdb he hpl
theorem pe_methC {pl : Sem Bool} (he : PE X o ta) (G : MethOk X.prog X.w X.K X.mg X.base k C m sp) (hr : Room k X.A) (ha : PA X (e :: es) t)
    (hst : starEach (e :: es) X.env = (false, eval e X.env) :: starEach es X.env := by rfl) (hpl : (backTo pos (starEach es X.env)).any (·.1) = false := by rfl)
    (ht : eval (.Call (.Attribute o m apos) (e :: es) [] pos) X.env = (do
      let ov ← eval o X.env
      standAt apos.atName
      let (f, first) ← holding [ov] (getMethod ov m pl)
      callWith pos f first (backTo pos (starEach (e :: es) X.env)) (backToKw pos (keywordEach [] X.env))) := by rfl) :
    PE X (.Call (.Attribute o m apos) (e :: es) [] pos) (tMeth C m sp [] E0 ta t) := by
  obtain ⟨f, fd, ps, F, hm, hb, c⟩ := G.ex
  exact pe_meth he c hm F hr hb .nil pass0 ha hst hpl ht
theorem pe_methC0 {pl : Sem Bool} (he : PE X o ta) (G : MethOk X.prog X.w X.K X.mg X.base k C m sp) (hr : Room k X.A)
    (ht : eval (.Call (.Attribute o m apos) [] [] pos) X.env = (do
      let ov ← eval o X.env
      standAt apos.atName
      let (f, first) ← holding [ov] (getMethod ov m pl)
      callWith pos f first (backTo pos (starEach [] X.env)) (backToKw pos (keywordEach [] X.env))) := by rfl) :
    PE X (.Call (.Attribute o m apos) [] [] pos) (tMeth C m sp [] E0 ta tNil) := by
  obtain ⟨f, fd, ps, F, hm, hb, c⟩ := G.ex
  exact pe_meth0 he c hm F hr hb .nil pass0 ht
theorem pe_globV {v : V} (h : ∃ u, X.mg x = some u ∧ RelV v u) (hg : Gl X x := by rfl) (hd : (x == ("__debug__" : Str)) = false := by decide) : PE X (.Name x pos) (tC v) := by
  obtain ⟨u, hm, r⟩ := h
  exact pe_glob hg hm r hd
end

section
variable {K : PySem.W.Frag} {h : Heap} {mg : Str → Option Value} {C f : Addr} {x m q : Str} {st : Stmt} {ps : List Str} {oc : Value} {od an : Option Addr} {osl : Array (Option Value)} {kV doc pm cdv ct : Value}
theorem defAt (X : K.In h) (G : h.Ns mainGlobals mg) (b : ∀ (kV doc pm : Value) (an : Option Addr) (cdv ct : Value) (us : List Value), us.length = ps.length → bindArgs (PySem.W.fnOf x x (defArgs st) (defBody st) (defScope st) .none kV doc pm an cdv ct) ⟨us, []⟩ = pure (ps.zip us))
    (a : PySem.W.nsIn K mainGlobals x = some (some (.ref f))) (l : K.lookup f = some ⟨oc, od, .func (PySem.W.fnOf x x (defArgs st) (defBody st) (defScope st) .none kV doc pm an cdv ct), osl⟩)
    (c : PySem.W.codeIn K cdv x = true) (k : PySem.W.keepIn K (.ref f) = true) : DefAt K mg x st ps :=
  ⟨f, _, fun_mk (st := st) l c k, PySem.W.mg_of X G a, (fun_mk (st := st) l c k).binds b⟩
theorem methAt (b : ∀ (kV doc pm : Value) (an : Option Addr) (cdv ct : Value) (us : List Value), us.length = ps.length → bindArgs (PySem.W.fnOf m q (defArgs st) (defBody st) (defScope st) .none kV doc pm an cdv ct) ⟨us, []⟩ = pure (ps.zip us))
    (a : PySem.W.findIn K (.ref C) m = some (some (.ref f))) (i : PySem.W.isFn K (.ref f) = true) (l : K.lookup f = some ⟨oc, od, .func (PySem.W.fnOf m q (defArgs st) (defBody st) (defScope st) .none kV doc pm an cdv ct), osl⟩)
    (c : PySem.W.codeIn K cdv q = true) (k : PySem.W.keepIn K (.ref f) = true) : MethAt K C m q st ps :=
  ⟨f, _, fun_mk (st := st) l c k, ⟨a, i, k⟩, (fun_mk (st := st) l c k).binds b⟩
theorem classAt (X : K.In h) (G : h.Ns mainGlobals mg) (a : PySem.W.nsIn K mainGlobals x = some (some (.ref C))) (pg : PySem.W.plainGet K C Str.empty = true) (hd : PySem.W.hasDictIn K C = true) (po : PySem.W.plainOver K C = true)
    (sa : PySem.W.findIn K (.ref C) "__setattr__" = some (some (.builtin "object.__setattr__"))) (mk : PySem.W.makesIn K C = true) (kc : PySem.W.keepIn K (.ref C) = true) : ClassAt K mg C x :=
  ⟨PySem.W.mg_of X G a, ⟨pg, hd, po, sa⟩, mk, kc⟩
theorem noAttr (a : PySem.W.findIn K (.ref C) x = some none) : NoAttr K C x := a
theorem constAt (X : K.In h) (G : h.Ns mainGlobals mg) {v : V} {u : Value} (a : PySem.W.nsIn K mainGlobals x = some (some u)) (r : RelV v u) : ∃ u, mg x = some u ∧ RelV v u := ⟨u, PySem.W.mg_of X G a, r⟩
end
section
variable {X : Cx} {K : PySem.W.Frag}
def rTupOf (K : PySem.W.Frag) : List V → Hp → VK → Prop := fun xs H Q => ∃ p ys, xs = [.ref p] ∧ ((SqL K H p ys ∧ ∀ l, H l = none → Q (.ref l) (upd H l (.tup ys))) ∨ (SqT K H p ys ∧ Q (.ref p) H))
def rListOf (K : PySem.W.Frag) : List V → Hp → VK → Prop := fun xs H Q => ∃ p ys, xs = [.ref p] ∧ (SqL K H p ys ∨ SqT K H p ys) ∧ ∀ l, H l = none → Q (.ref l) (upd H l (.lst ys))
def rLenOf (K : PySem.W.Frag) : List V → Hp → VK → Prop := fun xs H Q => ∃ p ys, xs = [.ref p] ∧ (SqL K H p ys ∨ SqT K H p ys) ∧ Q (.int ys.length) H
theorem kIxL (h : X.K = K := by rfl) : IxR X (rIxL K) := by subst h; exact ix_list
theorem kIxT (h : X.K = K := by rfl) : IxR X (rIxT K) := by subst h; exact ix_tup
theorem kIn (h : X.K = K := by rfl) : OpR X (compareOp .In) (rIn K false) := by subst h; exact op_in_seq
theorem kNotIn (h : X.K = K := by rfl) : OpR X (compareOp .NotIn) (rIn K true) := by subst h; exact op_notIn_seq
theorem kEqD (hu : X.A.units + 64 < cLine) (h : X.K = K := by rfl) : OpR X (compareOp .Eq) (rEqD K) := by subst h; exact op_eqD hu
theorem kNeD (hu : X.A.units + 64 < cLine) (h : X.K = K := by rfl) : OpR X (compareOp .NotEq) (rNeD K) := by subst h; exact op_neD hu
theorem kLen (h : X.K = K := by rfl) : CallR X (.builtin "len") (rLenOf K) := by subst h; exact call_len_seq
theorem kAll (hc : X.calm = true) (h : X.K = K := by rfl) : CallR X (.builtin "all") (rAll K) := by subst h; exact cr_all hc
theorem kAny (hc : X.calm = true) (h : X.K = K := by rfl) : CallR X (.builtin "any") (rAny K) := by subst h; exact cr_any hc
theorem kSum (hc : X.calm = true) (h : X.K = K := by rfl) : CallR X (.builtin "sum") (rSum K) := by subst h; exact cr_sum hc
theorem kMax (hc : X.calm = true) (h : X.K = K := by rfl) : CallR X (.builtin "max") (rMax K) := by subst h; exact cr_max hc
theorem kIsi (h : X.K = K := by rfl) : CallR X (.builtin "isinstance") (rIsi K) := by subst h; exact call_isi
theorem kTup (h : X.K = K := by rfl) : CallR X (.type "tuple") (rTupOf K) := by subst h; exact call_tuple_of
theorem kList (h : X.K = K := by rfl) : CallR X (.type "list") (rListOf K) := by subst h; exact call_list_of
theorem kFld {e : Expr} {f : Str} {pos : Pos} {ta : TE} (he : PE X e ta) (hb : attributeBase e f X.env (eval e X.env) = eval e X.env) (h : X.K = K := by rfl) : PE X (.Attribute e f pos) (tFld K ta f) := by subst h; exact pe_fld he hb
theorem kPiL {tg l : Expr} {tl : TE} (hl : PE X l tl) (h : X.K = K := by rfl) : PI X tg l (iList K tl) := by subst h; exact pi_list hl
theorem kPiT {tg l : Expr} {tl : TE} (hl : PE X l tl) (h : X.K = K := by rfl) : PI X tg l (iTup K tl) := by subst h; exact pi_tup hl
theorem kPgT {es : List Expr} {k : Nat} {t : TGs} {n : Nat} {pos : Pos} (hc : X.calm = true) (hp : PGs X es t) (h : X.K = K := by rfl)
    (hn : (assignEach es X.env).length = n := by rfl) (hst : (assignEach es X.env).findIdx? (·.1) = none := by rfl) : PG X (.Tuple es k pos) (gTup K n t) := by subst h; exact pg_tup hc hp hn hst
end
def Fr1 (a : Addr) (H H' : Hp) : Prop := ∀ c o, c ≠ a → H c = some o → H' c = some o
theorem Fr1.refl (a : Addr) (H : Hp) : Fr1 a H H := fun _ _ _ h => h
theorem Fr1.trans {a : Addr} {H H1 H2 : Hp} (e : Fr1 a H H1) (f : Fr1 a H1 H2) : Fr1 a H H2 := fun c o n h => f c o n (e c o n h)
theorem Fr1.of {a : Addr} {H H' : Hp} (e : Same H H') : Fr1 a H H' := fun c o _ h => e c o h
theorem Fr1.upd {a p : Addr} {H H' : Hp} {o : HO} (e : Fr1 a H H') (h : H p = none) : Fr1 a H (upd H' p o) := fun c u n hc => by
  rw [upd_ne (ne_of_none hc h)]
  exact e c u n hc
theorem Fr1.at {a : Addr} {H H' : Hp} {o : HO} (e : Fr1 a H H') : Fr1 a H (L2.upd H' a o) := fun c u n hc => by
  rw [upd_ne n]
  exact e c u n hc
theorem Fr1.free {a p : Addr} {H H' : Hp} (e : Fr1 a H H') (n : p ≠ a) (h : H' p = none) : H p = none := by
  cases q : H p with
  | none => rfl
  | some o =>
    rw [e p o n q] at h
    cases h
theorem Same.upd {p : Addr} {H H' : Hp} {o : HO} (e : Same H H') (h : H p = none) : Same H (L2.upd H' p o) := fun c u hc => by
  rw [upd_ne (ne_of_none hc h)]
  exact e c u hc
theorem Same.fr1 {a : Addr} {H H1 H2 : Hp} (e : Same H H1) (f : Fr1 a H1 H2) (h : H a = none) : Same H H2 := fun c o hc => f c o (ne_of_none hc h) (e c o hc)
theorem Same.made' {H H' : Hp} {x dx C : Addr} (nx : H x = none) (nd : H dx = none) (e : Fr1 x (L2.upd (L2.upd H dx (.own x)) x (.ins C dx [])) H') : Same H H' := fun c o hc => by
  refine e c o (ne_of_none hc nx) ?_
  rw [upd_ne (ne_of_none hc nx), upd_ne (ne_of_none hc nd)]
  exact hc
theorem Same.none {p : Addr} {H H' : Hp} (e : Same H H') (h : H' p = none) : H p = none := e.free h
theorem Same.upd' {p : Addr} {H H' : Hp} {o : HO} (e : Same H H') (h : H p = Option.none) : Same H (L2.upd H' p o) := Same.upd e h
def KT (H H' : Hp) : Prop := ∀ a xs, H a = some (.tup xs) → H' a = some (.tup xs)
theorem KT.refl (H : Hp) : KT H H := fun _ _ h => h
theorem KT.trans {H H1 H2 : Hp} (e : KT H H1) (f : KT H1 H2) : KT H H2 := fun a xs h => f a xs (e a xs h)
theorem KT.of {H H' : Hp} (e : Same H H') : KT H H' := fun a xs h => e a _ h
theorem Fr1.kt {a : Addr} {H H' : Hp} {xs : List V} (e : Fr1 a H H') (h : H a = some (.lst xs)) : KT H H' := fun c ys hc => e c _ (ne_of hc h (by intro z; cases z)) hc
theorem KT.upd {p : Addr} {H H' : Hp} {o : HO} (e : KT H H') (h : H p = none) : KT H (L2.upd H' p o) := fun c xs hc => by
  rw [upd_ne (ne_of_none hc h)]
  exact e c xs hc
theorem KT.updL {p : Addr} {H H' : Hp} {ys : List V} {o : HO} (e : KT H H') (h : H' p = some (.lst ys)) : KT H (L2.upd H' p o) := fun c xs hc => by
  have q := e c xs hc
  rw [upd_ne (ne_of q h (by intro z; cases z))]
  exact q

mutual
inductive Td (H : Hp) : V → PyData → Prop
  | non : Td H .non .none
  | bl (b : Bool) : Td H (.bl b) (.bool b)
  | int (i : Int) : Td H (.int i) (.int i)
  | str (x : Str) : Td H (.str x) (.str x)
  | tup {a : Addr} {xs : List V} {ds : List PyData} : H a = some (.tup xs) → TdAll H xs ds → Td H (.ref a) (.tuple ds)
inductive TdAll (H : Hp) : List V → List PyData → Prop
  | nil : TdAll H [] []
  | cons {v : V} {vs : List V} {d : PyData} {ds : List PyData} : Td H v d → TdAll H vs ds → TdAll H (v :: vs) (d :: ds)
end
section
variable {H H' : Hp} {K : PySem.W.Frag}
mutual
theorem Td.mono (e : KT H H') : ∀ {v : V} {d : PyData}, Td H v d → Td H' v d
  | _, _, .non => .non
  | _, _, .bl b => .bl b
  | _, _, .int i => .int i
  | _, _, .str x => .str x
  | _, _, .tup h r => .tup (e _ _ h) (TdAll.mono e r)
theorem TdAll.mono (e : KT H H') : ∀ {vs : List V} {ds : List PyData}, TdAll H vs ds → TdAll H' vs ds
  | _, _, .nil => .nil
  | _, _, .cons h r => .cons (Td.mono e h) (TdAll.mono e r)
end
mutual
theorem Td.dp : ∀ {v : V} {d : PyData}, Td H v d → Dp K H v d
  | _, _, .non => .non
  | _, _, .bl b => .bl b
  | _, _, .int i => .int i
  | _, _, .str x => .str x
  | _, _, .tup h r => .tup (SqT.of h) (TdAll.dp r)
theorem TdAll.dp : ∀ {vs : List V} {ds : List PyData}, TdAll H vs ds → DpAll K H vs ds
  | _, _, .nil => .nil
  | _, _, .cons h r => .cons (Td.dp h) (TdAll.dp r)
end
theorem TdAll.length : ∀ {vs : List V} {ds : List PyData}, TdAll H vs ds → vs.length = ds.length
  | _, _, .nil => rfl
  | _, _, .cons _ r => by rw [List.length_cons, List.length_cons, TdAll.length r]
theorem TdAll.get : ∀ {vs : List V} {ds : List PyData} {i : Nat} {v : V}, TdAll H vs ds → vs[i]? = some v → ∃ d, ds[i]? = some d ∧ Td H v d
  | _, _, i, _, .nil, h => by simp at h
  | _, _, 0, _, .cons h _, e => ⟨_, rfl, by
      have e : _ = _ := Option.some.inj e
      rw [← e]
      exact h⟩
  | _, _, i + 1, _, .cons _ r, e => TdAll.get (i := i) r e
theorem TdAll.get' : ∀ {vs : List V} {ds : List PyData} {i : Nat} {d : PyData}, TdAll H vs ds → ds[i]? = some d → ∃ v, vs[i]? = some v ∧ Td H v d
  | _, _, i, _, .nil, h => by simp at h
  | _, _, 0, _, .cons h _, e => ⟨_, rfl, by
      have e : _ = _ := Option.some.inj e
      rw [← e]
      exact h⟩
  | _, _, i + 1, _, .cons _ r, e => TdAll.get' (i := i) r e
theorem TdAll.append : ∀ {vs us : List V} {ds es : List PyData}, TdAll H vs ds → TdAll H us es → TdAll H (vs ++ us) (ds ++ es)
  | _, _, _, _, .nil, r => r
  | _, _, _, _, .cons h t, r => .cons h (TdAll.append t r)
theorem TdAll.snoc {vs : List V} {ds : List PyData} {v : V} {d : PyData} (r : TdAll H vs ds) (h : Td H v d) : TdAll H (vs ++ [v]) (ds ++ [d]) := r.append (.cons h .nil)
theorem TdAll.strs : ∀ (ws : List Str), TdAll H (ws.map V.str) (ws.map PyData.str)
  | [] => .nil
  | w :: ws => .cons (.str w) (TdAll.strs ws)
theorem Td.str_inv {v : V} {x : Str} (h : Td H v (.str x)) : v = .str x := by cases h; rfl
theorem Td.bl_inv {v : V} {b : Bool} (h : Td H v (.bool b)) : v = .bl b := by cases h; rfl
theorem Td.int_inv {v : V} {i : Int} (h : Td H v (.int i)) : v = .int i := by cases h; rfl
theorem Td.tup_inv {v : V} {ds : List PyData} (h : Td H v (.tuple ds)) : ∃ a xs, v = .ref a ∧ H a = some (.tup xs) ∧ TdAll H xs ds := by
  cases h with
  | tup h r => exact ⟨_, _, rfl, h, r⟩
theorem TdAll.strs_inv : ∀ {vs : List V} {ws : List Str}, TdAll H vs (ws.map PyData.str) → vs = ws.map V.str
  | _, [], h => by cases h; rfl
  | _, w :: ws, h => by
    cases h with
    | cons h r => rw [List.map_cons, ← TdAll.strs_inv r, Td.str_inv h]
theorem Td.kt_same {v : V} {d : PyData} (e : Same H H') (h : Td H v d) : Td H' v d := h.mono (KT.of e)
end

def StAt (H : Hp) (a : Addr) (n : Nat) : Prop := ∃ x y k : Int, H a = some (.lst [.int x, .int y, .int k]) ∧ 0 ≤ k ∧ k + n ≤ 1000000
theorem StAt.mono {H : Hp} {a : Addr} {n m : Nat} (h : StAt H a m) (l : n ≤ m) : StAt H a n := by
  obtain ⟨x, y, k, h1, h2, h3⟩ := h
  exact ⟨x, y, k, h1, h2, by omega⟩
theorem StAt.lst {H : Hp} {a : Addr} {n : Nat} (h : StAt H a n) : ∃ xs, H a = some (.lst xs) := by
  obtain ⟨x, y, k, h1, _⟩ := h
  exact ⟨_, h1⟩
theorem StAt.kt {H H' : Hp} {a : Addr} {n : Nat} (h : StAt H a n) (e : Fr1 a H H') : KT H H' := by
  obtain ⟨xs, hx⟩ := h.lst
  exact e.kt hx
theorem StAt.same {H H' : Hp} {a : Addr} {n : Nat} (h : StAt H a n) (e : Same H H') : StAt H' a n := by
  obtain ⟨x, y, k, h1, h2, h3⟩ := h
  exact ⟨x, y, k, e _ _ h1, h2, h3⟩
theorem StAt.fr {H H' : Hp} {a b : Addr} {n : Nat} (h : StAt H a n) (e : Fr1 b H H') (ne : a ≠ b) : StAt H' a n := by
  obtain ⟨x, y, k, h1, h2, h3⟩ := h
  exact ⟨x, y, k, e _ _ ne h1, h2, h3⟩
theorem StAt.upd {H : Hp} {a p : Addr} {n : Nat} {o : HO} (h : StAt H a n) (ne : a ≠ p) : StAt (upd H p o) a n := by
  obtain ⟨x, y, k, h1, h2, h3⟩ := h
  exact ⟨x, y, k, by rw [upd_ne ne]; exact h1, h2, h3⟩
theorem StAt.ne {H : Hp} {a p : Addr} {n : Nat} (h : StAt H a n) (e : H p = none) : a ≠ p := by
  obtain ⟨x, y, k, h1, _⟩ := h
  exact ne_of_none h1 e

structure Nm (w : Str) : Prop where
  lo : 1 ≤ w.length
  hi : w.length ≤ 8
  az : ∀ c ∈ w.cps.toList, 97 ≤ c ∧ c ≤ 122
def abc : Str := "abcdefghijklmnopqrstuvwxyz"
theorem abc_list : abc.cps.toList = (List.range 26).map (97 + ·) := by decide +kernel
theorem abc_len : abc.length = 26 := by decide +kernel
theorem abc_mem (c : Nat) : c ∈ abc.cps.toList ↔ 97 ≤ c ∧ c ≤ 122 := by
  rw [abc_list, List.mem_map]
  constructor
  · rintro ⟨i, hi, rfl⟩
    rw [List.mem_range] at hi
    omega
  · rintro ⟨h1, h2⟩
    exact ⟨c - 97, List.mem_range.mpr (by omega), by omega⟩
theorem abc_at (i : Nat) (h : i < 26) : abc.cps.toList[i]? = some (97 + i) := by
  rw [abc_list, List.getElem?_map, List.getElem?_range h]
  rfl
theorem Nm.sign {c : Nat} (h : 97 ≤ c ∧ c ≤ 122) : Nm ⟨#[c]⟩ := by
  refine ⟨(by show 1 ≤ 1; decide), (by show 1 ≤ 8; decide), fun d hd => ?_⟩
  have : d = c := by simpa using hd
  rw [this]
  exact h
theorem sizeL {n : Nat} (h : n ≤ 100000) : n ≤ sizeLine := Nat.le_trans h (by decide)
theorem sizeLt {n : Nat} (h : n < 100000) : n < sizeLine := Nat.lt_of_lt_of_le h (by decide)
section
variable {X : Cx}
theorem ps_setDc {i : Nat} {y : Str} {py : Pos} {kx vx tg iter : Expr} {ifs : List Expr} {scope : Scope} {own : List (Str × Nat)} {pos spos : Pos} {wi : TI} {g : TG} {tt : TT} {tk tv : TE} (hc : X.calm = true) (hN : X.N.Nodup) (hy : X.N[i]? = some y) (hyl : X.env.scope.names.lookup y = some .local)
    (hsw : swapsWith (.DictComp kx vx [⟨tg, iter, ifs, 0⟩] scope pos) (some (.Name y py)) spos.line X.env = pure true) (hi : PI X tg iter wi) (ok : BlkOk X.N X.env.scope scope own)
    (hg : ∀ (s : Shared) (H : Hp) (C : Addr) (cl : List (Str × Addr)) (fp : List Addr), PG (X.blk s H scope (compEnvC scope cl C X.env) fp) tg g)
    (ht : ∀ (s : Shared) (H : Hp) (C : Addr) (cl : List (Str × Addr)) (fp : List Addr), PTs (X.blk s H scope (compEnvC scope cl C X.env) fp) ifs tt)
    (hk : ∀ (s : Shared) (H : Hp) (C : Addr) (cl : List (Str × Addr)) (fp : List Addr), PE (X.blk s H scope (compEnvC scope cl C X.env) fp) kx tk)
    (he : ∀ (s : Shared) (H : Hp) (C : Addr) (cl : List (Str × Addr)) (fp : List Addr), PE (X.blk s H scope (compEnvC scope cl C X.env) fp) vx tv) (hs : ∀ x, foldedSetIterable iter X.env x = pure x := by intro _; rfl) :
    PS X (.Assign [.Name y py] (.DictComp kx vx [⟨tg, iter, ifs, 0⟩] scope pos) spos) (tAsg (tDc wi g tt tk tv (own.map (·.2))) (gName i)) := by
  refine ⟨fun pins s0 σ H0 Dn I0 h0 => ?_⟩
  rw [(exec_Assign_Name_used _ _ _ _ hsw :)]; refine wpAny_bind (wpAny_standAt <| wpAny_bind ?_)
  show wpAny _ X.A (do let _ ← comprehension (.DictComp kx vx [⟨tg, iter, ifs, 0⟩] scope pos) scope X.env (firstIterPos [⟨tg, iter, ifs, 0⟩] pos) newDict false (eval iter X.env) (some (assign (.Name y py) X.env))) _ _ s0
  have h0 : tDc wi g tt tk tv (own.map (·.2)) σ H0 (fun x H1 => gName i x σ H1 Dn.nx) := h0
  refine wpAny_bind (thn (dc_core (Qf := fun _ s9 => SP X pins Dn .next s9) hc hN I0 hi ok hg ht hk he hs h0 fun L C s9 m H9 I9 q hn ff => ?_) fun _ s9 hq => wpAny_pure (wpAny_pure hq))
  show wpAny _ _ (assign (.Name y py) X.env (.ref L)) _ _ s9
  refine wpAny_assign_Name (store_ok2 (v := V.ref L) I9 hN hy (.inl hyl) rfl (fun s8 I8 ⟨a, sb, ha⟩ => ?_) (.inr hyl)); obtain ⟨z0, z1, z2, z3, z4, z5⟩ := ff
  have ca : C ≠ a := ha.elim (fun z => by rw [z]; exact z1) fun z e => z4 y a z e.symm
  refine ⟨m, hn.sameBut sb ca, fun h8 sb8 => ⟨_, H9, I8.turned (t' := s8.toks) (fun b o hb e => (sb8.2 b hb).trans e) z0 z1 z3 z4 z5, q⟩⟩
theorem swd_true {kx vx : Expr} {gs : List Comprehension} {scope : Scope} {pos py : Pos} {y : Str} {l : Nat} {env : Env} (hk : env.scope.kind = .function) (hy : env.scope.names.lookup y = some .local) (hl : (py.line == pos.line) = true)
    (ha : (scope.names.any fun (n, k) => n == y && (k == .local || k == .cell)) = false) : swapsWith (.DictComp kx vx gs scope pos) (some (.Name y py)) l env = pure true := by
  have kl : env.kindOf y = some .local := hy
  have kb : env.blockKind = .function := by unfold Env.blockKind; rw [hk] <;> rfl
  unfold swapsWith; simp only [kb, kl, ha, Expr.pos, hl] <;> rfl
end
end My
namespace My
open PySem L2
theorem tYes_if {σ : L2.St} {H : Hp} {A B : Hp → Prop} (h : A H) : tYes σ H (fun b H3 => if b = true then A H3 else B H3) := by
  show (if true = true then A H else B H)
  rw [if_pos rfl]
  exact h
abbrev cd (w : Str) : List Nat := w.cps.toList
theorem cd_len (w : Str) : w.length = (cd w).length := by
  show w.cps.size = w.cps.toList.length
  rw [Array.length_toList]
theorem cd_ext {v w : Str} (h : cd v = cd w) : v = w := by
  cases v
  cases w
  congr
  exact Array.ext' h
theorem cd_app (v w : Str) : cd (v ++ w) = cd v ++ cd w := by
  show (v.cps ++ w.cps).toList = _
  rw [Array.toList_append]
theorem cd_sign (c : Nat) : cd ⟨#[c]⟩ = [c] := rfl
theorem Nm.of {w : Str} {cs : List Nat} (e : cd w = cs) (h1 : 1 ≤ cs.length) (h8 : cs.length ≤ 8) (az : ∀ c ∈ cs, 97 ≤ c ∧ c ≤ 122) : Nm w := by
  subst e
  exact ⟨by rw [cd_len]; exact h1, by rw [cd_len]; exact h8, az⟩
theorem Nm.l1 {w : Str} (h : Nm w) : 1 ≤ (cd w).length := by
  rw [← cd_len]
  exact h.lo
theorem Nm.l8 {w : Str} (h : Nm w) : (cd w).length ≤ 8 := by
  rw [← cd_len]
  exact h.hi
theorem joinL_signs : ∀ cs : List Nat, TL.joinL [] (cs.map fun c => [c]) = cs
  | [] => rfl
  | [c] => rfl
  | c :: d :: r => by
    show [c] ++ ([] ++ TL.joinL [] ((d :: r).map fun c => [c])) = _
    rw [joinL_signs (d :: r)]
    rfl
theorem cd_join (cs : List Nat) : cd (Txt.join (Str.ofString "") (cs.map fun c => (⟨#[c]⟩ : Str))) = cs := by
  rw [TL.join_eq]
  have h := TL.tl_join (Str.ofString "") (cs.map fun c => (⟨#[c]⟩ : Str))
  have e : (cs.map fun c => (⟨#[c]⟩ : Str)).map TL.tl = cs.map fun c => [c] := by
    rw [List.map_map]
    rfl
  rw [e] at h
  have h2 : TL.tl (Str.ofString "") = [] := by decide +kernel
  rw [h2, joinL_signs] at h
  exact h
theorem cut_to (z : Str) (i : Nat) (h : i ≤ z.length) : cd (cutS z none (some (i : Int))) = (cd z).take i := by
  show ((z.cps.toList.drop (HT.sIx z.length 0 none)).take (HT.sIx z.length z.length (some (i : Int)) - HT.sIx z.length 0 none)).toArray.toList = _
  rw [HT.sIx_none, HT.sIx_nat, List.toList_toArray, List.drop_zero, Nat.min_eq_left h]
  rfl
theorem cut_from (z : Str) (i : Nat) : cd (cutS z (some (i : Int)) none) = (cd z).drop i := by
  show ((z.cps.toList.drop (HT.sIx z.length 0 (some (i : Int)))).take (HT.sIx z.length z.length none - HT.sIx z.length 0 (some (i : Int)))).toArray.toList = _
  rw [HT.sIx_none, HT.sIx_nat, List.toList_toArray]
  have e : z.length = z.cps.toList.length := cd_len z
  rcases Nat.le_total i z.length with l | l
  · rw [Nat.min_eq_left l, List.take_of_length_le]
    rw [List.length_drop, ← e]
    exact Nat.le_refl _
  · rw [Nat.min_eq_right l, List.drop_eq_nil_of_le (by rw [← e]; exact Nat.le_refl _), List.take_nil]
    exact (List.drop_eq_nil_of_le (by rw [← e]; exact l)).symm
theorem Nm.bent {w v : Str} {i c : Nat} (h : Nm w) (hi : i < (cd w).length) (hc : 97 ≤ c ∧ c ≤ 122) (e : cd v = (cd w).take i ++ [c] ++ (cd w).drop (i + 1)) : Nm v := by
  have l8 := h.l8
  refine Nm.of e ?_ ?_ fun d hd => ?_
  · simp only [List.length_append, List.length_take, List.length_drop, List.length_singleton]
    omega
  · simp only [List.length_append, List.length_take, List.length_drop, List.length_singleton]
    omega
  · rcases List.mem_append.mp hd with m | m
    · rcases List.mem_append.mp m with m | m
      · exact h.az d (List.mem_of_mem_take m)
      · rw [List.mem_singleton.mp m]
        exact hc
    · exact h.az d (List.mem_of_mem_drop m)
theorem Nm.more {w v : Str} {c : Nat} (h : Nm w) (l : (cd w).length < 8) (hc : 97 ≤ c ∧ c ≤ 122) (e : cd v = cd w ++ [c]) : Nm v := by
  refine Nm.of e ?_ ?_ fun d hd => ?_
  · simp only [List.length_append, List.length_singleton]
    omega
  · simp only [List.length_append, List.length_singleton]
    omega
  · rcases List.mem_append.mp hd with m | m
    · exact h.az d m
    · rw [List.mem_singleton.mp m]
      exact hc
theorem Nm.less {w v : Str} {i : Nat} (h : Nm w) (hi : i < (cd w).length) (l : 1 < (cd w).length) (e : cd v = (cd w).take i ++ (cd w).drop (i + 1)) : Nm v := by
  have l8 := h.l8
  refine Nm.of e ?_ ?_ fun d hd => ?_
  · simp only [List.length_append, List.length_take, List.length_drop]
    omega
  · simp only [List.length_append, List.length_take, List.length_drop]
    omega
  · rcases List.mem_append.mp hd with m | m
    · exact h.az d (List.mem_of_mem_take m)
    · exact h.az d (List.mem_of_mem_drop m)
theorem pigeon : ∀ (l m : List Str), l.Nodup → (∀ x ∈ l, x ∈ m) → l.length ≤ m.length
  | [], _, _, _ => Nat.zero_le _
  | x :: r, m, h, s => by
    obtain ⟨h1, h2⟩ := List.nodup_cons.mp h
    have hm := s x List.mem_cons_self
    have := pigeon r (m.erase x) h2 fun y hy => (List.mem_erase_of_ne (fun e => h1 (by rw [← e]; exact hy))).mpr (s y (List.mem_cons_of_mem _ hy))
    have e := List.length_erase_of_mem hm
    have p := List.length_pos_of_mem hm
    rw [List.length_cons]
    omega
section
variable {g : TG} {tt : TT} {te : TE} {vs : List Nat} {σ : L2.St} {H1 : Hp} {D : Addr} {Qd : Hp → Prop} {x : Str}
theorem lc_str (Pv : Nat → Hp → Prop) (h0 : Pv 0 (upd H1 D (.lst [])))
    (hs : ∀ i c Hi, x.cps[i]? = some c → Pv i Hi → g (.str ⟨#[c]⟩) (wipe σ vs) Hi fun σ2 H2 => wipe σ2 vs = wipe σ vs ∧ tt σ2 H2 fun b H3 =>
      if b = true then te σ2 H3 fun y H4 => ∃ acc, H4 D = some (.lst acc) ∧ acc.length < sizeLine ∧ Pv (i + 1) (upd H4 D (.lst (acc ++ [y]))) else Pv (i + 1) H3)
    (hd : ∀ Hi, Pv x.cps.size Hi → Qd Hi) :
    ∃ W : Nat → Nat → Hp → Prop, (∃ m, W 0 m (upd H1 D (.lst []))) ∧ ∀ i m Hi, W i m Hi →
      ((Its x).stop i Hi ∧ Qd Hi) ∨ ((Its x).go i Hi ∧ ∃ Nx : Hp → Prop, (∀ H', Nx H' → ∃ m', m' < m ∧ W (i + 1) m' H') ∧ ∀ v H', (Its x).yld i Hi v H' → g v (wipe σ vs) H' fun σ2 H2 => wipe σ2 vs = wipe σ vs ∧ tt σ2 H2 fun b H3 =>
        if b = true then te σ2 H3 fun y H4 => ∃ acc, H4 D = some (.lst acc) ∧ acc.length < sizeLine ∧ Nx (upd H4 D (.lst (acc ++ [y]))) else Nx H3) := by
  refine ⟨fun i m Hi => m = x.cps.size - i ∧ i ≤ x.cps.size ∧ Pv i Hi, ⟨_, rfl, Nat.zero_le _, h0⟩, ?_⟩
  rintro i m Hi ⟨em, hi, p⟩
  by_cases l : i < x.cps.size
  · refine Or.inr ⟨l, Pv (i + 1), fun H' p' => ⟨_, by omega, rfl, l, p'⟩, ?_⟩
    rintro v H' ⟨eh, c, hc, rfl⟩
    rw [eh]
    exact hs i c Hi hc p
  · obtain rfl : i = x.cps.size := by omega
    exact Or.inl ⟨Nat.le_refl _, hd Hi p⟩
end
theorem free_letter (ws : List Str) (h : ws.length < 26) : ∃ j, j < 26 ∧ (⟨#[97 + j]⟩ : Str) ∉ ws := by
  by_cases g : ∀ j, j < 26 → (⟨#[97 + j]⟩ : Str) ∈ ws
  · exfalso
    have nd : ((List.range 26).map fun j => (⟨#[97 + j]⟩ : Str)).Nodup := by decide +kernel
    have sub : ∀ x ∈ ((List.range 26).map fun j => (⟨#[97 + j]⟩ : Str)), x ∈ ws := by
      intro x hx
      obtain ⟨j, hj, rfl⟩ := List.mem_map.mp hx
      exact g j (List.mem_range.mp hj)
    have l := pigeon _ _ nd sub
    rw [List.length_map, List.length_range] at l
    omega
  · simp only [Classical.not_forall] at g
    obtain ⟨j, hj, hn⟩ := g
    exact ⟨j, hj, hn⟩
theorem flat_strs (ws : List Str) : (ws.map V.str).all flatV = true := by
  induction ws with
  | nil => rfl
  | cons w r ih =>
    rw [List.map_cons, List.all_cons, ih]
    rfl
theorem inV_strs (x : Str) : ∀ ws : List Str, inV (.str x) (ws.map V.str) = decide (x ∈ ws)
  | [] => by
    rw [List.map_nil]
    simp [inV]
  | w :: r => by
    have ih := inV_strs x r
    unfold inV at ih ⊢
    rw [List.map_cons, List.any_cons, ih]
    by_cases e : w = x
    · subst e
      simp [eqV]
    · have e' : ¬ x = w := fun q => e q.symm
      simp [eqV, e, e']
end My
namespace My
open PySem L2
def Fine (n : Nat) (d : PyData) : Prop := d.canLay0 = true ∧ d.depth ≤ n
theorem Fine.sh {n : Nat} {d : PyData} (h : Fine n d) (l : n ≤ 64) : SeqAt.shaped d = true := by
  show (d.canLay0 && decide (d.depth ≤ 64)) = true
  rw [h.1, decide_eq_true (Nat.le_trans h.2 l)]
  rfl
theorem Fine.self {n : Nat} {d : PyData} (h : Fine n d) : PyData.eqv d d = true := PySem.SeqAt.eqv_refl d h.1
theorem Fine.up {n m : Nat} {d : PyData} (h : Fine n d) (l : n ≤ m) : Fine m d := ⟨h.1, Nat.le_trans h.2 l⟩
theorem canAll : ∀ {ds : List PyData}, (∀ d ∈ ds, d.canLay0 = true) → PyData.canLayAll0 ds = true
  | [], _ => by simp only [PyData.canLayAll0]
  | d :: r, h => by
    simp only [PyData.canLayAll0]
    rw [h d List.mem_cons_self, canAll fun x hx => h x (List.mem_cons_of_mem _ hx)]
    rfl
theorem depAll : ∀ {ds : List PyData} {n : Nat}, (∀ d ∈ ds, d.depth ≤ n) → PyData.depthAll ds ≤ n
  | [], n, _ => by simp [PyData.depthAll]
  | d :: r, n, h => by
    simp only [PyData.depthAll]
    have h1 := h d List.mem_cons_self
    have h2 := depAll (ds := r) fun x hx => h x (List.mem_cons_of_mem _ hx)
    omega
theorem Fine.tup {n : Nat} {ds : List PyData} (h : ∀ d ∈ ds, Fine n d) : Fine (n + 1) (.tuple ds) := by
  refine ⟨?_, ?_⟩
  · simp only [PyData.canLay0]
    exact canAll fun d hd => (h d hd).1
  · simp only [PyData.depth]
    have := depAll fun d hd => (h d hd).2
    omega
theorem Fine.lst {n : Nat} {ds : List PyData} (h : ∀ d ∈ ds, Fine n d) : Fine (n + 1) (.list ds) := by
  refine ⟨?_, ?_⟩
  · simp only [PyData.canLay0]
    exact canAll fun d hd => (h d hd).1
  · simp only [PyData.depth]
    have := depAll fun d hd => (h d hd).2
    omega
theorem Fine.int (i : Int) : Fine 1 (.int i) := ⟨by simp only [PyData.canLay0], by simp only [PyData.depth]; omega⟩
theorem Fine.bool (b : Bool) : Fine 1 (.bool b) := ⟨by simp only [PyData.canLay0], by simp only [PyData.depth]; omega⟩
theorem Fine.none : Fine 1 .none := ⟨by simp only [PyData.canLay0], by simp only [PyData.depth]; omega⟩
theorem Fine.str {x : Str} (h : ∀ c ∈ cd x, c < 0x110000) : Fine 1 (.str x) := by
  refine ⟨?_, by simp only [PyData.depth]; omega⟩
  simp only [PyData.canLay0]
  show x.cps.all (· < 0x110000) = true
  rw [← Array.all_toList, List.all_eq_true]
  intro c hc
  exact decide_eq_true (h c hc)
theorem Nm.fine {x : Str} (h : Nm x) : Fine 1 (.str x) := Fine.str fun c hc => by
  have := h.az c hc
  omega
theorem fine_strs {ws : List Str} (h : ∀ w ∈ ws, Nm w) : ∀ d ∈ ws.map PyData.str, Fine 1 d := by
  intro d hd
  obtain ⟨w, hw, rfl⟩ := List.mem_map.mp hd
  exact (h w hw).fine
theorem eqv_lists_nil (ds : List PyData) : PyData.eqv (.list ds) (.list []) = ds.isEmpty := by
  cases ds <;> simp [PyData.eqv, PyData.eqvAll]
theorem eqv_tups_nil (ds : List PyData) : PyData.eqv (.tuple ds) (.tuple []) = ds.isEmpty := by
  cases ds <;> simp [PyData.eqv, PyData.eqvAll]

abbrev Ref := Str × Str
abbrev Ent := Str × Bool × List Ref
abbrev Plan := List Ent
def refD (r : Ref) : PyData := .tuple [.str r.1, .str r.2]
def refsD (rs : List Ref) : PyData := .tuple (rs.map refD)
def entD (e : Ent) : PyData := .tuple [.str e.1, .bool e.2.1, refsD e.2.2]
def planD (p : Plan) : PyData := .tuple (p.map entD)
structure GoodRefs (names : List Str) (rs : List Ref) : Prop where
  len : rs.length ≤ 3
  nm : ∀ r ∈ rs, Nm r.1
  to : ∀ r ∈ rs, r.2 ∈ names
  nd : (rs.map (·.1)).Nodup
structure Good (p : Plan) : Prop where
  lo : 1 ≤ p.length
  hi : p.length ≤ 5
  nm : ∀ e ∈ p, Nm e.1
  nd : (p.map (·.1)).Nodup
  refs : ∀ e ∈ p, GoodRefs (p.map (·.1)) e.2.2
theorem Good.names {p : Plan} (g : Good p) : ∀ w ∈ p.map (·.1), Nm w := by
  intro w hw
  obtain ⟨e, he, rfl⟩ := List.mem_map.mp hw
  exact g.nm e he
theorem Good.toNm {p : Plan} (g : Good p) {e : Ent} (he : e ∈ p) {r : Ref} (hr : r ∈ e.2.2) : Nm r.2 := g.names _ ((g.refs e he).to r hr)
theorem refD_fine {r : Ref} (h1 : Nm r.1) (h2 : Nm r.2) : Fine 2 (refD r) := Fine.tup (n := 1) fun d hd => by
  rcases List.mem_cons.mp hd with rfl | hd
  · exact h1.fine
  · rw [List.mem_singleton.mp hd]
    exact h2.fine
theorem Good.refsD_fine {p : Plan} (g : Good p) {e : Ent} (he : e ∈ p) : Fine 3 (refsD e.2.2) := Fine.tup (n := 2) fun d hd => by
  obtain ⟨r, hr, rfl⟩ := List.mem_map.mp hd
  exact refD_fine ((g.refs e he).nm r hr) (g.toNm he hr)
theorem Good.entD_fine {p : Plan} (g : Good p) {e : Ent} (he : e ∈ p) : Fine 4 (entD e) := Fine.tup (n := 3) fun d hd => by
  rcases List.mem_cons.mp hd with rfl | hd
  · exact (g.nm e he).fine.up (by decide)
  · rcases List.mem_cons.mp hd with rfl | hd
    · exact (Fine.bool _).up (by decide)
    · rw [List.mem_singleton.mp hd]
      exact g.refsD_fine he
theorem Good.fine {p : Plan} (g : Good p) : Fine 5 (planD p) := Fine.tup (n := 4) fun d hd => by
  obtain ⟨e, he, rfl⟩ := List.mem_map.mp hd
  exact g.entD_fine he
end My
namespace My
open PySem PySem.Spec PyProof.Rows L2
def rInG (K : PySem.W.Frag) : R2 := fun x y H Q => (∃ a o, y = .ref a ∧ DGet H a x o ∧ Q (.bl o.isSome) H) ∨ rIn K false x y H Q
theorem kInG {X : Cx} {K : PySem.W.Frag} (hu : X.A.units + 1 < cLine) (h : X.K = K := by rfl) : OpR X (compareOp .In) (rInG K) := by
  subst h
  intro pins s σ H x y v u Q I rx ry hq
  rcases hq with ⟨a, o, rfl, g, q⟩ | hq
  · obtain rfl : u = Value.ref a := ry
    exact d_in hu I g rx fun s3 I3 => ⟨.bl o.isSome, H, I3, rfl, q⟩
  · exact op_in_seq pins s σ H x y v u Q I rx ry hq
section
variable {K : PySem.W.Frag} {g g1 : TG} {tt tt1 : TT} {te : TE} {vs vs1 : List Nat} {σ σ2 : L2.St} {wi1 : TI}
def In2 (J : It) (g1 : TG) (tt1 : TT) (te : TE) (vs1 : List Nat) (σ2 : L2.St) (D : Addr) (Nx : Hp → Prop) (H4 : Hp) : Prop := ∃ W1 : Nat → Nat → Hp → Prop, (∃ m, W1 0 m H4) ∧ ∀ j k H, W1 j k H →
  (J.stop j H ∧ Nx H) ∨ (J.go j H ∧ ∃ Nx1 : Hp → Prop, (∀ H', Nx1 H' → ∃ k', k' < k ∧ W1 (j + 1) k' H') ∧ ∀ x H', J.yld j H x H' → g1 x (wipe σ2 vs1) H' fun σ3 H5 => wipe σ3 vs1 = wipe σ2 vs1 ∧ tt1 σ3 H5 fun b H6 =>
    if b = true then te σ3 H6 fun y H7 => ∃ acc, H7 D = some (.lst acc) ∧ acc.length < sizeLine ∧ Nx1 (upd H7 D (.lst (acc ++ [y]))) else Nx1 H6)
theorem in2_tup {a : Addr} {xs : List V} {D : Addr} {Nx : Hp → Prop} {H4 : Hp} (Pv : Nat → Hp → Prop) (h0 : Pv 0 H4) (hl : ∀ j Hj, j ≤ xs.length → Pv j Hj → SqT K Hj a xs)
    (hs : ∀ j x Hj, xs[j]? = some x → Pv j Hj → g1 x (wipe σ2 vs1) Hj fun σ3 H5 => wipe σ3 vs1 = wipe σ2 vs1 ∧ tt1 σ3 H5 fun b H6 =>
      if b = true then te σ3 H6 fun y H7 => ∃ acc, H7 D = some (.lst acc) ∧ acc.length < sizeLine ∧ Pv (j + 1) (upd H7 D (.lst (acc ++ [y]))) else Pv (j + 1) H6)
    (hd : ∀ Hj, Pv xs.length Hj → Nx Hj) : In2 (Itt K a) g1 tt1 te vs1 σ2 D Nx H4 := by
  refine ⟨fun j m Hj => m = xs.length - j ∧ j ≤ xs.length ∧ Pv j Hj, ⟨_, rfl, Nat.zero_le _, h0⟩, ?_⟩
  rintro j m Hj ⟨em, hj, p⟩
  have q := hl j Hj hj p
  by_cases l : j < xs.length
  · refine Or.inr ⟨⟨xs, xs[j], q, by simp [l]⟩, Pv (j + 1), fun H' p' => ⟨_, by omega, rfl, l, p'⟩, ?_⟩
    rintro x H' ⟨eh, hx⟩
    rw [eh]
    exact hs j x Hj (hx xs q) p
  · obtain rfl : j = xs.length := by omega
    exact Or.inl ⟨⟨xs, q, Nat.le_refl _⟩, hd Hj p⟩
theorem lc2_tup {a : Addr} {xs : List V} {D : Addr} {Qd : Hp → Prop} {H1 : Hp} (Pv : Nat → Hp → Prop) (h0 : Pv 0 (upd H1 D (.lst []))) (hl : ∀ i Hi, i ≤ xs.length → Pv i Hi → SqT K Hi a xs)
    (hs : ∀ i x Hi, xs[i]? = some x → Pv i Hi → g x (wipe σ vs) Hi fun σ2 H2 => wipe σ2 vs = wipe σ vs ∧ tt σ2 H2 fun b H3 =>
      if b = true then wi1 σ2 H3 fun J1 H4 => In2 J1 g1 tt1 te vs1 σ2 D (Pv (i + 1)) H4 else Pv (i + 1) H3)
    (hd : ∀ Hi, Pv xs.length Hi → Qd Hi) :
    ∃ W : Nat → Nat → Hp → Prop, (∃ m, W 0 m (upd H1 D (.lst []))) ∧ ∀ i m H, W i m H →
      ((Itt K a).stop i H ∧ Qd H) ∨ ((Itt K a).go i H ∧ ∃ Nx : Hp → Prop, (∀ H', Nx H' → ∃ m', m' < m ∧ W (i + 1) m' H') ∧ ∀ x H', (Itt K a).yld i H x H' → g x (wipe σ vs) H' fun σ2 H2 => wipe σ2 vs = wipe σ vs ∧ tt σ2 H2 fun b H3 =>
        if b = true then wi1 σ2 H3 fun J1 H4 => In2 J1 g1 tt1 te vs1 σ2 D Nx H4 else Nx H3) := by
  refine ⟨fun i m Hi => m = xs.length - i ∧ i ≤ xs.length ∧ Pv i Hi, ⟨_, rfl, Nat.zero_le _, h0⟩, ?_⟩
  rintro i m Hi ⟨em, hi, p⟩
  have q := hl i Hi hi p
  by_cases l : i < xs.length
  · refine Or.inr ⟨⟨xs, xs[i], q, by simp [l]⟩, Pv (i + 1), fun H' p' => ⟨_, by omega, rfl, l, p'⟩, ?_⟩
    rintro x H' ⟨eh, hx⟩
    rw [eh]
    exact hs i x Hi (hx xs q) p
  · obtain rfl : i = xs.length := by omega
    exact Or.inl ⟨⟨xs, q, Nat.le_refl _⟩, hd Hi p⟩
end
theorem entD_inv {H : Hp} {v : V} {e : Ent} (h : Td H v (entD e)) : ∃ t tr rs, v = .ref t ∧ H t = some (.tup [.str e.1, .bl e.2.1, .ref tr]) ∧ H tr = some (.tup rs) ∧ TdAll H rs (e.2.2.map refD) := by
  obtain ⟨t, xs, rfl, ht, hx⟩ := h.tup_inv
  cases hx with
  | cons h1 hx =>
    cases hx with
    | cons h2 hx =>
      cases hx with
      | cons h3 hx =>
        cases hx
        obtain ⟨tr, rs, rfl, hr, hrs⟩ := h3.tup_inv
        rw [h1.str_inv, h2.bl_inv] at ht
        exact ⟨t, tr, rs, rfl, ht, hr, hrs⟩
theorem refD_inv {H : Hp} {v : V} {r : Ref} (h : Td H v (refD r)) : ∃ t, v = .ref t ∧ H t = some (.tup [.str r.1, .str r.2]) := by
  obtain ⟨t, xs, rfl, ht, hx⟩ := h.tup_inv
  cases hx with
  | cons h1 hx =>
    cases hx with
    | cons h2 hx =>
      cases hx
      rw [h1.str_inv, h2.str_inv] at ht
      exact ⟨t, rfl, ht⟩
theorem TdAll.getM {α : Type} {H : Hp} {vs : List V} {l : List α} {f : α → PyData} {i : Nat} {v : V} (h : TdAll H vs (l.map f)) (e : vs[i]? = some v) : ∃ x, l[i]? = some x ∧ Td H v (f x) := by
  obtain ⟨d, hd, ht⟩ := h.get e
  rw [List.getElem?_map] at hd
  obtain ⟨x, hx, rfl⟩ := Option.map_eq_some_iff.mp hd
  exact ⟨x, hx, ht⟩
theorem TdAll.getM' {α : Type} {H : Hp} {vs : List V} {l : List α} {f : α → PyData} {i : Nat} {x : α} (h : TdAll H vs (l.map f)) (e : l[i]? = some x) : ∃ v, vs[i]? = some v ∧ Td H v (f x) := by
  refine h.get' (i := i) ?_
  rw [List.getElem?_map, e]
  rfl
theorem all_true (n : Nat) : (List.replicate n true).all id = true := by
  induction n with
  | zero => rfl
  | succ n ih =>
    rw [List.replicate_succ, List.all_cons, ih]
    rfl
theorem rep_bl (n : Nat) : List.replicate n (V.bl true) = (List.replicate n true).map V.bl := by rw [List.map_replicate]
theorem rep_snoc {α : Type} (n : Nat) (x : α) : List.replicate n x ++ [x] = List.replicate (n + 1) x := (List.replicate_succ' (n := n) (a := x)).symm
end My
namespace My
open PySem L2
def sFlds (tv : V) (de : Addr) : List (Str × V) := putF "_entries" (.ref de) (putF "_tables" tv [])
theorem s_ne1 : ¬ (("_entries" : Str) = "_tables") := by decide +kernel
theorem s_ne2 : ¬ (("_tables" : Str) = "_entries") := by decide +kernel
theorem sFlds_t (tv : V) (de : Addr) : (sFlds tv de).lookup ("_tables" : Str) = some tv := by
  unfold sFlds
  rw [lookup_putF, if_neg s_ne2, lookup_putF, if_pos rfl]
theorem sFlds_e (tv : V) (de : Addr) : (sFlds tv de).lookup ("_entries" : Str) = some (.ref de) := by
  unfold sFlds
  rw [lookup_putF, if_pos rfl]
theorem sFlds_no (tv : V) (de : Addr) {m : Str} (h1 : ¬ m = "_entries") (h2 : ¬ m = "_tables") : (sFlds tv de).lookup m = none := by
  unfold sFlds
  rw [lookup_putF, if_neg h1, lookup_putF, if_neg h2]
  rfl
structure EntsAt (H : Hp) (kvs : List (Key × V)) (pl : Plan) : Prop where
  keys : kvs.map (·.1) = pl.map fun e => (Sum.inr e.1 : Key)
  vals : TdAll H (kvs.map (·.2)) (pl.map entD)
structure SchAt (C : Addr) (H : Hp) (p : Addr) (pl : Plan) : Prop where
  good : Good pl
  ex : ∃ dx tv de kvs, H p = some (.ins C dx (sFlds tv de)) ∧ Td H tv (planD pl) ∧ H de = some (.dK kvs) ∧ EntsAt H kvs pl
theorem SchAt.fr {C p a : Addr} {H H' : Hp} {pl : Plan} {xs : List V} (S : SchAt C H p pl) (e : Fr1 a H H') (ha : H a = some (.lst xs)) : SchAt C H' p pl := by
  obtain ⟨dx, tv, de, kvs, h1, h2, h3, h4⟩ := S.ex
  have kt := e.kt ha
  exact ⟨S.good, dx, tv, de, kvs, e p _ (ne_of h1 ha (by intro z; cases z)) h1, h2.mono kt, e de _ (ne_of h3 ha (by intro z; cases z)) h3, h4.keys, h4.vals.mono kt⟩
theorem SchAt.same {C p : Addr} {H H' : Hp} {pl : Plan} (S : SchAt C H p pl) (e : Same H H') : SchAt C H' p pl := by
  obtain ⟨dx, tv, de, kvs, h1, h2, h3, h4⟩ := S.ex
  exact ⟨S.good, dx, tv, de, kvs, e p _ h1, h2.kt_same e, e de _ h3, h4.keys, h4.vals.mono (KT.of e)⟩
theorem SchAt.ins {C p : Addr} {H : Hp} {pl : Plan} (S : SchAt C H p pl) : ∃ dx fs, H p = some (.ins C dx fs) := by
  obtain ⟨dx, tv, de, kvs, h1, _⟩ := S.ex
  exact ⟨_, _, h1⟩
theorem valV_mem {kvs : List (Key × V)} {pl : Plan} (hk : kvs.map (·.1) = pl.map fun e => (Sum.inr e.1 : Key)) (nd : (pl.map (·.1)).Nodup) : ∀ {H : Hp}, TdAll H (kvs.map (·.2)) (pl.map entD) → ∀ e ∈ pl, ∃ v, valV kvs (Sum.inr e.1) = some v ∧ Td H v (entD e) := by
  induction kvs generalizing pl with
  | nil =>
    intro H _ e he
    cases pl with
    | nil => cases he
    | cons _ _ => simp at hk
  | cons q r ih =>
    intro H ht e he
    cases pl with
    | nil => cases he
    | cons e0 pr =>
      rw [List.map_cons, List.map_cons] at hk ht
      have hk1 : q.1 = Sum.inr e0.1 := (List.cons.inj hk).1
      have hk2 := (List.cons.inj hk).2
      rw [List.map_cons] at nd
      obtain ⟨nd1, nd2⟩ := List.nodup_cons.mp nd
      cases ht with
      | cons h1 h2 =>
        by_cases c : e.1 = e0.1
        · have ee : e = e0 := by
            rcases List.mem_cons.mp he with h | h
            · exact h
            · exact absurd (List.mem_map.mpr ⟨e, h, c⟩) nd1
          subst ee
          refine ⟨q.2, ?_, h1⟩
          unfold valV
          simp [hk1]
        · rcases List.mem_cons.mp he with h | h
          · exact absurd (by rw [h]) c
          · obtain ⟨v, hv, hT⟩ := ih hk2 nd2 h2 e h
            refine ⟨v, ?_, hT⟩
            rw [← hv]
            unfold valV
            have : ¬ q.1 = Sum.inr e.1 := by
              rw [hk1]
              intro z
              exact c (Sum.inr.inj z).symm
            simp [this]
theorem valV_no {kvs : List (Key × V)} {pl : Plan} (hk : kvs.map (·.1) = pl.map fun e => (Sum.inr e.1 : Key)) {w : Str} (h : w ∉ pl.map (·.1)) : valV kvs (Sum.inr w) = none := by
  cases c : valV kvs (Sum.inr w : Key) with
  | none => rfl
  | some v =>
    have := valV_in c
    rw [hk] at this
    obtain ⟨e, he, ee⟩ := List.mem_map.mp this
    exact absurd (List.mem_map.mpr ⟨e, he, Sum.inr.inj ee⟩) h
theorem EntsAt.get {H : Hp} {kvs : List (Key × V)} {pl : Plan} (h : EntsAt H kvs pl) (g : Good pl) {e : Ent} (he : e ∈ pl) : ∃ v, valV kvs (Sum.inr e.1) = some v ∧ Td H v (entD e) := valV_mem h.keys g.nd h.vals e he
end My
namespace My
open PySem L2
def top (i : Nat) : Stmt := PySem.Challenge.pw_carrykeys_k01_schemas_told.main.body.getD i (.Pass ⟨0, 0, 0, 0⟩)
abbrev s_law_at : Stmt := top 22
abbrev s_law_begin : Stmt := top 23
abbrev s_law_take : Stmt := top 24
abbrev s_law_word : Stmt := top 25
abbrev s_law_words : Stmt := top 26
abbrev s_law_tables : Stmt := top 27
abbrev s_is_flag : Stmt := top 10
abbrev s_is_one_of : Stmt := top 11
abbrev s_is_name : Stmt := top 12
abbrev s_is_reference : Stmt := top 17
abbrev s_are_distinct : Stmt := top 18
abbrev s_are_references : Stmt := top 16
abbrev s_is_table : Stmt := top 15
abbrev s_are_tables : Stmt := top 13
abbrev s_refer_within : Stmt := top 14
abbrev s_Schema_init : Stmt := inClass (top 20) 0
abbrev s_Schema_tables : Stmt := inClass (top 20) 2
abbrev s_Schema__entry : Stmt := inClass (top 20) 7
abbrev s_Schema_is_unique : Stmt := inClass (top 20) 5
abbrev s_Schema_columns : Stmt := inClass (top 20) 3
abbrev s_Schema_target_of : Stmt := inClass (top 20) 4
abbrev s_Schema_all_columns : Stmt := inClass (top 20) 6
abbrev s_law_tables_told : Stmt := top 28
abbrev s_law_columns_told : Stmt := top 29
abbrev s_law_targets_told : Stmt := top 30
abbrev s_law_unique_told : Stmt := top 31
abbrev s_law_pairs_told : Stmt := top 32
abbrev s_law_told : Stmt := top 33
abbrev s_law : Stmt := top 34
theorem sc_law_at : FnScope ["script", "k"] ["script", "k"] (defScope s_law_at) := ⟨rfl, rfl, rfl, by decide +kernel, rfl, by decide +kernel, by decide +kernel⟩
theorem sc_law_begin : FnScope ["cell"] ["cell"] (defScope s_law_begin) := ⟨rfl, rfl, rfl, by decide +kernel, rfl, by decide +kernel, by decide +kernel⟩
theorem sc_law_take : FnScope ["state", "base", "k", "number", "digit"] ["state", "base"] (defScope s_law_take) := ⟨rfl, rfl, rfl, by decide +kernel, rfl, by decide +kernel, by decide +kernel⟩
theorem sc_law_word : FnScope ["state", "letters", "size", "k"] ["state"] (defScope s_law_word) := ⟨rfl, rfl, rfl, by decide +kernel, rfl, by decide +kernel, by decide +kernel⟩
theorem sc_law_words : FnScope ["state", "count", "letters", "words", "k", "word", "way", "near", "at", "letter"] ["state", "count"] (defScope s_law_words) := ⟨rfl, rfl, rfl, by decide +kernel, rfl, by decide +kernel, by decide +kernel⟩
theorem sc_law_tables : FnScope ["state", "most", "most_columns", "names", "entries", "name", "unique", "columns", "references", "column"] ["state", "most", "most_columns"] (defScope s_law_tables) := ⟨rfl, rfl, rfl, by decide +kernel, rfl, by decide +kernel, by decide +kernel⟩
theorem sc_is_flag : FnScope ["value"] ["value"] (defScope s_is_flag) := ⟨rfl, rfl, rfl, by decide +kernel, rfl, by decide +kernel, by decide +kernel⟩
theorem sc_is_one_of : FnScope ["value", "words"] ["value", "words"] (defScope s_is_one_of) := ⟨rfl, rfl, rfl, by decide +kernel, rfl, by decide +kernel, by decide +kernel⟩
theorem sc_is_name : FnScope ["value", "letter"] ["value"] (defScope s_is_name) := ⟨rfl, rfl, rfl, by decide +kernel, rfl, by decide +kernel, by decide +kernel⟩
theorem sc_is_reference : FnScope ["value", "column", "target"] ["value"] (defScope s_is_reference) := ⟨rfl, rfl, rfl, by decide +kernel, rfl, by decide +kernel, by decide +kernel⟩
theorem sc_are_distinct : FnScope ["names"] ["names"] (defScope s_are_distinct) := ⟨rfl, rfl, rfl, by decide +kernel, rfl, by decide +kernel, by decide +kernel⟩
theorem sc_are_references : FnScope ["value", "item"] ["value"] (defScope s_are_references) := ⟨rfl, rfl, rfl, by decide +kernel, rfl, by decide +kernel, by decide +kernel⟩
theorem sc_is_table : FnScope ["value", "name", "unique", "references"] ["value"] (defScope s_is_table) := ⟨rfl, rfl, rfl, by decide +kernel, rfl, by decide +kernel, by decide +kernel⟩
theorem sc_are_tables : FnScope ["value", "item"] ["value"] (defScope s_are_tables) := ⟨rfl, rfl, rfl, by decide +kernel, rfl, by decide +kernel, by decide +kernel⟩
theorem sc_refer_within : FnScope ["tables", "names", "item", "_", "target"] ["tables"] (defScope s_refer_within) := ⟨rfl, rfl, rfl, by decide +kernel, rfl, by decide +kernel, by decide +kernel⟩
theorem sc_Schema_init : FnScope ["self", "tables", "entry"] ["self", "tables"] (defScope s_Schema_init) := ⟨rfl, rfl, rfl, by decide +kernel, rfl, by decide +kernel, by decide +kernel⟩
theorem sc_Schema_tables : FnScope ["self"] ["self"] (defScope s_Schema_tables) := ⟨rfl, rfl, rfl, by decide +kernel, rfl, by decide +kernel, by decide +kernel⟩
theorem sc_Schema__entry : FnScope ["self", "name"] ["self", "name"] (defScope s_Schema__entry) := ⟨rfl, rfl, rfl, by decide +kernel, rfl, by decide +kernel, by decide +kernel⟩
theorem sc_Schema_is_unique : FnScope ["self", "name"] ["self", "name"] (defScope s_Schema_is_unique) := ⟨rfl, rfl, rfl, by decide +kernel, rfl, by decide +kernel, by decide +kernel⟩
theorem sc_Schema_columns : FnScope ["self", "name", "column", "_"] ["self", "name"] (defScope s_Schema_columns) := ⟨rfl, rfl, rfl, by decide +kernel, rfl, by decide +kernel, by decide +kernel⟩
theorem sc_Schema_target_of : FnScope ["self", "name", "column", "targets", "known", "target"] ["self", "name", "column"] (defScope s_Schema_target_of) := ⟨rfl, rfl, rfl, by decide +kernel, rfl, by decide +kernel, by decide +kernel⟩
theorem sc_Schema_all_columns : FnScope ["self", "entry", "column", "_"] ["self"] (defScope s_Schema_all_columns) := ⟨rfl, rfl, rfl, by decide +kernel, rfl, by decide +kernel, by decide +kernel⟩
theorem sc_law_tables_told : FnScope ["schema", "plan", "found", "entry"] ["schema", "plan"] (defScope s_law_tables_told) := ⟨rfl, rfl, rfl, by decide +kernel, rfl, by decide +kernel, by decide +kernel⟩
theorem sc_law_columns_told : FnScope ["schema", "plan", "name", "unique", "references", "columns", "one"] ["schema", "plan"] (defScope s_law_columns_told) := ⟨rfl, rfl, rfl, by decide +kernel, rfl, by decide +kernel, by decide +kernel⟩
theorem sc_law_targets_told : FnScope ["schema", "plan", "name", "unique", "references", "column", "place", "found"] ["schema", "plan"] (defScope s_law_targets_told) := ⟨rfl, rfl, rfl, by decide +kernel, rfl, by decide +kernel, by decide +kernel⟩
theorem sc_law_unique_told : FnScope ["schema", "plan", "name", "unique", "references", "found"] ["schema", "plan"] (defScope s_law_unique_told) := ⟨rfl, rfl, rfl, by decide +kernel, rfl, by decide +kernel, by decide +kernel⟩
theorem sc_law_pairs_told : FnScope ["schema", "plan", "due", "name", "unique", "references", "found", "one"] ["schema", "plan"] (defScope s_law_pairs_told) := ⟨rfl, rfl, rfl, by decide +kernel, rfl, by decide +kernel, by decide +kernel⟩
theorem sc_law_told : FnScope ["schema", "plan", "turn", "answers", "k", "way"] ["schema", "plan", "turn"] (defScope s_law_told) := ⟨rfl, rfl, rfl, by decide +kernel, rfl, by decide +kernel, by decide +kernel⟩
theorem sc_law : FnScope ["script", "state", "plan", "other_plan", "first", "second", "turn", "k"] ["script"] (defScope s_law) := ⟨rfl, rfl, rfl, by decide +kernel, rfl, by decide +kernel, by decide +kernel⟩
structure Txt (K : PySem.W.Frag) (mg : Str → Option Value) (CS : Addr) : Prop where
  c_Schema : ClassAt K mg CS "Schema"
  a_Schema_tables : NoAttr K CS "_tables"
  a_Schema_entries : NoAttr K CS "_entries"
  d_law_at : DefAt K mg "_law_at" s_law_at ["script", "k"]
  d_law_begin : DefAt K mg "_law_begin" s_law_begin ["cell"]
  d_law_take : DefAt K mg "_law_take" s_law_take ["state", "base"]
  d_law_word : DefAt K mg "_law_word" s_law_word ["state"]
  d_law_words : DefAt K mg "_law_words" s_law_words ["state", "count"]
  d_law_tables : DefAt K mg "_law_tables" s_law_tables ["state", "most", "most_columns"]
  d_is_flag : DefAt K mg "is_flag" s_is_flag ["value"]
  d_is_one_of : DefAt K mg "is_one_of" s_is_one_of ["value", "words"]
  d_is_name : DefAt K mg "is_name" s_is_name ["value"]
  d_is_reference : DefAt K mg "_is_reference" s_is_reference ["value"]
  d_are_distinct : DefAt K mg "_are_distinct" s_are_distinct ["names"]
  d_are_references : DefAt K mg "_are_references" s_are_references ["value"]
  d_is_table : DefAt K mg "_is_table" s_is_table ["value"]
  d_are_tables : DefAt K mg "are_tables" s_are_tables ["value"]
  d_refer_within : DefAt K mg "refer_within" s_refer_within ["tables"]
  d_Schema_init : MethAt K CS "__init__" "Schema.__init__" s_Schema_init ["self", "tables"]
  d_Schema_tables : MethAt K CS "tables" "Schema.tables" s_Schema_tables ["self"]
  d_Schema__entry : MethAt K CS "_entry" "Schema._entry" s_Schema__entry ["self", "name"]
  d_Schema_is_unique : MethAt K CS "is_unique" "Schema.is_unique" s_Schema_is_unique ["self", "name"]
  d_Schema_columns : MethAt K CS "columns" "Schema.columns" s_Schema_columns ["self", "name"]
  d_Schema_target_of : MethAt K CS "target_of" "Schema.target_of" s_Schema_target_of ["self", "name", "column"]
  d_Schema_all_columns : MethAt K CS "all_columns" "Schema.all_columns" s_Schema_all_columns ["self"]
  d_law_tables_told : DefAt K mg "_law_tables_told" s_law_tables_told ["schema", "plan"]
  d_law_columns_told : DefAt K mg "_law_columns_told" s_law_columns_told ["schema", "plan"]
  d_law_targets_told : DefAt K mg "_law_targets_told" s_law_targets_told ["schema", "plan"]
  d_law_unique_told : DefAt K mg "_law_unique_told" s_law_unique_told ["schema", "plan"]
  d_law_pairs_told : DefAt K mg "_law_pairs_told" s_law_pairs_told ["schema", "plan"]
  d_law_told : DefAt K mg "_law_told" s_law_told ["schema", "plan", "turn"]
  d_law : DefAt K mg "law" s_law ["script"]
  v_LETTERS : ∃ u, mg "LETTERS" = some u ∧ RelV (.str "abcdefghijklmnopqrstuvwxyz") u
  v_LONGEST_NAME : ∃ u, mg "LONGEST_NAME" = some u ∧ RelV (.int 8) u
  v_MOST_TABLES : ∃ u, mg "MOST_TABLES" = some u ∧ RelV (.int 5) u
  v_MOST_REFERENCES : ∃ u, mg "MOST_REFERENCES" = some u ∧ RelV (.int 3) u
  n_len : mg "len" = none
  n_range : mg "range" = none
  n_int : mg "int" = none
  n_tuple : mg "tuple" = none
  n_isinstance : mg "isinstance" = none
  n_str : mg "str" = none
  n_bool : mg "bool" = none
  n_list : mg "list" = none
  n_all : mg "all" = none
  n_set : mg "set" = none
end My
namespace My
open PySem L2
def spAt (K : PySem.W.Frag) : Sp := fun vs H Q _ => ∃ (a : Addr) (ns : List Int) (k : Nat), vs = [.ref a, .int k] ∧ SqL K H a (ns.map V.int) ∧ ∀ z : Int, Q (.int z) H
theorem ok_law_at {P : Program} {w : World} {K : PySem.W.Frag} {mg : Str → Option Value} {base : Heap} {CS : Addr} (T : Txt K mg CS) : CallOk P w K mg base 1 "_law_at" (spAt K) := by
  refine T.d_law_at.ok sc_law_at (fun vs H Q E h => ?_) (fun f cdv A outer s H vs Q E hr h => ?_)
  · obtain ⟨a, ns, k, rfl, _⟩ := h
    rfl
  · obtain ⟨a, ns, k, rfl, hS, q⟩ := h
    refine ⟨_, (pss_cons (ps_if (pt_cmpR op_lt (pv 1) (pe_callB (kLen (K := K)) (by rfl) T.n_len PySem.boot_len (pa_cons (pv 0) pa_nil)) (nomark _)) (pss_one (ps_ret (pe_ix (kIxL (K := K)) (pv 0) (pv 1) (fun _ _ => rfl)))) pss_nil)
      (pss_one (ps_ret pe_int))), ?_⟩
    refine ⟨_, rfl, _, rfl, a, _, rfl, .inl hS, _, _, rfl, rfl, _, rfl, ?_⟩
    refine ite2 (fun c => ?_) (fun _ => ?_)
    · have hk : k < ns.length := by
        have := of_decide_eq_true c
        rw [List.length_map] at this
        omega
      refine ⟨_, rfl, _, rfl, a, _, _, V.int ns[k], rfl, rfl, hS, atI_nat ?_, q _⟩
      rw [List.getElem?_map, List.getElem?_eq_getElem hk] <;> rfl
    · exact q 0
end My
namespace My
open PySem L2
def spBegin : Sp := fun vs H Q _ => ∃ z : Int, vs = [.int z] ∧ ∀ p H', H p = none → Same H H' → StAt H' p 1000000 → Q (.ref p) H'
theorem ok_law_begin {P : Program} {w : World} {K : PySem.W.Frag} {mg : Str → Option Value} {base : Heap} {CS : Addr} (T : Txt K mg CS) : CallOk P w K mg base 1 "_law_begin" spBegin := by
  refine T.d_law_begin.ok sc_law_begin (fun vs H Q E h => ?_) (fun f cdv A outer s H vs Q E hr h => ?_)
  · obtain ⟨z, rfl, _⟩ := h
    rfl
  · obtain ⟨z, rfl, q⟩ := h
    refine ⟨_, (pss_cons (ps_if (pt_cmpR op_ge (pv 0) (pe_op op_pow pe_int pe_int) (nomark _)) (pss_one (ps_ret (pe_lst (pa_cons (pe_op op_sub (pv 0) (pe_op op_pow pe_int pe_int)) (pa_cons (pv 0) (pa_cons pe_int pa_nil)))))) pss_nil)
      (pss_one (ps_ret (pe_lst (pa_cons (pe_un un_neg pe_int) (pa_cons (pv 0) (pa_cons pe_int pa_nil))))))), ?_⟩
    refine ⟨_, rfl, _, _, rfl, rfl, ⟨by decide, by decide, by decide⟩, _, _, rfl, rfl, _, rfl, ?_⟩
    refine ite2 (fun c => ?_) (fun _ => ?_)
    · refine ⟨_, rfl, _, _, rfl, rfl, ⟨by decide, by decide, by decide⟩, _, _, rfl, rfl, _, rfl, sizeL (by show 3 ≤ 100000; decide), fun p hp => ?_⟩
      exact q p _ hp (Same.upd (Same.refl H) hp) ⟨_, _, _, upd_same, by omega, by omega⟩
    · refine ⟨_, rfl, _, rfl, sizeL (by show 3 ≤ 100000; decide), fun p hp => ?_⟩
      exact q p _ hp (Same.upd (Same.refl H) hp) ⟨_, _, _, upd_same, by omega, by omega⟩
end My
namespace My
open PySem L2
def spTake : Sp := fun vs H Q _ => ∃ (a : Addr) (b : Int) (n : Nat), vs = [.ref a, .int b] ∧ 0 < b ∧ b < 2 ^ 200 ∧ StAt H a (n + 1) ∧ ∀ (d : Int) H', 0 ≤ d → d < b → StAt H' a n → Fr1 a H H' → Q (.int d) H'
theorem ok_law_take {P : Program} {w : World} {K : PySem.W.Frag} {mg : Str → Option Value} {base : Heap} {CS : Addr} (T : Txt K mg CS) : CallOk P w K mg base 1 "_law_take" spTake := by
  refine T.d_law_take.ok sc_law_take (fun vs H Q E h => ?_) (fun f cdv A outer s H vs Q E hr h => ?_)
  · obtain ⟨a, b, n, rfl, _⟩ := h
    rfl
  · obtain ⟨a, b, n, rfl, hb0, hb1, ⟨x, y, k, hs, k0, k1⟩, q⟩ := h
    have hS : SqL K H a [.int x, .int y, .int k] := SqL.of hs
    have hbn : b.natAbs < 2 ^ 200 := by omega
    have hbd : CDivW x b := wide_div hb0 hbn (by decide) (by decide)
    refine ⟨_, (pss_cons (ps_if (pt_cmpR op_ge (pe_ix (kIxL (K := K)) (pv 0) pe_int (fun _ _ => rfl)) pe_int (nomark _)) (pss_cons (ps_set (i := 4) sc_law_take.nd rfl (by first | exact Or.inl rfl | exact Or.inr rfl) (pe_op op_mod (pe_callTy call_int1 (by rfl) T.n_int (by decide +kernel) (pa_cons (pe_ix (kIxL (K := K)) (pv 0) pe_int (fun _ _ => rfl)) pa_nil)) (pv 1)))
        (pss_cons (ps_asg (pe_op op_fdivW (pe_ix (kIxL (K := K)) (pv 0) pe_int (fun _ _ => rfl)) (pv 1)) (pg_sub (pv 0) pe_int set_list))
        (pss_one (ps_ret (pv 4))))) pss_nil)
      (pss_cons (ps_set (i := 2) sc_law_take.nd rfl (by first | exact Or.inl rfl | exact Or.inr rfl) (pe_ix (kIxL (K := K)) (pv 0) pe_int (fun _ _ => rfl)))
      (pss_cons (ps_asg (pe_op op_add (pv 2) pe_int) (pg_sub (pv 0) pe_int set_list))
      (pss_cons (ps_set (i := 3) sc_law_take.nd rfl (by first | exact Or.inl rfl | exact Or.inr rfl) (pe_op op_mul (pe_op op_add (pe_op op_add (pe_op op_add (pe_op op_mod (pe_callTy call_int1 (by rfl) T.n_int (by decide +kernel) (pa_cons (pe_ix (kIxL (K := K)) (pv 0) pe_int (fun _ _ => rfl)) pa_nil)) pe_int) (pe_op op_mul (pv 2) (pv 2))) (pv 2)) pe_int) (pe_op op_add (pe_op op_mul pe_int (pv 2)) pe_int)))
      (pss_cons (ps_set (i := 3) sc_law_take.nd rfl (by first | exact Or.inl rfl | exact Or.inr rfl) (pe_op op_mod (pe_callTy call_int1 (by rfl) T.n_int (by decide +kernel) (pa_cons (pv 3) pa_nil)) pe_int))
      (pss_cons (ps_set (i := 3) sc_law_take.nd rfl (by first | exact Or.inl rfl | exact Or.inr rfl) (pe_op op_mod (pe_callTy call_int1 (by rfl) T.n_int (by decide +kernel) (pa_cons (pe_op op_add (pe_op op_mul (pv 3) (pv 3)) (pe_op op_mul pe_int (pv 2))) pa_nil)) pe_int))
      (pss_one (ps_ret (pe_op op_mod (pe_callTy call_int1 (by rfl) T.n_int (by decide +kernel) (pa_cons (pe_op op_fdiv (pe_op op_mul (pe_op op_add (pe_op op_add (pv 3) (pe_op op_mul pe_int (pv 2))) pe_int) (pv 3)) pe_int) pa_nil)) (pv 1)))))))))), ?_⟩
    refine ⟨_, rfl, a, _, _, _, rfl, rfl, hS, rfl, _, _, rfl, rfl, _, rfl, ?_⟩
    refine ite2 (fun c => ?_) (fun _ => ?_)
    · refine ⟨_, rfl, a, _, _, _, rfl, rfl, hS, rfl, .inl ⟨_, rfl, _, rfl, _, _, rfl, rfl, hb0, ?_⟩⟩
      refine ⟨_, rfl, a, _, _, _, rfl, rfl, hS, rfl, _, rfl, _, _, rfl, rfl, hbd, ?_⟩
      refine ⟨_, rfl, a, _, _, 0, rfl, rfl, hs, rfl, ?_⟩
      refine ⟨_, rfl, q _ _ (Int.emod_nonneg _ (by omega)) (Int.emod_lt_of_pos _ hb0) ⟨_, _, _, upd_same, k0, by omega⟩ ((Fr1.refl a H).at)⟩
    · have m0 : 0 ≤ y % 2305843009213693951 := Int.emod_nonneg _ (by decide)
      have m1 : y % 2305843009213693951 < 2305843009213693951 := Int.emod_lt_of_pos _ (by decide)
      have hkk : k * k ≤ 1000000 * 1000000 := Int.mul_le_mul (by omega) (by omega) k0 (by omega)
      have hk0 : 0 ≤ k * k := Int.mul_nonneg k0 k0
      refine ⟨_, rfl, a, _, _, _, rfl, rfl, hS, rfl, ?_⟩
      refine ⟨_, rfl, _, _, rfl, rfl, _, rfl, a, _, _, 2, rfl, rfl, hs, rfl, ?_⟩
      have hS2 : SqL K (upd H a (.lst [.int x, .int y, .int (k + 1)])) a [.int x, .int y, .int (k + 1)] := SqL.of upd_same
      refine ⟨_, rfl, a, _, _, _, rfl, rfl, hS2, rfl, .inl ⟨_, rfl, _, _, rfl, rfl, (by show (0 : Int) < 2305843009213693951; decide), _, rfl, _, rfl, _, _, rfl, rfl, .inl ⟨by omega, by omega⟩, _, _, rfl, rfl, _, rfl, _, _, rfl, rfl, _, _, rfl, rfl,
        _, rfl, _, _, rfl, rfl, .inl ⟨by omega, by omega⟩, _, _, rfl, rfl, _, _, rfl, rfl, .inl ⟨by omega, by omega⟩, ?_⟩⟩
      refine ⟨_, rfl, .inl ⟨_, rfl, _, _, rfl, rfl, (by show (0 : Int) < 2305843009213693951; decide), ?_⟩⟩
      generalize hn : ((y % 2305843009213693951 + k * k + k + 1) * (2 * k + 3)) % 2305843009213693951 = u
      have u0 : 0 ≤ u := hn ▸ Int.emod_nonneg _ (by decide)
      have u1 : u < 2305843009213693951 := hn ▸ Int.emod_lt_of_pos _ (by decide)
      refine ⟨_, rfl, _, rfl, _, _, rfl, rfl, .inl ⟨by omega, by omega⟩, _, rfl, _, _, rfl, rfl, .inl ⟨by omega, by omega⟩, _, _, rfl, rfl, .inl ⟨_, rfl, _, _, rfl, rfl, (by show (0 : Int) < 2305843009213693921; decide), ?_⟩⟩
      generalize hn2 : (u * u + 40692 * k) % 2305843009213693921 = v
      have v0 : 0 ≤ v := hn2 ▸ Int.emod_nonneg _ (by decide)
      have v1 : v < 2305843009213693921 := hn2 ▸ Int.emod_lt_of_pos _ (by decide)
      refine ⟨_, rfl, _, rfl, _, _, rfl, rfl, .inl ⟨by omega, by omega⟩, _, _, rfl, rfl, _, _, rfl, rfl, _, rfl, _, _, rfl, rfl, .inl ⟨by omega, by omega⟩, _, _, rfl, rfl, ⟨by decide, by decide⟩, .inl ⟨_, rfl, _, rfl, _, _, rfl, rfl, hb0, ?_⟩⟩
      exact q _ _ (Int.emod_nonneg _ (by omega)) (Int.emod_lt_of_pos _ hb0) ⟨_, _, _, upd_same, by omega, by omega⟩ ((Fr1.refl a H).at)
end My
namespace My
open PySem L2
def spWord : Sp := fun vs H Q _ => ∃ (a : Addr) (n : Nat), vs = [.ref a] ∧ StAt H a (n + 9) ∧ ∀ w H', Nm w → StAt H' a n → Fr1 a H H' → Q (.str w) H'
theorem ok_law_word {P : Program} {w : World} {K : PySem.W.Frag} {mg : Str → Option Value} {base : Heap} {CS : Addr} (T : Txt K mg CS) : CallOk P w K mg base 2 "_law_word" spWord := by
  have c_law_take := ok_law_take (P := P) (w := w) (base := base) T
  refine T.d_law_word.ok sc_law_word (fun vs H Q E h => ?_) (fun f cdv A outer s H vs Q E hr h => ?_)
  · obtain ⟨a, n, rfl, _⟩ := h
    rfl
  · obtain ⟨a, n, rfl, hS, q⟩ := h
    refine ⟨_, (pss_cons (ps_set (i := 1) sc_law_word.nd rfl (by first | exact Or.inl rfl | exact Or.inr rfl) pe_str)
      (pss_cons (ps_set (i := 2) sc_law_word.nd rfl (by first | exact Or.inl rfl | exact Or.inr rfl) (pe_op op_add pe_int (pe_callC c_law_take (hr.mono (by decide)) (pa_cons (pv 0) (pa_cons pe_int pa_nil)))))
      (pss_one (ps_ret (pe_join pe_str (pe_lc (own := [("k", 3)]) rfl sc_law_word.nd (pi_range1 (by rfl) T.n_range (pa_cons (pv 2) pa_nil)) (blkOk_by (N := ["state", "letters", "size", "k"]) (sc := defScope s_law_word) (own := [("k", 3)]) (by decide +kernel)) (fun _ _ _ _ _ => (pg_name (i := 3) sc_law_word.nd rfl (by first | exact Or.inl rfl | exact Or.inr rfl))) (fun _ _ _ _ _ => pts_nil) (fun _ _ _ _ _ => (pe_ix ix_str (pv 1) (pe_callC c_law_take (hr.mono (by decide)) (pa_cons (pv 0) (pa_cons pe_int pa_nil))) (fun _ _ => rfl))))))))), ?_⟩
    refine ⟨_, rfl, a, 8, n + 8, rfl, by decide, by decide, hS, fun d H1 d0 d1 hS1 e1 => ⟨_, _, rfl, rfl, ?_⟩⟩
    obtain ⟨xs1, hx1⟩ := hS1.lst
    refine ⟨⟨_, rfl⟩, _, rfl, _, rfl, by omega, by omega, fun D hD => ?_⟩
    have hDa : D ≠ a := (ne_of_none hx1 hD).symm
    refine lc_range (lo := 0) (n := (1 + d).toNat) (fun i Hi => ∃ cs : List Nat, cs.length = i ∧ (∀ c ∈ cs, 97 ≤ c ∧ c ≤ 122) ∧ Hi D = some (.lst (cs.map fun c => V.str ⟨#[c]⟩)) ∧ StAt Hi a (n + (8 - i)) ∧ Fr1 a H1 Hi) ?_ ?_ ?_
    · exact ⟨[], rfl, by simp, upd_same, hS1.upd (hDa.symm), (Fr1.refl a H1).upd hD⟩
    · rintro i Hi hi ⟨cs, hc, az, hl, hs, e2⟩
      refine ⟨rfl, tYes_if ?_⟩
      refine ⟨_, rfl, _, rfl, a, 26, n + (8 - (i + 1)), rfl, by decide, by decide, hs.mono (by omega), fun z H2 z0 z1 hs2 e3 => ?_⟩
      obtain ⟨j, rfl⟩ : ∃ j : Nat, z = (j : Int) := ⟨z.toNat, by omega⟩
      have hj : j < 26 := by omega
      refine ⟨abc, _, 97 + j, rfl, rfl, sizeL (by rw [abc_len]; decide), atI_nat (abc_at j hj), _, e3 D _ hDa hl, sizeLt (by rw [List.length_map]; omega), cs ++ [97 + j], by simp [hc], ?_, ?_, hs2.upd hDa.symm, ?_⟩
      · intro c hm
        rcases List.mem_append.mp hm with m | m
        · exact az c m
        · rw [List.mem_singleton.mp m]
          omega
      · rw [upd_same, List.map_append]
        rfl
      · exact fun c o nc hc => by
          rw [upd_ne (ne_of_none hc hD)]
          exact e3 c o nc (e2 c o nc hc)
    · rintro Hi ⟨cs, hc, az, hl, hs, e2⟩
      refine ⟨_, D, cs.map fun c => ⟨#[c]⟩, rfl, rfl, .inl (SqL.of ?_), ?_, ?_⟩
      · rw [hl, List.map_map]
        rfl
      · have e0 : ((cs.map fun c => (⟨#[c]⟩ : Str)).map (·.length)).sum = cs.length := by
          clear hc az hl
          induction cs with
          | nil => rfl
          | cons c r ih =>
            rw [List.map_cons, List.map_cons, List.sum_cons, ih, List.length_cons]
            show 1 + r.length = r.length + 1
            omega
        rw [e0, List.length_map]
        have : (Str.ofString "").length = 0 := by decide +kernel
        rw [this]
        omega
      · refine q _ Hi (Nm.of (cd_join cs) (by omega) (by omega) az) (hs.mono (by omega)) (e1.trans e2)
end My
namespace My
open PySem L2
structure WsAt (H : Hp) (a p : Addr) (n : Nat) (ws : List Str) (Hi : Hp) : Prop where
  nd : ws.Nodup
  nm : ∀ w ∈ ws, Nm w
  at_ : Hi p = some (.lst (ws.map V.str))
  st : StAt Hi a n
  fr : Fr1 a H Hi
theorem WsAt.step {H Hi Hj : Hp} {a p : Addr} {n m : Nat} {ws : List Str} (h : WsAt H a p n ws Hi) (np : p ≠ a) (s : StAt Hj a m) (e : Fr1 a Hi Hj) : WsAt H a p m ws Hj :=
  ⟨h.nd, h.nm, e p _ np h.at_, s, h.fr.trans e⟩
theorem WsAt.new {H Hi : Hp} {a p q : Addr} {n : Nat} {ws : List Str} {o : HO} (h : WsAt H a p n ws Hi) (hq : Hi q = none) : WsAt H a p n ws (upd Hi q o) :=
  ⟨h.nd, h.nm, by rw [upd_ne (ne_of_none h.at_ hq)]; exact h.at_, h.st.upd (h.st.ne hq), fun c u nc hc => by
    have := h.fr c u nc hc
    rw [upd_ne (ne_of_none this hq)]
    exact this⟩
def spWords : Sp := fun vs H Q _ => ∃ (a : Addr) (z : Int) (c n : Nat), vs = [.ref a, .int z] ∧ z = (c : Int) ∧ c ≤ 6 ∧ StAt H a (n + 12 * c) ∧
  ∀ (p : Addr) (ws : List Str) (H' : Hp), H p = none → ws.length = c → ws.Nodup → (∀ w ∈ ws, Nm w) → H' p = some (.lst (ws.map V.str)) → StAt H' a n → Fr1 a H H' → Q (.ref p) H'
theorem ok_law_words {P : Program} {w : World} {K : PySem.W.Frag} {mg : Str → Option Value} {base : Heap} {CS : Addr} (T : Txt K mg CS) : CallOk P w K mg base 3 "_law_words" spWords := by
  have c_law_take := ok_law_take (P := P) (w := w) (base := base) T
  have c_law_word := ok_law_word (P := P) (w := w) (base := base) T
  refine T.d_law_words.ok sc_law_words (fun vs H Q E h => ?_) (fun f cdv A outer s H vs Q E hr h => ?_)
  · obtain ⟨a, z, c, n, rfl, _⟩ := h
    rfl
  · obtain ⟨a, _, c, n, rfl, rfl, hc6, hS, q⟩ := h
    refine ⟨_, (pss_cons (ps_set (i := 2) sc_law_words.nd rfl (by first | exact Or.inl rfl | exact Or.inr rfl) pe_str)
      (pss_cons (ps_set (i := 3) sc_law_words.nd rfl (by first | exact Or.inl rfl | exact Or.inr rfl) (pe_lst pa_nil))
      (pss_cons (ps_for PassesOwn.never rfl (pi_range1 (by rfl) T.n_range (pa_cons (pv 1) pa_nil)) (pg_name (i := 4) sc_law_words.nd rfl (by first | exact Or.inl rfl | exact Or.inr rfl))
      (pss_cons (ps_set (i := 5) sc_law_words.nd rfl (by first | exact Or.inl rfl | exact Or.inr rfl) (pe_callC c_law_word (hr.mono (by decide)) (pa_cons (pv 0) pa_nil)))
          (pss_cons (ps_set (i := 6) sc_law_words.nd rfl (by first | exact Or.inl rfl | exact Or.inr rfl) (pe_callC c_law_take (hr.mono (by decide)) (pa_cons (pv 0) (pa_cons pe_int pa_nil))))
          (Evl.pss_cut (ps_if (PW.pt (pw_and (pt_cmpR (kNeD (K := K) hr.units) (pv 3) (pe_lst pa_nil) (nomark _)) (pw_and1 (pt_cmpR op_gt (pv 6) pe_int (nomark _))))) (pss_cons (ps_set (i := 7) sc_law_words.nd rfl (by first | exact Or.inl rfl | exact Or.inr rfl) (pe_ix (kIxL (K := K)) (pv 3) (pe_un un_neg pe_int) (fun _ _ => rfl)))
        (pss_cons (ps_set (i := 8) sc_law_words.nd rfl (by first | exact Or.inl rfl | exact Or.inr rfl) (pe_callC c_law_take (hr.mono (by decide)) (pa_cons (pv 0) (pa_cons (pe_callB call_len_str (by rfl) T.n_len PySem.boot_len (pa_cons (pv 7) pa_nil)) pa_nil))))
        (pss_cons (ps_set (i := 5) sc_law_words.nd rfl (by first | exact Or.inl rfl | exact Or.inr rfl) (pe_op op_add_str (pe_op op_add_str (pe_slice sl_str (pv 7) po_none (po_some (pv 8))) (pe_ix ix_str (pv 2) (pe_callC c_law_take (hr.mono (by decide)) (pa_cons (pv 0) (pa_cons pe_int pa_nil))) (fun _ _ => rfl))) (pe_slice sl_str (pv 7) (po_some (pe_op op_add (pv 8) pe_int)) po_none)))
        (Evl.pss_cut (ps_if (PW.pt (pw_and (pt_cmpR op_eq (pv 6) pe_int (nomark _)) (pw_and1 (pt_cmpR op_lt (pe_callB call_len_str (by rfl) T.n_len PySem.boot_len (pa_cons (pv 7) pa_nil)) pe_int (nomark _))))) (pss_one (ps_set (i := 5) sc_law_words.nd rfl (by first | exact Or.inl rfl | exact Or.inr rfl) (pe_op op_add_str (pv 7) (pe_ix ix_str (pv 5) (pv 8) (fun _ _ => rfl))))) pss_nil)
        (pss_one (ps_if (PW.pt (pw_and (pt_cmpR op_eq (pv 6) pe_int (nomark _)) (pw_and1 (pt_cmpR op_gt (pe_callB call_len_str (by rfl) T.n_len PySem.boot_len (pa_cons (pv 7) pa_nil)) pe_int (nomark _))))) (pss_one (ps_set (i := 5) sc_law_words.nd rfl (by first | exact Or.inl rfl | exact Or.inr rfl) (pe_op op_add_str (pe_slice sl_str (pv 7) po_none (po_some (pv 8))) (pe_slice sl_str (pv 7) (po_some (pe_op op_add (pv 8) pe_int)) po_none)))) pss_nil)))))) pss_nil)
          (Evl.pss_cut (ps_if (pt_cmpR (kIn (K := K)) (pv 5) (pv 3) rfl) (pss_one (ps_set (i := 5) sc_law_words.nd rfl (by first | exact Or.inl rfl | exact Or.inr rfl) (pe_ix (kIxL (K := K)) (pe_lc (own := [("letter", 9)]) rfl sc_law_words.nd (pi_str (pv 2)) (blkOk_by (N := ["state", "count", "letters", "words", "k", "word", "way", "near", "at", "letter"]) (sc := defScope s_law_words) (own := [("letter", 9)]) (by decide +kernel)) (fun _ _ _ _ _ => (pg_name (i := 9) sc_law_words.nd rfl (by first | exact Or.inl rfl | exact Or.inr rfl))) (fun _ _ _ _ _ => (pts_one (pt_cmpR (kNotIn (K := K)) (pv 9) (pv 3) rfl))) (fun _ _ _ _ _ => (pv 9))) pe_int (fun _ _ => rfl)))) pss_nil)
          (pss_one (ps_expr (pe_bm PySem.F.plainAttrs_list PySem.F.slot_list_append PySem.F.type_list_append mt_append (pv 3) (pa_cons (pv 5) pa_nil)))))))))
      (pss_one (ps_ret (pv 3)))))), ?_⟩
    refine ⟨Nat.zero_le _, fun p hp => ?_⟩
    obtain ⟨xs0, hx0⟩ := hS.lst
    have np : p ≠ a := (ne_of_none hx0 hp).symm
    refine ⟨_, rfl, _, rfl, by omega, by omega, for_range (lo := 0) (n := ((c : Int)).toNat) (fun i σ Hi => ∃ (ws : List Str) (o4 o5 o6 o7 o8 o9 : Option V), σ = [some (.ref a), some (.int c), some (.str abc), some (.ref p), o4, o5, o6, o7, o8, o9] ∧ ws.length = i ∧ i ≤ c ∧ WsAt H a p (n + 12 * (c - i)) ws Hi) ?_ ?_ ?_⟩
    · exact ⟨[], none, none, none, none, none, none, rfl, rfl, Nat.zero_le _, List.nodup_nil, by simp, upd_same, (hS.mono (by omega)).upd np.symm, (Fr1.refl a H).upd hp⟩
    · rintro i σ Hi hi ⟨ws, o4, o5, o6, o7, o8, o9, rfl, hl, hic, W⟩
      have hi' : i < c := by omega
      refine ⟨_, rfl, a, n + 12 * (c - i) - 9, rfl, W.st.mono (by omega), fun w H1 nw hS1 e1 => ?_⟩
      have W1 := W.step np hS1 e1
      refine ⟨_, rfl, a, 4, n + 12 * (c - i) - 10, rfl, by decide, by decide, hS1.mono (by omega), fun way H2 w0 w1 hS2 e2 => ?_⟩
      have W2 := W1.step np hS2 e2
      refine ⟨fun σ' H' => ∃ (v : Str) (o7 o8 o9 : Option V), σ' = [some (.ref a), some (.int c), some (.str abc), some (.ref p), some (.int (0 + i)), some (.str v), some (.int way), o7, o8, o9] ∧ Nm v ∧ WsAt H a p (n + 12 * (c - (i + 1))) ws H', ?_, ?_⟩
      · -- if words != [] and way > 0
        refine ⟨_, rfl, Nat.zero_le _, fun l hl2 => ?_⟩
        have W3 := W2.new (o := .lst []) hl2
        have nl : p ≠ l := ne_of_none W2.at_ hl2
        refine ⟨.list (ws.map PyData.str), .list [], Dp.lst (SqL.of W3.at_) (TdAll.dp (TdAll.strs ws)), Dp.lst (SqL.of upd_same) .nil, (Fine.lst (fine_strs W.nm)).sh (by decide), (Fine.lst (n := 1) (by simp)).sh (by decide), ?_⟩
        rcases Classical.em (ws = []) with hw | hw
        · subst hw
          refine ⟨false, by simp [PyData.eqv, PyData.eqvAll], iteF ?_⟩
          exact iteF ⟨w, _, _, _, rfl, nw, W3.step np (W3.st.mono (by omega)) (Fr1.refl a _)⟩
        · obtain ⟨ini, near, rfl⟩ : ∃ ini near, ws = ini ++ [near] := ⟨ws.dropLast, ws.getLast hw, (List.dropLast_concat_getLast hw).symm⟩
          refine ⟨true, ?_, iteT ?_⟩
          · rw [eqv_lists_nil]
            simp
          refine ⟨_, rfl, _, _, rfl, rfl, _, rfl, ite2 (fun c1 => ?_) (fun _ => ?_)⟩
          rotate_left
          · exact ⟨w, _, _, _, rfl, nw, W3.step np (W3.st.mono (by omega)) (Fr1.refl a _)⟩
          have nn : Nm near := W.nm near (by simp)
          refine ⟨_, rfl, _, rfl, p, _, _, .str near, rfl, rfl, SqL.of W3.at_, (by rw [List.map_append]; exact atI_last _ _), ?_⟩
          refine ⟨_, rfl, _, rfl, near, rfl, sizeL (by have := nn.hi; omega), a, _, n + 12 * (c - i) - 11, rfl, (by have := nn.lo; omega), (by have := nn.hi; omega), W3.st.mono (by omega), fun at_ H4 a0 a1 hS4 e4 => ?_⟩
          have W4 := W3.step np hS4 e4
          obtain ⟨k, rfl⟩ : ∃ k : Nat, at_ = (k : Int) := ⟨at_.toNat, by omega⟩
          have hk : k < (cd near).length := by
            rw [← cd_len]
            omega
          have hz : near.length ≤ sizeLine := sizeL (by have := nn.hi; omega)
          refine ⟨_, rfl, _, rfl, _, rfl, _, rfl, hz, _, rfl, _, rfl, a, 26, n + 12 * (c - (i + 1)), rfl, by decide, by decide, hS4.mono (by omega), fun z H5 z0 z1 hS5 e5 => ?_⟩
          have W5 := W4.step np hS5 e5
          obtain ⟨j, rfl⟩ : ∃ j : Nat, z = (j : Int) := ⟨z.toNat, by omega⟩
          have hj : j < 26 := by omega
          have l1 : cd (cutS near none (some (k : Int))) = (cd near).take k := cut_to near k (by rw [cd_len]; omega)
          have l2 : cd (cutS near (some ((k : Int) + 1)) none) = (cd near).drop (k + 1) := cut_from near (k + 1)
          have z1' : (cutS near none (some (k : Int))).length ≤ 8 := by
            rw [cd_len, l1, List.length_take]
            have := nn.l8
            omega
          have z2' : (cutS near (some ((k : Int) + 1)) none).length ≤ 8 := by
            rw [cd_len, l2, List.length_drop]
            have := nn.l8
            omega
          refine ⟨abc, _, 97 + j, rfl, rfl, sizeL (by rw [abc_len]; decide), atI_nat (abc_at j hj), _, _, rfl, rfl, sizeL (by show _ + 1 ≤ _; omega), ?_⟩
          have hzz : (cutS near none (some (k : Int)) ++ (⟨#[97 + j]⟩ : Str)).length ≤ 9 := by
            rw [cd_len, cd_app, List.length_append, ← cd_len]
            show _ + 1 ≤ 9
            omega
          refine ⟨_, rfl, _, rfl, _, _, rfl, rfl, _, rfl, _, rfl, hz, _, _, rfl, rfl, sizeL (by omega), ?_⟩
          generalize hv : cutS near none (some (k : Int)) ++ (⟨#[97 + j]⟩ : Str) ++ cutS near (some ((k : Int) + 1)) none = v
          have cv : cd v = (cd near).take k ++ [97 + j] ++ (cd near).drop (k + 1) := by
            rw [← hv, cd_app, cd_app, l1, l2]
          have nv : Nm v := nn.bent hk (by omega) cv
          have vl : (cd v).length = (cd near).length := by
            rw [cv]
            simp only [List.length_append, List.length_take, List.length_drop, List.length_singleton]
            omega
          refine ⟨fun σ' H' => ∃ (v : Str), σ' = [some (.ref a), some (.int c), some (.str abc), some (.ref p), some (.int (0 + i)), some (.str v), some (.int way), some (.str near), some (.int k), o9] ∧ Nm v ∧ WsAt H a p (n + 12 * (c - (i + 1))) (ini ++ [near]) H', ?_, ?_⟩
          · -- if way == 2 and len(near) < 8: word = near + word[at]
            refine ⟨_, rfl, rfl, _, rfl, ite2 (fun _ => ?_) (fun _ => iteF ⟨v, rfl, nv, W5⟩)⟩
            refine ⟨_, rfl, _, rfl, hz, _, _, rfl, rfl, _, rfl, ite2 (fun c8 => ?_) (fun _ => ⟨v, rfl, nv, W5⟩)⟩
            have c8 : near.length < 8 := by
              have := of_decide_eq_true c8
              omega
            have hk2 : k < (cd v).length := by omega
            refine ⟨_, rfl, _, rfl, _, rfl, v, _, (cd v)[k], rfl, rfl, sizeL (by have := nv.hi; omega), atI_nat (List.getElem?_eq_getElem hk2), _, _, rfl, rfl, sizeL (by show _ + 1 ≤ _; omega), ?_⟩
            exact ⟨_, rfl, nn.more (by rw [← cd_len]; exact c8) (nv.az _ (List.getElem_mem hk2)) (by rw [cd_app]), W5⟩
          · rintro σ' H' ⟨v, rfl, nv, W6⟩
            refine ⟨_, rfl, rfl, _, rfl, ite2 (fun _ => ?_) (fun _ => iteF ⟨v, _, _, _, rfl, nv, W6⟩)⟩
            refine ⟨_, rfl, _, rfl, hz, _, _, rfl, rfl, _, rfl, ite2 (fun c1 => ?_) (fun _ => ⟨v, _, _, _, rfl, nv, W6⟩)⟩
            have c1 : 1 < near.length := by
              have := of_decide_eq_true c1
              omega
            refine ⟨_, rfl, _, rfl, _, rfl, _, rfl, hz, _, rfl, _, rfl, _, _, rfl, rfl, _, rfl, _, rfl, hz, _, _, rfl, rfl, sizeL (by omega), ?_⟩
            exact ⟨_, _, _, _, rfl, nn.less hk (by rw [← cd_len]; exact c1) (by rw [cd_app, l1, l2]), W6⟩
      · rintro σ' H' ⟨v, o7, o8, o9, rfl, nv, W3⟩
        refine ⟨fun σ' H' => ∃ (v : Str) (o9 : Option V), σ' = [some (.ref a), some (.int c), some (.str abc), some (.ref p), some (.int (0 + i)), some (.str v), some (.int way), o7, o8, o9] ∧ Nm v ∧ v ∉ ws ∧ WsAt H a p (n + 12 * (c - (i + 1))) ws H', ?_, ?_⟩
        · -- if word in words
          refine ⟨_, rfl, _, rfl, p, _, rfl, .inl (SqL.of W3.at_), rfl, flat_strs ws, decide (v ∈ ws), ?_, ?_⟩
          · show V.bl (inV _ _) = _
            rw [inV_strs]
          refine ite2 (fun _ => ?_) (fun c1 => ⟨v, _, rfl, nv, (by simpa using c1), W3⟩)
          refine ⟨_, rfl, _, rfl, fun D hD => lc_str (x := abc) (fun t Ht => ∃ acc : List V, Ht D = some (.lst acc) ∧ acc.length ≤ t ∧ (acc = [] → ∀ u, u < t → (⟨#[97 + u]⟩ : Str) ∈ ws) ∧ (∀ y ∈ acc, ∃ c, (97 ≤ c ∧ c ≤ 122) ∧ (⟨#[c]⟩ : Str) ∉ ws ∧ y = .str ⟨#[c]⟩) ∧ WsAt H a p (n + 12 * (c - (i + 1))) ws Ht) ?_ ?_ ?_⟩
          · exact ⟨[], upd_same, Nat.zero_le _, fun _ u h => absurd h (Nat.not_lt_zero _), by simp, W3.new hD⟩
          · rintro t s Ht hts ⟨acc, hacc, hal, hno, hyes, W4⟩
            have ht26 : t < 26 := by
              have h1 := (Array.getElem?_eq_some_iff.mp hts).1
              have h2 : abc.cps.size = 26 := abc_len
              omega
            have es : s = 97 + t := by
              have h1 := abc_at t ht26
              rw [Array.getElem?_toList, hts] at h1
              exact Option.some.inj h1
            subst es
            have nDp : D ≠ p := fun e => by
              have := W3.at_
              rw [← e, hD] at this
              cases this
            have nDa : D ≠ a := (W3.st.ne hD).symm
            refine ⟨rfl, _, rfl, _, rfl, p, _, rfl, .inl (SqL.of W4.at_), rfl, flat_strs ws, !decide ((⟨#[97 + t]⟩ : Str) ∈ ws), ?_, ?_⟩
            · show V.bl (!inV _ _) = _
              rw [inV_strs]
            by_cases hm : (⟨#[97 + t]⟩ : Str) ∈ ws
            · rw [decide_eq_true hm]
              refine iteF ⟨acc, hacc, by omega, fun e u hu => ?_, hyes, W4⟩
              rcases Nat.lt_succ_iff_lt_or_eq.mp hu with h | rfl
              · exact hno e u h
              · exact hm
            · rw [decide_eq_false hm]
              refine iteT ⟨_, rfl, acc, hacc, sizeLt (by omega), acc ++ [.str ⟨#[97 + t]⟩], upd_same, by simp; omega, fun e => by simp at e, fun y hy => ?_, W4.nd, W4.nm, by rw [upd_ne nDp.symm]; exact W4.at_, W4.st.upd nDa.symm, ?_⟩
              · rcases List.mem_append.mp hy with h | h
                · exact hyes y h
                · exact ⟨97 + t, by omega, hm, List.mem_singleton.mp h⟩
              · intro b o nb hb
                have hbD : b ≠ D := fun e => by
                  have h3 := W3.fr b o nb hb
                  rw [e, hD] at h3
                  cases h3
                rw [upd_ne hbD]
                exact W4.fr b o nb hb
          · rintro Ht ⟨acc, hacc, hal, hno, hyes, W4⟩
            cases acc with
            | nil =>
              exfalso
              obtain ⟨j, hj, hf⟩ := free_letter ws (by omega)
              have h2 : abc.cps.size = 26 := abc_len
              exact hf (hno rfl j (by omega))
            | cons y r =>
              obtain ⟨s, az, hf, rfl⟩ := hyes y List.mem_cons_self
              refine ⟨D, _, _, _, rfl, rfl, SqL.of hacc, atI_nat (j := 0) rfl, ?_⟩
              exact ⟨_, _, rfl, Nm.sign az, hf, W4⟩
        · rintro σ' H' ⟨v, o9, rfl, nv, hf, W4⟩
          refine ⟨_, rfl, .inl ⟨rfl, _, SqL.of W4.at_⟩, _, rfl, p, _, _, rfl, rfl, W4.at_, sizeLt (by rw [List.length_map]; omega), ?_⟩
          refine ⟨ws ++ [v], _, _, _, _, _, _, rfl, by simp [hl], by omega, nd_snoc W4.nd hf, fun w hw => ?_, by rw [upd_same, List.map_append]; rfl, W4.st.upd np.symm, ?_⟩
          · rcases List.mem_append.mp hw with h | h
            · exact W4.nm w h
            · rw [List.mem_singleton.mp h]
              exact nv
          · intro b o nb hb
            have hbp : b ≠ p := fun e => by
              rw [e, hp] at hb
              cases hb
            rw [upd_ne hbp]
            exact W4.fr b o nb hb
    · rintro σ Hi ⟨ws, o4, o5, o6, o7, o8, o9, rfl, hl, hic, W⟩
      exact ⟨_, rfl, q p ws Hi hp (by omega) W.nd W.nm W.at_ (W.st.mono (by omega)) W.fr⟩
end My
namespace My
open PySem L2
def spTables : Sp := fun vs H Q _ => ∃ (a : Addr) (most mc : Int) (n : Nat), vs = [.ref a, .int most, .int mc] ∧ (1 ≤ most ∧ most ≤ 5) ∧ (0 ≤ mc ∧ mc ≤ 3) ∧ StAt H a (n + 300) ∧
  ∀ (v : V) (pl : Plan) (H' : Hp), Td H' v (planD pl) → Good pl → (pl.length : Int) ≤ most → (∀ e ∈ pl, (e.2.2.length : Int) ≤ mc) → StAt H' a n → Fr1 a H H' → Q v H'
theorem ok_law_tables {P : Program} {w : World} {K : PySem.W.Frag} {mg : Str → Option Value} {base : Heap} {CS : Addr} (T : Txt K mg CS) : CallOk P w K mg base 4 "_law_tables" spTables := by
  have c_law_take := ok_law_take (P := P) (w := w) (base := base) T
  have c_law_words := ok_law_words (P := P) (w := w) (base := base) T
  refine T.d_law_tables.ok sc_law_tables (fun vs H Q E h => ?_) (fun f cdv A outer s H vs Q E hr h => ?_)
  · obtain ⟨a, m, k, n, rfl, _⟩ := h
    rfl
  · obtain ⟨a, most, mc, n, rfl, ⟨hm1, hm5⟩, ⟨hc0, hc3⟩, hS, q⟩ := h
    refine ⟨_, (pss_cons (ps_set (i := 3) sc_law_tables.nd rfl (by first | exact Or.inl rfl | exact Or.inr rfl) (pe_callC c_law_words (hr.mono (by decide)) (pa_cons (pv 0) (pa_cons (pe_op op_add pe_int (pe_callC c_law_take (hr.mono (by decide)) (pa_cons (pv 0) (pa_cons (pv 1) pa_nil)))) pa_nil))))
      (pss_cons (ps_set (i := 4) sc_law_tables.nd rfl (by first | exact Or.inl rfl | exact Or.inr rfl) (pe_lst pa_nil))
      (pss_cons (ps_for PassesOwn.never rfl (kPiL (K := K) (pv 3)) (pg_name (i := 5) sc_law_tables.nd rfl (by first | exact Or.inl rfl | exact Or.inr rfl))
      (pss_cons (ps_set (i := 6) sc_law_tables.nd rfl (by first | exact Or.inl rfl | exact Or.inr rfl) (pe_cmpR op_eq (pe_callC c_law_take (hr.mono (by decide)) (pa_cons (pv 0) (pa_cons pe_int pa_nil))) pe_int (nomark _)))
          (pss_cons (ps_set (i := 7) sc_law_tables.nd rfl (by first | exact Or.inl rfl | exact Or.inr rfl) (pe_callC c_law_words (hr.mono (by decide)) (pa_cons (pv 0) (pa_cons (pe_callC c_law_take (hr.mono (by decide)) (pa_cons (pv 0) (pa_cons (pe_op op_add (pv 2) pe_int) pa_nil))) pa_nil))))
          (pss_cons (ps_setLc (i := 8) (own := [("column", 9)]) rfl sc_law_tables.nd rfl rfl (sw_true rfl rfl rfl (by decide +kernel)) (kPiL (K := K) (pv 7)) (blkOk_by (N := ["state", "most", "most_columns", "names", "entries", "name", "unique", "columns", "references", "column"]) (sc := defScope s_law_tables) (own := [("column", 9)]) (by decide +kernel)) (fun _ _ _ _ _ => (pg_name (i := 9) sc_law_tables.nd rfl (by first | exact Or.inl rfl | exact Or.inr rfl))) (fun _ _ _ _ _ => pts_nil) (fun _ _ _ _ _ => (pe_tup (pa_cons (pv 9) (pa_cons (pe_ix (kIxL (K := K)) (pv 3) (pe_callC c_law_take (hr.mono (by decide)) (pa_cons (pv 0) (pa_cons (pe_callB (kLen (K := K)) (by rfl) T.n_len PySem.boot_len (pa_cons (pv 3) pa_nil)) pa_nil))) (fun _ _ => rfl)) pa_nil)))))
          (pss_one (ps_expr (pe_bm PySem.F.plainAttrs_list PySem.F.slot_list_append PySem.F.type_list_append mt_append (pv 4) (pa_cons (pe_tup (pa_cons (pv 5) (pa_cons (pv 6) (pa_cons (pe_callTy (kTup (K := K)) (by rfl) T.n_tuple (by decide +kernel) (pa_cons (pv 8) pa_nil)) pa_nil)))) pa_nil))))))))
      (pss_one (ps_ret (pe_callTy (kTup (K := K)) (by rfl) T.n_tuple (by decide +kernel) (pa_cons (pv 4) pa_nil))))))), ?_⟩
    refine ⟨_, rfl, _, rfl, _, rfl, a, most, n + 299, rfl, by omega, by omega, hS, fun d H1 d0 d1 hS1 e1 => ⟨_, _, rfl, rfl, ?_⟩⟩
    refine ⟨a, _, (1 + d).toNat, n + 230, rfl, by omega, by omega, hS1.mono (by omega), fun p ws H2 hp hwl hnd hnm hpa hS2 e2 => ?_⟩
    have np : a ≠ p := hS1.ne hp
    obtain ⟨xs1, hx1⟩ := hS1.lst
    have hp0 : H p = none := e1.free np.symm hp
    refine ⟨Nat.zero_le _, fun E0 hE => ?_⟩
    have hE0 : H E0 = none := (e1.trans e2).free (hS2.ne hE).symm hE
    have nE : a ≠ E0 := hS2.ne hE
    have npE : p ≠ E0 := ne_of_none hpa hE
    have hlen : 1 ≤ ws.length ∧ ws.length ≤ 5 := by omega
    refine ⟨_, rfl, p, rfl, ⟨_, SqL.of (by rw [upd_ne npE]; exact hpa)⟩, for_list (K := K) (a := p) (xs := ws.map V.str) (fun i σ Hi => ∃ (evs : List V) (pl : Plan) (o5 o6 o7 o8 o9 : Option V), σ = [some (.ref a), some (.int most), some (.int mc), some (.ref p), some (.ref E0), o5, o6, o7, o8, o9] ∧ i ≤ ws.length ∧ evs.length = i ∧
      Hi E0 = some (.lst evs) ∧ TdAll Hi evs (pl.map entD) ∧ pl.map (·.1) = ws.take i ∧ (∀ e ∈ pl, GoodRefs ws e.2.2 ∧ (e.2.2.length : Int) ≤ mc) ∧ Hi p = some (.lst (ws.map V.str)) ∧ StAt Hi a (n + 45 * (5 - i)) ∧ Fr1 a H Hi) ?_ ?_ ?_ ?_⟩
    · exact ⟨[], [], none, none, none, none, none, rfl, Nat.zero_le _, rfl, upd_same, .nil, rfl, by simp, by rw [upd_ne npE]; exact hpa, (hS2.upd nE).mono (by omega), (e1.trans e2).upd hE0⟩
    · rintro i σ Hi _ ⟨_, _, _, _, _, _, _, _, _, _, _, _, _, _, hpi, _⟩
      exact SqL.of hpi
    · rintro i y σ Hi hy ⟨evs, pl, o5, o6, o7, o8, o9, rfl, hi, hel, hEi, hTd, hpl, hgr, hpi, hSi, ei⟩
      have hil : i < ws.length := by
        have := (List.getElem?_eq_some_iff.mp hy).1
        rwa [List.length_map] at this
      obtain rfl : y = V.str ws[i] := by
        rw [List.getElem?_map, List.getElem?_eq_getElem hil] at hy
        exact (Option.some.inj hy).symm
      refine ⟨_, rfl, a, 2, n + 45 * (5 - i) - 1, rfl, by decide, by decide, hSi.mono (by omega), fun u H3 u0 u1 hS3 e3 => ⟨rfl, ?_⟩⟩
      refine ⟨_, rfl, _, rfl, _, rfl, _, _, rfl, rfl, a, _, n + 45 * (5 - i) - 2, rfl, by omega, by omega, hS3.mono (by omega), fun m H4 m0 m1 hS4 e4 => ?_⟩
      refine ⟨a, _, m.toNat, n + 45 * (5 - i) - 38, rfl, by omega, by omega, hS4.mono (by omega), fun pc cs H5 hpc hcl hcnd hcnm hpca hS5 e5 => ?_⟩
      have f5 : Fr1 a Hi H5 := (e3.trans e4).trans e5
      have hp5 : H5 p = some (.lst (ws.map V.str)) := f5 p _ np.symm hpi
      have hE5 : H5 E0 = some (.lst evs) := f5 E0 _ nE.symm hEi
      have hTd5 : TdAll H5 evs (pl.map entD) := hTd.mono (hSi.kt f5)
      refine ⟨_, rfl, pc, rfl, ⟨_, SqL.of hpca⟩, fun D hD => lc_list (K := K) (a := pc) (xs := cs.map V.str) (fun j Hj => ∃ (ys : List V) (rs : List Ref), j ≤ cs.length ∧ ys.length = j ∧ Hj D = some (.lst ys) ∧ TdAll Hj ys (rs.map refD) ∧ rs.map (·.1) = cs.take j ∧ (∀ r ∈ rs, r.2 ∈ ws) ∧
        StAt Hj a (n + 45 * (5 - i) - 38 - j) ∧ Fr1 a H5 Hj) ?_ ?_ ?_ ?_⟩
      · exact ⟨[], [], Nat.zero_le _, rfl, upd_same, .nil, rfl, by simp, hS5.upd (hS5.ne hD), (Fr1.refl a H5).upd hD⟩
      · rintro j Hj _ ⟨_, _, _, _, _, _, _, _, _, ej⟩
        exact SqL.of (ej pc _ (hS4.ne hpc).symm hpca)
      · rintro j y Hj hy ⟨ys, rs, hj, hyl, hDj, hTj, hrs, hto, hSj, ej⟩
        have hjl : j < cs.length := by
          have := (List.getElem?_eq_some_iff.mp hy).1
          rwa [List.length_map] at this
        obtain rfl : y = V.str cs[j] := by
          rw [List.getElem?_map, List.getElem?_eq_getElem hjl] at hy
          exact (Option.some.inj hy).symm
        have nD : a ≠ D := hS5.ne hD
        refine ⟨rfl, tYes_if ?_⟩
        refine ⟨_, rfl, _, rfl, _, rfl, _, rfl, p, _, rfl, .inl (SqL.of (ej p _ np.symm hp5)), a, _, n + 45 * (5 - i) - 38 - (j + 1), rfl, (by rw [List.length_map]; omega), (by rw [List.length_map]; omega), hSj.mono (by omega), fun z H6 z0 z1 hS6 e6 => ?_⟩
        rw [List.length_map] at z1
        obtain ⟨t, rfl⟩ : ∃ t : Nat, z = (t : Int) := ⟨z.toNat, by omega⟩
        have ht : t < ws.length := by omega
        have e56 := ej.trans e6
        refine ⟨p, _, _, V.str ws[t], rfl, rfl, SqL.of (e56 p _ np.symm hp5), atI_nat (by rw [List.getElem?_map, List.getElem?_eq_getElem ht]; rfl), sizeL (by show 2 ≤ 100000; decide), fun tp htp => ?_⟩
        have hD6 : H6 D = some (.lst ys) := e6 D _ nD.symm hDj
        have nDt : D ≠ tp := ne_of_none hD6 htp
        have hD7 : upd H6 tp (.tup [V.str cs[j], V.str ws[t]]) D = some (.lst ys) := by rw [upd_ne nDt]; exact hD6
        have kt : KT Hj (upd (upd H6 tp (.tup [V.str cs[j], V.str ws[t]])) D (.lst (ys ++ [.ref tp]))) := ((hSj.kt e6).trans (KT.of (Same.upd (Same.refl H6) htp))).updL hD7
        refine ⟨ys, hD7, sizeLt (by omega), ys ++ [.ref tp], rs ++ [(cs[j], ws[t])], hjl, by simp [hyl], upd_same, ?_, ?_, ?_, ?_, ?_⟩
        · rw [List.map_append]
          refine (hTj.mono kt).append (.cons (.tup (xs := [V.str cs[j], V.str ws[t]]) ?_ (.cons (.str _) (.cons (.str _) .nil))) .nil)
          rw [upd_ne nDt.symm, upd_same]
        · rw [List.map_append, hrs, List.take_succ_eq_append_getElem hjl]
          rfl
        · intro r hr
          rcases List.mem_append.mp hr with h | h
          · exact hto r h
          · rw [List.mem_singleton.mp h]
            exact List.getElem_mem ht
        · exact ((hS6.upd (hS6.ne htp)).upd nD)
        · intro c o nc hc
          have h6 := e56 c o nc hc
          rw [upd_ne (ne_of_none hc hD), upd_ne (ne_of_none h6 htp)]
          exact h6
      · rintro Hj ⟨ys, rs, hj, hyl, hDj, hTj, hrs, hto, hSj, ej⟩
        have hjj : (cs.map V.str).length = cs.length := List.length_map _
        rw [hjj] at hyl hrs hSj
        rw [List.take_length] at hrs
        have nD : a ≠ D := hS5.ne hD
        have fi : Fr1 a Hi Hj := f5.trans ej
        have hEj : Hj E0 = some (.lst evs) := ej E0 _ nE.symm hE5
        refine ⟨_, rfl, .inl ⟨rfl, _, SqL.of hEj⟩, _, rfl, _, rfl, _, rfl, D, _, rfl, .inl ⟨SqL.of hDj, fun t1 ht1 => ⟨sizeL (by show 3 ≤ 100000; decide), fun t2 ht2 => ?_⟩⟩⟩
        have n12 : t1 ≠ t2 := fun e => by
          rw [e, upd_same] at ht2
          cases ht2
        have nE1 : E0 ≠ t1 := ne_of_none hEj ht1
        have ht2' : Hj t2 = none := by
          rw [upd_ne n12.symm] at ht2
          exact ht2
        have nE2 : E0 ≠ t2 := ne_of_none hEj ht2'
        have hE7 : upd (upd Hj t1 (.tup ys)) t2 (.tup [V.str ws[i], .bl (decide (V.int u = V.int 1)), .ref t1]) E0 = some (.lst evs) := by
          rw [upd_ne nE2, upd_ne nE1]
          exact hEj
        refine ⟨E0, evs, _, rfl, rfl, hE7, sizeLt (by omega), ?_⟩
        have kt : KT Hj (upd (upd (upd Hj t1 (.tup ys)) t2 (.tup [V.str ws[i], .bl (decide (V.int u = V.int 1)), .ref t1])) E0 (.lst (evs ++ [.ref t2]))) :=
          ((KT.of (Same.upd (Same.refl Hj) ht1)).trans (KT.of (Same.upd (Same.refl _) ht2))).updL hE7
        refine ⟨evs ++ [.ref t2], pl ++ [(ws[i], decide (V.int u = V.int 1), rs)], _, _, _, _, _, rfl, hil, by simp [hel], upd_same, ?_, ?_, ?_, ?_, ?_, ?_⟩
        · rw [List.map_append]
          refine (hTd.mono ((hSi.kt fi).trans kt)).append (.cons (.tup (xs := [V.str ws[i], .bl (decide (V.int u = V.int 1)), .ref t1]) ?_ (.cons (.str _) (.cons (.bl _) (.cons (.tup (xs := ys) ?_ (hTj.mono kt)) .nil)))) .nil)
          · rw [upd_ne nE2.symm, upd_same]
          · rw [upd_ne nE1.symm, upd_ne n12, upd_same]
        · rw [List.map_append, hpl, List.take_succ_eq_append_getElem hil]
          rfl
        · intro e he
          rcases List.mem_append.mp he with h | h
          · exact hgr e h
          · rw [List.mem_singleton.mp h]
            have hrl : rs.length = cs.length := by rw [← hrs, List.length_map]
            refine ⟨⟨by show rs.length ≤ 3; omega, ?_, hto, by show (rs.map (·.1)).Nodup; rw [hrs]; exact hcnd⟩, by show (rs.length : Int) ≤ mc; omega⟩
            intro r hr
            exact hcnm r.1 (by rw [← hrs]; exact List.mem_map.mpr ⟨r, hr, rfl⟩)
        · rw [upd_ne npE, upd_ne (ne_of_none (fi p _ np.symm hpi) ht2'), upd_ne (ne_of_none (fi p _ np.symm hpi) ht1)]
          exact fi p _ np.symm hpi
        · exact (((hSj.upd (hSj.ne ht1)).upd ((hSj.upd (hSj.ne ht1)).ne ht2)).upd nE).mono (by omega)
        · intro c o nc hc
          have h6 := fi c o nc (ei c o nc hc)
          rw [upd_ne (ne_of_none hc hE0), upd_ne (ne_of_none h6 ht2'), upd_ne (ne_of_none h6 ht1)]
          exact h6
    · rintro σ Hi ⟨evs, pl, o5, o6, o7, o8, o9, rfl, hi, hel, hEi, hTd, hpl, hgr, hpi, hSi, ei⟩
      rw [List.length_map] at hpl hel hSi
      rw [List.take_length] at hpl
      have hpll : pl.length = ws.length := by rw [← hpl, List.length_map]
      refine ⟨_, rfl, E0, _, rfl, .inl ⟨SqL.of hEi, fun t ht => ?_⟩⟩
      refine q _ pl _ (.tup upd_same (hTd.mono (KT.of (Same.upd (Same.refl Hi) ht)))) ?_ (by omega) (fun e he => (hgr e he).2) ((hSi.upd (hSi.ne ht)).mono (by omega)) (fun c o nc hc => by
        rw [upd_ne (ne_of_none (ei c o nc hc) ht)]
        exact ei c o nc hc)
      refine ⟨by omega, by omega, fun e he => hnm e.1 (by rw [← hpl]; exact List.mem_map.mpr ⟨e, he, rfl⟩), by rw [hpl]; exact hnd, fun e he => by rw [hpl]; exact (hgr e he).1⟩
end My
namespace My
open PySem L2
def spFlag : Sp := fun vs H Q _ => ∃ b : Bool, vs = [.bl b] ∧ Q (.bl true) H
theorem ok_is_flag {P : Program} {w : World} {K : PySem.W.Frag} {mg : Str → Option Value} {base : Heap} {CS : Addr} (T : Txt K mg CS) : CallOk P w K mg base 1 "is_flag" spFlag := by
  refine T.d_is_flag.ok sc_is_flag (fun vs H Q E h => ?_) (fun f cdv A outer s H vs Q E hr h => ?_)
  · obtain ⟨b, rfl, _⟩ := h
    rfl
  · obtain ⟨b, rfl, q⟩ := h
    refine ⟨_, (pss_one (ps_ret (pe_or (pe_cmpR op_isBl (pv 0) pe_bl (nomark _)) (pe_one (pe_cmpR op_isBl (pv 0) pe_bl (nomark _)))))), ?_⟩
    refine ⟨_, rfl, _, _, rfl, rfl, _, rfl, ite2 (fun _ => q) (fun c => ?_)⟩
    have hb : b = false := by simpa using c
    subst hb
    exact ⟨_, rfl, _, _, rfl, rfl, q⟩
end My
namespace My
open PySem L2
def spOneOf (K : PySem.W.Frag) : Sp := fun vs H Q _ => ∃ v w : V, vs = [v, w] ∧ ((∃ t, TyX K H v t ∧ PySem.W.kitOne K t (.type "str") = some false ∧ Q (.bl false) H) ∨
  ∃ x, v = .str x ∧ ((∃ a o, w = .ref a ∧ DGet H a (.str x) o ∧ Q (.bl o.isSome) H) ∨ ∃ p xs, w = .ref p ∧ (SqL K H p xs ∨ SqT K H p xs) ∧ xs.all flatV = true ∧ Q (.bl (inV (.str x) xs)) H))
theorem ok_is_one_of {P : Program} {w : World} {K : PySem.W.Frag} {mg : Str → Option Value} {base : Heap} {CS : Addr} (T : Txt K mg CS) : CallOk P w K mg base 1 "is_one_of" (spOneOf K) := by
  refine T.d_is_one_of.ok sc_is_one_of (fun vs H Q E h => ?_) (fun f cdv A outer s H vs Q E hr h => ?_)
  · obtain ⟨v, w, rfl, _⟩ := h
    rfl
  · obtain ⟨v, w, rfl, h⟩ := h
    have hu := hu_of hr
    refine ⟨_, (pss_one (ps_ret (pe_and (pe_callB (kIsi (K := K)) (by rfl) T.n_isinstance (by decide +kernel) (pa_cons (pv 0) (pa_cons (pe_bltn (v := .ty "str") (by rfl) T.n_str (by decide +kernel) rfl) pa_nil))) (pe_one (pe_cmpR (kInG (K := K) hu) (pv 0) (pv 1) rfl))))), ?_⟩
    rcases h with ⟨t, ty, ko, q⟩ | ⟨x, rfl, h⟩
    · exact ⟨_, rfl, v, _, t, _, false, rfl, ClsV.ty "str", ty, ko, false, rfl, iteF q⟩
    · refine ⟨_, rfl, _, _, _, _, true, rfl, ClsV.ty "str", TyX.base (TyOf.str x), kit_ty (by decide +kernel), true, rfl, iteT ?_⟩
      refine ⟨_, rfl, _, rfl, ?_⟩
      rcases h with ⟨a, o, rfl, g, q⟩ | ⟨p, xs, rfl, hx, hf, q⟩
      · exact Or.inl ⟨a, o, rfl, g, q⟩
      · exact Or.inr ⟨p, xs, rfl, hx, rfl, hf, q⟩
end My
namespace My
open PySem L2
def spName : Sp := fun vs H Q _ => ∃ w, vs = [.str w] ∧ Nm w ∧ ∀ H', Same H H' → Q (.bl true) H'
theorem ok_is_name {P : Program} {w : World} {K : PySem.W.Frag} {mg : Str → Option Value} {base : Heap} {CS : Addr} (T : Txt K mg CS) : CallOk P w K mg base 1 "is_name" spName := by
  refine T.d_is_name.ok sc_is_name (fun vs H Q E h => ?_) (fun f cdv A outer s H vs Q E hr h => ?_)
  · obtain ⟨w, rfl, _⟩ := h
    rfl
  · obtain ⟨w, rfl, nw, q⟩ := h
    refine ⟨_, (pss_cons (ps_if (PW.pt (pw_or (pt_not (pt_val (pe_callB (kIsi (K := K)) (by rfl) T.n_isinstance (by decide +kernel) (pa_cons (pv 0) (pa_cons (pe_bltn (v := .ty "str") (by rfl) T.n_str (by decide +kernel) rfl) pa_nil))))) (pw_or1 (pt_not (pt_chain op_le op_le pe_int (pe_callB call_len_str (by rfl) T.n_len PySem.boot_len (pa_cons (pv 0) pa_nil)) (pe_globV T.v_LONGEST_NAME)))))) (pss_one (ps_ret pe_bl)) pss_nil)
      (pss_one (ps_ret (pe_callB (kAll (K := K) rfl) (by rfl) T.n_all (by decide +kernel) (pa_cons (pe_lc (own := [("letter", 1)]) rfl sc_is_name.nd (pi_str (pv 0)) (blkOk_by (N := ["value", "letter"]) (sc := defScope s_is_name) (own := [("letter", 1)]) (by decide +kernel)) (fun _ _ _ _ _ => (pg_name (i := 1) sc_is_name.nd rfl (by first | exact Or.inl rfl | exact Or.inr rfl))) (fun _ _ _ _ _ => pts_nil) (fun _ _ _ _ _ => (pe_cmpR op_in_sign (pv 1) (pe_globV T.v_LETTERS) rfl))) pa_nil))))), ?_⟩
    have l1 := nw.lo
    have l8 := nw.hi
    have hz : w.length ≤ sizeLine := sizeL (by omega)
    refine ⟨_, rfl, _, _, _, _, true, rfl, ClsV.ty "str", TyX.base (TyOf.str w), kit_ty (by decide +kernel), _, rfl, ?_⟩
    refine iteF ?_
    refine ⟨_, rfl, w, rfl, hz, _, _, rfl, rfl, true, ?_, iteT ⟨_, _, rfl, rfl, true, ?_, iteF ?_⟩⟩
    · exact congrArg V.bl (decide_eq_true (show (1 : Int) ≤ (w.length : Int) by omega))
    · exact congrArg V.bl (decide_eq_true (show (w.length : Int) ≤ 8 by omega))
    refine ⟨_, rfl, _, rfl, fun D hD => lc_str (x := w) (fun i Hi => Hi D = some (.lst (List.replicate i (V.bl true))) ∧ Same H Hi) ?_ ?_ ?_⟩
    · exact ⟨upd_same, Same.upd (Same.refl H) hD⟩
    · rintro i c Hi hc ⟨hl, e⟩
      have hcm : c ∈ w.cps.toList := by
        rw [← Array.getElem?_toList] at hc
        exact List.mem_of_getElem? hc
      have hi : i < 8 := by
        have h1 := (Array.getElem?_eq_some_iff.mp hc).1
        have h2 : w.cps.size ≤ 8 := l8
        omega
      refine ⟨rfl, tYes_if ?_⟩
      refine ⟨_, rfl, c, abc, rfl, rfl, _, hl, sizeLt (by rw [List.length_replicate]; omega), ?_, ?_⟩
      · rw [decide_eq_true ((abc_mem c).mpr (nw.az c hcm)), upd_same, rep_snoc]
      · exact Same.upd e hD
    · rintro Hi ⟨hl, e⟩
      refine ⟨D, List.replicate w.cps.size true, rfl, SqL.of (by rw [hl, rep_bl]), ?_⟩
      rw [all_true]
      exact q _ e
end My
namespace My
open PySem L2
def spRef : Sp := fun vs H Q _ => ∃ v r, vs = [v] ∧ Td H v (refD r) ∧ Nm r.1 ∧ Nm r.2 ∧ ∀ H', Same H H' → Q (.bl true) H'
theorem ok_is_reference {P : Program} {w : World} {K : PySem.W.Frag} {mg : Str → Option Value} {base : Heap} {CS : Addr} (T : Txt K mg CS) : CallOk P w K mg base 2 "_is_reference" spRef := by
  have c_is_name := ok_is_name (P := P) (w := w) (base := base) T
  refine T.d_is_reference.ok sc_is_reference (fun vs H Q E h => ?_) (fun f cdv A outer s H vs Q E hr h => ?_)
  · obtain ⟨v, r, rfl, _⟩ := h
    rfl
  · obtain ⟨v, r, rfl, hv, n1, n2, q⟩ := h
    obtain ⟨t, rfl, ht⟩ := refD_inv hv
    refine ⟨_, (pss_cons (ps_if (PW.pt (pw_or (pt_not (pt_val (pe_callB (kIsi (K := K)) (by rfl) T.n_isinstance (by decide +kernel) (pa_cons (pv 0) (pa_cons (pe_bltn (v := .ty "tuple") (by rfl) T.n_tuple (by decide +kernel) rfl) pa_nil))))) (pw_or1 (pt_cmpR op_ne (pe_callB (kLen (K := K)) (by rfl) T.n_len PySem.boot_len (pa_cons (pv 0) pa_nil)) pe_int (nomark _))))) (pss_one (ps_ret pe_bl)) pss_nil)
      (pss_cons (ps_asg (pv 0) (kPgT (K := K) (n := 2) rfl (pgs_cons (pg_name (i := 1) sc_is_reference.nd rfl (by first | exact Or.inl rfl | exact Or.inr rfl)) (pgs_cons (pg_name (i := 2) sc_is_reference.nd rfl (by first | exact Or.inl rfl | exact Or.inr rfl)) pgs_nil))))
      (pss_one (ps_ret (pe_and (pe_callC c_is_name (hr.mono (by decide)) (pa_cons (pv 1) pa_nil)) (pe_one (pe_callC c_is_name (hr.mono (by decide)) (pa_cons (pv 2) pa_nil)))))))), ?_⟩
    refine ⟨_, rfl, _, _, _, _, true, rfl, ClsV.ty "tuple", TyX.base (TyOf.tup ht), kit_ty (by decide +kernel), _, rfl, iteF ?_⟩
    refine ⟨_, rfl, t, _, rfl, .inr (SqT.of ht), rfl, false, rfl, iteF ?_⟩
    refine ⟨_, rfl, t, _, rfl, SqT.of ht, rfl, _, _, rfl, _, _, rfl, rfl, ?_⟩
    refine ⟨_, rfl, r.1, rfl, n1, fun H1 e1 => ⟨true, rfl, iteT ?_⟩⟩
    exact ⟨_, rfl, r.2, rfl, n2, fun H2 e2 => q H2 (e1.trans e2)⟩
end My
namespace My
open PySem L2
def spDistinct (K : PySem.W.Frag) : Sp := fun vs H Q _ => ∃ (p : Addr) (ws : List Str), vs = [.ref p] ∧ SqL K H p (ws.map V.str) ∧ ws.length ≤ 1000 ∧ ∀ b, (b = true ↔ ws.Nodup) → Q (.bl b) H
theorem ok_are_distinct {P : Program} {w : World} {K : PySem.W.Frag} {mg : Str → Option Value} {base : Heap} {CS : Addr} (T : Txt K mg CS) : CallOk P w K mg base 1 "_are_distinct" (spDistinct K) := by
  refine T.d_are_distinct.ok sc_are_distinct (fun vs H Q E h => ?_) (fun f cdv A outer s H vs Q E hr h => ?_)
  · obtain ⟨p, ws, rfl, _⟩ := h
    rfl
  · obtain ⟨p, ws, rfl, hp, hl, q⟩ := h
    refine ⟨_, (pss_one (ps_ret (pe_cmpR op_eq (pe_lenSetS T.n_len T.n_set (pv 0)) (pe_callB (kLen (K := K)) (by rfl) T.n_len PySem.boot_len (pa_cons (pv 0) pa_nil)) (nomark _)))), ?_⟩
    refine ⟨_, rfl, p, ws, rfl, hp, hl, _, rfl, p, _, rfl, .inl hp, rfl, q _ ?_⟩
    rw [List.length_map, decide_eq_true_eq]
    by_cases h : ws.Nodup
    · rw [onces_nodup ws h]
      exact ⟨fun _ => h, fun _ => rfl⟩
    · have := onces_lt ws h
      refine ⟨fun e => ?_, fun e => absurd e h⟩
      have e : (((onces ws).length : Nat) : Int) = ((ws.length : Nat) : Int) := V.int.inj e
      omega
end My
namespace My
open PySem L2
def spRefs : Sp := fun vs H Q _ => ∃ v rs, vs = [v] ∧ Td H v (refsD rs) ∧ rs.length ≤ 3 ∧ (∀ r ∈ rs, Nm r.1 ∧ Nm r.2) ∧ (rs.map (·.1)).Nodup ∧ ∀ H', Same H H' → Q (.bl true) H'
theorem ok_are_references {P : Program} {w : World} {K : PySem.W.Frag} {mg : Str → Option Value} {base : Heap} {CS : Addr} (T : Txt K mg CS) : CallOk P w K mg base 3 "_are_references" spRefs := by
  have c_are_distinct := ok_are_distinct (P := P) (w := w) (base := base) T
  have c_is_reference := ok_is_reference (P := P) (w := w) (base := base) T
  refine T.d_are_references.ok sc_are_references (fun vs H Q E h => ?_) (fun f cdv A outer s H vs Q E hr h => ?_)
  · obtain ⟨v, rs, rfl, _⟩ := h
    rfl
  · obtain ⟨v, rs, rfl, hv, hl3, hnm, hnd, q⟩ := h
    obtain ⟨t, xs, rfl, ht, hx⟩ := hv.tup_inv
    have hlx : xs.length = rs.length := by rw [hx.length, List.length_map]
    refine ⟨_, (pss_cons (ps_if (PW.pt (pw_or (pt_not (pt_val (pe_callB (kIsi (K := K)) (by rfl) T.n_isinstance (by decide +kernel) (pa_cons (pv 0) (pa_cons (pe_bltn (v := .ty "tuple") (by rfl) T.n_tuple (by decide +kernel) rfl) pa_nil))))) (pw_or1 (pt_cmpR op_gt (pe_callB (kLen (K := K)) (by rfl) T.n_len PySem.boot_len (pa_cons (pv 0) pa_nil)) (pe_globV T.v_MOST_REFERENCES) (nomark _))))) (pss_one (ps_ret pe_bl)) pss_nil)
      (pss_cons (ps_if (pt_not (pt_val (pe_callB (kAll (K := K) rfl) (by rfl) T.n_all (by decide +kernel) (pa_cons (pe_lc (own := [("item", 1)]) rfl sc_are_references.nd (kPiT (K := K) (pv 0)) (blkOk_by (N := ["value", "item"]) (sc := defScope s_are_references) (own := [("item", 1)]) (by decide +kernel)) (fun _ _ _ _ _ => (pg_name (i := 1) sc_are_references.nd rfl (by first | exact Or.inl rfl | exact Or.inr rfl))) (fun _ _ _ _ _ => pts_nil) (fun _ _ _ _ _ => (pe_callC c_is_reference (hr.mono (by decide)) (pa_cons (pv 1) pa_nil)))) pa_nil)))) (pss_one (ps_ret pe_bl)) pss_nil)
      (pss_one (ps_ret (pe_callC c_are_distinct (hr.mono (by decide)) (pa_cons (pe_lc (own := [("item", 1)]) rfl sc_are_references.nd (kPiT (K := K) (pv 0)) (blkOk_by (N := ["value", "item"]) (sc := defScope s_are_references) (own := [("item", 1)]) (by decide +kernel)) (fun _ _ _ _ _ => (pg_name (i := 1) sc_are_references.nd rfl (by first | exact Or.inl rfl | exact Or.inr rfl))) (fun _ _ _ _ _ => pts_nil) (fun _ _ _ _ _ => (pe_ix (kIxT (K := K)) (pv 1) pe_int (fun _ _ => rfl)))) pa_nil)))))), ?_⟩
    refine ⟨_, rfl, _, _, _, _, true, rfl, ClsV.ty "tuple", TyX.base (TyOf.tup ht), kit_ty (by decide +kernel), _, rfl, iteF ?_⟩
    refine ⟨_, rfl, t, _, rfl, .inr (SqT.of ht), _, _, rfl, rfl, false, ?_, iteF ?_⟩
    · exact congrArg V.bl (decide_eq_false (show ¬ (3 : Int) < (xs.length : Int) by omega))
    refine ⟨_, rfl, t, rfl, ⟨_, SqT.of ht⟩, fun D hD => lc_tup (K := K) (a := t) (xs := xs) (fun i Hi => i ≤ xs.length ∧ Hi D = some (.lst (List.replicate i (V.bl true))) ∧ Same H Hi) ?_ ?_ ?_ ?_⟩
    · exact ⟨Nat.zero_le _, upd_same, Same.upd (Same.refl H) hD⟩
    · rintro i Hi _ ⟨_, _, e⟩
      exact SqT.of (e t _ ht)
    · rintro i x Hi hxi ⟨hi, hl, e⟩
      have hil : i < xs.length := (List.getElem?_eq_some_iff.mp hxi).1
      obtain ⟨d, hd, hTd⟩ := hx.get hxi
      rw [List.getElem?_map] at hd
      obtain ⟨r, hri, rfl⟩ := Option.map_eq_some_iff.mp hd
      have hrm := hnm r (List.mem_of_getElem? hri)
      refine ⟨rfl, tYes_if ?_⟩
      refine ⟨_, rfl, x, r, rfl, hTd.kt_same e, hrm.1, hrm.2, fun H2 e2 => ?_⟩
      refine ⟨_, e2 D _ hl, sizeLt (by rw [List.length_replicate]; omega), hil, ?_, Same.upd (e.trans e2) hD⟩
      rw [upd_same, rep_snoc]
    · rintro Hi ⟨_, hl, e⟩
      refine ⟨D, List.replicate xs.length true, rfl, SqL.of (by rw [hl, rep_bl]), _, rfl, ?_⟩
      rw [all_true]
      refine iteF ?_
      have ht' := e t _ ht
      refine ⟨_, rfl, t, rfl, ⟨_, SqT.of ht'⟩, fun D2 hD2 => lc_tup (K := K) (a := t) (xs := xs) (fun i Hj => i ≤ xs.length ∧ Hj D2 = some (.lst ((rs.map (·.1)).take i |>.map V.str)) ∧ Same Hi Hj) ?_ ?_ ?_ ?_⟩
      · exact ⟨Nat.zero_le _, upd_same, Same.upd (Same.refl Hi) hD2⟩
      · rintro i Hj _ ⟨_, _, e2⟩
        exact SqT.of (e2 t _ ht')
      · rintro i x Hj hxi ⟨hi, hl2, e2⟩
        have hil : i < xs.length := (List.getElem?_eq_some_iff.mp hxi).1
        obtain ⟨d, hd, hTd⟩ := hx.get hxi
        rw [List.getElem?_map] at hd
        obtain ⟨r, hri, rfl⟩ := Option.map_eq_some_iff.mp hd
        obtain ⟨tr, rfl, htr⟩ := refD_inv hTd
        have hrl : i < (rs.map (·.1)).length := by rw [List.length_map]; omega
        refine ⟨rfl, tYes_if ?_⟩
        refine ⟨_, rfl, tr, _, _, _, rfl, rfl, SqT.of (e2 tr _ (e tr _ htr)), rfl, ?_⟩
        refine ⟨_, hl2, sizeLt (by rw [List.length_map, List.length_take]; omega), hil, ?_, Same.upd e2 hD2⟩
        rw [upd_same, List.take_succ_eq_append_getElem hrl, List.map_append]
        have er : (rs.map (·.1))[i] = r.1 := by
          rw [List.getElem_map]
          rw [(List.getElem?_eq_some_iff.mp hri).2]
        rw [er]
        rfl
      · rintro Hj ⟨_, hl2, e2⟩
        refine ⟨D2, rs.map (·.1), rfl, SqL.of ?_, by rw [List.length_map]; omega, fun b hb => ?_⟩
        · rw [hl2, List.take_of_length_le (by rw [List.length_map]; omega)]
        · rw [hb.mpr hnd]
          exact q _ (e.trans e2)
end My
namespace My
open PySem L2
def spTable : Sp := fun vs H Q _ => ∃ v e, vs = [v] ∧ Td H v (entD e) ∧ Nm e.1 ∧ e.2.2.length ≤ 3 ∧ (∀ r ∈ e.2.2, Nm r.1 ∧ Nm r.2) ∧ (e.2.2.map (·.1)).Nodup ∧ ∀ H', Same H H' → Q (.bl true) H'
theorem ok_is_table {P : Program} {w : World} {K : PySem.W.Frag} {mg : Str → Option Value} {base : Heap} {CS : Addr} (T : Txt K mg CS) : CallOk P w K mg base 4 "_is_table" spTable := by
  have c_are_references := ok_are_references (P := P) (w := w) (base := base) T
  have c_is_flag := ok_is_flag (P := P) (w := w) (base := base) T
  have c_is_name := ok_is_name (P := P) (w := w) (base := base) T
  refine T.d_is_table.ok sc_is_table (fun vs H Q E h => ?_) (fun f cdv A outer s H vs Q E hr h => ?_)
  · obtain ⟨v, r, rfl, _⟩ := h
    rfl
  · obtain ⟨v, e, rfl, hv, n1, hl, hn, hd, q⟩ := h
    obtain ⟨t, tr, rs, rfl, ht, htr, hrs⟩ := entD_inv hv
    refine ⟨_, (pss_cons (ps_if (PW.pt (pw_or (pt_not (pt_val (pe_callB (kIsi (K := K)) (by rfl) T.n_isinstance (by decide +kernel) (pa_cons (pv 0) (pa_cons (pe_bltn (v := .ty "tuple") (by rfl) T.n_tuple (by decide +kernel) rfl) pa_nil))))) (pw_or1 (pt_cmpR op_ne (pe_callB (kLen (K := K)) (by rfl) T.n_len PySem.boot_len (pa_cons (pv 0) pa_nil)) pe_int (nomark _))))) (pss_one (ps_ret pe_bl)) pss_nil)
      (pss_cons (ps_asg (pv 0) (kPgT (K := K) (n := 3) rfl (pgs_cons (pg_name (i := 1) sc_is_table.nd rfl (by first | exact Or.inl rfl | exact Or.inr rfl)) (pgs_cons (pg_name (i := 2) sc_is_table.nd rfl (by first | exact Or.inl rfl | exact Or.inr rfl)) (pgs_cons (pg_name (i := 3) sc_is_table.nd rfl (by first | exact Or.inl rfl | exact Or.inr rfl)) pgs_nil)))))
      (pss_one (ps_ret (pe_and (pe_callC c_is_name (hr.mono (by decide)) (pa_cons (pv 1) pa_nil)) (pe_and (pe_callC c_is_flag (hr.mono (by decide)) (pa_cons (pv 2) pa_nil)) (pe_one (pe_callC c_are_references (hr.mono (by decide)) (pa_cons (pv 3) pa_nil))))))))), ?_⟩
    refine ⟨_, rfl, _, _, _, _, true, rfl, ClsV.ty "tuple", TyX.base (TyOf.tup ht), kit_ty (by decide +kernel), _, rfl, iteF ?_⟩
    refine ⟨_, rfl, t, _, rfl, .inr (SqT.of ht), rfl, false, rfl, iteF ?_⟩
    refine ⟨_, rfl, t, _, rfl, SqT.of ht, rfl, _, _, rfl, _, _, rfl, _, _, rfl, rfl, ?_⟩
    refine ⟨_, rfl, e.1, rfl, n1, fun H1 e1 => ⟨true, rfl, iteT ?_⟩⟩
    refine ⟨_, rfl, e.2.1, rfl, true, rfl, iteT ?_⟩
    exact ⟨_, rfl, _, e.2.2, rfl, (Td.tup htr hrs).kt_same e1, hl, hn, hd, fun H2 e2 => q H2 (e1.trans e2)⟩
end My
namespace My
open PySem L2
def spAreTables : Sp := fun vs H Q _ => ∃ v pl, vs = [v] ∧ Td H v (planD pl) ∧ Good pl ∧ ∀ H', Same H H' → Q (.bl true) H'
theorem ok_are_tables {P : Program} {w : World} {K : PySem.W.Frag} {mg : Str → Option Value} {base : Heap} {CS : Addr} (T : Txt K mg CS) : CallOk P w K mg base 5 "are_tables" spAreTables := by
  have c_are_distinct := ok_are_distinct (P := P) (w := w) (base := base) T
  have c_is_table := ok_is_table (P := P) (w := w) (base := base) T
  refine T.d_are_tables.ok sc_are_tables (fun vs H Q E h => ?_) (fun f cdv A outer s H vs Q E hr h => ?_)
  · obtain ⟨v, pl, rfl, _⟩ := h
    rfl
  · obtain ⟨v, pl, rfl, hv, g, q⟩ := h
    obtain ⟨t, xs, rfl, ht, hx⟩ := hv.tup_inv
    have hlx : xs.length = pl.length := by rw [hx.length, List.length_map]
    have lo := g.lo
    have hi5 := g.hi
    refine ⟨_, (pss_cons (ps_if (PW.pt (pw_or (pt_not (pt_val (pe_callB (kIsi (K := K)) (by rfl) T.n_isinstance (by decide +kernel) (pa_cons (pv 0) (pa_cons (pe_bltn (v := .ty "tuple") (by rfl) T.n_tuple (by decide +kernel) rfl) pa_nil))))) (pw_or1 (pt_not (pt_chain op_le op_le pe_int (pe_callB (kLen (K := K)) (by rfl) T.n_len PySem.boot_len (pa_cons (pv 0) pa_nil)) (pe_globV T.v_MOST_TABLES)))))) (pss_one (ps_ret pe_bl)) pss_nil)
      (pss_cons (ps_if (pt_not (pt_val (pe_callB (kAll (K := K) rfl) (by rfl) T.n_all (by decide +kernel) (pa_cons (pe_lc (own := [("item", 1)]) rfl sc_are_tables.nd (kPiT (K := K) (pv 0)) (blkOk_by (N := ["value", "item"]) (sc := defScope s_are_tables) (own := [("item", 1)]) (by decide +kernel)) (fun _ _ _ _ _ => (pg_name (i := 1) sc_are_tables.nd rfl (by first | exact Or.inl rfl | exact Or.inr rfl))) (fun _ _ _ _ _ => pts_nil) (fun _ _ _ _ _ => (pe_callC c_is_table (hr.mono (by decide)) (pa_cons (pv 1) pa_nil)))) pa_nil)))) (pss_one (ps_ret pe_bl)) pss_nil)
      (pss_one (ps_ret (pe_callC c_are_distinct (hr.mono (by decide)) (pa_cons (pe_lc (own := [("item", 1)]) rfl sc_are_tables.nd (kPiT (K := K) (pv 0)) (blkOk_by (N := ["value", "item"]) (sc := defScope s_are_tables) (own := [("item", 1)]) (by decide +kernel)) (fun _ _ _ _ _ => (pg_name (i := 1) sc_are_tables.nd rfl (by first | exact Or.inl rfl | exact Or.inr rfl))) (fun _ _ _ _ _ => pts_nil) (fun _ _ _ _ _ => (pe_ix (kIxT (K := K)) (pv 1) pe_int (fun _ _ => rfl)))) pa_nil)))))), ?_⟩
    refine ⟨_, rfl, _, _, _, _, true, rfl, ClsV.ty "tuple", TyX.base (TyOf.tup ht), kit_ty (by decide +kernel), _, rfl, iteF ?_⟩
    refine ⟨_, rfl, t, _, rfl, .inr (SqT.of ht), _, _, rfl, rfl, true, ?_, iteT ⟨_, _, rfl, rfl, true, ?_, iteF ?_⟩⟩
    · exact congrArg V.bl (decide_eq_true (show (1 : Int) ≤ (xs.length : Int) by omega))
    · exact congrArg V.bl (decide_eq_true (show (xs.length : Int) ≤ 5 by omega))
    refine ⟨_, rfl, t, rfl, ⟨_, SqT.of ht⟩, fun D hD => lc_tup (K := K) (a := t) (xs := xs) (fun i Hi => i ≤ xs.length ∧ Hi D = some (.lst (List.replicate i (V.bl true))) ∧ Same H Hi) ?_ ?_ ?_ ?_⟩
    · exact ⟨Nat.zero_le _, upd_same, Same.upd (Same.refl H) hD⟩
    · rintro i Hi _ ⟨_, _, e⟩
      exact SqT.of (e t _ ht)
    · rintro i x Hi hxi ⟨hi, hl, e⟩
      have hil : i < xs.length := (List.getElem?_eq_some_iff.mp hxi).1
      obtain ⟨en, hen, hTd⟩ := hx.getM hxi
      have hem := List.mem_of_getElem? hen
      have gr := g.refs en hem
      refine ⟨rfl, tYes_if ?_⟩
      refine ⟨_, rfl, x, en, rfl, hTd.kt_same e, g.nm en hem, gr.len, fun r hr => ⟨gr.nm r hr, g.toNm hem hr⟩, gr.nd, fun H2 e2 => ?_⟩
      refine ⟨_, e2 D _ hl, sizeLt (by rw [List.length_replicate]; omega), hil, ?_, Same.upd (e.trans e2) hD⟩
      rw [upd_same, rep_snoc]
    · rintro Hi ⟨_, hl, e⟩
      refine ⟨D, List.replicate xs.length true, rfl, SqL.of (by rw [hl, rep_bl]), _, rfl, ?_⟩
      rw [all_true]
      refine iteF ?_
      have ht' := e t _ ht
      refine ⟨_, rfl, t, rfl, ⟨_, SqT.of ht'⟩, fun D2 hD2 => lc_tup (K := K) (a := t) (xs := xs) (fun i Hj => i ≤ xs.length ∧ Hj D2 = some (.lst ((pl.map (·.1)).take i |>.map V.str)) ∧ Same Hi Hj) ?_ ?_ ?_ ?_⟩
      · exact ⟨Nat.zero_le _, upd_same, Same.upd (Same.refl Hi) hD2⟩
      · rintro i Hj _ ⟨_, _, e2⟩
        exact SqT.of (e2 t _ ht')
      · rintro i x Hj hxi ⟨hi, hl2, e2⟩
        have hil : i < xs.length := (List.getElem?_eq_some_iff.mp hxi).1
        obtain ⟨en, hen, hTd⟩ := hx.getM hxi
        obtain ⟨tn, tr, rs, rfl, htn, htr, hrs⟩ := entD_inv hTd
        have hrl : i < (pl.map (·.1)).length := by rw [List.length_map]; omega
        refine ⟨rfl, tYes_if ?_⟩
        refine ⟨_, rfl, tn, _, _, _, rfl, rfl, SqT.of (e2 tn _ (e tn _ htn)), rfl, ?_⟩
        refine ⟨_, hl2, sizeLt (by rw [List.length_map, List.length_take]; omega), hil, ?_, Same.upd e2 hD2⟩
        rw [upd_same, List.take_succ_eq_append_getElem hrl, List.map_append]
        have er : (pl.map (·.1))[i] = en.1 := by
          rw [List.getElem_map]
          rw [(List.getElem?_eq_some_iff.mp hen).2]
        rw [er]
        rfl
      · rintro Hj ⟨_, hl2, e2⟩
        refine ⟨D2, pl.map (·.1), rfl, SqL.of ?_, by rw [List.length_map]; omega, fun b hb => ?_⟩
        · rw [hl2, List.take_of_length_le (by rw [List.length_map]; omega)]
        · rw [hb.mpr g.nd]
          exact q _ (e.trans e2)
end My
namespace My
open PySem L2
def spWithin : Sp := fun vs H Q _ => ∃ v pl, vs = [v] ∧ Td H v (planD pl) ∧ Good pl ∧ ∀ H', Same H H' → Q (.bl true) H'
theorem ok_refer_within {P : Program} {w : World} {K : PySem.W.Frag} {mg : Str → Option Value} {base : Heap} {CS : Addr} (T : Txt K mg CS) : CallOk P w K mg base 1 "refer_within" spWithin := by
  refine T.d_refer_within.ok sc_refer_within (fun vs H Q E h => ?_) (fun f cdv A outer s H vs Q E hr h => ?_)
  · obtain ⟨v, pl, rfl, _⟩ := h
    rfl
  · obtain ⟨v, pl, rfl, hv, g, q⟩ := h
    obtain ⟨t, xs, rfl, ht, hx⟩ := hv.tup_inv
    have hlx : xs.length = pl.length := by rw [hx.length, List.length_map]
    have hi5 := g.hi
    refine ⟨_, (pss_cons (ps_set (i := 1) sc_refer_within.nd rfl (by first | exact Or.inl rfl | exact Or.inr rfl) (pe_lc (own := [("item", 2)]) rfl sc_refer_within.nd (kPiT (K := K) (pv 0)) (blkOk_by (N := ["tables", "names", "item", "_", "target"]) (sc := defScope s_refer_within) (own := [("item", 2)]) (by decide +kernel)) (fun _ _ _ _ _ => (pg_name (i := 2) sc_refer_within.nd rfl (by first | exact Or.inl rfl | exact Or.inr rfl))) (fun _ _ _ _ _ => pts_nil) (fun _ _ _ _ _ => (pe_ix (kIxT (K := K)) (pv 2) pe_int (fun _ _ => rfl)))))
      (pss_one (ps_ret (pe_callB (kAll (K := K) rfl) (by rfl) T.n_all (by decide +kernel) (pa_cons (pe_lc2 (own := [("item", 2), ("_", 3), ("target", 4)]) (vs1 := [3, 4]) rfl sc_refer_within.nd (kPiT (K := K) (pv 0)) (blkOk_by (N := ["tables", "names", "item", "_", "target"]) (sc := defScope s_refer_within) (own := [("item", 2), ("_", 3), ("target", 4)]) (by decide +kernel)) (by decide) (fun _ _ _ _ _ => (pg_name (i := 2) sc_refer_within.nd rfl (by first | exact Or.inl rfl | exact Or.inr rfl))) (fun _ _ _ _ _ => pts_nil) (fun _ _ _ _ _ => (kPiT (K := K) (pe_ix (kIxT (K := K)) (pv 2) pe_int (fun _ _ => rfl)))) (fun _ _ _ _ _ => (kPgT (K := K) (n := 2) rfl (pgs_cons (pg_name (i := 3) sc_refer_within.nd rfl (by first | exact Or.inl rfl | exact Or.inr rfl)) (pgs_cons (pg_name (i := 4) sc_refer_within.nd rfl (by first | exact Or.inl rfl | exact Or.inr rfl)) pgs_nil)))) (fun _ _ _ _ _ => pts_nil) (fun _ _ _ _ _ => (pe_cmpR (kIn (K := K)) (pv 4) (pv 1) rfl))) pa_nil))))), ?_⟩
    refine ⟨_, rfl, t, rfl, ⟨_, SqT.of ht⟩, fun N0 hN0 => lc_tup (K := K) (a := t) (xs := xs) (fun i Hj => i ≤ xs.length ∧ Hj N0 = some (.lst ((pl.map (·.1)).take i |>.map V.str)) ∧ Same H Hj) ?_ ?_ ?_ ?_⟩
    · exact ⟨Nat.zero_le _, upd_same, Same.upd (Same.refl H) hN0⟩
    · rintro i Hj _ ⟨_, _, e2⟩
      exact SqT.of (e2 t _ ht)
    · rintro i x Hj hxi ⟨hi, hl2, e2⟩
      have hil : i < xs.length := (List.getElem?_eq_some_iff.mp hxi).1
      obtain ⟨en, hen, hTd⟩ := hx.getM hxi
      obtain ⟨tn, tr, rs, rfl, htn, htr, hrs⟩ := entD_inv hTd
      have hrl : i < (pl.map (·.1)).length := by rw [List.length_map]; omega
      refine ⟨rfl, tYes_if ?_⟩
      refine ⟨_, rfl, tn, _, _, _, rfl, rfl, SqT.of (e2 tn _ htn), rfl, ?_⟩
      refine ⟨_, hl2, sizeLt (by rw [List.length_map, List.length_take]; omega), hil, ?_, Same.upd e2 hN0⟩
      rw [upd_same, List.take_succ_eq_append_getElem hrl, List.map_append]
      have er : (pl.map (·.1))[i] = en.1 := by
        rw [List.getElem_map]
        rw [(List.getElem?_eq_some_iff.mp hen).2]
      rw [er]
      rfl
    · rintro Hi ⟨_, hN, e⟩
      rw [List.take_of_length_le (by rw [List.length_map]; omega)] at hN
      have ht' := e t _ ht
      refine ⟨_, rfl, t, rfl, ⟨_, SqT.of ht'⟩, fun D hD => lc2_tup (K := K) (a := t) (xs := xs) (fun i Hj => i ≤ xs.length ∧ ∃ n, n ≤ 3 * i ∧ Hj D = some (.lst (List.replicate n (V.bl true))) ∧ Same Hi Hj) ?_ ?_ ?_ ?_⟩
      · exact ⟨Nat.zero_le _, 0, Nat.zero_le _, upd_same, Same.upd (Same.refl Hi) hD⟩
      · rintro i Hj _ ⟨_, _, _, _, e2⟩
        exact SqT.of (e2 t _ ht')
      · rintro i x Hj hxi ⟨hi, n, hn, hl, e2⟩
        have hil : i < xs.length := (List.getElem?_eq_some_iff.mp hxi).1
        obtain ⟨en, hen, hTd⟩ := hx.getM hxi
        have hem := List.mem_of_getElem? hen
        have gr := g.refs en hem
        obtain ⟨tn, tr, rs, rfl, htn, htr, hrs⟩ := entD_inv hTd
        have hlr : rs.length = en.2.2.length := by rw [hrs.length, List.length_map]
        have g3 := gr.len
        have e3 := e.trans e2
        refine ⟨rfl, tYes_if ?_⟩
        refine ⟨_, rfl, tn, _, _, _, rfl, rfl, SqT.of (e3 tn _ htn), rfl, tr, rfl, ⟨_, SqT.of (e3 tr _ htr)⟩, ?_⟩
        refine in2_tup (K := K) (a := tr) (xs := rs) (fun j Hk => j ≤ rs.length ∧ Hk D = some (.lst (List.replicate (n + j) (V.bl true))) ∧ Same Hi Hk) ?_ ?_ ?_ ?_
        · exact ⟨Nat.zero_le _, hl, e2⟩
        · rintro j Hk _ ⟨_, _, e4⟩
          exact SqT.of (e4 tr _ (e tr _ htr))
        · rintro j y Hk hyj ⟨hj, hl4, e4⟩
          have hjl : j < rs.length := (List.getElem?_eq_some_iff.mp hyj).1
          obtain ⟨r, hr, hTr⟩ := hrs.getM hyj
          have hrm := List.mem_of_getElem? hr
          obtain ⟨tt, rfl, htt⟩ := refD_inv hTr
          refine ⟨tt, _, rfl, SqT.of (e4 tt _ (e tt _ htt)), rfl, _, _, rfl, _, _, rfl, rfl, rfl, tYes_if ?_⟩
          refine ⟨_, rfl, _, rfl, N0, _, rfl, .inl (SqL.of (e4 N0 _ hN)), rfl, flat_strs _, ?_⟩
          refine ⟨_, hl4, sizeLt (by rw [List.length_replicate]; omega), hjl, ?_, Same.upd e4 hD⟩
          have ev : inV (.str r.2) ((pl.map (·.1)).map V.str) = true := by
            rw [inV_strs]
            exact decide_eq_true (gr.to r hrm)
          have ev' : V.bl (if false = true then !inV (V.str r.2) ((pl.map (·.1)).map V.str) else inV (V.str r.2) ((pl.map (·.1)).map V.str)) = V.bl true := by
            rw [if_neg Bool.false_ne_true, ev]
          rw [upd_same]
          exact congrArg (fun z => some (HO.lst z)) (by rw [ev', rep_snoc, Nat.add_assoc])
        · rintro Hk ⟨hj, hl4, e4⟩
          exact ⟨hil, n + rs.length, by omega, hl4, e4⟩
      · rintro Hj ⟨_, n, hn, hl, e2⟩
        refine ⟨D, List.replicate n true, rfl, SqL.of (by rw [hl, rep_bl]), ?_⟩
        rw [all_true]
        exact q _ (e.trans e2)
end My
namespace My
open PySem L2
def spSchema (CS : Addr) : Sp := fun vs H Q _ => ∃ (p dx : Addr) (v : V) (pl : Plan), vs = [.ref p, v] ∧ Td H v (planD pl) ∧ Good pl ∧ H p = some (.ins CS dx []) ∧ ∀ H', SchAt CS H' p pl → Fr1 p H H' → Q .non H'
theorem body_Schema_init {P : Program} {w : World} {K : PySem.W.Frag} {mg : Str → Option Value} {base : Heap} {CS : Addr} (T : Txt K mg CS) : BodyOk P w K mg base 5 ["self", "tables", "entry"] "Schema.__init__" s_Schema_init (spSchema CS) := by
  have c_are_tables := ok_are_tables (P := P) (w := w) (base := base) T
  have c_refer_within := ok_refer_within (P := P) (w := w) (base := base) T
  intro f cdv A outer s H vs Q E hr h
  · obtain ⟨p, dx, v, pl, rfl, hv, g, hp, q⟩ := h
    refine ⟨_, (pss_cons (ps_if (pt_not (pt_val (pe_callC c_are_tables (hr.mono (by decide)) (pa_cons (pv 1) pa_nil)))) (pss_one ps_never) pss_nil)
      (pss_cons (ps_if (pt_not (pt_val (pe_callC c_refer_within (hr.mono (by decide)) (pa_cons (pv 1) pa_nil)))) (pss_one ps_never) pss_nil)
      (pss_cons (ps_fld (pv 0) (pv 1) rfl)
      (pss_one (ps_fld (pv 0) (pe_dc (own := [("entry", 2)]) rfl sc_Schema_init.nd (kPiT (K := K) (pv 1)) (blkOk_by (N := ["self", "tables", "entry"]) (sc := defScope s_Schema_init) (own := [("entry", 2)]) (by decide +kernel)) (fun _ _ _ _ _ => (pg_name (i := 2) sc_Schema_init.nd rfl (by first | exact Or.inl rfl | exact Or.inr rfl))) (fun _ _ _ _ _ => pts_nil) (fun _ _ _ _ _ => (pe_ix (kIxT (K := K)) (pv 2) pe_int (fun _ _ => rfl))) (fun _ _ _ _ _ => (pv 2))) rfl))))), ?_⟩
    refine ⟨_, rfl, v, pl, rfl, hv, g, fun H1 e1 => ⟨true, rfl, iteF ?_⟩⟩
    refine ⟨_, rfl, v, pl, rfl, hv.kt_same e1, g, fun H2 e2 => ⟨true, rfl, iteF ?_⟩⟩
    have e12 := e1.trans e2
    have hp2 := e12 p _ hp
    have hv2 := hv.kt_same e12
    refine ⟨_, rfl, _, rfl, p, CS, dx, [], rfl, hp2, T.c_Schema.cl, T.a_Schema_tables, (by show 0 < 1000; decide), ?_⟩
    have kt3 : KT H2 (upd H2 p (.ins CS dx (putF "_tables" v []))) := fun c xs hc => by
      rw [upd_ne (ne_of hc hp2 (by intro z; cases z))]
      exact hc
    obtain ⟨t, xs, rfl, ht, hx⟩ := hv2.tup_inv
    have hlx : xs.length = pl.length := by rw [hx.length, List.length_map]
    have hi5 := g.hi
    have ht3 := kt3 t _ ht
    generalize hH3 : upd H2 p (.ins CS dx (putF "_tables" (V.ref t) [])) = H3 at *
    have hp3 : H3 p = some (.ins CS dx (putF "_tables" (V.ref t) [])) := by rw [← hH3, upd_same]
    have hx3 := hx.mono kt3
    refine ⟨_, rfl, t, rfl, ⟨_, SqT.of ht3⟩, fun D hD => dc_tup (K := K) (a := t) (xs := xs) (fun i Hi => i ≤ xs.length ∧ ∃ kvs, Hi D = some (.dK kvs) ∧ EntsAt Hi kvs (pl.take i) ∧ Same H3 Hi) ?_ ?_ ?_ ?_⟩
    · exact ⟨Nat.zero_le _, [], upd_same, ⟨rfl, .nil⟩, Same.upd (Same.refl H3) hD⟩
    · rintro i Hi _ ⟨_, _, _, _, e⟩
      exact SqT.of (e t _ ht3)
    · rintro i x Hi hxi ⟨hi, kvs, hl, he, e⟩
      have hil : i < xs.length := (List.getElem?_eq_some_iff.mp hxi).1
      have hip : i < pl.length := by omega
      obtain ⟨en, hen, hTd⟩ := hx3.getM hxi
      have hen2 : pl[i] = en := (List.getElem?_eq_some_iff.mp hen).2
      obtain ⟨tn, tr, rs, rfl, htn, htr, hrs⟩ := entD_inv hTd
      refine ⟨rfl, tYes_if ?_⟩
      refine ⟨_, rfl, tn, _, _, _, rfl, rfl, SqT.of (e tn _ htn), rfl, _, rfl, kvs, Sum.inr en.1, rfl, hl, ?_, hil, _, upd_same, ?_, Same.upd e hD⟩
      · have hkl : kvs.length = (pl.take i).length := by
          have := congrArg List.length he.keys
          rwa [List.length_map, List.length_map] at this
        rw [List.length_take] at hkl
        exact sizeLt (by omega)
      · have hno : valV kvs (Sum.inr en.1 : Key) = none := by
          refine valV_no he.keys fun hm => ?_
          have nd := g.nd
          obtain ⟨e2, he2, ee⟩ := List.mem_map.mp hm
          obtain ⟨j, hj, ej⟩ := List.getElem_of_mem he2
          rw [List.getElem_take] at ej
          have hji : j < i := by
            rw [List.length_take] at hj
            omega
          have hji2 : j < pl.length := by omega
          have a1 : (pl.map (·.1))[j]'(by rw [List.length_map]; omega) = (pl.map (·.1))[i]'(by rw [List.length_map]; omega) := by
            rw [List.getElem_map, List.getElem_map, hen2, ej, ee]
          have := (List.getElem_inj nd).mp a1
          omega
        rw [putK_new _ hno]
        have ktD : KT Hi (upd Hi D (.dK (kvs ++ [(Sum.inr en.1, V.ref tn)]))) := fun c ys hc => by
          rw [upd_ne (ne_of hc hl (by intro z; cases z))]
          exact hc
        refine ⟨?_, ?_⟩
        · rw [List.take_succ_eq_append_getElem hip, List.map_append, List.map_append, he.keys, hen2]
          rfl
        · rw [List.take_succ_eq_append_getElem hip, List.map_append, List.map_append, hen2]
          exact (he.vals.mono ktD).append (.cons ((hTd.kt_same e).mono ktD) .nil)
    · rintro Hi ⟨_, kvs, hl, he, e⟩
      rw [List.take_of_length_le (by omega)] at he
      have hpi := e p _ hp3
      refine ⟨_, rfl, p, CS, dx, _, rfl, hpi, T.c_Schema.cl, T.a_Schema_entries, (by show 1 < 1000; decide), ?_⟩
      have ktp : KT Hi (upd Hi p (.ins CS dx (putF "_entries" (V.ref D) (putF "_tables" (V.ref t) [])))) := fun c ys hc => by
        rw [upd_ne (ne_of hc hpi (by intro z; cases z))]
        exact hc
      have nDp : D ≠ p := ne_of hl hpi (by intro z; cases z)
      refine q _ ⟨g, dx, .ref t, D, kvs, upd_same, ((Td.tup ht3 hx3).kt_same e).mono ktp, by rw [upd_ne nDp]; exact hl, he.keys, he.vals.mono ktp⟩ ?_
      intro c o nc hc
      rw [upd_ne nc]
      refine e c o ?_
      rw [← hH3, upd_ne nc]
      exact e12 c o hc
theorem len_Schema_init {CS : Addr} : ∀ vs H Q E, spSchema CS vs H Q E → vs.length = ["self", "tables"].length := by
  rintro vs H Q E ⟨p, dx, v, pl, rfl, _⟩
  rfl
theorem ok_Schema_init {P : Program} {w : World} {K : PySem.W.Frag} {mg : Str → Option Value} {base : Heap} {CS : Addr} (T : Txt K mg CS) : MakeOk P w K mg base 6 CS "Schema" (spSchema CS) := T.d_Schema_init.make T.c_Schema sc_Schema_init len_Schema_init (body_Schema_init T)
theorem kw_Schema_init {P : Program} {w : World} {K : PySem.W.Frag} {mg : Str → Option Value} {base : Heap} {CS : Addr} (T : Txt K mg CS) : MakeKOk P w K mg base 6 CS "Schema" 0 ["tables"] (fun vs zs => vs ++ zs) (spSchema CS) :=
  T.d_Schema_init.makeK T.c_Schema sc_Schema_init len_Schema_init (body_Schema_init T) (fun us ws => us ++ ws) (fun r1 r2 => r1.append r2) fun _ _ _ _ _ _ us ws h1 h2 => match us, ws, h1, h2 with | [_], [_], _, _ => rfl
end My
namespace My
open PySem L2
def spSTables (CS : Addr) : Sp := fun vs H Q _ => ∃ (p : Addr) (pl : Plan), vs = [.ref p] ∧ SchAt CS H p pl ∧ ∀ v, Td H v (planD pl) → Q v H
theorem ok_Schema_tables {P : Program} {w : World} {K : PySem.W.Frag} {mg : Str → Option Value} {base : Heap} {CS : Addr} (T : Txt K mg CS) : MethOk P w K mg base 1 CS "tables" (spSTables CS) := by
  refine T.d_Schema_tables.ok T.c_Schema.cl sc_Schema_tables (fun vs H Q E h => ?_) (fun f cdv A outer s H vs Q E hr h => ?_)
  · obtain ⟨p, pl, rfl, _⟩ := h
    rfl
  · obtain ⟨p, pl, rfl, S, q⟩ := h
    obtain ⟨dx, tv, de, kvs, h1, h2, h3, h4⟩ := S.ex
    refine ⟨_, (pss_one (ps_ret (kFld (K := K) (pv 0) rfl))), ?_⟩
    exact ⟨_, rfl, p, CS, dx, _, _, rfl, h1, T.c_Schema.cl, T.a_Schema_tables, sFlds_t _ _, q _ h2⟩
end My
namespace My
open PySem L2
def spEntry (CS : Addr) : Sp := fun vs H Q _ => ∃ (p : Addr) (pl : Plan) (e : Ent), vs = [.ref p, .str e.1] ∧ SchAt CS H p pl ∧ e ∈ pl ∧ ∀ v, Td H v (entD e) → Q v H
theorem ok_Schema__entry {P : Program} {w : World} {K : PySem.W.Frag} {mg : Str → Option Value} {base : Heap} {CS : Addr} (T : Txt K mg CS) : MethOk P w K mg base 2 CS "_entry" (spEntry CS) := by
  have c_is_one_of := ok_is_one_of (P := P) (w := w) (base := base) T
  refine T.d_Schema__entry.ok T.c_Schema.cl sc_Schema__entry (fun vs H Q E h => ?_) (fun f cdv A outer s H vs Q E hr h => ?_)
  · obtain ⟨p, pl, e, rfl, _⟩ := h
    rfl
  · obtain ⟨p, pl, e, rfl, S, he, q⟩ := h
    obtain ⟨dx, tv, de, kvs, h1, h2, h3, h4⟩ := S.ex
    obtain ⟨v, hv, hT⟩ := h4.get S.good he
    have hg : DGet H de (V.str e.1) (some v) := by
      rw [← hv]
      exact DGet.k (k := Sum.inr e.1) h3
    refine ⟨_, (pss_cons (ps_if (pt_not (pt_val (pe_callC c_is_one_of (hr.mono (by decide)) (pa_cons (pv 1) (pa_cons (kFld (K := K) (pv 0) rfl) pa_nil))))) (pss_one ps_never) pss_nil)
      (pss_one (ps_ret (pe_dget (hu_of hr) (kFld (K := K) (pv 0) rfl) (pv 1) (fun _ _ => rfl))))), ?_⟩
    refine ⟨_, rfl, _, rfl, p, CS, dx, _, _, rfl, h1, T.c_Schema.cl, T.a_Schema_entries, sFlds_e _ _, _, _, rfl, .inr ⟨e.1, rfl, .inl ⟨de, _, rfl, hg, true, rfl, iteF ?_⟩⟩⟩
    exact ⟨_, rfl, p, CS, dx, _, _, rfl, h1, T.c_Schema.cl, T.a_Schema_entries, sFlds_e _ _, _, rfl, de, v, rfl, hg, q v hT⟩
end My
namespace My
open PySem L2
def spUnique (CS : Addr) : Sp := fun vs H Q _ => ∃ (p : Addr) (pl : Plan) (e : Ent), vs = [.ref p, .str e.1] ∧ SchAt CS H p pl ∧ e ∈ pl ∧ Q (.bl e.2.1) H
theorem ok_Schema_is_unique {P : Program} {w : World} {K : PySem.W.Frag} {mg : Str → Option Value} {base : Heap} {CS : Addr} (T : Txt K mg CS) : MethOk P w K mg base 3 CS "is_unique" (spUnique CS) := by
  have c_Schema_entry := ok_Schema__entry (P := P) (w := w) (base := base) T
  refine T.d_Schema_is_unique.ok T.c_Schema.cl sc_Schema_is_unique (fun vs H Q E h => ?_) (fun f cdv A outer s H vs Q E hr h => ?_)
  · obtain ⟨p, pl, e, rfl, _⟩ := h
    rfl
  · obtain ⟨p, pl, e, rfl, S, he, q⟩ := h
    obtain ⟨dx, tv, de, kvs, h1, h2, h3, h4⟩ := S.ex
    refine ⟨_, (pss_one (ps_ret (pe_ix (kIxT (K := K)) (pe_methC (pv 0) c_Schema_entry (hr.mono (by decide)) (pa_cons (pv 1) pa_nil)) pe_int (fun _ _ => rfl)))), ?_⟩
    refine ⟨_, rfl, p, dx, _, rfl, h1, sFlds_no _ _ (by decide +kernel) (by decide +kernel), _, rfl, p, pl, e, rfl, S, he, fun v hv => ?_⟩
    obtain ⟨t, tr, rs, rfl, ht, htr, hrs⟩ := entD_inv hv
    exact ⟨t, _, _, _, rfl, rfl, SqT.of ht, rfl, q⟩
end My
namespace My
open PySem L2
def colsD (e : Ent) : PyData := .tuple ((e.2.2.map (·.1)).map PyData.str)
def spColumns (CS : Addr) : Sp := fun vs H Q _ => ∃ (p : Addr) (pl : Plan) (e : Ent), vs = [.ref p, .str e.1] ∧ SchAt CS H p pl ∧ e ∈ pl ∧ ∀ t H', H' t = some (.tup ((e.2.2.map (·.1)).map V.str)) → Same H H' → Q (.ref t) H'
theorem ok_Schema_columns {P : Program} {w : World} {K : PySem.W.Frag} {mg : Str → Option Value} {base : Heap} {CS : Addr} (T : Txt K mg CS) : MethOk P w K mg base 3 CS "columns" (spColumns CS) := by
  have c_Schema_entry := ok_Schema__entry (P := P) (w := w) (base := base) T
  refine T.d_Schema_columns.ok T.c_Schema.cl sc_Schema_columns (fun vs H Q E h => ?_) (fun f cdv A outer s H vs Q E hr h => ?_)
  · obtain ⟨p, pl, e, rfl, _⟩ := h
    rfl
  · obtain ⟨p, pl, e, rfl, S, he, q⟩ := h
    obtain ⟨dx, tv, de, kvs, h1, h2, h3, h4⟩ := S.ex
    have gr := S.good.refs e he
    have g3 := gr.len
    refine ⟨_, (pss_one (ps_ret (pe_callTy (kTup (K := K)) (by rfl) T.n_tuple (by decide +kernel) (pa_cons (pe_lc (own := [("column", 2), ("_", 3)]) rfl sc_Schema_columns.nd (kPiT (K := K) (pe_ix (kIxT (K := K)) (pe_methC (pv 0) c_Schema_entry (hr.mono (by decide)) (pa_cons (pv 1) pa_nil)) pe_int (fun _ _ => rfl))) (blkOk_by (N := ["self", "name", "column", "_"]) (sc := defScope s_Schema_columns) (own := [("column", 2), ("_", 3)]) (by decide +kernel)) (fun _ _ _ _ _ => (kPgT (K := K) (n := 2) rfl (pgs_cons (pg_name (i := 2) sc_Schema_columns.nd rfl (by first | exact Or.inl rfl | exact Or.inr rfl)) (pgs_cons (pg_name (i := 3) sc_Schema_columns.nd rfl (by first | exact Or.inl rfl | exact Or.inr rfl)) pgs_nil)))) (fun _ _ _ _ _ => pts_nil) (fun _ _ _ _ _ => (pv 2))) pa_nil)))), ?_⟩
    refine ⟨_, rfl, p, dx, _, rfl, h1, sFlds_no _ _ (by decide +kernel) (by decide +kernel), _, rfl, p, pl, e, rfl, S, he, fun v hv => ?_⟩
    obtain ⟨t, tr, rs, rfl, ht, htr, hrs⟩ := entD_inv hv
    have hlr : rs.length = e.2.2.length := by rw [hrs.length, List.length_map]
    refine ⟨t, _, _, _, rfl, rfl, SqT.of ht, rfl, tr, rfl, ⟨_, SqT.of htr⟩, fun D hD => lc_tup (K := K) (a := tr) (xs := rs) (fun i Hi => i ≤ rs.length ∧ Hi D = some (.lst ((e.2.2.map (·.1)).take i |>.map V.str)) ∧ Same H Hi) ?_ ?_ ?_ ?_⟩
    · exact ⟨Nat.zero_le _, upd_same, Same.upd (Same.refl H) hD⟩
    · rintro i Hi _ ⟨_, _, e2⟩
      exact SqT.of (e2 tr _ htr)
    · rintro i x Hi hxi ⟨hi, hl, e2⟩
      have hil : i < rs.length := (List.getElem?_eq_some_iff.mp hxi).1
      obtain ⟨r, hrr, hTr⟩ := hrs.getM hxi
      obtain ⟨tt, rfl, htt⟩ := refD_inv hTr
      have hrl : i < (e.2.2.map (·.1)).length := by rw [List.length_map]; omega
      refine ⟨tt, _, rfl, SqT.of (e2 tt _ htt), rfl, _, _, rfl, _, _, rfl, rfl, rfl, tYes_if ?_⟩
      refine ⟨_, rfl, _, hl, sizeLt (by rw [List.length_map, List.length_take]; omega), hil, ?_, Same.upd e2 hD⟩
      rw [upd_same, List.take_succ_eq_append_getElem hrl, List.map_append]
      have er : (e.2.2.map (·.1))[i] = r.1 := by
        rw [List.getElem_map]
        rw [(List.getElem?_eq_some_iff.mp hrr).2]
      rw [er]
      rfl
    · rintro Hi ⟨_, hl, e2⟩
      rw [List.take_of_length_le (by rw [List.length_map]; omega)] at hl
      exact ⟨D, _, rfl, .inl ⟨SqL.of hl, fun t1 ht1 => q t1 _ upd_same (Same.upd e2 (by
        cases c : H t1 with
        | none => rfl
        | some o =>
          have := e2 t1 o c
          rw [ht1] at this
          cases this))⟩⟩
end My
namespace My
open PySem L2
def tgK (rs : List Ref) : List (Key × V) := rs.map fun r => (Sum.inr r.1, V.str r.2)
theorem tgK_get {rs : List Ref} (nd : (rs.map (·.1)).Nodup) {r : Ref} (h : r ∈ rs) : valV (tgK rs) (Sum.inr r.1) = some (V.str r.2) := by
  induction rs with
  | nil => cases h
  | cons q t ih =>
    rw [List.map_cons] at nd
    obtain ⟨n1, n2⟩ := List.nodup_cons.mp nd
    rcases List.mem_cons.mp h with rfl | h
    · exact valV_pos rfl
    · have : ¬ (Sum.inr q.1 : Key) = Sum.inr r.1 := fun z => n1 (by rw [Sum.inr.inj z]; exact List.mem_map.mpr ⟨r, h, rfl⟩)
      show valV ((Sum.inr q.1, V.str q.2) :: tgK t) _ = _
      rw [valV_neg this]
      exact ih n2 h
theorem tgK_no {rs : List Ref} {w : Str} (h : w ∉ rs.map (·.1)) : valV (tgK rs) (Sum.inr w) = none := by
  cases c : valV (tgK rs) (Sum.inr w : Key) with
  | none => rfl
  | some v =>
    have := valV_in c
    unfold tgK at this
    rw [List.map_map] at this
    obtain ⟨e, he, ee⟩ := List.mem_map.mp this
    exact absurd (List.mem_map.mpr ⟨e, he, Sum.inr.inj ee⟩) h
def spTarget (CS : Addr) : Sp := fun vs H Q _ => ∃ (p : Addr) (pl : Plan) (e : Ent) (r : Ref), vs = [.ref p, .str e.1, .str r.1] ∧ SchAt CS H p pl ∧ e ∈ pl ∧ r ∈ e.2.2 ∧ ∀ H', Same H H' → Q (.str r.2) H'
theorem ok_Schema_target_of {P : Program} {w : World} {K : PySem.W.Frag} {mg : Str → Option Value} {base : Heap} {CS : Addr} (T : Txt K mg CS) : MethOk P w K mg base 3 CS "target_of" (spTarget CS) := by
  have c_Schema_entry := ok_Schema__entry (P := P) (w := w) (base := base) T
  have c_is_one_of := ok_is_one_of (P := P) (w := w) (base := base) T
  refine T.d_Schema_target_of.ok T.c_Schema.cl sc_Schema_target_of (fun vs H Q E h => ?_) (fun f cdv A outer s H vs Q E hr h => ?_)
  · obtain ⟨p, pl, e, r, rfl, _⟩ := h
    rfl
  · obtain ⟨p, pl, e, r, rfl, S, he, hr0, q⟩ := h
    obtain ⟨dx, tv, de, kvs, h1, h2, h3, h4⟩ := S.ex
    have gr := S.good.refs e he
    have g3 := gr.len
    refine ⟨_, (pss_cons (ps_setDc (i := 3) (own := [("known", 4), ("target", 5)]) rfl sc_Schema_target_of.nd rfl rfl (swd_true rfl rfl rfl (by decide +kernel)) (kPiT (K := K) (pe_ix (kIxT (K := K)) (pe_methC (pv 0) c_Schema_entry (hr.mono (by decide)) (pa_cons (pv 1) pa_nil)) pe_int (fun _ _ => rfl))) (blkOk_by (N := ["self", "name", "column", "targets", "known", "target"]) (sc := defScope s_Schema_target_of) (own := [("known", 4), ("target", 5)]) (by decide +kernel)) (fun _ _ _ _ _ => (kPgT (K := K) (n := 2) rfl (pgs_cons (pg_name (i := 4) sc_Schema_target_of.nd rfl (by first | exact Or.inl rfl | exact Or.inr rfl)) (pgs_cons (pg_name (i := 5) sc_Schema_target_of.nd rfl (by first | exact Or.inl rfl | exact Or.inr rfl)) pgs_nil)))) (fun _ _ _ _ _ => pts_nil) (fun _ _ _ _ _ => (pv 4)) (fun _ _ _ _ _ => (pv 5)))
      (pss_cons (ps_if (pt_not (pt_val (pe_callC c_is_one_of (hr.mono (by decide)) (pa_cons (pv 2) (pa_cons (pv 3) pa_nil))))) (pss_one ps_never) pss_nil)
      (pss_one (ps_ret (pe_dget (hu_of hr) (pv 3) (pv 2) (fun _ _ => rfl)))))), ?_⟩
    refine ⟨_, rfl, p, dx, _, rfl, h1, sFlds_no _ _ (by decide +kernel) (by decide +kernel), _, rfl, p, pl, e, rfl, S, he, fun v hv => ?_⟩
    obtain ⟨t, tr, rs, rfl, ht, htr, hrs⟩ := entD_inv hv
    have hlr : rs.length = e.2.2.length := by rw [hrs.length, List.length_map]
    refine ⟨t, _, _, _, rfl, rfl, SqT.of ht, rfl, tr, rfl, ⟨_, SqT.of htr⟩, fun D hD => dc_tup (K := K) (a := tr) (xs := rs) (fun i Hi => i ≤ rs.length ∧ Hi D = some (.dK (tgK (e.2.2.take i))) ∧ Same H Hi) ?_ ?_ ?_ ?_⟩
    · exact ⟨Nat.zero_le _, upd_same, Same.upd (Same.refl H) hD⟩
    · rintro i Hi _ ⟨_, _, e2⟩
      exact SqT.of (e2 tr _ htr)
    · rintro i x Hi hxi ⟨hi, hl, e2⟩
      have hil : i < rs.length := (List.getElem?_eq_some_iff.mp hxi).1
      have hie : i < e.2.2.length := by omega
      obtain ⟨r2, hrr, hTr⟩ := hrs.getM hxi
      have hr2 : e.2.2[i] = r2 := (List.getElem?_eq_some_iff.mp hrr).2
      obtain ⟨tt, rfl, htt⟩ := refD_inv hTr
      refine ⟨tt, _, rfl, SqT.of (e2 tt _ htt), rfl, _, _, rfl, _, _, rfl, rfl, rfl, tYes_if ?_⟩
      refine ⟨_, rfl, _, rfl, _, Sum.inr r2.1, rfl, hl, ?_, hil, ?_, Same.upd e2 hD⟩
      · unfold tgK
        rw [List.length_map, List.length_take]
        exact sizeLt (by omega)
      · have hno : valV (tgK (e.2.2.take i)) (Sum.inr r2.1 : Key) = none := by
          refine tgK_no fun hm => ?_
          obtain ⟨r3, he2, ee⟩ := List.mem_map.mp hm
          obtain ⟨j, hj, ej⟩ := List.getElem_of_mem he2
          rw [List.getElem_take] at ej
          have hji : j < i := by
            rw [List.length_take] at hj
            omega
          have a1 : (e.2.2.map (·.1))[j]'(by rw [List.length_map]; omega) = (e.2.2.map (·.1))[i]'(by rw [List.length_map]; omega) := by
            rw [List.getElem_map, List.getElem_map, hr2, ej, ee]
          have := (List.getElem_inj gr.nd).mp a1
          omega
        rw [upd_same, putK_new _ hno]
        unfold tgK
        rw [List.take_succ_eq_append_getElem hie, List.map_append, hr2]
        rfl
    · rintro Hi ⟨_, hl, e2⟩
      rw [List.take_of_length_le (by omega)] at hl
      have hg : DGet Hi D (V.str r.1) (some (.str r.2)) := by
        rw [← tgK_get gr.nd hr0]
        exact DGet.k (k := Sum.inr r.1) hl
      refine ⟨_, rfl, _, rfl, _, _, rfl, .inr ⟨r.1, rfl, .inl ⟨D, _, rfl, hg, true, rfl, iteF ?_⟩⟩⟩
      exact ⟨_, rfl, _, rfl, D, _, rfl, hg, q _ e2⟩
end My
namespace My
open PySem L2
def colPairs (pl : Plan) : List Ref := pl.flatMap fun e => e.2.2.map fun r => (e.1, r.1)
theorem colPairs_snoc (pl : Plan) (e : Ent) : colPairs (pl ++ [e]) = colPairs pl ++ e.2.2.map fun r => (e.1, r.1) := by
  unfold colPairs
  rw [List.flatMap_append]
  simp
def spAllCols (CS : Addr) : Sp := fun vs H Q _ => ∃ (p : Addr) (pl : Plan), vs = [.ref p] ∧ SchAt CS H p pl ∧ ∀ D H' acc, H D = none → H' D = some (.lst acc) → TdAll H' acc ((colPairs pl).map refD) → acc.length ≤ 15 → Same H H' → Q (.ref D) H'
theorem ok_Schema_all_columns {P : Program} {w : World} {K : PySem.W.Frag} {mg : Str → Option Value} {base : Heap} {CS : Addr} (T : Txt K mg CS) : MethOk P w K mg base 1 CS "all_columns" (spAllCols CS) := by
  refine T.d_Schema_all_columns.ok T.c_Schema.cl sc_Schema_all_columns (fun vs H Q E h => ?_) (fun f cdv A outer s H vs Q E hr h => ?_)
  · obtain ⟨p, pl, rfl, _⟩ := h
    rfl
  · obtain ⟨p, pl, rfl, S, q⟩ := h
    obtain ⟨dx, tv, de, kvs, h1, h2, h3, h4⟩ := S.ex
    have hi5 := S.good.hi
    refine ⟨_, (pss_one (ps_ret (pe_lc2 (own := [("entry", 1), ("column", 2), ("_", 3)]) (vs1 := [2, 3]) rfl sc_Schema_all_columns.nd (kPiT (K := K) (kFld (K := K) (pv 0) rfl)) (blkOk_by (N := ["self", "entry", "column", "_"]) (sc := defScope s_Schema_all_columns) (own := [("entry", 1), ("column", 2), ("_", 3)]) (by decide +kernel)) (by decide) (fun _ _ _ _ _ => (pg_name (i := 1) sc_Schema_all_columns.nd rfl (by first | exact Or.inl rfl | exact Or.inr rfl))) (fun _ _ _ _ _ => pts_nil) (fun _ _ _ _ _ => (kPiT (K := K) (pe_ix (kIxT (K := K)) (pv 1) pe_int (fun _ _ => rfl)))) (fun _ _ _ _ _ => (kPgT (K := K) (n := 2) rfl (pgs_cons (pg_name (i := 2) sc_Schema_all_columns.nd rfl (by first | exact Or.inl rfl | exact Or.inr rfl)) (pgs_cons (pg_name (i := 3) sc_Schema_all_columns.nd rfl (by first | exact Or.inl rfl | exact Or.inr rfl)) pgs_nil)))) (fun _ _ _ _ _ => pts_nil) (fun _ _ _ _ _ => (pe_tup (pa_cons (pe_ix (kIxT (K := K)) (pv 1) pe_int (fun _ _ => rfl)) (pa_cons (pv 2) pa_nil))))))), ?_⟩
    obtain ⟨t, xs, rfl, ht, hx⟩ := h2.tup_inv
    have hlx : xs.length = pl.length := by rw [hx.length, List.length_map]
    refine ⟨_, rfl, p, CS, dx, _, _, rfl, h1, T.c_Schema.cl, T.a_Schema_tables, sFlds_t _ _, t, rfl, ⟨_, SqT.of ht⟩, fun D hD => lc2_tup (K := K) (a := t) (xs := xs) (fun i Hj => i ≤ xs.length ∧ ∃ acc, acc.length ≤ 3 * i ∧ Hj D = some (HO.lst acc) ∧ TdAll Hj acc ((colPairs (pl.take i)).map refD) ∧ Same H Hj) ?_ ?_ ?_ ?_⟩
    · exact ⟨Nat.zero_le _, [], Nat.zero_le _, upd_same, .nil, Same.upd (Same.refl H) hD⟩
    · rintro i Hj _ ⟨_, _, _, _, _, e2⟩
      exact SqT.of (e2 t _ ht)
    · rintro i x Hj hxi ⟨hi, acc, hal, hl, hT, e2⟩
      have hil : i < xs.length := (List.getElem?_eq_some_iff.mp hxi).1
      have hip : i < pl.length := by omega
      obtain ⟨en, hen, hTd⟩ := hx.getM hxi
      have hen2 : pl[i] = en := (List.getElem?_eq_some_iff.mp hen).2
      have gr := S.good.refs en (List.mem_of_getElem? hen)
      have g3 := gr.len
      obtain ⟨tn, tr, rs, rfl, htn, htr, hrs⟩ := entD_inv hTd
      have hlr : rs.length = en.2.2.length := by rw [hrs.length, List.length_map]
      refine ⟨rfl, tYes_if ?_⟩
      refine ⟨_, rfl, tn, _, _, _, rfl, rfl, SqT.of (e2 tn _ htn), rfl, tr, rfl, ⟨_, SqT.of (e2 tr _ htr)⟩, ?_⟩
      refine in2_tup (K := K) (a := tr) (xs := rs) (fun j Hk => j ≤ rs.length ∧ ∃ ac2, ac2.length = acc.length + j ∧ Hk D = some (.lst ac2) ∧ TdAll Hk ac2 ((colPairs (pl.take i) ++ (en.2.2.take j).map fun r => (en.1, r.1)).map refD) ∧ Same H Hk) ?_ ?_ ?_ ?_
      · exact ⟨Nat.zero_le _, acc, rfl, hl, by simpa using hT, e2⟩
      · rintro j Hk _ ⟨_, _, _, _, _, e4⟩
        exact SqT.of (e4 tr _ htr)
      · rintro j y Hk hyj ⟨hj, ac2, hal2, hl2, hT2, e4⟩
        have hjl : j < rs.length := (List.getElem?_eq_some_iff.mp hyj).1
        have hje : j < en.2.2.length := by omega
        obtain ⟨r, hr0, hTr⟩ := hrs.getM hyj
        have hr2 : en.2.2[j] = r := (List.getElem?_eq_some_iff.mp hr0).2
        obtain ⟨tt, rfl, htt⟩ := refD_inv hTr
        refine ⟨tt, _, rfl, SqT.of (e4 tt _ htt), rfl, _, _, rfl, _, _, rfl, rfl, rfl, tYes_if ?_⟩
        refine ⟨_, rfl, tn, _, _, _, rfl, rfl, SqT.of (e4 tn _ htn), rfl, _, rfl, sizeL (by show 2 ≤ 100000; decide), fun tp htp => ?_⟩
        have nDt : D ≠ tp := ne_of_none hl2 htp
        have hD3 : upd Hk tp (.tup [V.str en.1, V.str r.1]) D = some (.lst ac2) := by rw [upd_ne nDt]; exact hl2
        have kt : KT Hk (upd (upd Hk tp (.tup [V.str en.1, V.str r.1])) D (.lst (ac2 ++ [.ref tp]))) := (KT.of (Same.upd (Same.refl Hk) htp)).updL hD3
        refine ⟨ac2, hD3, sizeLt (by omega), hjl, ac2 ++ [.ref tp], by simp [hal2]; omega, upd_same, ?_, fun c o hc => ?_⟩
        · have em : (en.2.2.take (j + 1)).map (fun r : Ref => ((en.1, r.1) : Ref)) = (en.2.2.take j).map (fun r : Ref => ((en.1, r.1) : Ref)) ++ [(en.1, r.1)] := by
            rw [List.take_succ_eq_append_getElem hje, List.map_append, hr2]
            rfl
          rw [em, ← List.append_assoc, List.map_append]
          refine (hT2.mono kt).append (.cons (.tup (xs := [V.str en.1, V.str r.1]) ?_ (.cons (.str _) (.cons (.str _) .nil))) .nil)
          rw [upd_ne nDt.symm, upd_same]
        · rw [upd_ne (ne_of_none hc hD), upd_ne (ne_of_none (e4 c o hc) htp)]
          exact e4 c o hc
      · rintro Hk ⟨hj, ac2, hal2, hl2, hT2, e4⟩
        refine ⟨hil, ac2, by omega, hl2, ?_, e4⟩
        rw [List.take_succ_eq_append_getElem hip, colPairs_snoc, hen2]
        rw [List.take_of_length_le (show en.2.2.length ≤ rs.length by omega)] at hT2
        exact hT2
    · rintro Hj ⟨_, acc, hal, hl, hT, e2⟩
      rw [List.take_of_length_le (by omega)] at hT
      exact q D Hj acc hD hl hT (by omega) e2
end My
namespace My
open PySem L2
def spTold (CS : Addr) : Sp := fun vs H Q _ => ∃ (p : Addr) (vp : V) (pl : Plan), vs = [.ref p, vp] ∧ SchAt CS H p pl ∧ Td H vp (planD pl) ∧ ∀ H', Same H H' → Q (.bl true) H'
theorem ok_law_tables_told {P : Program} {w : World} {K : PySem.W.Frag} {mg : Str → Option Value} {base : Heap} {CS : Addr} (T : Txt K mg CS) : CallOk P w K mg base 2 "_law_tables_told" (spTold CS) := by
  have c_Schema_tables := ok_Schema_tables (P := P) (w := w) (base := base) T
  refine T.d_law_tables_told.ok sc_law_tables_told (fun vs H Q E h => ?_) (fun f cdv A outer s H vs Q E hr h => ?_)
  · obtain ⟨p, vp, pl, rfl, _⟩ := h
    rfl
  · obtain ⟨p, vp, pl, rfl, S, hp, q⟩ := h
    obtain ⟨dx, fs, hpi⟩ := S.ins
    refine ⟨_, (pss_cons (ps_set (i := 2) sc_law_tables_told.nd rfl (by first | exact Or.inl rfl | exact Or.inr rfl) (pe_methC0 (pv 0) c_Schema_tables (hr.mono (by decide))))
      (pss_cons (ps_if (PW.pt (pw_or (pt_not (pt_val (pe_callB (kIsi (K := K)) (by rfl) T.n_isinstance (by decide +kernel) (pa_cons (pv 2) (pa_cons (pe_bltn (v := .ty "tuple") (by rfl) T.n_tuple (by decide +kernel) rfl) pa_nil))))) (pw_or1 (pt_cmpR (kNeD (K := K) hr.units) (pv 2) (pv 1) (nomark _))))) (pss_one (ps_ret pe_bl)) pss_nil)
      (pss_one (ps_ret (pe_callB (kAll (K := K) rfl) (by rfl) T.n_all (by decide +kernel) (pa_cons (pe_lc (own := [("entry", 3)]) rfl sc_law_tables_told.nd (kPiT (K := K) (pv 2)) (blkOk_by (N := ["schema", "plan", "found", "entry"]) (sc := defScope s_law_tables_told) (own := [("entry", 3)]) (by decide +kernel)) (fun _ _ _ _ _ => (pg_name (i := 3) sc_law_tables_told.nd rfl (by first | exact Or.inl rfl | exact Or.inr rfl))) (fun _ _ _ _ _ => pts_nil) (fun _ _ _ _ _ => (pe_callB (kIsi (K := K)) (by rfl) T.n_isinstance (by decide +kernel) (pa_cons (pe_ix (kIxT (K := K)) (pv 3) pe_int (fun _ _ => rfl)) (pa_cons (pe_bltn (v := .ty "bool") (by rfl) T.n_bool (by decide +kernel) rfl) pa_nil))))) pa_nil)))))), ?_⟩
    obtain ⟨dx, tv, de, kvs, h1, _⟩ := S.ex
    refine ⟨_, rfl, p, dx, _, rfl, h1, sFlds_no _ _ (by decide +kernel) (by decide +kernel), p, pl, rfl, S, fun v hv => ?_⟩
    obtain ⟨t, xs, rfl, ht, hx⟩ := hv.tup_inv
    refine ⟨_, rfl, _, _, _, _, true, rfl, ClsV.ty "tuple", TyX.base (TyOf.tup ht), kit_ty (by decide +kernel), _, rfl, iteF ?_⟩
    refine ⟨_, rfl, _, rfl, planD pl, planD pl, hv.dp, hp.dp, S.good.fine.sh (by decide), S.good.fine.sh (by decide), false, ?_, iteF ?_⟩
    · rw [S.good.fine.self]
      rfl
    refine ⟨_, rfl, t, rfl, ⟨_, SqT.of ht⟩, fun D hD => lc_tup (K := K) (a := t) (xs := xs) (fun i Hi => i ≤ xs.length ∧ Hi D = some (.lst (List.replicate i (V.bl true))) ∧ Same H Hi) ?_ ?_ ?_ ?_⟩
    · exact ⟨Nat.zero_le _, upd_same, Same.upd (Same.refl H) hD⟩
    · rintro i Hi _ ⟨_, _, e⟩
      exact SqT.of (e t _ ht)
    · rintro i x Hi hxi ⟨hi, hl, e⟩
      have hil : i < xs.length := (List.getElem?_eq_some_iff.mp hxi).1
      have h5 := S.good.hi
      have hlx : xs.length = pl.length := by rw [hx.length, List.length_map]
      obtain ⟨en, hen, hTd⟩ := hx.getM hxi
      obtain ⟨tn, tr, rs, rfl, htn, htr, hrs⟩ := entD_inv hTd
      refine ⟨rfl, tYes_if ?_⟩
      refine ⟨_, rfl, tn, _, _, _, rfl, rfl, SqT.of (e tn _ htn), rfl, _, _, _, _, true, rfl, ClsV.ty "bool", TyX.base (TyOf.bl _), kit_ty (by decide +kernel), ?_⟩
      refine ⟨_, hl, sizeLt (by rw [List.length_replicate]; omega), hil, ?_, Same.upd e hD⟩
      rw [upd_same, rep_snoc]
    · rintro Hi ⟨_, hl, e⟩
      refine ⟨D, List.replicate xs.length true, rfl, SqL.of (by rw [hl, rep_bl]), ?_⟩
      rw [all_true]
      exact q _ e
end My
namespace My
open PySem L2
theorem cols_fine {pl : Plan} (g : Good pl) {e : Ent} (he : e ∈ pl) : Fine 2 (.tuple ((e.2.2.map (·.1)).map PyData.str)) := Fine.tup (n := 1) (fine_strs fun w hw => by
  obtain ⟨r, hr, rfl⟩ := List.mem_map.mp hw
  exact (g.refs e he).nm r hr)
theorem ok_law_columns_told {P : Program} {w : World} {K : PySem.W.Frag} {mg : Str → Option Value} {base : Heap} {CS : Addr} (T : Txt K mg CS) : CallOk P w K mg base 4 "_law_columns_told" (spTold CS) := by
  have c_Schema_columns := ok_Schema_columns (P := P) (w := w) (base := base) T
  refine T.d_law_columns_told.ok sc_law_columns_told (fun vs H Q E h => ?_) (fun f cdv A outer s H vs Q E hr h => ?_)
  · obtain ⟨p, vp, pl, rfl, _⟩ := h
    rfl
  · obtain ⟨p, vp, pl, rfl, S, hp, q⟩ := h
    obtain ⟨dx, tv, de, kvs, h1, _⟩ := S.ex
    obtain ⟨t, xs, rfl, ht, hx⟩ := hp.tup_inv
    refine ⟨_, (pss_cons (ps_for PassesOwn.never rfl (kPiT (K := K) (pv 1)) (kPgT (K := K) (n := 3) rfl (pgs_cons (pg_name (i := 2) sc_law_columns_told.nd rfl (by first | exact Or.inl rfl | exact Or.inr rfl)) (pgs_cons (pg_name (i := 3) sc_law_columns_told.nd rfl (by first | exact Or.inl rfl | exact Or.inr rfl)) (pgs_cons (pg_name (i := 4) sc_law_columns_told.nd rfl (by first | exact Or.inl rfl | exact Or.inr rfl)) pgs_nil))))
      (pss_cons (ps_set (i := 5) sc_law_columns_told.nd rfl (by first | exact Or.inl rfl | exact Or.inr rfl) (pe_methC (pv 0) c_Schema_columns (hr.mono (by decide)) (pa_cons (pv 2) pa_nil)))
          (pss_one (ps_if (PW.pt (pw_or (pt_not (pt_val (pe_callB (kIsi (K := K)) (by rfl) T.n_isinstance (by decide +kernel) (pa_cons (pv 5) (pa_cons (pe_bltn (v := .ty "tuple") (by rfl) T.n_tuple (by decide +kernel) rfl) pa_nil))))) (pw_or1 (pt_cmpR (kNeD (K := K) hr.units) (pv 5) (pe_callTy (kTup (K := K)) (by rfl) T.n_tuple (by decide +kernel) (pa_cons (pe_lc (own := [("one", 6)]) rfl sc_law_columns_told.nd (kPiT (K := K) (pv 4)) (blkOk_by (N := ["schema", "plan", "name", "unique", "references", "columns", "one"]) (sc := defScope s_law_columns_told) (own := [("one", 6)]) (by decide +kernel)) (fun _ _ _ _ _ => (pg_name (i := 6) sc_law_columns_told.nd rfl (by first | exact Or.inl rfl | exact Or.inr rfl))) (fun _ _ _ _ _ => pts_nil) (fun _ _ _ _ _ => (pe_ix (kIxT (K := K)) (pv 6) pe_int (fun _ _ => rfl)))) pa_nil)) (nomark _))))) (pss_one (ps_ret pe_bl)) pss_nil))))
      (pss_one (ps_ret pe_bl))), ?_⟩
    refine ⟨_, rfl, t, rfl, ⟨_, SqT.of ht⟩, for_tup (K := K) (a := t) (xs := xs) (fun i σ Hi => ∃ o2 o3 o4 o5 o6 : Option V, σ = [some (.ref p), some (.ref t), o2, o3, o4, o5, o6] ∧ Same H Hi) ?_ ?_ ?_ ?_⟩
    · exact ⟨none, none, none, none, none, rfl, Same.refl H⟩
    · rintro i σ Hi _ ⟨_, _, _, _, _, _, e⟩
      exact SqT.of (e t _ ht)
    · rintro i x σ Hi hxi ⟨o2, o3, o4, o5, o6, rfl, e⟩
      obtain ⟨en, hen, hTd⟩ := hx.getM hxi
      have hem := List.mem_of_getElem? hen
      have gr := S.good.refs en hem
      have g3 := gr.len
      obtain ⟨tn, tr, rs, rfl, htn, htr, hrs⟩ := entD_inv hTd
      have hlr : rs.length = en.2.2.length := by rw [hrs.length, List.length_map]
      refine ⟨tn, _, rfl, SqT.of (e tn _ htn), rfl, _, _, rfl, _, _, rfl, _, _, rfl, rfl, ?_⟩
      refine ⟨_, rfl, p, dx, _, rfl, e p _ h1, sFlds_no _ _ (by decide +kernel) (by decide +kernel), _, rfl, p, pl, en, rfl, S.same e, hem, fun tc H2 htc e2 => ?_⟩
      refine ⟨_, rfl, _, _, _, _, true, rfl, ClsV.ty "tuple", TyX.base (TyOf.tup htc), kit_ty (by decide +kernel), _, rfl, iteF ?_⟩
      have e12 := e.trans e2
      refine ⟨_, rfl, _, rfl, tr, rfl, ⟨_, SqT.of (e12 tr _ htr)⟩, fun D hD => lc_tup (K := K) (a := tr) (xs := rs) (fun j Hj => j ≤ rs.length ∧ Hj D = some (.lst ((en.2.2.map (·.1)).take j |>.map V.str)) ∧ Same H2 Hj) ?_ ?_ ?_ ?_⟩
      · exact ⟨Nat.zero_le _, upd_same, Same.upd (Same.refl H2) hD⟩
      · rintro j Hj _ ⟨_, _, e3⟩
        exact SqT.of (e3 tr _ (e12 tr _ htr))
      · rintro j x Hj hxj ⟨hj, hl, e3⟩
        have hjl : j < rs.length := (List.getElem?_eq_some_iff.mp hxj).1
        obtain ⟨r, hrr, hTr⟩ := hrs.getM hxj
        obtain ⟨tt, rfl, htt⟩ := refD_inv hTr
        have hrl : j < (en.2.2.map (·.1)).length := by rw [List.length_map]; omega
        refine ⟨rfl, tYes_if ?_⟩
        refine ⟨_, rfl, tt, _, _, _, rfl, rfl, SqT.of (e3 tt _ (e12 tt _ htt)), rfl, ?_⟩
        refine ⟨_, hl, sizeLt (by rw [List.length_map, List.length_take]; omega), hjl, ?_, Same.upd e3 hD⟩
        rw [upd_same, List.take_succ_eq_append_getElem hrl, List.map_append]
        have er : (en.2.2.map (·.1))[j] = r.1 := by
          rw [List.getElem_map]
          rw [(List.getElem?_eq_some_iff.mp hrr).2]
        rw [er]
        rfl
      · rintro Hj ⟨_, hl, e3⟩
        rw [List.take_of_length_le (by rw [List.length_map]; omega)] at hl
        have f := cols_fine S.good hem
        refine ⟨D, _, rfl, .inl ⟨SqL.of hl, fun t1 ht1 => ⟨_, _, Dp.tup (SqT.of (Same.upd e3 (by
          cases c : H2 t1 with
          | none => rfl
          | some o =>
            have := e3 t1 o c
            rw [ht1] at this
            cases this) tc _ htc)) (TdAll.dp (TdAll.strs _)), Dp.tup (SqT.of upd_same) (TdAll.dp (TdAll.strs _)), f.sh (by decide), f.sh (by decide), false, ?_, iteF ?_⟩⟩⟩
        · rw [f.self]
          rfl
        · exact ⟨_, _, _, _, _, rfl, Same.upd (e12.trans e3) (by
          cases c : H t1 with
          | none => rfl
          | some o =>
            have := (e12.trans e3) t1 o c
            rw [ht1] at this
            cases this)⟩
    · rintro σ Hi ⟨o2, o3, o4, o5, o6, rfl, e⟩
      exact q _ e
end My
namespace My
open PySem L2
theorem ok_law_targets_told {P : Program} {w : World} {K : PySem.W.Frag} {mg : Str → Option Value} {base : Heap} {CS : Addr} (T : Txt K mg CS) : CallOk P w K mg base 4 "_law_targets_told" (spTold CS) := by
  have c_Schema_target_of := ok_Schema_target_of (P := P) (w := w) (base := base) T
  refine T.d_law_targets_told.ok sc_law_targets_told (fun vs H Q E h => ?_) (fun f cdv A outer s H vs Q E hr h => ?_)
  · obtain ⟨p, vp, pl, rfl, _⟩ := h
    rfl
  · obtain ⟨p, vp, pl, rfl, S, hp, q⟩ := h
    obtain ⟨dx, tv, de, kvs, h1, _⟩ := S.ex
    obtain ⟨t, xs, rfl, ht, hx⟩ := hp.tup_inv
    refine ⟨_, (pss_cons (ps_for PassesOwn.never rfl (kPiT (K := K) (pv 1)) (kPgT (K := K) (n := 3) rfl (pgs_cons (pg_name (i := 2) sc_law_targets_told.nd rfl (by first | exact Or.inl rfl | exact Or.inr rfl)) (pgs_cons (pg_name (i := 3) sc_law_targets_told.nd rfl (by first | exact Or.inl rfl | exact Or.inr rfl)) (pgs_cons (pg_name (i := 4) sc_law_targets_told.nd rfl (by first | exact Or.inl rfl | exact Or.inr rfl)) pgs_nil))))
      (pss_one (ps_for PassesOwn.never rfl (kPiT (K := K) (pv 4)) (kPgT (K := K) (n := 2) rfl (pgs_cons (pg_name (i := 5) sc_law_targets_told.nd rfl (by first | exact Or.inl rfl | exact Or.inr rfl)) (pgs_cons (pg_name (i := 6) sc_law_targets_told.nd rfl (by first | exact Or.inl rfl | exact Or.inr rfl)) pgs_nil)))
      (pss_cons (ps_set (i := 7) sc_law_targets_told.nd rfl (by first | exact Or.inl rfl | exact Or.inr rfl) (pe_methC (pv 0) c_Schema_target_of (hr.mono (by decide)) (pa_cons (pv 2) (pa_cons (pv 5) pa_nil))))
          (pss_one (ps_if (PW.pt (pw_or (pt_not (pt_val (pe_callB (kIsi (K := K)) (by rfl) T.n_isinstance (by decide +kernel) (pa_cons (pv 7) (pa_cons (pe_bltn (v := .ty "str") (by rfl) T.n_str (by decide +kernel) rfl) pa_nil))))) (pw_or1 (pt_cmpR op_ne (pv 7) (pv 6) (nomark _))))) (pss_one (ps_ret pe_bl)) pss_nil))))))
      (pss_one (ps_ret pe_bl))), ?_⟩
    refine ⟨_, rfl, t, rfl, ⟨_, SqT.of ht⟩, for_tup (K := K) (a := t) (xs := xs) (fun i σ Hi => ∃ o2 o3 o4 o5 o6 o7 : Option V, σ = [some (.ref p), some (.ref t), o2, o3, o4, o5, o6, o7] ∧ Same H Hi) ?_ ?_ ?_ ?_⟩
    · exact ⟨none, none, none, none, none, none, rfl, Same.refl H⟩
    · rintro i σ Hi _ ⟨_, _, _, _, _, _, _, e⟩
      exact SqT.of (e t _ ht)
    · rintro i x σ Hi hxi ⟨o2, o3, o4, o5, o6, o7, rfl, e⟩
      obtain ⟨en, hen, hTd⟩ := hx.getM hxi
      have hem := List.mem_of_getElem? hen
      obtain ⟨tn, tr, rs, rfl, htn, htr, hrs⟩ := entD_inv hTd
      refine ⟨tn, _, rfl, SqT.of (e tn _ htn), rfl, _, _, rfl, _, _, rfl, _, _, rfl, rfl, ?_⟩
      refine ⟨_, rfl, tr, rfl, ⟨_, SqT.of (e tr _ htr)⟩, for_tup (K := K) (a := tr) (xs := rs) (fun j σ Hj => ∃ o5 o6 o7 : Option V, σ = [some (.ref p), some (.ref t), some (.str en.1), some (.bl en.2.1), some (.ref tr), o5, o6, o7] ∧ Same H Hj) ?_ ?_ ?_ ?_⟩
      · exact ⟨o5, o6, o7, rfl, e⟩
      · rintro j σ Hj _ ⟨_, _, _, _, e3⟩
        exact SqT.of (e3 tr _ htr)
      · rintro j x σ Hj hxj ⟨o5, o6, o7, rfl, e3⟩
        obtain ⟨r, hrr, hTr⟩ := hrs.getM hxj
        have hrm := List.mem_of_getElem? hrr
        obtain ⟨tt, rfl, htt⟩ := refD_inv hTr
        refine ⟨tt, _, rfl, SqT.of (e3 tt _ htt), rfl, _, _, rfl, _, _, rfl, rfl, ?_⟩
        refine ⟨_, rfl, p, dx, _, rfl, e3 p _ h1, sFlds_no _ _ (by decide +kernel) (by decide +kernel), _, rfl, _, rfl, p, pl, en, r, rfl, S.same e3, hem, hrm, fun H4 e4 => ?_⟩
        refine ⟨_, rfl, _, _, _, _, true, rfl, ClsV.ty "str", TyX.base (TyOf.str _), kit_ty (by decide +kernel), _, rfl, iteF ?_⟩
        refine ⟨_, rfl, _, rfl, rfl, false, by simp, iteF ?_⟩
        exact ⟨_, _, _, rfl, e3.trans e4⟩
      · rintro σ Hj ⟨o5, o6, o7, rfl, e3⟩
        exact ⟨_, _, _, _, _, _, rfl, e3⟩
    · rintro σ Hi ⟨o2, o3, o4, o5, o6, o7, rfl, e⟩
      exact q _ e
end My
namespace My
open PySem L2
theorem ok_law_unique_told {P : Program} {w : World} {K : PySem.W.Frag} {mg : Str → Option Value} {base : Heap} {CS : Addr} (T : Txt K mg CS) : CallOk P w K mg base 4 "_law_unique_told" (spTold CS) := by
  have c_Schema_is_unique := ok_Schema_is_unique (P := P) (w := w) (base := base) T
  refine T.d_law_unique_told.ok sc_law_unique_told (fun vs H Q E h => ?_) (fun f cdv A outer s H vs Q E hr h => ?_)
  · obtain ⟨p, vp, pl, rfl, _⟩ := h
    rfl
  · obtain ⟨p, vp, pl, rfl, S, hp, q⟩ := h
    obtain ⟨dx, tv, de, kvs, h1, _⟩ := S.ex
    obtain ⟨t, xs, rfl, ht, hx⟩ := hp.tup_inv
    refine ⟨_, (pss_cons (ps_for PassesOwn.never rfl (kPiT (K := K) (pv 1)) (kPgT (K := K) (n := 3) rfl (pgs_cons (pg_name (i := 2) sc_law_unique_told.nd rfl (by first | exact Or.inl rfl | exact Or.inr rfl)) (pgs_cons (pg_name (i := 3) sc_law_unique_told.nd rfl (by first | exact Or.inl rfl | exact Or.inr rfl)) (pgs_cons (pg_name (i := 4) sc_law_unique_told.nd rfl (by first | exact Or.inl rfl | exact Or.inr rfl)) pgs_nil))))
      (pss_cons (ps_set (i := 5) sc_law_unique_told.nd rfl (by first | exact Or.inl rfl | exact Or.inr rfl) (pe_methC (pv 0) c_Schema_is_unique (hr.mono (by decide)) (pa_cons (pv 2) pa_nil)))
          (pss_one (ps_if (PW.pt (pw_or (pt_not (pt_val (pe_callB (kIsi (K := K)) (by rfl) T.n_isinstance (by decide +kernel) (pa_cons (pv 5) (pa_cons (pe_bltn (v := .ty "bool") (by rfl) T.n_bool (by decide +kernel) rfl) pa_nil))))) (pw_or1 (pt_cmpR op_ne (pv 5) (pv 3) (nomark _))))) (pss_one (ps_ret pe_bl)) pss_nil))))
      (pss_one (ps_ret pe_bl))), ?_⟩
    refine ⟨_, rfl, t, rfl, ⟨_, SqT.of ht⟩, for_tup (K := K) (a := t) (xs := xs) (fun i σ Hi => ∃ o2 o3 o4 o5 : Option V, σ = [some (.ref p), some (.ref t), o2, o3, o4, o5] ∧ Same H Hi) ?_ ?_ ?_ ?_⟩
    · exact ⟨none, none, none, none, rfl, Same.refl H⟩
    · rintro i σ Hi _ ⟨_, _, _, _, _, e⟩
      exact SqT.of (e t _ ht)
    · rintro i x σ Hi hxi ⟨o2, o3, o4, o5, rfl, e⟩
      obtain ⟨en, hen, hTd⟩ := hx.getM hxi
      have hem := List.mem_of_getElem? hen
      obtain ⟨tn, tr, rs, rfl, htn, htr, hrs⟩ := entD_inv hTd
      refine ⟨tn, _, rfl, SqT.of (e tn _ htn), rfl, _, _, rfl, _, _, rfl, _, _, rfl, rfl, ?_⟩
      refine ⟨_, rfl, p, dx, _, rfl, e p _ h1, sFlds_no _ _ (by decide +kernel) (by decide +kernel), _, rfl, p, pl, en, rfl, S.same e, hem, ?_⟩
      refine ⟨_, rfl, _, _, _, _, true, rfl, ClsV.ty "bool", TyX.base (TyOf.bl _), kit_ty (by decide +kernel), _, rfl, iteF ?_⟩
      refine ⟨_, rfl, _, rfl, rfl, false, by simp, iteF ?_⟩
      exact ⟨_, _, _, _, rfl, e⟩
    · rintro σ Hi ⟨o2, o3, o4, o5, rfl, e⟩
      exact q _ e
end My
namespace My
open PySem L2
theorem colPairs_fine {pl : Plan} (g : Good pl) : Fine 3 (.list ((colPairs pl).map refD)) := Fine.lst (n := 2) fun d hd => by
  obtain ⟨r, hr, rfl⟩ := List.mem_map.mp hd
  obtain ⟨e, he, h2⟩ := List.mem_flatMap.mp hr
  obtain ⟨r2, hr2, rfl⟩ := List.mem_map.mp h2
  exact refD_fine (g.nm e he) ((g.refs e he).nm r2 hr2)
theorem ok_law_pairs_told {P : Program} {w : World} {K : PySem.W.Frag} {mg : Str → Option Value} {base : Heap} {CS : Addr} (T : Txt K mg CS) : CallOk P w K mg base 2 "_law_pairs_told" (spTold CS) := by
  have c_Schema_all_columns := ok_Schema_all_columns (P := P) (w := w) (base := base) T
  refine T.d_law_pairs_told.ok sc_law_pairs_told (fun vs H Q E h => ?_) (fun f cdv A outer s H vs Q E hr h => ?_)
  · obtain ⟨p, vp, pl, rfl, _⟩ := h
    rfl
  · obtain ⟨p, vp, pl, rfl, S, hp, q⟩ := h
    obtain ⟨dx, tv, de, kvs, h1, _⟩ := S.ex
    obtain ⟨t, xs, rfl, ht, hx⟩ := hp.tup_inv
    have hlx : xs.length = pl.length := by rw [hx.length, List.length_map]
    have h5 := S.good.hi
    refine ⟨_, (pss_cons (ps_set (i := 2) sc_law_pairs_told.nd rfl (by first | exact Or.inl rfl | exact Or.inr rfl) (pe_lst pa_nil))
      (pss_cons (ps_for PassesOwn.never rfl (kPiT (K := K) (pv 1)) (kPgT (K := K) (n := 3) rfl (pgs_cons (pg_name (i := 3) sc_law_pairs_told.nd rfl (by first | exact Or.inl rfl | exact Or.inr rfl)) (pgs_cons (pg_name (i := 4) sc_law_pairs_told.nd rfl (by first | exact Or.inl rfl | exact Or.inr rfl)) (pgs_cons (pg_name (i := 5) sc_law_pairs_told.nd rfl (by first | exact Or.inl rfl | exact Or.inr rfl)) pgs_nil))))
      (pss_one (ps_expr (pe_bm PySem.F.plainAttrs_list PySem.F.slot_list_extend PySem.F.type_list_extend mt_extend (pv 2) (pa_cons (pe_lc (own := [("one", 7)]) rfl sc_law_pairs_told.nd (kPiT (K := K) (pv 5)) (blkOk_by (N := ["schema", "plan", "due", "name", "unique", "references", "found", "one"]) (sc := defScope s_law_pairs_told) (own := [("one", 7)]) (by decide +kernel)) (fun _ _ _ _ _ => (pg_name (i := 7) sc_law_pairs_told.nd rfl (by first | exact Or.inl rfl | exact Or.inr rfl))) (fun _ _ _ _ _ => pts_nil) (fun _ _ _ _ _ => (pe_tup (pa_cons (pv 3) (pa_cons (pe_ix (kIxT (K := K)) (pv 7) pe_int (fun _ _ => rfl)) pa_nil))))) pa_nil)))))
      (pss_cons (ps_set (i := 6) sc_law_pairs_told.nd rfl (by first | exact Or.inl rfl | exact Or.inr rfl) (pe_methC0 (pv 0) c_Schema_all_columns (hr.mono (by decide))))
      (pss_cons (ps_if (PW.pt (pw_or (pt_not (pt_val (pe_callB (kIsi (K := K)) (by rfl) T.n_isinstance (by decide +kernel) (pa_cons (pv 6) (pa_cons (pe_bltn (v := .ty "list") (by rfl) T.n_list (by decide +kernel) rfl) pa_nil))))) (pw_or1 (pt_cmpR (kNeD (K := K) hr.units) (pv 6) (pv 2) (nomark _))))) (pss_one (ps_ret pe_bl)) pss_nil)
      (pss_cons (ps_expr (pe_bm PySem.F.plainAttrs_list PySem.F.slot_list_append PySem.F.type_list_append mt_append (pv 6) (pa_cons (pe_tup (pa_cons pe_str (pa_cons pe_str pa_nil))) pa_nil)))
      (pss_one (ps_ret (pe_cmpR (kEqD (K := K) hr.units) (pe_methC0 (pv 0) c_Schema_all_columns (hr.mono (by decide))) (pv 2) (nomark _))))))))), ?_⟩
    refine ⟨Nat.zero_le _, fun D hD => ?_⟩
    have e0 := Same.upd (o := .lst []) (Same.refl H) hD
    refine ⟨_, rfl, t, rfl, ⟨_, SqT.of (e0 t _ ht)⟩, for_tup (K := K) (a := t) (xs := xs) (fun i σ Hi => i ≤ xs.length ∧ ∃ (o3 o4 o5 o6 o7 : Option V) (acc : List V), σ = [some (.ref p), some (.ref t), some (.ref D), o3, o4, o5, o6, o7] ∧ acc.length ≤ 3 * i ∧ Hi D = some (.lst acc) ∧ TdAll Hi acc ((colPairs (pl.take i)).map refD) ∧ Same H Hi) ?_ ?_ ?_ ?_⟩
    · exact ⟨Nat.zero_le _, none, none, none, none, none, [], rfl, Nat.zero_le _, upd_same, .nil, e0⟩
    · rintro i σ Hi _ ⟨_, _, _, _, _, _, _, _, _, _, _, e⟩
      exact SqT.of (e t _ ht)
    · rintro i x σ Hi hxi ⟨hi, o3, o4, o5, o6, o7, acc, rfl, hal, hDi, hT, e⟩
      have hil : i < xs.length := (List.getElem?_eq_some_iff.mp hxi).1
      have hip : i < pl.length := by omega
      obtain ⟨en, hen, hTd⟩ := hx.getM hxi
      have hen2 : pl[i] = en := (List.getElem?_eq_some_iff.mp hen).2
      have hem := List.mem_of_getElem? hen
      have g3 := (S.good.refs en hem).len
      obtain ⟨tn, tr, rs, rfl, htn, htr, hrs⟩ := entD_inv hTd
      have hlr : rs.length = en.2.2.length := by rw [hrs.length, List.length_map]
      refine ⟨tn, _, rfl, SqT.of (e tn _ htn), rfl, _, _, rfl, _, _, rfl, _, _, rfl, rfl, ?_⟩
      refine ⟨_, rfl, .inl ⟨rfl, _, SqL.of hDi⟩, _, rfl, tr, rfl, ⟨_, SqT.of (e tr _ htr)⟩, fun L hL => lc_tup (K := K) (a := tr) (xs := rs) (fun j Hj => j ≤ rs.length ∧ ∃ ys : List V, ys.length = j ∧ Hj L = some (.lst ys) ∧ TdAll Hj ys (((en.2.2.take j).map fun r : Ref => ((en.1, r.1) : Ref)).map refD) ∧ Same Hi Hj) ?_ ?_ ?_ ?_⟩
      · exact ⟨Nat.zero_le _, [], rfl, upd_same, .nil, Same.upd (Same.refl Hi) hL⟩
      · rintro j Hj _ ⟨_, _, _, _, _, e3⟩
        exact SqT.of (e3 tr _ (e tr _ htr))
      · rintro j y Hj hyj ⟨hj, ys, hyl, hl, hTy, e3⟩
        have hjl : j < rs.length := (List.getElem?_eq_some_iff.mp hyj).1
        have hje : j < en.2.2.length := by omega
        obtain ⟨r, hrr, hTr⟩ := hrs.getM hyj
        have hr2 : en.2.2[j] = r := (List.getElem?_eq_some_iff.mp hrr).2
        obtain ⟨tt, rfl, htt⟩ := refD_inv hTr
        refine ⟨rfl, tYes_if ?_⟩
        refine ⟨_, rfl, _, rfl, tt, _, _, _, rfl, rfl, SqT.of (e3 tt _ (e tt _ htt)), rfl, sizeL (by show 2 ≤ 100000; decide), fun tp htp => ?_⟩
        have nDt : L ≠ tp := ne_of_none hl htp
        have hD3 : upd Hj tp (.tup [V.str en.1, V.str r.1]) L = some (.lst ys) := by rw [upd_ne nDt]; exact hl
        have kt : KT Hj (upd (upd Hj tp (.tup [V.str en.1, V.str r.1])) L (.lst (ys ++ [.ref tp]))) := (KT.of (Same.upd (Same.refl Hj) htp)).updL hD3
        refine ⟨ys, hD3, sizeLt (by omega), hjl, ys ++ [.ref tp], by simp [hyl], upd_same, ?_, fun c o hc => ?_⟩
        · have em : (en.2.2.take (j + 1)).map (fun r : Ref => ((en.1, r.1) : Ref)) = (en.2.2.take j).map (fun r : Ref => ((en.1, r.1) : Ref)) ++ [(en.1, r.1)] := by
            rw [List.take_succ_eq_append_getElem hje, List.map_append, hr2]
            rfl
          rw [em, List.map_append]
          refine (hTy.mono kt).append (.cons (.tup (xs := [V.str en.1, V.str r.1]) ?_ (.cons (.str _) (.cons (.str _) .nil))) .nil)
          rw [upd_ne nDt.symm, upd_same]
        · rw [upd_ne (ne_of_none hc hL), upd_ne (ne_of_none (e3 c o hc) htp)]
          exact e3 c o hc
      · rintro Hj ⟨_, ys, hyl, hl, hTy, e3⟩
        have hDj := e3 D _ hDi
        rw [List.take_of_length_le (show en.2.2.length ≤ rs.length by omega)] at hTy
        refine ⟨D, L, acc, ys, rfl, rfl, hDj, hl, sizeL (by omega), ?_⟩
        have kt : KT Hj (upd Hj D (.lst (acc ++ ys))) := (KT.refl Hj).updL hDj
        refine ⟨hil, _, _, _, _, _, acc ++ ys, rfl, by rw [List.length_append]; omega, upd_same, ?_, fun c o hc => ?_⟩
        · rw [List.take_succ_eq_append_getElem hip, colPairs_snoc, hen2, List.map_append]
          exact (hT.mono ((KT.of e3).trans kt)).append (hTy.mono kt)
        · rw [upd_ne (ne_of_none hc hD)]
          exact e3 c o (e c o hc)
    · rintro σ Hi ⟨_, o3, o4, o5, o6, o7, acc, rfl, hal, hDi, hT, e⟩
      rw [List.take_of_length_le (show pl.length ≤ xs.length by omega)] at hT
      have f := colPairs_fine S.good
      refine ⟨_, rfl, p, dx, _, rfl, e p _ h1, sFlds_no _ _ (by decide +kernel) (by decide +kernel), p, pl, rfl, S.same e, fun F H2 ac2 hF hF2 hT2 hl2 e2 => ?_⟩
      have nDF : D ≠ F := ne_of_none hDi hF
      refine ⟨_, rfl, _, _, _, _, true, rfl, ClsV.ty "list", TyX.base (TyOf.lst hF2), kit_ty (by decide +kernel), _, rfl, iteF ?_⟩
      refine ⟨_, rfl, _, rfl, _, _, Dp.lst (SqL.of hF2) hT2.dp, Dp.lst (SqL.of (e2 D _ hDi)) (hT.mono (KT.of e2)).dp, f.sh (by decide), f.sh (by decide), false, ?_, iteF ?_⟩
      · rw [f.self]
        rfl
      refine ⟨_, rfl, .inl ⟨rfl, _, SqL.of hF2⟩, sizeL (by show 2 ≤ 100000; decide), fun tp htp => ?_⟩
      have nFt : F ≠ tp := ne_of_none hF2 htp
      have hF3 : upd H2 tp (.tup [V.str "a", V.str "b"]) F = some (.lst ac2) := by rw [upd_ne nFt]; exact hF2
      refine ⟨F, ac2, _, rfl, rfl, hF3, sizeLt (by omega), ?_⟩
      have kt : KT H2 (upd (upd H2 tp (.tup [V.str "a", V.str "b"])) F (.lst (ac2 ++ [.ref tp]))) := (KT.of (Same.upd (Same.refl H2) htp)).updL hF3
      have e3 : Same H (upd (upd H2 tp (.tup [V.str "a", V.str "b"])) F (.lst (ac2 ++ [.ref tp]))) := fun c o hc => by
        have h4 := e2 c o (e c o hc)
        rw [upd_ne (ne_of_none (e c o hc) hF), upd_ne (ne_of_none h4 htp)]
        exact h4
      have hD3 : upd (upd H2 tp (.tup [V.str "a", V.str "b"])) F (.lst (ac2 ++ [.ref tp])) D = some (.lst acc) := by
        rw [upd_ne nDF, upd_ne (ne_of_none (e2 D _ hDi) htp)]
        exact e2 D _ hDi
      refine ⟨_, rfl, p, dx, _, rfl, e3 p _ h1, sFlds_no _ _ (by decide +kernel) (by decide +kernel), p, pl, rfl, S.same e3, fun F2 H4 ac4 hF4 hF5 hT4 hl4 e4 => ?_⟩
      refine ⟨_, rfl, _, _, Dp.lst (SqL.of hF5) hT4.dp, Dp.lst (SqL.of (e4 D _ hD3)) (hT.mono (((KT.of e2).trans kt).trans (KT.of e4))).dp, f.sh (by decide), f.sh (by decide), ?_⟩
      rw [f.self]
      exact q _ (e3.trans e4)
end My
namespace My
open PySem L2
def spToldT (CS : Addr) : Sp := fun vs H Q _ => ∃ (p : Addr) (vp : V) (pl : Plan) (z : Int), vs = [.ref p, vp, .int z] ∧ SchAt CS H p pl ∧ Td H vp (planD pl) ∧ ∀ H', Same H H' → Q (.bl true) H'
theorem ok_law_told {P : Program} {w : World} {K : PySem.W.Frag} {mg : Str → Option Value} {base : Heap} {CS : Addr} (T : Txt K mg CS) : CallOk P w K mg base 5 "_law_told" (spToldT CS) := by
  have c_law_columns_told := ok_law_columns_told (P := P) (w := w) (base := base) T
  have c_law_pairs_told := ok_law_pairs_told (P := P) (w := w) (base := base) T
  have c_law_tables_told := ok_law_tables_told (P := P) (w := w) (base := base) T
  have c_law_targets_told := ok_law_targets_told (P := P) (w := w) (base := base) T
  have c_law_unique_told := ok_law_unique_told (P := P) (w := w) (base := base) T
  refine T.d_law_told.ok sc_law_told (fun vs H Q E h => ?_) (fun f cdv A outer s H vs Q E hr h => ?_)
  · obtain ⟨p, vp, pl, z, rfl, _⟩ := h
    rfl
  · obtain ⟨p, vp, pl, z, rfl, S, hp, q⟩ := h
    refine ⟨_, (pss_cons (ps_set (i := 3) sc_law_told.nd rfl (by first | exact Or.inl rfl | exact Or.inr rfl) (pe_lst pa_nil))
      (pss_cons (ps_for PassesOwn.never rfl (pi_range1 (by rfl) T.n_range (pa_cons pe_int pa_nil)) (pg_name (i := 4) sc_law_told.nd rfl (by first | exact Or.inl rfl | exact Or.inr rfl))
      (pss_cons (ps_set (i := 5) sc_law_told.nd rfl (by first | exact Or.inl rfl | exact Or.inr rfl) (pe_op op_mod (pe_callTy call_int1 (by rfl) T.n_int (by decide +kernel) (pa_cons (pe_op op_add (pv 2) (pv 4)) pa_nil)) pe_int))
          (pss_one (ps_if (pt_cmpR op_eq (pv 5) pe_int (nomark _)) (pss_one (ps_expr (pe_bm PySem.F.plainAttrs_list PySem.F.slot_list_append PySem.F.type_list_append mt_append (pv 3) (pa_cons (pe_callC c_law_tables_told (hr.mono (by decide)) (pa_cons (pv 0) (pa_cons (pv 1) pa_nil))) pa_nil)))) (pss_one (ps_if (pt_cmpR op_eq (pv 5) pe_int (nomark _)) (pss_one (ps_expr (pe_bm PySem.F.plainAttrs_list PySem.F.slot_list_append PySem.F.type_list_append mt_append (pv 3) (pa_cons (pe_callC c_law_columns_told (hr.mono (by decide)) (pa_cons (pv 0) (pa_cons (pv 1) pa_nil))) pa_nil)))) (pss_one (ps_if (pt_cmpR op_eq (pv 5) pe_int (nomark _)) (pss_one (ps_expr (pe_bm PySem.F.plainAttrs_list PySem.F.slot_list_append PySem.F.type_list_append mt_append (pv 3) (pa_cons (pe_callC c_law_targets_told (hr.mono (by decide)) (pa_cons (pv 0) (pa_cons (pv 1) pa_nil))) pa_nil)))) (pss_one (ps_if (pt_cmpR op_eq (pv 5) pe_int (nomark _)) (pss_one (ps_expr (pe_bm PySem.F.plainAttrs_list PySem.F.slot_list_append PySem.F.type_list_append mt_append (pv 3) (pa_cons (pe_callC c_law_unique_told (hr.mono (by decide)) (pa_cons (pv 0) (pa_cons (pv 1) pa_nil))) pa_nil)))) (pss_one (ps_expr (pe_bm PySem.F.plainAttrs_list PySem.F.slot_list_append PySem.F.type_list_append mt_append (pv 3) (pa_cons (pe_callC c_law_pairs_told (hr.mono (by decide)) (pa_cons (pv 0) (pa_cons (pv 1) pa_nil))) pa_nil))))))))))))))
      (pss_one (ps_ret (pe_callB (kAll (K := K) rfl) (by rfl) T.n_all (by decide +kernel) (pa_cons (pv 3) pa_nil)))))), ?_⟩
    refine ⟨Nat.zero_le _, fun A0 hA => ?_⟩
    refine ⟨5, rfl, by decide, by decide, for_range (lo := 0) (n := 5) (fun i σ Hi => ∃ o4 o5 : Option V, σ = [some (.ref p), some vp, some (.int z), some (.ref A0), o4, o5] ∧ i ≤ 5 ∧ Hi A0 = some (.lst (List.replicate i (V.bl true))) ∧ Same H Hi) ?_ ?_ ?_⟩
    · exact ⟨none, none, rfl, by decide, upd_same, Same.upd (Same.refl H) hA⟩
    · rintro i σ Hi hi ⟨o4, o5, rfl, _, hl, e⟩
      have fin : ∀ (σ' : L2.St) (Hj : Hp), Same Hi Hj → ∃ o4' o5', [some (V.ref p), some vp, some (.int z), some (.ref A0), some (.int (0 + i)), some (.int ((z + (0 + (i : Int))) % 5))] = [some (.ref p), some vp, some (.int z), some (.ref A0), o4', o5'] ∧ i + 1 ≤ 5 ∧ (upd Hj A0 (.lst (List.replicate i (V.bl true) ++ [V.bl true]))) A0 = some (.lst (List.replicate (i + 1) (V.bl true))) ∧ Same H (upd Hj A0 (.lst (List.replicate i (V.bl true) ++ [V.bl true]))) := by
        intro σ' Hj ej
        exact ⟨_, _, rfl, hi, by rw [upd_same, rep_snoc], Same.upd (e.trans ej) hA⟩
      refine ⟨_, rfl, _, rfl, _, _, rfl, rfl, .inl ⟨_, rfl, _, _, rfl, rfl, (by show (0 : Int) < 5; decide), ?_⟩⟩
      refine ⟨_, rfl, rfl, _, rfl, ite2 (fun _ => ?_) (fun _ => ⟨_, rfl, rfl, _, rfl, ite2 (fun _ => ?_) (fun _ => ⟨_, rfl, rfl, _, rfl, ite2 (fun _ => ?_) (fun _ => ⟨_, rfl, rfl, _, rfl, ite2 (fun _ => ?_) (fun _ => ?_)⟩)⟩)⟩)⟩
      all_goals
        refine ⟨_, rfl, .inl ⟨rfl, _, SqL.of hl⟩, _, rfl, _, rfl, p, vp, pl, rfl, S.same e, hp.kt_same e, fun H2 e2 => ?_⟩
        exact ⟨A0, _, _, rfl, rfl, e2 A0 _ hl, sizeLt (by rw [List.length_replicate]; omega), fin [] H2 e2⟩
    · rintro σ Hi ⟨o4, o5, rfl, _, hl, e⟩
      refine ⟨_, rfl, A0, List.replicate 5 true, rfl, SqL.of (by rw [hl, rep_bl]), ?_⟩
      exact q _ e
end My
namespace My
open PySem L2
def spLaw (K : PySem.W.Frag) : Sp := fun vs H Q _ => ∃ (a : Addr) (ns : List Int), vs = [.ref a] ∧ SqL K H a (ns.map V.int) ∧ ns.length ≤ 63 ∧ ∀ H', Q (.bl true) H'
theorem len_law {K : PySem.W.Frag} : ∀ vs H Q E, spLaw K vs H Q E → vs.length = ["script"].length := by
  rintro vs H Q E ⟨a, ns, rfl, _⟩
  rfl
theorem body_law {P : Program} {w : World} {K : PySem.W.Frag} {mg : Str → Option Value} {base : Heap} {CS : Addr} (T : Txt K mg CS) : BodyOk P w K mg base 7 ["script", "state", "plan", "other_plan", "first", "second", "turn", "k"] "law" s_law (spLaw K) := by
  have c_Schema := ok_Schema_init (P := P) (w := w) (base := base) T
  have kw_Schema := kw_Schema_init (P := P) (w := w) (base := base) T
  have c_law_at := ok_law_at (P := P) (w := w) (base := base) T
  have c_law_begin := ok_law_begin (P := P) (w := w) (base := base) T
  have c_law_tables := ok_law_tables (P := P) (w := w) (base := base) T
  have c_law_told := ok_law_told (P := P) (w := w) (base := base) T
  intro f cdv A outer s H vs Q E hr h
  · obtain ⟨a, ns, rfl, hs, hl, q⟩ := h
    refine ⟨_, (pss_cons (ps_set (i := 1) sc_law.nd rfl (by first | exact Or.inl rfl | exact Or.inr rfl) (pe_callC c_law_begin (hr.mono (by decide)) (pa_cons (pe_callC c_law_at (hr.mono (by decide)) (pa_cons (pv 0) (pa_cons pe_int pa_nil))) pa_nil)))
      (pss_cons (ps_set (i := 2) sc_law.nd rfl (by first | exact Or.inl rfl | exact Or.inr rfl) (pe_callC c_law_tables (hr.mono (by decide)) (pa_cons (pv 1) (pa_cons pe_int (pa_cons pe_int pa_nil)))))
      (pss_cons (ps_set (i := 3) sc_law.nd rfl (by first | exact Or.inl rfl | exact Or.inr rfl) (pe_callC c_law_tables (hr.mono (by decide)) (pa_cons (pe_callC c_law_begin (hr.mono (by decide)) (pa_cons (pe_callC c_law_at (hr.mono (by decide)) (pa_cons (pv 0) (pa_cons pe_int pa_nil))) pa_nil)) (pa_cons pe_int (pa_cons pe_int pa_nil)))))
      (pss_cons (ps_set (i := 4) sc_law.nd rfl (by first | exact Or.inl rfl | exact Or.inr rfl) (pe_makeC c_Schema (hr.mono (by decide)) (pa_cons (pv 2) pa_nil)))
      (pss_cons (ps_set (i := 5) sc_law.nd rfl (by first | exact Or.inl rfl | exact Or.inr rfl) (pe_makeKC kw_Schema (hr.mono (by decide)) (pk_cons (pv 3) pk_nil)))
      (pss_cons (ps_set (i := 6) sc_law.nd rfl (by first | exact Or.inl rfl | exact Or.inr rfl) (pe_op op_mod (pe_callTy call_int1 (by rfl) T.n_int (by decide +kernel) (pa_cons (pe_callC c_law_at (hr.mono (by decide)) (pa_cons (pv 0) (pa_cons pe_int pa_nil))) pa_nil)) pe_int))
      (pss_cons (ps_for PassesOwn.never rfl (pi_range1 (by rfl) T.n_range (pa_cons pe_int pa_nil)) (pg_name (i := 7) sc_law.nd rfl (by first | exact Or.inl rfl | exact Or.inr rfl))
      (pss_one (ps_if (PW.pt (pw_or (pt_not (pt_val (pe_callC c_law_told (hr.mono (by decide)) (pa_cons (pv 4) (pa_cons (pv 2) (pa_cons (pe_op op_add (pv 6) (pv 7)) pa_nil)))))) (pw_or1 (pt_not (pt_val (pe_callC c_law_told (hr.mono (by decide)) (pa_cons (pv 5) (pa_cons (pv 3) (pa_cons (pe_op op_add (pv 6) (pe_op op_mul pe_int (pv 7))) pa_nil))))))))) (pss_one (ps_ret pe_bl)) pss_nil)))
      (pss_one (ps_ret pe_bl))))))))), ?_⟩
    refine ⟨_, rfl, a, ns, 0, rfl, hs, fun z0 => ⟨z0, rfl, fun st H1 hst e1 hS1 => ?_⟩⟩
    refine ⟨_, rfl, st, 5, 3, 900000, rfl, by decide, by decide, hS1.mono (by decide), fun vp pl H2 hT2 g2 _ _ hS2 e2 => ?_⟩
    have s2 : Same H H2 := Same.fr1 e1 e2 hst
    refine ⟨_, rfl, a, ns, 1, rfl, s2.seq hs, fun z1 => ⟨z1, rfl, fun st2 H3 hst2 e3 hS3 => ?_⟩⟩
    refine ⟨st2, 5, 3, 900000, rfl, by decide, by decide, hS3.mono (by decide), fun vo po H4 hT4 g4 _ _ hS4 e4 => ?_⟩
    have s4 : Same H2 H4 := Same.fr1 e3 e4 hst2
    have hT2' := hT2.kt_same s4
    refine ⟨_, rfl, fun x dx nx ndx nex => ⟨x, dx, vp, pl, rfl, hT2'.mono (KT.upd ((KT.refl H4).upd ndx) nx), g2, upd_same, fun H5 S5 e5 => ⟨rfl, ?_⟩⟩⟩
    have s5 : Same H4 H5 := Same.made' nx ndx e5
    have hTo5 := hT4.kt_same s5
    refine ⟨_, rfl, rfl, rfl, fun y dy ny ndy ney => ⟨y, dy, vo, po, rfl, hTo5.mono (KT.upd ((KT.refl H5).upd ndy) ny), g4, upd_same, fun H6 S6 e6 => ⟨rfl, ?_⟩⟩⟩
    have s6 : Same H5 H6 := Same.made' ny ndy e6
    have all6 : Same H H6 := ((s2.trans s4).trans s5).trans s6
    refine ⟨_, rfl, a, ns, 2, rfl, all6.seq hs, fun z2 => .inl ⟨_, rfl, _, _, rfl, rfl, (by show (0 : Int) < 5; decide), ?_⟩⟩
    refine ⟨2, rfl, by decide, by decide, for_range (lo := 0) (n := 2) (fun i σ Hi => ∃ o7 : Option V, σ = [some (.ref a), some (.ref st), some vp, some vo, some (.ref x), some (.ref y), some (.int (z2 % 5)), o7] ∧ Same H6 Hi) ?_ ?_ ?_⟩
    · exact ⟨none, rfl, Same.refl H6⟩
    · rintro i σ Hi hi ⟨o7, rfl, e⟩
      have s46 := (s5.trans s6).trans e
      refine ⟨_, rfl, _, rfl, _, rfl, _, rfl, _, _, rfl, rfl, x, vp, pl, _, rfl, (S5.same s6).same e, hT2'.kt_same s46, fun H7 e7 => ⟨true, rfl, iteF ?_⟩⟩
      refine ⟨_, rfl, _, rfl, _, rfl, _, rfl, _, _, rfl, rfl, .inl ⟨by decide, by decide⟩, _, _, rfl, rfl, y, vo, po, _, rfl, (S6.same e).same e7, ((hTo5.kt_same s6).kt_same e).kt_same e7, fun H8 e8 => ⟨true, rfl, iteF ?_⟩⟩
      exact ⟨_, rfl, (e.trans e7).trans e8⟩
    · rintro σ Hi ⟨o7, rfl, e⟩
      exact q _
end My
namespace My
open PySem L2
theorem fin {l : PySem.W.OpenLaw} {w : World} {K : PySem.W.Frag} {mg : Str → Option Value} {fa : Addr} {CS : Addr} (T : Txt K mg CS) (hfa : mg "law" = some (.ref fa)) :
    ∃ fd : FuncData, (∀ (s : Shared) (v : Value), BindsTo s fd ⟨[v], []⟩ [("script", v)]) ∧ ∀ base : Heap, K.In base → base.Ns mainGlobals mg → FnOk l.prog w K mg base CX0 8 fa fd ["script"] (spLaw K) := by
  obtain ⟨f, fd, F, hm, hb⟩ := T.d_law.ex
  obtain rfl : fa = f := Value.ref.inj (Option.some.inj (hfa.symm.trans hm))
  refine ⟨fd, fun s v => ?_, fun base _ _ => F.ok sc_law len_law fun cdv A outer s H vs Q E hr h => body_law T fa cdv A outer s H vs Q E hr h⟩
  obtain ⟨oc, od, kV, doc, pm, an, cdv, ct, osl, rfl, _⟩ := F.ex
  exact .of_eq rfl
theorem walk {l : PySem.W.OpenLaw} {q : Program} {loose : List Str} {XP : (Str → Option Value) → Heap → Prop} {YP : World → Heap → Prop} {d : DefRec} {K : Params → PySem.W.Frag} (hn : l.most = some 63) (hdf : d.params.defaults = [])
    (hY : ∀ (w : World) (h : Heap), YP w h → (K w.params).In h)
    (F : ∀ (w : World) (mg : Str → Option Value) (fa : Addr) (h : Heap), (K w.params).In h → h.Ns mainGlobals mg → mg d.name = some (.ref fa) →
      ∃ fd : FuncData, (∀ (s : Shared) (u : Value), BindsTo s fd ⟨[u], []⟩ [("script", u)]) ∧ ∀ base : Heap, (K w.params).In base → base.Ns mainGlobals mg → FnOk l.prog w (K w.params) mg base CX0 8 fa fd ["script"] (spLaw (K w.params))) :
    PySem.W.WalkO q loose XP YP l.row.toRowW d [] (fun f vs => PySem.call f vs) :=
  L2.walk_of (n := 63) (k := 8) (x := "script") (CX := fun _ => CX0) (sp := fun w => spLaw (K w.params)) hn (by decide) hdf ⟨rfl, by decide, by decide⟩ hY F (fun _ _ a ns hl _ hS => ⟨a, ns, rfl, hS, hl, fun _ => rfl⟩) fun _ _ _ _ _ z => z
end My
open PySem PySem.W PyProof.Rows
set_option maxRecDepth 100000 in
set_option maxHeartbeats 0 in
theorem PySem.Challenge.cw_carrykeys_k01_schemas_told_holds : PySem.Challenge.rw_carrykeys_k01_schemas_told.Holds := by
  w_on; o_law; k_head; (case hw => w_witness2)
  k_fill
  refine My.walk (l := PySem.Challenge.rw_carrykeys_k01_schemas_told) rfl rfl (fun w h Y => PySem.W.kIn_of Y) ?F
  case F =>
    intro w mg fa h KX G hmg
    refine' My.fin (My.Txt.mk (My.classAt KX G ?h1 ?h2 ?h3 ?h4 ?h5 ?h6 ?h7)
      (My.noAttr ?h8)
      (My.noAttr ?h9)
      (My.defAt KX G (fun _ _ _ _ _ _ us hl => match us, hl with | [_, _], _ => rfl) ?h10 ?h11 ?h12 ?h13)
      (My.defAt KX G (fun _ _ _ _ _ _ us hl => match us, hl with | [_], _ => rfl) ?h14 ?h15 ?h16 ?h17)
      (My.defAt KX G (fun _ _ _ _ _ _ us hl => match us, hl with | [_, _], _ => rfl) ?h18 ?h19 ?h20 ?h21)
      (My.defAt KX G (fun _ _ _ _ _ _ us hl => match us, hl with | [_], _ => rfl) ?h22 ?h23 ?h24 ?h25)
      (My.defAt KX G (fun _ _ _ _ _ _ us hl => match us, hl with | [_, _], _ => rfl) ?h26 ?h27 ?h28 ?h29)
      (My.defAt KX G (fun _ _ _ _ _ _ us hl => match us, hl with | [_, _, _], _ => rfl) ?h30 ?h31 ?h32 ?h33)
      (My.defAt KX G (fun _ _ _ _ _ _ us hl => match us, hl with | [_], _ => rfl) ?h34 ?h35 ?h36 ?h37)
      (My.defAt KX G (fun _ _ _ _ _ _ us hl => match us, hl with | [_, _], _ => rfl) ?h38 ?h39 ?h40 ?h41)
      (My.defAt KX G (fun _ _ _ _ _ _ us hl => match us, hl with | [_], _ => rfl) ?h42 ?h43 ?h44 ?h45)
      (My.defAt KX G (fun _ _ _ _ _ _ us hl => match us, hl with | [_], _ => rfl) ?h46 ?h47 ?h48 ?h49)
      (My.defAt KX G (fun _ _ _ _ _ _ us hl => match us, hl with | [_], _ => rfl) ?h50 ?h51 ?h52 ?h53)
      (My.defAt KX G (fun _ _ _ _ _ _ us hl => match us, hl with | [_], _ => rfl) ?h54 ?h55 ?h56 ?h57)
      (My.defAt KX G (fun _ _ _ _ _ _ us hl => match us, hl with | [_], _ => rfl) ?h58 ?h59 ?h60 ?h61)
      (My.defAt KX G (fun _ _ _ _ _ _ us hl => match us, hl with | [_], _ => rfl) ?h62 ?h63 ?h64 ?h65)
      (My.defAt KX G (fun _ _ _ _ _ _ us hl => match us, hl with | [_], _ => rfl) ?h66 ?h67 ?h68 ?h69)
      (My.methAt (fun _ _ _ _ _ _ us hl => match us, hl with | [_, _], _ => rfl) ?h70 ?h71 ?h72 ?h73 ?h74)
      (My.methAt (fun _ _ _ _ _ _ us hl => match us, hl with | [_], _ => rfl) ?h75 ?h76 ?h77 ?h78 ?h79)
      (My.methAt (fun _ _ _ _ _ _ us hl => match us, hl with | [_, _], _ => rfl) ?h80 ?h81 ?h82 ?h83 ?h84)
      (My.methAt (fun _ _ _ _ _ _ us hl => match us, hl with | [_, _], _ => rfl) ?h85 ?h86 ?h87 ?h88 ?h89)
      (My.methAt (fun _ _ _ _ _ _ us hl => match us, hl with | [_, _], _ => rfl) ?h90 ?h91 ?h92 ?h93 ?h94)
      (My.methAt (fun _ _ _ _ _ _ us hl => match us, hl with | [_, _, _], _ => rfl) ?h95 ?h96 ?h97 ?h98 ?h99)
      (My.methAt (fun _ _ _ _ _ _ us hl => match us, hl with | [_], _ => rfl) ?h100 ?h101 ?h102 ?h103 ?h104)
      (My.defAt KX G (fun _ _ _ _ _ _ us hl => match us, hl with | [_, _], _ => rfl) ?h105 ?h106 ?h107 ?h108)
      (My.defAt KX G (fun _ _ _ _ _ _ us hl => match us, hl with | [_, _], _ => rfl) ?h109 ?h110 ?h111 ?h112)
      (My.defAt KX G (fun _ _ _ _ _ _ us hl => match us, hl with | [_, _], _ => rfl) ?h113 ?h114 ?h115 ?h116)
      (My.defAt KX G (fun _ _ _ _ _ _ us hl => match us, hl with | [_, _], _ => rfl) ?h117 ?h118 ?h119 ?h120)
      (My.defAt KX G (fun _ _ _ _ _ _ us hl => match us, hl with | [_, _], _ => rfl) ?h121 ?h122 ?h123 ?h124)
      (My.defAt KX G (fun _ _ _ _ _ _ us hl => match us, hl with | [_, _, _], _ => rfl) ?h125 ?h126 ?h127 ?h128)
      (My.defAt KX G (fun _ _ _ _ _ _ us hl => match us, hl with | [_], _ => rfl) ?h129 ?h130 ?h131 ?h132)
      (My.constAt KX G ?h133 ?rLETTERS)
      (My.constAt KX G ?h134 ?rLONGEST_NAME)
      (My.constAt KX G ?h135 ?rMOST_TABLES)
      (My.constAt KX G ?h136 ?rMOST_REFERENCES)
      (PySem.W.mg_none_of KX G ?h137)
      (PySem.W.mg_none_of KX G ?h138)
      (PySem.W.mg_none_of KX G ?h139)
      (PySem.W.mg_none_of KX G ?h140)
      (PySem.W.mg_none_of KX G ?h141)
      (PySem.W.mg_none_of KX G ?h142)
      (PySem.W.mg_none_of KX G ?h143)
      (PySem.W.mg_none_of KX G ?h144)
      (PySem.W.mg_none_of KX G ?h145)
      (PySem.W.mg_none_of KX G ?h146)) hmg
    (case h1 => k_is)
    (case h2 => k_is)
    (case h3 => k_is)
    (case h4 => k_is)
    (case h5 => k_is)
    (case h6 => k_is)
    (case h7 => k_is)
    (case h8 => k_is)
    (case h9 => k_is)
    (case h10 => k_is)
    (case h11 => k_is)
    (case h12 => k_is)
    (case h13 => k_is)
    (case h14 => k_is)
    (case h15 => k_is)
    (case h16 => k_is)
    (case h17 => k_is)
    (case h18 => k_is)
    (case h19 => k_is)
    (case h20 => k_is)
    (case h21 => k_is)
    (case h22 => k_is)
    (case h23 => k_is)
    (case h24 => k_is)
    (case h25 => k_is)
    (case h26 => k_is)
    (case h27 => k_is)
    (case h28 => k_is)
    (case h29 => k_is)
    (case h30 => k_is)
    (case h31 => k_is)
    (case h32 => k_is)
    (case h33 => k_is)
    (case h34 => k_is)
    (case h35 => k_is)
    (case h36 => k_is)
    (case h37 => k_is)
    (case h38 => k_is)
    (case h39 => k_is)
    (case h40 => k_is)
    (case h41 => k_is)
    (case h42 => k_is)
    (case h43 => k_is)
    (case h44 => k_is)
    (case h45 => k_is)
    (case h46 => k_is)
    (case h47 => k_is)
    (case h48 => k_is)
    (case h49 => k_is)
    (case h50 => k_is)
    (case h51 => k_is)
    (case h52 => k_is)
    (case h53 => k_is)
    (case h54 => k_is)
    (case h55 => k_is)
    (case h56 => k_is)
    (case h57 => k_is)
    (case h58 => k_is)
    (case h59 => k_is)
    (case h60 => k_is)
    (case h61 => k_is)
    (case h62 => k_is)
    (case h63 => k_is)
    (case h64 => k_is)
    (case h65 => k_is)
    (case h66 => k_is)
    (case h67 => k_is)
    (case h68 => k_is)
    (case h69 => k_is)
    (case h70 => k_is)
    (case h71 => k_is)
    (case h72 => k_is)
    (case h73 => k_is)
    (case h74 => k_is)
    (case h75 => k_is)
    (case h76 => k_is)
    (case h77 => k_is)
    (case h78 => k_is)
    (case h79 => k_is)
    (case h80 => k_is)
    (case h81 => k_is)
    (case h82 => k_is)
    (case h83 => k_is)
    (case h84 => k_is)
    (case h85 => k_is)
    (case h86 => k_is)
    (case h87 => k_is)
    (case h88 => k_is)
    (case h89 => k_is)
    (case h90 => k_is)
    (case h91 => k_is)
    (case h92 => k_is)
    (case h93 => k_is)
    (case h94 => k_is)
    (case h95 => k_is)
    (case h96 => k_is)
    (case h97 => k_is)
    (case h98 => k_is)
    (case h99 => k_is)
    (case h100 => k_is)
    (case h101 => k_is)
    (case h102 => k_is)
    (case h103 => k_is)
    (case h104 => k_is)
    (case h105 => k_is)
    (case h106 => k_is)
    (case h107 => k_is)
    (case h108 => k_is)
    (case h109 => k_is)
    (case h110 => k_is)
    (case h111 => k_is)
    (case h112 => k_is)
    (case h113 => k_is)
    (case h114 => k_is)
    (case h115 => k_is)
    (case h116 => k_is)
    (case h117 => k_is)
    (case h118 => k_is)
    (case h119 => k_is)
    (case h120 => k_is)
    (case h121 => k_is)
    (case h122 => k_is)
    (case h123 => k_is)
    (case h124 => k_is)
    (case h125 => k_is)
    (case h126 => k_is)
    (case h127 => k_is)
    (case h128 => k_is)
    (case h129 => k_is)
    (case h130 => k_is)
    (case h131 => k_is)
    (case h132 => k_is)
    (case h133 => k_is)
    (case rLETTERS => exact ⟨_, rfl⟩)
    (case h134 => k_is)
    (case rLONGEST_NAME => exact ⟨_, rfl⟩)
    (case h135 => k_is)
    (case rMOST_TABLES => exact ⟨_, rfl⟩)
    (case h136 => k_is)
    (case rMOST_REFERENCES => exact ⟨_, rfl⟩)
    (case h137 => k_is)
    (case h138 => k_is)
    (case h139 => k_is)
    (case h140 => k_is)
    (case h141 => k_is)
    (case h142 => k_is)
    (case h143 => k_is)
    (case h144 => k_is)
    (case h145 => k_is)
    (case h146 => k_is)
