import PyProof.Rows.All
import Wide.All
import OpenK.AllK
import Wide.FinOn
import HandS.ForMost
import HandS.Strs
import HandS.DictComp
import HandS.IsInst
import HandS.Style
import HandS.Wide
import HandS.MakeKw
import HandS.MakeKwOnly
import HandS.Evl
import KE.KOpsOwn
import HandS.More
import HandS.ExcInit
import HandS.ExcOwn
import HandS.ExcField
import HandS.ClsMeth
import HandS.TryMany
import HandS.WordsExc
import HandS.ExcIs
import PySem.Challenge.RW_carrykeys_k06_labels_taken
set_option Elab.async false
set_option linter.all false
set_option maxRecDepth 100000
set_option maxHeartbeats 4000000

namespace My
open PySem PySem.Spec PyProof.Rows

def addOnce (l : List Str) (x : Str) : List Str := if l.any (· == x) then l else l ++ [x]
def onces (xs : List Str) : List Str := xs.foldl addOnce []
theorem onces_snoc (xs : List Str) (x : Str) : onces (xs ++ [x]) = addOnce (onces xs) x := by
  unfold onces
  rw [List.foldl_append]
  rfl
theorem addOnce_any (l : List Str) (x k : Str) : (addOnce l x).any (· == k) = (l.any (· == k) || decide (k = x)) := by
  unfold addOnce
  by_cases h : l.any (· == x) = true
  · rw [if_pos h]
    by_cases e : k = x
    · rw [e, h]; simp
    · simp [e]
  · rw [if_neg h, List.any_append]
    by_cases e : k = x
    · rw [e]; simp
    · have hb : (x == k) = false := by
        rw [beq_eq_false_iff_ne]
        exact fun q => e q.symm
      simp [hb, e]
theorem addOnce_len (l : List Str) (x : Str) : (addOnce l x).length = if l.any (· == x) then l.length else l.length + 1 := by
  unfold addOnce; split <;> simp
theorem onces_take (xs : List Str) (i : Nat) (h : i < xs.length) : onces (xs.take (i + 1)) = addOnce (onces (xs.take i)) xs[i] := by
  rw [List.take_succ_eq_append_getElem h, onces_snoc]
theorem onces_le (xs : List Str) : ∀ n, (onces (xs.take n)).length ≤ n
  | 0 => by simp [onces]
  | n + 1 => by
    by_cases h : n < xs.length
    · rw [onces_take xs n h, addOnce_len]
      have := onces_le xs n
      split <;> omega
    · rw [List.take_of_length_le (by omega)]
      have := onces_le xs n
      rw [List.take_of_length_le (by omega)] at this
      omega
theorem onces_nodup : ∀ (xs : List Str), xs.Nodup → onces xs = xs := by
  intro xs h
  have : ∀ n, n ≤ xs.length → onces (xs.take n) = xs.take n := by
    intro n
    induction n with
    | zero => intro _; simp [onces]
    | succ n ih =>
      intro hn
      have hlt : n < xs.length := by omega
      rw [onces_take xs n hlt, ih (by omega), List.take_succ_eq_append_getElem hlt]
      unfold addOnce
      rw [if_neg]
      intro q
      obtain ⟨y, hy, ey⟩ := List.any_eq_true.mp q
      have ey : y = xs[n] := beq_iff_eq.mp ey
      subst ey
      obtain ⟨j, hj, ej⟩ := List.getElem_of_mem hy
      rw [List.getElem_take] at ej
      have hjn : j < n := by
        rw [List.length_take] at hj; omega
      have := (List.getElem_inj h).mp ej
      omega
  have := this xs.length (Nat.le_refl _)
  rwa [List.take_length] at this
theorem onces_lt : ∀ (xs : List Str), ¬ xs.Nodup → (onces xs).length < xs.length := by
  intro xs
  have key : ∀ n, n ≤ xs.length → ((onces (xs.take n)).length = n → (xs.take n).Nodup ∧ onces (xs.take n) = xs.take n) := by
    intro n
    induction n with
    | zero => intro _ _; simp [onces]
    | succ n ih =>
      intro hn he
      have hlt : n < xs.length := by omega
      rw [onces_take xs n hlt, addOnce_len] at he
      have hle := onces_le xs n
      by_cases ha : (onces (xs.take n)).any (· == xs[n]) = true
      · rw [if_pos ha] at he; omega
      · rw [if_neg ha] at he
        obtain ⟨h1, h2⟩ := ih (by omega) (by omega)
        rw [onces_take xs n hlt, List.take_succ_eq_append_getElem hlt]
        unfold addOnce
        rw [if_neg ha, h2]
        refine ⟨L2.nd_snoc h1 fun m => ha ?_, rfl⟩
        rw [h2]
        exact List.any_eq_true.mpr ⟨_, m, beq_self_eq_true _⟩
  intro h
  have h1 := onces_le xs xs.length
  rw [List.take_length] at h1
  by_cases e : (onces xs).length = xs.length
  · have := (key xs.length (Nat.le_refl _) (by rw [List.take_length]; exact e)).1
    rw [List.take_length] at this
    exact absurd this h
  · omega

section
variable {prog : Program} {w : World} {A : Around} {R : Result → Shared → Prop} {It : Addr} {fp wr : List Addr} {G : Array GenState → Array GenState → Prop} {n : Nat} {Pv : Nat → Value → Prop} {Stn : Nat → Shared → Prop}
theorem fills (W : WalksS prog w A.in1 It fp wr G n Pv Stn) (D : Addr) (hD : D ∉ fp) (xs : List Str) (hl : xs.length = n) (hb : n + 1 < scanBound)
    (hv : ∀ i v, Pv i v → ∃ t, v = .str (xs.getD i Str.empty) t) :
    ∀ (k i : Nat) (s0 : Shared), n - i = k → i ≤ n → Stn i s0 →
      s0.heap.SetOf (PySem.strKind prog w) D (fun y => (onces (xs.take i)).any (· == y)) (onces (xs.take i)).length →
      (∀ s9, Moved (D :: wr) G s0 s9 → s9.heap.SetOf (PySem.strKind prog w) D (fun y => (onces xs).any (· == y)) (onces xs).length → R (.ok (.ret .none)) s9) →
      codeAny (model prog w) A (.builtin "set.update.loop" ⟨[.ref D, .ref It], []⟩) R s0 := by
  have hDw : D ∉ wr := fun q => hD (W.sub _ q)
  have hin : ∀ b ∈ wr, b ∈ D :: wr := fun b q => List.mem_cons_of_mem _ q
  intro k
  induction k with
  | zero =>
    intro i s0 hk hi hst hS hR
    obtain rfl : i = n := by omega
    refine codeAny_builtin (R := R) PyProof.Rows.F.entry_set_update_loop ?_
    rw [Around.under_plainId (PyProof.Rows.F.plain_set_update_loop) _]
    show wpAny _ A.in1 (pyNext (.ref It) >>= _) _ _ s0
    refine wpAny_bind (W.done s0 _ _ hst fun s9 hm => ?_)
    show wpAny _ A.in1 (ret Value.none) _ _ s9
    refine wpAny_pure (hR s9 (hm.mono hin) ?_)
    obtain ⟨o, es, ep, t, ho, more⟩ := hS
    rw [List.take_of_length_le (by omega)] at more
    exact ⟨o, es, ep, t, hm.heap D _ hDw ho, more⟩
  | succ k ih =>
    intro i s0 hk hi hst hS hR
    have hlt : i < n := by omega
    have hx : i < xs.length := by omega
    refine codeAny_builtin (R := R) PyProof.Rows.F.entry_set_update_loop ?_
    rw [Around.under_plainId (PyProof.Rows.F.plain_set_update_loop) _]
    show wpAny _ A.in1 (pyNext (.ref It) >>= _) _ _ s0
    refine wpAny_bind (W.item i s0 _ _ hlt hst fun v s9 hP hst9 hm => ?_)
    obtain ⟨t, rfl⟩ := hv i v hP
    have ex : xs.getD i Str.empty = xs[i] := by
      rw [List.getD_eq_getElem?_getD, List.getElem?_eq_getElem hx]
      rfl
    rw [ex]
    have hS9 : s9.heap.SetOf (PySem.strKind prog w) D (fun y => (onces (xs.take i)).any (· == y)) (onces (xs.take i)).length := by
      obtain ⟨o, es, ep, tb, ho, more⟩ := hS
      exact ⟨o, es, ep, tb, hm.heap D _ hDw ho, more⟩
    show wpAny _ A.in1 (holding [Value.str (xs[i]) t] (setAdd D (.str (xs[i]) t)) >>= _) _ _ s9
    refine wpAny_bind (wpAny_holding ?_)
    unfold setAdd
    refine wpAny_holding ?_
    refine wpAny_bind ((PySem.strKind prog w).pyHash (k := xs[i]) (strKind_is _ _ _ _) ?_)
    have room : (onces (xs.take i)).length + 1 < scanBound := by
      have := onces_le xs i
      omega
    refine wpAny_setAddHashed_of (knd := PySem.strKind prog w) (s := { s9 with toks := s9.toks + 1 }) (strKind_is _ _ _ _) rfl hS9 room fun h9 sb hS2 => ?_
    have hSn : h9.SetOf (PySem.strKind prog w) D (fun y => (onces (xs.take (i + 1))).any (· == y)) (onces (xs.take (i + 1))).length :=
      SetOf_congr hS2 (fun y => by rw [onces_take xs i hx, addOnce_any]) (by rw [onces_take xs i hx, addOnce_len])
    refine wpAny_pure ⟨plainId_quiet (PyProof.Rows.F.plain_set_update_loop) _, ih (i + 1) _ (by omega) hlt (W.frame _ s9 _ _ hst9 (Nat.le_succ _) fun b q o e => ?_) hSn fun z hmz hSz => ?_⟩
    · rw [sb.2 b (fun r : b = D => hD (by rw [← r]; exact q))]
      exact e
    · refine hR z (Moved.trans W.gtrans ((hm.mono hin).then_heap (Nat.le_succ _) fun b o q e => ?_) hmz) hSz
      rw [sb.2 b (fun r : b = D => q (by rw [r]; exact List.mem_cons_self))]
      exact e
end
section
variable {prog : Program} {w : World} {A : Around} {E : Value → Shared → Prop} {s : Shared}
abbrev emptySet (led : Bool) : Obj := { cls := .type "set", dict := none, data := .set #[] 0 (.fresh 0 0 led) }
theorem made_set {l : Addr} {its : Array Value} {xs : List Str} {Q : Value → Shared → Prop}
    (calm : A.handled = none) (hl : s.heap.IsList l its) (hi : StrsAre its.toList xs) (hb : its.size + 1 < scanBound) (hn : xs.length = its.size)
    (h : ∀ (h9 : Heap) (tk : Nat), h9.SetOf (PySem.strKind prog w) s.heap.objs.size (fun y => (onces xs).any (· == y)) (onces xs).length →
      (∀ b o, b < s.heap.objs.size → s.heap.get? b = some o → h9.get? b = some o) → Q (.ref s.heap.objs.size) { s with heap := h9, toks := tk }) :
    wpAny (model prog w) A (call (.type "set") [.ref l]) Q E s := by
  obtain ⟨c, tl, hmro⟩ := (PySem.F.called_set).mro
  have made := (PySem.F.called_set).made
  have sub := (PySem.F.called_set).sub
  refine wpAny_call (codeAny_of_tree ?_)
  show wpAny _ _ (callAny (.type "set") _) _ _ _
  refine wpAny_pure ⟨Code.quiet_builtin _ (by decide +kernel), (codeAny_builtin PySem.F.entry_type_call ?_)⟩
  rw [Around.under_plain (weight_type_call_type "set" [.ref l] []) (by rfl)]
  have n1 := (PySem.F.called_set).notType
  have n2 := (PySem.F.called_set).canCreate
  have n3 := PySem.F.typeCall_set_1 (.ref l)
  repeat (any_goals (first | assumption | wp_step))
  refine codeAny_mono (code_set_new_1 (.ref l) (E := E) (Q₁ := fun ob s1 => ∃ led : Bool, ob = .ref s.heap.objs.size ∧ s1 = { s with heap := s.heap.push (emptySet led) }) fun led => ⟨led, rfl, rfl⟩) fun r s1 hr => ?_
  cases r with
  | error e => exact hr
  | ok fl =>
    cases fl with
    | ret ob =>
      obtain ⟨led, rfl, rfl⟩ := hr
      have hS : (s.heap.push (emptySet led)).get? s.heap.objs.size = some (emptySet led) := Heap.get?_push_size _ rfl
      have hT : Shared.TypeIs { s with heap := s.heap.push (emptySet led) } (.ref s.heap.objs.size) "set" := ⟨_, hS, rfl⟩
      have q1 := (PySem.F.called_set).init.lookup
      have q2 := (PySem.F.called_set).init.bind (.ref s.heap.objs.size)
      repeat (any_goals (first | assumption | wp_step))
      refine codeAny_mono (codeAny_call_builtin (R := wants (fun r s2 => r = .none ∧ ∃ h9 tk, s2 = { s with heap := h9, toks := tk } ∧
          h9.SetOf (PySem.strKind prog w) s.heap.objs.size (fun y => (onces xs).any (· == y)) (onces xs).length ∧
          (∀ b o, b < s.heap.objs.size → s.heap.get? b = some o → h9.get? b = some o)) E) (PySem.F.called_set).init.plain (PySem.F.entry_set_init) (check_set_init_1 hT ?_)) fun r2 s2 hr2 => ?_
      · obtain ⟨ol, hol, hcl, nl, hdl⟩ := hl
        obtain ⟨ocls, odict, odata, oslots⟩ := ol
        simp only at hcl hdl
        subst hcl
        subst hdl
        have hol2 : (s.heap.push (emptySet led)).get? l = some { cls := .type "list", dict := odict, data := .seq its nl, slots := oslots } := Heap.get?_push_of_some _ hol
        have u1 := PySem.F.sub_list_set
        have u2 := PySem.F.sub_list_frozenset
        have u3 : (Value.type "list" == Value.type "dict") = false := by decide
        have hl1 : (s.heap.push (emptySet led)).IsList l its := ⟨_, hol2, rfl, nl, rfl⟩
        unfold Builtin.«set.__init__» noKeywords Builtin.Frozenset.updateFrom
        generalize hPI : pyIter = PI
        wp_walk
        subst hPI
        refine wpAny_pyIter_list hl1 ?_
        refine wpAny_bind (wpAny_runValue ?_)
        have hlt : l < s.heap.objs.size := Heap.lt_size hol
        have calm3 : A.in1.in1.in1.handled = none := by simp [calm]
        have ne1 : l ≠ (s.heap.push (emptySet led)).objs.size := by
          rw [Heap.size_push]
          exact Nat.ne_of_lt (Nat.lt_succ_of_lt hlt)
        have ne2 : s.heap.objs.size ∉ [(s.heap.push (emptySet led)).objs.size, l] := by
          rw [Heap.size_push]
          simp only [List.mem_cons, List.mem_singleton, List.not_mem_nil, or_false, not_or]
          exact ⟨Nat.ne_of_lt (Nat.lt_succ_self _), Nat.ne_of_gt hlt⟩
        have hv : ∀ (i : Nat) (v : Value), its[i]? = some v → ∃ t, v = .str (xs.getD i Str.empty) t := fun i v e => SS.strs_at hi i v (by rw [Array.getElem?_toList]; exact e)
        refine fills ((Walks.list calm3 _ l ne1 its).toS) s.heap.objs.size ne2 xs hn hb hv (its.size - 0) 0 _ (by omega) (Nat.zero_le _)
          ⟨⟨_, Heap.get?_push_size _ rfl, rfl, rfl⟩, (hl1.push _)⟩ ?h0 ?h1
        case h0 =>
          have hg : ((s.heap.push (emptySet led)).push { cls := .type "list_iterator", data := .fields #[.ref l, .int 0 0] }).get? s.heap.objs.size = some (emptySet led) := Heap.get?_push_of_some _ hS
          exact SetOf_congr ((setObjOf_fresh (knd := PySem.strKind prog w) led).setOf hg (by unfold scanBound; omega)) (fun _ => rfl) rfl
        case h1 =>
          intro z hm hSz
          obtain ⟨h9, g9, d9, tk9, os9⟩ := z
          obtain rfl : g9 = s.gens := hm.gens
          obtain rfl : d9 = s.drawn := hm.drawn
          obtain rfl : os9 = s.os := hm.os
          show wpAny _ _ _ _ _ _
          refine wpAny_pure ?_
          show wpAny _ _ (ret Value.none) _ _ _
          refine wpAny_pure ⟨rfl, h9, tk9, rfl, hSz, fun b o hb e => ?_⟩
          have m1 : b ≠ s.heap.objs.size := Nat.ne_of_lt hb
          have m2 : b ≠ (s.heap.push (emptySet led)).objs.size := by
            rw [Heap.size_push]
            exact Nat.ne_of_lt (Nat.lt_succ_of_lt hb)
          exact hm.heap b o (by simp only [List.mem_cons, List.mem_singleton, List.not_mem_nil, or_false, not_or]; exact ⟨m1, m2⟩) (Heap.get?_push_of_some _ (Heap.get?_push_of_some _ e))
      · cases r2 with
        | error e => exact hr2
        | ok fl2 =>
          cases fl2 with
          | ret r =>
            obtain ⟨rfl, h9, tk, rfl, hSz, hkz⟩ := hr2
            repeat (any_goals (first | assumption | wp_step))
            exact h _ _ hSz hkz
          | _ => exact hr2.elim
    | _ => exact hr.elim
end
section
open L2
def tLenSetS (K : PySem.W.Frag) (ta : TE) : TE := fun σ H Q => ta σ H fun x H1 => ∃ (l : Addr) (xs : List Str), x = .ref l ∧ SqL K H1 l (xs.map V.str) ∧ xs.length ≤ 1000 ∧ Q (.int ((onces xs).length : Nat)) H1
theorem pe_lenSetS {X : Cx} {a : Expr} {ta : TE} {p p2 q pos : Pos} (hm : X.mg "len" = none) (hm2 : X.mg "set" = none) (ha : PE X a ta) (hg : Gl X "len" := by rfl) (hg2 : Gl X "set" := by rfl) (hc : X.calm = true := by rfl)
    (na : starEach [a] X.env = (false, eval a X.env) :: starEach [] X.env := by rfl) : PE X (.Call (.Name "len" p) [.Call (.Name "set" p2) [a] [] q] [] pos) (tLenSetS X.K ta) := by
  refine ⟨fun pins s σ H Q I h => Call_ (ld_blt I hg hm boot_len ?_)⟩
  refine callWith_builtin1 (args_cons (Call_ (ld_blt I hg2 hm2 boot_set ?_)) rfl) rfl rfl
  refine callWith_type1 (args_cons (thn (ha.run pins s σ H _ I h) fun v s1 ⟨x, H1, I1, r1, q1⟩ => args_nil ?_) na) na rfl
  obtain ⟨l, xs, rfl, hq, hz, q1⟩ := q1
  cases r1
  obtain ⟨its, r, pl, _⟩ := I1.list hq
  have hlen : its.toArray.size = xs.length := by rw [List.size_toArray, ← r.length, List.length_map]
  refine made_set (I1.ok.hd hc) pl.isList (by simpa using strsAre_of r) (by rw [hlen]; unfold scanBound; omega) hlen.symm fun h9 tk hS hk => args_nil ?_
  obtain ⟨o, es, ep, t, ho, hex, hd, _, _, _, hf, hn⟩ := hS
  have I2 : Inv X pins σ H1 { s1 with heap := h9, toks := tk } := I1.kept fun b o e => hk b o (Heap.lt_size e) e
  have hle := onces_le xs xs.length
  rw [List.take_length] at hle
  exact call_len_set ho hex hd hf (by rw [hn]; omega) ⟨.int ((onces xs).length : Nat), H1, I2.tok _, ⟨_, by rw [hn]⟩, q1⟩
end
end My
namespace My
open PySem PySem.Spec PyProof.Rows L2

structure DefAt (K : PySem.W.Frag) (mg : Str → Option Value) (x : Str) (st : Stmt) (ps : List Str) : Prop where
  ex : ∃ f fd, Fun K x x st f fd ∧ mg x = some (.ref f) ∧ Binds K fd ps []
structure MethAt (K : PySem.W.Frag) (C : Addr) (m q : Str) (st : Stmt) (ps : List Str) : Prop where
  ex : ∃ f fd, Fun K m q st f fd ∧ Meth K C m f ∧ Binds K fd ps []
structure ClassAt (K : PySem.W.Frag) (mg : Str → Option Value) (C : Addr) (x : Str) : Prop where
  mg : mg x = some (.ref C)
  cl : Cls K C
  makes : PySem.W.makesIn K C = true
  kp : PySem.W.keepIn K (.ref C) = true
structure CallOk (P : Program) (w : World) (K : PySem.W.Frag) (mg : Str → Option Value) (base : Heap) (k : Nat) (x : Str) (sp : Sp) : Prop where
  ex : ∃ f fd ps, FnOk P w K mg base CX0 k f fd ps sp ∧ mg x = some (.ref f) ∧ PySem.W.keepIn K (.ref f) = true ∧ Binds K fd ps []
structure MethOk (P : Program) (w : World) (K : PySem.W.Frag) (mg : Str → Option Value) (base : Heap) (k : Nat) (C : Addr) (m : Str) (sp : Sp) : Prop where
  ex : ∃ f fd ps, FnOk P w K mg base CX0 k f fd ps sp ∧ Meth K C m f ∧ Binds K fd ps [] ∧ Cls K C
structure MakeOk (P : Program) (w : World) (K : PySem.W.Frag) (mg : Str → Option Value) (base : Heap) (k : Nat) (C : Addr) (x : Str) (sp : Sp) : Prop where
  ex : ∃ f fd ps, FnOk P w K mg base CX0 k f fd ps sp ∧ Mk K C f ∧ Binds K fd ps [] ∧ mg x = some (.ref C)
section
variable {P : Program} {w : World} {K : PySem.W.Frag} {mg : Str → Option Value} {base : Heap} {k : Nat} {x m q : Str} {C : Addr} {sp : Sp} {N ps : List Str} {st : Stmt}
def BodyOk (P : Program) (w : World) (K : PySem.W.Frag) (mg : Str → Option Value) (base : Heap) (k : Nat) (N : List Str) (q : Str) (st : Stmt) (sp : Sp) : Prop :=
  ∀ (f : Addr) (cdv : Value) (A : Around) (outer : List Env) (s : Shared) (H : Hp) (vs : List V) (Q : VK) (E : XK), Room k (A.deeper (envOfC q (defScope st) s.heap.objs.size f cdv)) → sp vs H Q E →
    ∃ t, PSs (cxOf CX0 P w K mg base N q (defScope st) f cdv A outer s H E).nox (defBody st) t ∧ t { nx := fun _ H' => Q .non H', rt := Q } (start N vs) H
theorem DefAt.ok (D : DefAt K mg x st ps) (S : FnScope N ps (defScope st)) (len : ∀ vs H Q E, sp vs H Q E → vs.length = ps.length) (b : BodyOk P w K mg base k N x st sp) : CallOk P w K mg base (k + 1) x sp := by
  obtain ⟨f, fd, F, hm, hb⟩ := D.ex
  exact ⟨f, fd, ps, F.ok S len (fun cdv A outer s H vs Q E hr h => b f cdv A outer s H vs Q E hr h), hm, F.kp, hb⟩
theorem MethAt.ok (D : MethAt K C m q st ps) (c : Cls K C) (S : FnScope N ps (defScope st)) (len : ∀ vs H Q E, sp vs H Q E → vs.length = ps.length) (b : BodyOk P w K mg base k N q st sp) : MethOk P w K mg base (k + 1) C m sp := by
  obtain ⟨f, fd, F, hm, hb⟩ := D.ex
  exact ⟨f, fd, ps, F.ok S len (fun cdv A outer s H vs Q E hr h => b f cdv A outer s H vs Q E hr h), hm, hb, c⟩
theorem MethAt.make (D : MethAt K C "__init__" q st ps) (c : ClassAt K mg C x) (S : FnScope N ps (defScope st)) (len : ∀ vs H Q E, sp vs H Q E → vs.length = ps.length) (b : BodyOk P w K mg base k N q st sp) : MakeOk P w K mg base (k + 1) C x sp := by
  obtain ⟨f, fd, F, hm, hb⟩ := D.ex
  exact ⟨f, fd, ps, F.ok S len (fun cdv A outer s H vs Q E hr h => b f cdv A outer s H vs Q E hr h), ⟨c.makes, hm.at_, hm.fn, c.kp⟩, hb, c.mg⟩
end
structure MakeKOk (P : Program) (w : World) (K : PySem.W.Frag) (mg : Str → Option Value) (base : Heap) (k : Nat) (C : Addr) (x : Str) (n : Nat) (ks : List Str) (gV : List V → List V → List V) (sp : Sp) : Prop where
  ex : ∃ f fd ps g, FnOk P w K mg base CX0 k f fd ps sp ∧ Mk K C f ∧ KBn K fd ps (n + 1) ks g gV ∧ mg x = some (.ref C)
section
variable {P : Program} {w : World} {K : PySem.W.Frag} {mg : Str → Option Value} {base : Heap} {k n : Nat} {x m q : Str} {C : Addr} {sp : Sp} {N ps ks : List Str} {st : Stmt}
theorem MethAt.makeK (D : MethAt K C "__init__" q st ps) (c : ClassAt K mg C x) (S : FnScope N ps (defScope st)) (len : ∀ vs H Q E, sp vs H Q E → vs.length = ps.length) (b : BodyOk P w K mg base k N q st sp)
    (g : {α : Type} → List α → List α → List α) (hrel : ∀ {vs zs : List V} {us ws : List Value}, Vals vs us → Vals zs ws → Vals (g vs zs) (g us ws))
    (h : ∀ (kV doc pm : Value) (an : Option Addr) (cdv ct : Value) (us ws : List Value), us.length = n + 1 → ws.length = ks.length → bindArgs (PySem.W.fnOf "__init__" q (defArgs st) (defBody st) (defScope st) .none kV doc pm an cdv ct) ⟨us, ks.zip ws⟩ = pure (ps.zip (g us ws))) :
    MakeKOk P w K mg base (k + 1) C x n ks (fun vs zs => g vs zs) sp := by
  obtain ⟨f, fd, F, hm, hb⟩ := D.ex
  refine ⟨f, fd, ps, fun us ws => g us ws, F.ok S len (fun cdv A outer s H vs Q E hr h => b f cdv A outer s H vs Q E hr h), ⟨c.makes, hm.at_, hm.fn, c.kp⟩, ?_, c.mg⟩
  obtain ⟨oc, od, kV, doc, pm, an, cdv, ct, osl, rfl, lk, hcd⟩ := F.ex
  exact ⟨fun s us ws _ l1 l2 => .of_eq (h kV doc pm an cdv ct us ws l1 l2), fun r1 r2 => hrel r1 r2⟩
end
section
variable {X : Cx} {k : Nat} {x m : Str} {C : Addr} {sp : Sp} {p pos apos : Pos} {e o : Expr} {es : List Expr} {t tk : TA} {ta : TE} {kws : List Keyword} {ks : List Str} {gV : List V → List V → List V}
theorem pe_makeKC (G : MakeKOk X.prog X.w X.K X.mg X.base k C x 0 ks gV sp) (hr : Room (k + 1) X.A) (hkw : PK X kws tk) (hg : Gl X x := by rfl)
    (hall : (backToKw pos (keywordEach kws X.env)).all (·.1.isSome) = true := by rfl) (hks : (backToKw pos (keywordEach kws X.env)).filterMap (·.1) = ks := by rfl) (hdb : (x == ("__debug__" : Str)) = false := by decide)
    (hpl : ((backTo pos (starEach [] X.env)).any (·.1) || (backToKw pos (keywordEach kws X.env)).any (·.1.isNone)) = false := by rfl) : PE X (.Call (.Name x p) [] kws pos) (tMakeK C 0 ks.length sp gV E0 tNil tk) := by
  obtain ⟨f, fd, ps, g, F, hM, hb, hm⟩ := G.ex
  exact pe_makeK0 hM F hr hg hm hb pass0 hkw hall hks hdb hpl
theorem pe_callC (G : CallOk X.prog X.w X.K X.mg X.base k x sp) (hr : Room k X.A) (ha : PA X (e :: es) t) (hg : Gl X x := by rfl) (hdb : (x == ("__debug__" : Str)) = false := by decide)
    (he : starEach (e :: es) X.env = (false, eval e X.env) :: starEach es X.env := by rfl) (hpl : (backTo pos (starEach es X.env)).any (·.1) = false := by rfl) : PE X (.Call (.Name x p) (e :: es) [] pos) (tCall sp [] E0 t) := by
  obtain ⟨f, fd, ps, F, hm, hk, hb⟩ := G.ex
  exact pe_call F hr hg hm hk hb .nil pass0 ha hdb he hpl
theorem pe_makeC (G : MakeOk X.prog X.w X.K X.mg X.base k C x sp) (hr : Room (k + 1) X.A) (ha : PA X (e :: es) t) (hg : Gl X x := by rfl) (hdb : (x == ("__debug__" : Str)) = false := by decide)
    (he : starEach (e :: es) X.env = (false, eval e X.env) :: starEach es X.env := by rfl) (hpl : (backTo pos (starEach es X.env)).any (·.1) = false := by rfl) : PE X (.Call (.Name x p) (e :: es) [] pos) (tMake C sp [] E0 t) := by
  obtain ⟨f, fd, ps, F, hM, hb, hm⟩ := G.ex
  exact pe_make hM F hr hg hm hb .nil pass0 ha hdb he hpl
theorem pe_methC {pl : Sem Bool} (he : PE X o ta) (G : MethOk X.prog X.w X.K X.mg X.base k C m sp) (hr : Room k X.A) (ha : PA X (e :: es) t)
    (hst : starEach (e :: es) X.env = (false, eval e X.env) :: starEach es X.env := by rfl) (hpl : (backTo pos (starEach es X.env)).any (·.1) = false := by rfl)
    (ht : eval (.Call (.Attribute o m apos) (e :: es) [] pos) X.env = (do
      let ov ← eval o X.env
      standAt apos.atName
      let (f, first) ← holding [ov] (getMethod ov m pl)
      callWith pos f first (backTo pos (starEach (e :: es) X.env)) (backToKw pos (keywordEach [] X.env))) := by rfl) :
    PE X (.Call (.Attribute o m apos) (e :: es) [] pos) (tMeth C m sp [] E0 ta t) := by
  obtain ⟨f, fd, ps, F, hm, hb, c⟩ := G.ex
  exact pe_meth he c hm F hr hb .nil pass0 ha hst hpl ht
theorem pe_methC0 {pl : Sem Bool} (he : PE X o ta) (G : MethOk X.prog X.w X.K X.mg X.base k C m sp) (hr : Room k X.A)
    (ht : eval (.Call (.Attribute o m apos) [] [] pos) X.env = (do
      let ov ← eval o X.env
      standAt apos.atName
      let (f, first) ← holding [ov] (getMethod ov m pl)
      callWith pos f first (backTo pos (starEach [] X.env)) (backToKw pos (keywordEach [] X.env))) := by rfl) :
    PE X (.Call (.Attribute o m apos) [] [] pos) (tMeth C m sp [] E0 ta tNil) := by
  obtain ⟨f, fd, ps, F, hm, hb, c⟩ := G.ex
  exact pe_meth0 he c hm F hr hb .nil pass0 ht
theorem pe_globV {v : V} (h : ∃ u, X.mg x = some u ∧ RelV v u) (hg : Gl X x := by rfl) (hd : (x == ("__debug__" : Str)) = false := by decide) : PE X (.Name x pos) (tC v) := by
  obtain ⟨u, hm, r⟩ := h
  exact pe_glob hg hm r hd
end

section
variable {K : PySem.W.Frag} {h : Heap} {mg : Str → Option Value} {C f : Addr} {x m q : Str} {st : Stmt} {ps : List Str} {oc : Value} {od an : Option Addr} {osl : Array (Option Value)} {kV doc pm cdv ct : Value}
theorem defAt (X : K.In h) (G : h.Ns mainGlobals mg) (b : ∀ (kV doc pm : Value) (an : Option Addr) (cdv ct : Value) (us : List Value), us.length = ps.length → bindArgs (PySem.W.fnOf x x (defArgs st) (defBody st) (defScope st) .none kV doc pm an cdv ct) ⟨us, []⟩ = pure (ps.zip us))
    (a : PySem.W.nsIn K mainGlobals x = some (some (.ref f))) (l : K.lookup f = some ⟨oc, od, .func (PySem.W.fnOf x x (defArgs st) (defBody st) (defScope st) .none kV doc pm an cdv ct), osl⟩)
    (c : PySem.W.codeIn K cdv x = true) (k : PySem.W.keepIn K (.ref f) = true) : DefAt K mg x st ps :=
  ⟨f, _, fun_mk (st := st) l c k, PySem.W.mg_of X G a, (fun_mk (st := st) l c k).binds b⟩
theorem methAt (b : ∀ (kV doc pm : Value) (an : Option Addr) (cdv ct : Value) (us : List Value), us.length = ps.length → bindArgs (PySem.W.fnOf m q (defArgs st) (defBody st) (defScope st) .none kV doc pm an cdv ct) ⟨us, []⟩ = pure (ps.zip us))
    (a : PySem.W.findIn K (.ref C) m = some (some (.ref f))) (i : PySem.W.isFn K (.ref f) = true) (l : K.lookup f = some ⟨oc, od, .func (PySem.W.fnOf m q (defArgs st) (defBody st) (defScope st) .none kV doc pm an cdv ct), osl⟩)
    (c : PySem.W.codeIn K cdv q = true) (k : PySem.W.keepIn K (.ref f) = true) : MethAt K C m q st ps :=
  ⟨f, _, fun_mk (st := st) l c k, ⟨a, i, k⟩, (fun_mk (st := st) l c k).binds b⟩
theorem classAt (X : K.In h) (G : h.Ns mainGlobals mg) (a : PySem.W.nsIn K mainGlobals x = some (some (.ref C))) (pg : PySem.W.plainGet K C Str.empty = true) (hd : PySem.W.hasDictIn K C = true) (po : PySem.W.plainOver K C = true)
    (sa : PySem.W.findIn K (.ref C) "__setattr__" = some (some (.builtin "object.__setattr__"))) (mk : PySem.W.makesIn K C = true) (kc : PySem.W.keepIn K (.ref C) = true) : ClassAt K mg C x :=
  ⟨PySem.W.mg_of X G a, ⟨pg, hd, po, sa⟩, mk, kc⟩
theorem noAttr (a : PySem.W.findIn K (.ref C) x = some none) : NoAttr K C x := a
theorem constAt (X : K.In h) (G : h.Ns mainGlobals mg) {v : V} {u : Value} (a : PySem.W.nsIn K mainGlobals x = some (some u)) (r : RelV v u) : ∃ u, mg x = some u ∧ RelV v u := ⟨u, PySem.W.mg_of X G a, r⟩
end
section
variable {X : Cx} {K : PySem.W.Frag}
def rTupOf (K : PySem.W.Frag) : List V → Hp → VK → Prop := fun xs H Q => ∃ p ys, xs = [.ref p] ∧ ((SqL K H p ys ∧ ∀ l, H l = none → Q (.ref l) (upd H l (.tup ys))) ∨ (SqT K H p ys ∧ Q (.ref p) H))
def rListOf (K : PySem.W.Frag) : List V → Hp → VK → Prop := fun xs H Q => ∃ p ys, xs = [.ref p] ∧ (SqL K H p ys ∨ SqT K H p ys) ∧ ∀ l, H l = none → Q (.ref l) (upd H l (.lst ys))
def rLenOf (K : PySem.W.Frag) : List V → Hp → VK → Prop := fun xs H Q => ∃ p ys, xs = [.ref p] ∧ (SqL K H p ys ∨ SqT K H p ys) ∧ Q (.int ys.length) H
theorem kIxL (h : X.K = K := by rfl) : IxR X (rIxL K) := by subst h; exact ix_list
theorem kIxT (h : X.K = K := by rfl) : IxR X (rIxT K) := by subst h; exact ix_tup
theorem kIn (h : X.K = K := by rfl) : OpR X (compareOp .In) (rIn K false) := by subst h; exact op_in_seq
theorem kNotIn (h : X.K = K := by rfl) : OpR X (compareOp .NotIn) (rIn K true) := by subst h; exact op_notIn_seq
theorem kEqD (hu : X.A.units + 64 < cLine) (h : X.K = K := by rfl) : OpR X (compareOp .Eq) (rEqD K) := by subst h; exact op_eqD hu
theorem kNeD (hu : X.A.units + 64 < cLine) (h : X.K = K := by rfl) : OpR X (compareOp .NotEq) (rNeD K) := by subst h; exact op_neD hu
theorem kLen (h : X.K = K := by rfl) : CallR X (.builtin "len") (rLenOf K) := by subst h; exact call_len_seq
theorem kAll (hc : X.calm = true) (h : X.K = K := by rfl) : CallR X (.builtin "all") (rAll K) := by subst h; exact cr_all hc
theorem kAny (hc : X.calm = true) (h : X.K = K := by rfl) : CallR X (.builtin "any") (rAny K) := by subst h; exact cr_any hc
theorem kSum (hc : X.calm = true) (h : X.K = K := by rfl) : CallR X (.builtin "sum") (rSum K) := by subst h; exact cr_sum hc
theorem kMax (hc : X.calm = true) (h : X.K = K := by rfl) : CallR X (.builtin "max") (rMax K) := by subst h; exact cr_max hc
theorem kIsi (h : X.K = K := by rfl) : CallR X (.builtin "isinstance") (rIsi K) := by subst h; exact call_isi
theorem kTup (h : X.K = K := by rfl) : CallR X (.type "tuple") (rTupOf K) := by subst h; exact call_tuple_of
theorem kList (h : X.K = K := by rfl) : CallR X (.type "list") (rListOf K) := by subst h; exact call_list_of
theorem kFld {e : Expr} {f : Str} {pos : Pos} {ta : TE} (he : PE X e ta) (hb : attributeBase e f X.env (eval e X.env) = eval e X.env) (h : X.K = K := by rfl) : PE X (.Attribute e f pos) (tFld K ta f) := by subst h; exact pe_fld he hb
theorem kPiL {tg l : Expr} {tl : TE} (hl : PE X l tl) (h : X.K = K := by rfl) : PI X tg l (iList K tl) := by subst h; exact pi_list hl
theorem kPiT {tg l : Expr} {tl : TE} (hl : PE X l tl) (h : X.K = K := by rfl) : PI X tg l (iTup K tl) := by subst h; exact pi_tup hl
theorem kPgT {es : List Expr} {k : Nat} {t : TGs} {n : Nat} {pos : Pos} (hc : X.calm = true) (hp : PGs X es t) (h : X.K = K := by rfl)
    (hn : (assignEach es X.env).length = n := by rfl) (hst : (assignEach es X.env).findIdx? (·.1) = none := by rfl) : PG X (.Tuple es k pos) (gTup K n t) := by subst h; exact pg_tup hc hp hn hst
end
def Fr1 (a : Addr) (H H' : Hp) : Prop := ∀ c o, c ≠ a → H c = some o → H' c = some o
theorem Fr1.refl (a : Addr) (H : Hp) : Fr1 a H H := fun _ _ _ h => h
theorem Fr1.trans {a : Addr} {H H1 H2 : Hp} (e : Fr1 a H H1) (f : Fr1 a H1 H2) : Fr1 a H H2 := fun c o n h => f c o n (e c o n h)
theorem Fr1.of {a : Addr} {H H' : Hp} (e : Same H H') : Fr1 a H H' := fun c o _ h => e c o h
theorem Fr1.upd {a p : Addr} {H H' : Hp} {o : HO} (e : Fr1 a H H') (h : H p = none) : Fr1 a H (upd H' p o) := fun c u n hc => by
  rw [upd_ne (ne_of_none hc h)]
  exact e c u n hc
theorem Fr1.at {a : Addr} {H H' : Hp} {o : HO} (e : Fr1 a H H') : Fr1 a H (L2.upd H' a o) := fun c u n hc => by
  rw [upd_ne n]
  exact e c u n hc
theorem Fr1.free {a p : Addr} {H H' : Hp} (e : Fr1 a H H') (n : p ≠ a) (h : H' p = none) : H p = none := by
  cases q : H p with
  | none => rfl
  | some o =>
    rw [e p o n q] at h
    cases h
theorem Same.upd {p : Addr} {H H' : Hp} {o : HO} (e : Same H H') (h : H p = none) : Same H (L2.upd H' p o) := fun c u hc => by
  rw [upd_ne (ne_of_none hc h)]
  exact e c u hc
theorem Same.fr1 {a : Addr} {H H1 H2 : Hp} (e : Same H H1) (f : Fr1 a H1 H2) (h : H a = none) : Same H H2 := fun c o hc => f c o (ne_of_none hc h) (e c o hc)
theorem Same.made' {H H' : Hp} {x dx C : Addr} (nx : H x = none) (nd : H dx = none) (e : Fr1 x (L2.upd (L2.upd H dx (.own x)) x (.ins C dx [])) H') : Same H H' := fun c o hc => by
  refine e c o (ne_of_none hc nx) ?_
  rw [upd_ne (ne_of_none hc nx), upd_ne (ne_of_none hc nd)]
  exact hc
theorem Same.none {p : Addr} {H H' : Hp} (e : Same H H') (h : H' p = none) : H p = none := e.free h
theorem Same.upd' {p : Addr} {H H' : Hp} {o : HO} (e : Same H H') (h : H p = Option.none) : Same H (L2.upd H' p o) := Same.upd e h
def KT (H H' : Hp) : Prop := ∀ a xs, H a = some (.tup xs) → H' a = some (.tup xs)
theorem KT.refl (H : Hp) : KT H H := fun _ _ h => h
theorem KT.trans {H H1 H2 : Hp} (e : KT H H1) (f : KT H1 H2) : KT H H2 := fun a xs h => f a xs (e a xs h)
theorem KT.of {H H' : Hp} (e : Same H H') : KT H H' := fun a xs h => e a _ h
theorem Fr1.kt {a : Addr} {H H' : Hp} {xs : List V} (e : Fr1 a H H') (h : H a = some (.lst xs)) : KT H H' := fun c ys hc => e c _ (ne_of hc h (by intro z; cases z)) hc
theorem KT.upd {p : Addr} {H H' : Hp} {o : HO} (e : KT H H') (h : H p = none) : KT H (L2.upd H' p o) := fun c xs hc => by
  rw [upd_ne (ne_of_none hc h)]
  exact e c xs hc
theorem KT.updL {p : Addr} {H H' : Hp} {ys : List V} {o : HO} (e : KT H H') (h : H' p = some (.lst ys)) : KT H (L2.upd H' p o) := fun c xs hc => by
  have q := e c xs hc
  rw [upd_ne (ne_of q h (by intro z; cases z))]
  exact q

mutual
inductive Td (H : Hp) : V → PyData → Prop
  | non : Td H .non .none
  | bl (b : Bool) : Td H (.bl b) (.bool b)
  | int (i : Int) : Td H (.int i) (.int i)
  | str (x : Str) : Td H (.str x) (.str x)
  | tup {a : Addr} {xs : List V} {ds : List PyData} : H a = some (.tup xs) → TdAll H xs ds → Td H (.ref a) (.tuple ds)
inductive TdAll (H : Hp) : List V → List PyData → Prop
  | nil : TdAll H [] []
  | cons {v : V} {vs : List V} {d : PyData} {ds : List PyData} : Td H v d → TdAll H vs ds → TdAll H (v :: vs) (d :: ds)
end
section
variable {H H' : Hp} {K : PySem.W.Frag}
mutual
theorem Td.mono (e : KT H H') : ∀ {v : V} {d : PyData}, Td H v d → Td H' v d
  | _, _, .non => .non
  | _, _, .bl b => .bl b
  | _, _, .int i => .int i
  | _, _, .str x => .str x
  | _, _, .tup h r => .tup (e _ _ h) (TdAll.mono e r)
theorem TdAll.mono (e : KT H H') : ∀ {vs : List V} {ds : List PyData}, TdAll H vs ds → TdAll H' vs ds
  | _, _, .nil => .nil
  | _, _, .cons h r => .cons (Td.mono e h) (TdAll.mono e r)
end
mutual
theorem Td.dp : ∀ {v : V} {d : PyData}, Td H v d → Dp K H v d
  | _, _, .non => .non
  | _, _, .bl b => .bl b
  | _, _, .int i => .int i
  | _, _, .str x => .str x
  | _, _, .tup h r => .tup (SqT.of h) (TdAll.dp r)
theorem TdAll.dp : ∀ {vs : List V} {ds : List PyData}, TdAll H vs ds → DpAll K H vs ds
  | _, _, .nil => .nil
  | _, _, .cons h r => .cons (Td.dp h) (TdAll.dp r)
end
theorem TdAll.length : ∀ {vs : List V} {ds : List PyData}, TdAll H vs ds → vs.length = ds.length
  | _, _, .nil => rfl
  | _, _, .cons _ r => by rw [List.length_cons, List.length_cons, TdAll.length r]
theorem TdAll.get : ∀ {vs : List V} {ds : List PyData} {i : Nat} {v : V}, TdAll H vs ds → vs[i]? = some v → ∃ d, ds[i]? = some d ∧ Td H v d
  | _, _, i, _, .nil, h => by simp at h
  | _, _, 0, _, .cons h _, e => ⟨_, rfl, by
      have e : _ = _ := Option.some.inj e
      rw [← e]
      exact h⟩
  | _, _, i + 1, _, .cons _ r, e => TdAll.get (i := i) r e
theorem TdAll.get' : ∀ {vs : List V} {ds : List PyData} {i : Nat} {d : PyData}, TdAll H vs ds → ds[i]? = some d → ∃ v, vs[i]? = some v ∧ Td H v d
  | _, _, i, _, .nil, h => by simp at h
  | _, _, 0, _, .cons h _, e => ⟨_, rfl, by
      have e : _ = _ := Option.some.inj e
      rw [← e]
      exact h⟩
  | _, _, i + 1, _, .cons _ r, e => TdAll.get' (i := i) r e
theorem TdAll.append : ∀ {vs us : List V} {ds es : List PyData}, TdAll H vs ds → TdAll H us es → TdAll H (vs ++ us) (ds ++ es)
  | _, _, _, _, .nil, r => r
  | _, _, _, _, .cons h t, r => .cons h (TdAll.append t r)
theorem TdAll.snoc {vs : List V} {ds : List PyData} {v : V} {d : PyData} (r : TdAll H vs ds) (h : Td H v d) : TdAll H (vs ++ [v]) (ds ++ [d]) := r.append (.cons h .nil)
theorem TdAll.strs : ∀ (ws : List Str), TdAll H (ws.map V.str) (ws.map PyData.str)
  | [] => .nil
  | w :: ws => .cons (.str w) (TdAll.strs ws)
theorem Td.str_inv {v : V} {x : Str} (h : Td H v (.str x)) : v = .str x := by cases h; rfl
theorem Td.bl_inv {v : V} {b : Bool} (h : Td H v (.bool b)) : v = .bl b := by cases h; rfl
theorem Td.int_inv {v : V} {i : Int} (h : Td H v (.int i)) : v = .int i := by cases h; rfl
theorem Td.tup_inv {v : V} {ds : List PyData} (h : Td H v (.tuple ds)) : ∃ a xs, v = .ref a ∧ H a = some (.tup xs) ∧ TdAll H xs ds := by
  cases h with
  | tup h r => exact ⟨_, _, rfl, h, r⟩
theorem TdAll.strs_inv : ∀ {vs : List V} {ws : List Str}, TdAll H vs (ws.map PyData.str) → vs = ws.map V.str
  | _, [], h => by cases h; rfl
  | _, w :: ws, h => by
    cases h with
    | cons h r => rw [List.map_cons, ← TdAll.strs_inv r, Td.str_inv h]
theorem Td.kt_same {v : V} {d : PyData} (e : Same H H') (h : Td H v d) : Td H' v d := h.mono (KT.of e)
end

def StAt (H : Hp) (a : Addr) (n : Nat) : Prop := ∃ x y k : Int, H a = some (.lst [.int x, .int y, .int k]) ∧ 0 ≤ k ∧ k + n ≤ 1000000
theorem StAt.mono {H : Hp} {a : Addr} {n m : Nat} (h : StAt H a m) (l : n ≤ m) : StAt H a n := by
  obtain ⟨x, y, k, h1, h2, h3⟩ := h
  exact ⟨x, y, k, h1, h2, by omega⟩
theorem StAt.lst {H : Hp} {a : Addr} {n : Nat} (h : StAt H a n) : ∃ xs, H a = some (.lst xs) := by
  obtain ⟨x, y, k, h1, _⟩ := h
  exact ⟨_, h1⟩
theorem StAt.kt {H H' : Hp} {a : Addr} {n : Nat} (h : StAt H a n) (e : Fr1 a H H') : KT H H' := by
  obtain ⟨xs, hx⟩ := h.lst
  exact e.kt hx
theorem StAt.same {H H' : Hp} {a : Addr} {n : Nat} (h : StAt H a n) (e : Same H H') : StAt H' a n := by
  obtain ⟨x, y, k, h1, h2, h3⟩ := h
  exact ⟨x, y, k, e _ _ h1, h2, h3⟩
theorem StAt.fr {H H' : Hp} {a b : Addr} {n : Nat} (h : StAt H a n) (e : Fr1 b H H') (ne : a ≠ b) : StAt H' a n := by
  obtain ⟨x, y, k, h1, h2, h3⟩ := h
  exact ⟨x, y, k, e _ _ ne h1, h2, h3⟩
theorem StAt.upd {H : Hp} {a p : Addr} {n : Nat} {o : HO} (h : StAt H a n) (ne : a ≠ p) : StAt (upd H p o) a n := by
  obtain ⟨x, y, k, h1, h2, h3⟩ := h
  exact ⟨x, y, k, by rw [upd_ne ne]; exact h1, h2, h3⟩
theorem StAt.ne {H : Hp} {a p : Addr} {n : Nat} (h : StAt H a n) (e : H p = none) : a ≠ p := by
  obtain ⟨x, y, k, h1, _⟩ := h
  exact ne_of_none h1 e

structure Nm (w : Str) : Prop where
  lo : 1 ≤ w.length
  hi : w.length ≤ 8
  az : ∀ c ∈ w.cps.toList, 97 ≤ c ∧ c ≤ 122
def abc : Str := "abcdefghijklmnopqrstuvwxyz"
theorem abc_list : abc.cps.toList = (List.range 26).map (97 + ·) := by decide +kernel
theorem abc_len : abc.length = 26 := by decide +kernel
theorem abc_mem (c : Nat) : c ∈ abc.cps.toList ↔ 97 ≤ c ∧ c ≤ 122 := by
  rw [abc_list, List.mem_map]
  constructor
  · rintro ⟨i, hi, rfl⟩
    rw [List.mem_range] at hi
    omega
  · rintro ⟨h1, h2⟩
    exact ⟨c - 97, List.mem_range.mpr (by omega), by omega⟩
theorem abc_at (i : Nat) (h : i < 26) : abc.cps.toList[i]? = some (97 + i) := by
  rw [abc_list, List.getElem?_map, List.getElem?_range h]
  rfl
theorem Nm.sign {c : Nat} (h : 97 ≤ c ∧ c ≤ 122) : Nm ⟨#[c]⟩ := by
  refine ⟨(by show 1 ≤ 1; decide), (by show 1 ≤ 8; decide), fun d hd => ?_⟩
  have : d = c := by simpa using hd
  rw [this]
  exact h
theorem sizeL {n : Nat} (h : n ≤ 100000) : n ≤ sizeLine := Nat.le_trans h (by decide)
theorem sizeLt {n : Nat} (h : n < 100000) : n < sizeLine := Nat.lt_of_lt_of_le h (by decide)
section
variable {X : Cx}
theorem ps_setDc {i : Nat} {y : Str} {py : Pos} {kx vx tg iter : Expr} {ifs : List Expr} {scope : Scope} {own : List (Str × Nat)} {pos spos : Pos} {wi : TI} {g : TG} {tt : TT} {tk tv : TE} (hc : X.calm = true) (hN : X.N.Nodup) (hy : X.N[i]? = some y) (hyl : X.env.scope.names.lookup y = some .local)
    (hsw : swapsWith (.DictComp kx vx [⟨tg, iter, ifs, 0⟩] scope pos) (some (.Name y py)) spos.line X.env = pure true) (hi : PI X tg iter wi) (ok : BlkOk X.N X.env.scope scope own)
    (hg : ∀ (s : Shared) (H : Hp) (C : Addr) (cl : List (Str × Addr)) (fp : List Addr), PG (X.blk s H scope (compEnvC scope cl C X.env) fp) tg g)
    (ht : ∀ (s : Shared) (H : Hp) (C : Addr) (cl : List (Str × Addr)) (fp : List Addr), PTs (X.blk s H scope (compEnvC scope cl C X.env) fp) ifs tt)
    (hk : ∀ (s : Shared) (H : Hp) (C : Addr) (cl : List (Str × Addr)) (fp : List Addr), PE (X.blk s H scope (compEnvC scope cl C X.env) fp) kx tk)
    (he : ∀ (s : Shared) (H : Hp) (C : Addr) (cl : List (Str × Addr)) (fp : List Addr), PE (X.blk s H scope (compEnvC scope cl C X.env) fp) vx tv) (hs : ∀ x, foldedSetIterable iter X.env x = pure x := by intro _; rfl) :
    PS X (.Assign [.Name y py] (.DictComp kx vx [⟨tg, iter, ifs, 0⟩] scope pos) spos) (tAsg (tDc wi g tt tk tv (own.map (·.2))) (gName i)) := by
  refine ⟨fun pins s0 σ H0 Dn I0 h0 => ?_⟩
  rw [(exec_Assign_Name_used _ _ _ _ hsw :)]; refine wpAny_bind (wpAny_standAt <| wpAny_bind ?_)
  show wpAny _ X.A (do let _ ← comprehension (.DictComp kx vx [⟨tg, iter, ifs, 0⟩] scope pos) scope X.env (firstIterPos [⟨tg, iter, ifs, 0⟩] pos) newDict false (eval iter X.env) (some (assign (.Name y py) X.env))) _ _ s0
  have h0 : tDc wi g tt tk tv (own.map (·.2)) σ H0 (fun x H1 => gName i x σ H1 Dn.nx) := h0
  refine wpAny_bind (thn (dc_core (Qf := fun _ s9 => SP X pins Dn .next s9) hc hN I0 hi ok hg ht hk he hs h0 fun L C s9 m H9 I9 q hn ff => ?_) fun _ s9 hq => wpAny_pure (wpAny_pure hq))
  show wpAny _ _ (assign (.Name y py) X.env (.ref L)) _ _ s9
  refine wpAny_assign_Name (store_ok2 (v := V.ref L) I9 hN hy (.inl hyl) rfl (fun s8 I8 ⟨a, sb, ha⟩ => ?_) (.inr hyl)); obtain ⟨z0, z1, z2, z3, z4, z5⟩ := ff
  have ca : C ≠ a := ha.elim (fun z => by rw [z]; exact z1) fun z e => z4 y a z e.symm
  refine ⟨m, hn.sameBut sb ca, fun h8 sb8 => ⟨_, H9, I8.turned (t' := s8.toks) (fun b o hb e => (sb8.2 b hb).trans e) z0 z1 z3 z4 z5, q⟩⟩
theorem swd_true {kx vx : Expr} {gs : List Comprehension} {scope : Scope} {pos py : Pos} {y : Str} {l : Nat} {env : Env} (hk : env.scope.kind = .function) (hy : env.scope.names.lookup y = some .local) (hl : (py.line == pos.line) = true)
    (ha : (scope.names.any fun (n, k) => n == y && (k == .local || k == .cell)) = false) : swapsWith (.DictComp kx vx gs scope pos) (some (.Name y py)) l env = pure true := by
  have kl : env.kindOf y = some .local := hy
  have kb : env.blockKind = .function := by unfold Env.blockKind; rw [hk] <;> rfl
  unfold swapsWith; simp only [kb, kl, ha, Expr.pos, hl] <;> rfl
end
end My
namespace My
open PySem L2
theorem tYes_if {σ : L2.St} {H : Hp} {A B : Hp → Prop} (h : A H) : tYes σ H (fun b H3 => if b = true then A H3 else B H3) := by
  show (if true = true then A H else B H)
  rw [if_pos rfl]
  exact h
abbrev cd (w : Str) : List Nat := w.cps.toList
theorem cd_len (w : Str) : w.length = (cd w).length := by
  show w.cps.size = w.cps.toList.length
  rw [Array.length_toList]
theorem cd_ext {v w : Str} (h : cd v = cd w) : v = w := by
  cases v
  cases w
  congr
  exact Array.ext' h
theorem cd_app (v w : Str) : cd (v ++ w) = cd v ++ cd w := by
  show (v.cps ++ w.cps).toList = _
  rw [Array.toList_append]
theorem cd_sign (c : Nat) : cd ⟨#[c]⟩ = [c] := rfl
theorem Nm.of {w : Str} {cs : List Nat} (e : cd w = cs) (h1 : 1 ≤ cs.length) (h8 : cs.length ≤ 8) (az : ∀ c ∈ cs, 97 ≤ c ∧ c ≤ 122) : Nm w := by
  subst e
  exact ⟨by rw [cd_len]; exact h1, by rw [cd_len]; exact h8, az⟩
theorem Nm.l1 {w : Str} (h : Nm w) : 1 ≤ (cd w).length := by
  rw [← cd_len]
  exact h.lo
theorem Nm.l8 {w : Str} (h : Nm w) : (cd w).length ≤ 8 := by
  rw [← cd_len]
  exact h.hi
theorem joinL_signs : ∀ cs : List Nat, TL.joinL [] (cs.map fun c => [c]) = cs
  | [] => rfl
  | [c] => rfl
  | c :: d :: r => by
    show [c] ++ ([] ++ TL.joinL [] ((d :: r).map fun c => [c])) = _
    rw [joinL_signs (d :: r)]
    rfl
theorem cd_join (cs : List Nat) : cd (Txt.join (Str.ofString "") (cs.map fun c => (⟨#[c]⟩ : Str))) = cs := by
  rw [TL.join_eq]
  have h := TL.tl_join (Str.ofString "") (cs.map fun c => (⟨#[c]⟩ : Str))
  have e : (cs.map fun c => (⟨#[c]⟩ : Str)).map TL.tl = cs.map fun c => [c] := by
    rw [List.map_map]
    rfl
  rw [e] at h
  have h2 : TL.tl (Str.ofString "") = [] := by decide +kernel
  rw [h2, joinL_signs] at h
  exact h
theorem cut_to (z : Str) (i : Nat) (h : i ≤ z.length) : cd (cutS z none (some (i : Int))) = (cd z).take i := by
  show ((z.cps.toList.drop (HT.sIx z.length 0 none)).take (HT.sIx z.length z.length (some (i : Int)) - HT.sIx z.length 0 none)).toArray.toList = _
  rw [HT.sIx_none, HT.sIx_nat, List.toList_toArray, List.drop_zero, Nat.min_eq_left h]
  rfl
theorem cut_from (z : Str) (i : Nat) : cd (cutS z (some (i : Int)) none) = (cd z).drop i := by
  show ((z.cps.toList.drop (HT.sIx z.length 0 (some (i : Int)))).take (HT.sIx z.length z.length none - HT.sIx z.length 0 (some (i : Int)))).toArray.toList = _
  rw [HT.sIx_none, HT.sIx_nat, List.toList_toArray]
  have e : z.length = z.cps.toList.length := cd_len z
  rcases Nat.le_total i z.length with l | l
  · rw [Nat.min_eq_left l, List.take_of_length_le]
    rw [List.length_drop, ← e]
    exact Nat.le_refl _
  · rw [Nat.min_eq_right l, List.drop_eq_nil_of_le (by rw [← e]; exact Nat.le_refl _), List.take_nil]
    exact (List.drop_eq_nil_of_le (by rw [← e]; exact l)).symm
theorem Nm.bent {w v : Str} {i c : Nat} (h : Nm w) (hi : i < (cd w).length) (hc : 97 ≤ c ∧ c ≤ 122) (e : cd v = (cd w).take i ++ [c] ++ (cd w).drop (i + 1)) : Nm v := by
  have l8 := h.l8
  refine Nm.of e ?_ ?_ fun d hd => ?_
  · simp only [List.length_append, List.length_take, List.length_drop, List.length_singleton]
    omega
  · simp only [List.length_append, List.length_take, List.length_drop, List.length_singleton]
    omega
  · rcases List.mem_append.mp hd with m | m
    · rcases List.mem_append.mp m with m | m
      · exact h.az d (List.mem_of_mem_take m)
      · rw [List.mem_singleton.mp m]
        exact hc
    · exact h.az d (List.mem_of_mem_drop m)
theorem Nm.more {w v : Str} {c : Nat} (h : Nm w) (l : (cd w).length < 8) (hc : 97 ≤ c ∧ c ≤ 122) (e : cd v = cd w ++ [c]) : Nm v := by
  refine Nm.of e ?_ ?_ fun d hd => ?_
  · simp only [List.length_append, List.length_singleton]
    omega
  · simp only [List.length_append, List.length_singleton]
    omega
  · rcases List.mem_append.mp hd with m | m
    · exact h.az d m
    · rw [List.mem_singleton.mp m]
      exact hc
theorem Nm.less {w v : Str} {i : Nat} (h : Nm w) (hi : i < (cd w).length) (l : 1 < (cd w).length) (e : cd v = (cd w).take i ++ (cd w).drop (i + 1)) : Nm v := by
  have l8 := h.l8
  refine Nm.of e ?_ ?_ fun d hd => ?_
  · simp only [List.length_append, List.length_take, List.length_drop]
    omega
  · simp only [List.length_append, List.length_take, List.length_drop]
    omega
  · rcases List.mem_append.mp hd with m | m
    · exact h.az d (List.mem_of_mem_take m)
    · exact h.az d (List.mem_of_mem_drop m)
theorem pigeon : ∀ (l m : List Str), l.Nodup → (∀ x ∈ l, x ∈ m) → l.length ≤ m.length
  | [], _, _, _ => Nat.zero_le _
  | x :: r, m, h, s => by
    obtain ⟨h1, h2⟩ := List.nodup_cons.mp h
    have hm := s x List.mem_cons_self
    have := pigeon r (m.erase x) h2 fun y hy => (List.mem_erase_of_ne (fun e => h1 (by rw [← e]; exact hy))).mpr (s y (List.mem_cons_of_mem _ hy))
    have e := List.length_erase_of_mem hm
    have p := List.length_pos_of_mem hm
    rw [List.length_cons]
    omega
section
variable {g : TG} {tt : TT} {te : TE} {vs : List Nat} {σ : L2.St} {H1 : Hp} {D : Addr} {Qd : Hp → Prop} {x : Str}
theorem lc_str (Pv : Nat → Hp → Prop) (h0 : Pv 0 (upd H1 D (.lst [])))
    (hs : ∀ i c Hi, x.cps[i]? = some c → Pv i Hi → g (.str ⟨#[c]⟩) (wipe σ vs) Hi fun σ2 H2 => wipe σ2 vs = wipe σ vs ∧ tt σ2 H2 fun b H3 =>
      if b = true then te σ2 H3 fun y H4 => ∃ acc, H4 D = some (.lst acc) ∧ acc.length < sizeLine ∧ Pv (i + 1) (upd H4 D (.lst (acc ++ [y]))) else Pv (i + 1) H3)
    (hd : ∀ Hi, Pv x.cps.size Hi → Qd Hi) :
    ∃ W : Nat → Nat → Hp → Prop, (∃ m, W 0 m (upd H1 D (.lst []))) ∧ ∀ i m Hi, W i m Hi →
      ((Its x).stop i Hi ∧ Qd Hi) ∨ ((Its x).go i Hi ∧ ∃ Nx : Hp → Prop, (∀ H', Nx H' → ∃ m', m' < m ∧ W (i + 1) m' H') ∧ ∀ v H', (Its x).yld i Hi v H' → g v (wipe σ vs) H' fun σ2 H2 => wipe σ2 vs = wipe σ vs ∧ tt σ2 H2 fun b H3 =>
        if b = true then te σ2 H3 fun y H4 => ∃ acc, H4 D = some (.lst acc) ∧ acc.length < sizeLine ∧ Nx (upd H4 D (.lst (acc ++ [y]))) else Nx H3) := by
  refine ⟨fun i m Hi => m = x.cps.size - i ∧ i ≤ x.cps.size ∧ Pv i Hi, ⟨_, rfl, Nat.zero_le _, h0⟩, ?_⟩
  rintro i m Hi ⟨em, hi, p⟩
  by_cases l : i < x.cps.size
  · refine Or.inr ⟨l, Pv (i + 1), fun H' p' => ⟨_, by omega, rfl, l, p'⟩, ?_⟩
    rintro v H' ⟨eh, c, hc, rfl⟩
    rw [eh]
    exact hs i c Hi hc p
  · obtain rfl : i = x.cps.size := by omega
    exact Or.inl ⟨Nat.le_refl _, hd Hi p⟩
end
theorem free_letter (ws : List Str) (h : ws.length < 26) : ∃ j, j < 26 ∧ (⟨#[97 + j]⟩ : Str) ∉ ws := by
  by_cases g : ∀ j, j < 26 → (⟨#[97 + j]⟩ : Str) ∈ ws
  · exfalso
    have nd : ((List.range 26).map fun j => (⟨#[97 + j]⟩ : Str)).Nodup := by decide +kernel
    have sub : ∀ x ∈ ((List.range 26).map fun j => (⟨#[97 + j]⟩ : Str)), x ∈ ws := by
      intro x hx
      obtain ⟨j, hj, rfl⟩ := List.mem_map.mp hx
      exact g j (List.mem_range.mp hj)
    have l := pigeon _ _ nd sub
    rw [List.length_map, List.length_range] at l
    omega
  · simp only [Classical.not_forall] at g
    obtain ⟨j, hj, hn⟩ := g
    exact ⟨j, hj, hn⟩
theorem flat_strs (ws : List Str) : (ws.map V.str).all flatV = true := by
  induction ws with
  | nil => rfl
  | cons w r ih =>
    rw [List.map_cons, List.all_cons, ih]
    rfl
theorem inV_strs (x : Str) : ∀ ws : List Str, inV (.str x) (ws.map V.str) = decide (x ∈ ws)
  | [] => by
    rw [List.map_nil]
    simp [inV]
  | w :: r => by
    have ih := inV_strs x r
    unfold inV at ih ⊢
    rw [List.map_cons, List.any_cons, ih]
    by_cases e : w = x
    · subst e
      simp [eqV]
    · have e' : ¬ x = w := fun q => e q.symm
      simp [eqV, e, e']
end My
namespace My
open PySem L2
def Fine (n : Nat) (d : PyData) : Prop := d.canLay0 = true ∧ d.depth ≤ n
theorem Fine.sh {n : Nat} {d : PyData} (h : Fine n d) (l : n ≤ 64) : SeqAt.shaped d = true := by
  show (d.canLay0 && decide (d.depth ≤ 64)) = true
  rw [h.1, decide_eq_true (Nat.le_trans h.2 l)]
  rfl
theorem Fine.self {n : Nat} {d : PyData} (h : Fine n d) : PyData.eqv d d = true := PySem.SeqAt.eqv_refl d h.1
theorem Fine.up {n m : Nat} {d : PyData} (h : Fine n d) (l : n ≤ m) : Fine m d := ⟨h.1, Nat.le_trans h.2 l⟩
theorem canAll : ∀ {ds : List PyData}, (∀ d ∈ ds, d.canLay0 = true) → PyData.canLayAll0 ds = true
  | [], _ => by simp only [PyData.canLayAll0]
  | d :: r, h => by
    simp only [PyData.canLayAll0]
    rw [h d List.mem_cons_self, canAll fun x hx => h x (List.mem_cons_of_mem _ hx)]
    rfl
theorem depAll : ∀ {ds : List PyData} {n : Nat}, (∀ d ∈ ds, d.depth ≤ n) → PyData.depthAll ds ≤ n
  | [], n, _ => by simp [PyData.depthAll]
  | d :: r, n, h => by
    simp only [PyData.depthAll]
    have h1 := h d List.mem_cons_self
    have h2 := depAll (ds := r) fun x hx => h x (List.mem_cons_of_mem _ hx)
    omega
theorem Fine.tup {n : Nat} {ds : List PyData} (h : ∀ d ∈ ds, Fine n d) : Fine (n + 1) (.tuple ds) := by
  refine ⟨?_, ?_⟩
  · simp only [PyData.canLay0]
    exact canAll fun d hd => (h d hd).1
  · simp only [PyData.depth]
    have := depAll fun d hd => (h d hd).2
    omega
theorem Fine.lst {n : Nat} {ds : List PyData} (h : ∀ d ∈ ds, Fine n d) : Fine (n + 1) (.list ds) := by
  refine ⟨?_, ?_⟩
  · simp only [PyData.canLay0]
    exact canAll fun d hd => (h d hd).1
  · simp only [PyData.depth]
    have := depAll fun d hd => (h d hd).2
    omega
theorem Fine.int (i : Int) : Fine 1 (.int i) := ⟨by simp only [PyData.canLay0], by simp only [PyData.depth]; omega⟩
theorem Fine.bool (b : Bool) : Fine 1 (.bool b) := ⟨by simp only [PyData.canLay0], by simp only [PyData.depth]; omega⟩
theorem Fine.none : Fine 1 .none := ⟨by simp only [PyData.canLay0], by simp only [PyData.depth]; omega⟩
theorem Fine.str {x : Str} (h : ∀ c ∈ cd x, c < 0x110000) : Fine 1 (.str x) := by
  refine ⟨?_, by simp only [PyData.depth]; omega⟩
  simp only [PyData.canLay0]
  show x.cps.all (· < 0x110000) = true
  rw [← Array.all_toList, List.all_eq_true]
  intro c hc
  exact decide_eq_true (h c hc)
theorem Nm.fine {x : Str} (h : Nm x) : Fine 1 (.str x) := Fine.str fun c hc => by
  have := h.az c hc
  omega
theorem fine_strs {ws : List Str} (h : ∀ w ∈ ws, Nm w) : ∀ d ∈ ws.map PyData.str, Fine 1 d := by
  intro d hd
  obtain ⟨w, hw, rfl⟩ := List.mem_map.mp hd
  exact (h w hw).fine
theorem eqv_lists_nil (ds : List PyData) : PyData.eqv (.list ds) (.list []) = ds.isEmpty := by
  cases ds <;> simp [PyData.eqv, PyData.eqvAll]
theorem eqv_tups_nil (ds : List PyData) : PyData.eqv (.tuple ds) (.tuple []) = ds.isEmpty := by
  cases ds <;> simp [PyData.eqv, PyData.eqvAll]

abbrev Ref := Str × Str
abbrev Ent := Str × Bool × List Ref
abbrev Plan := List Ent
def refD (r : Ref) : PyData := .tuple [.str r.1, .str r.2]
def refsD (rs : List Ref) : PyData := .tuple (rs.map refD)
def entD (e : Ent) : PyData := .tuple [.str e.1, .bool e.2.1, refsD e.2.2]
def planD (p : Plan) : PyData := .tuple (p.map entD)
structure GoodRefs (names : List Str) (rs : List Ref) : Prop where
  len : rs.length ≤ 3
  nm : ∀ r ∈ rs, Nm r.1
  to : ∀ r ∈ rs, r.2 ∈ names
  nd : (rs.map (·.1)).Nodup
structure Good (p : Plan) : Prop where
  lo : 1 ≤ p.length
  hi : p.length ≤ 5
  nm : ∀ e ∈ p, Nm e.1
  nd : (p.map (·.1)).Nodup
  refs : ∀ e ∈ p, GoodRefs (p.map (·.1)) e.2.2
theorem Good.names {p : Plan} (g : Good p) : ∀ w ∈ p.map (·.1), Nm w := by
  intro w hw
  obtain ⟨e, he, rfl⟩ := List.mem_map.mp hw
  exact g.nm e he
theorem Good.toNm {p : Plan} (g : Good p) {e : Ent} (he : e ∈ p) {r : Ref} (hr : r ∈ e.2.2) : Nm r.2 := g.names _ ((g.refs e he).to r hr)
theorem refD_fine {r : Ref} (h1 : Nm r.1) (h2 : Nm r.2) : Fine 2 (refD r) := Fine.tup (n := 1) fun d hd => by
  rcases List.mem_cons.mp hd with rfl | hd
  · exact h1.fine
  · rw [List.mem_singleton.mp hd]
    exact h2.fine
theorem Good.refsD_fine {p : Plan} (g : Good p) {e : Ent} (he : e ∈ p) : Fine 3 (refsD e.2.2) := Fine.tup (n := 2) fun d hd => by
  obtain ⟨r, hr, rfl⟩ := List.mem_map.mp hd
  exact refD_fine ((g.refs e he).nm r hr) (g.toNm he hr)
theorem Good.entD_fine {p : Plan} (g : Good p) {e : Ent} (he : e ∈ p) : Fine 4 (entD e) := Fine.tup (n := 3) fun d hd => by
  rcases List.mem_cons.mp hd with rfl | hd
  · exact (g.nm e he).fine.up (by decide)
  · rcases List.mem_cons.mp hd with rfl | hd
    · exact (Fine.bool _).up (by decide)
    · rw [List.mem_singleton.mp hd]
      exact g.refsD_fine he
theorem Good.fine {p : Plan} (g : Good p) : Fine 5 (planD p) := Fine.tup (n := 4) fun d hd => by
  obtain ⟨e, he, rfl⟩ := List.mem_map.mp hd
  exact g.entD_fine he
end My
namespace My
open PySem PySem.Spec PyProof.Rows L2
def rInG (K : PySem.W.Frag) : R2 := fun x y H Q => (∃ a o, y = .ref a ∧ DGet H a x o ∧ Q (.bl o.isSome) H) ∨ rIn K false x y H Q
theorem kInG {X : Cx} {K : PySem.W.Frag} (hu : X.A.units + 1 < cLine) (h : X.K = K := by rfl) : OpR X (compareOp .In) (rInG K) := by
  subst h
  intro pins s σ H x y v u Q I rx ry hq
  rcases hq with ⟨a, o, rfl, g, q⟩ | hq
  · obtain rfl : u = Value.ref a := ry
    exact d_in hu I g rx fun s3 I3 => ⟨.bl o.isSome, H, I3, rfl, q⟩
  · exact op_in_seq pins s σ H x y v u Q I rx ry hq
section
variable {K : PySem.W.Frag} {g g1 : TG} {tt tt1 : TT} {te : TE} {vs vs1 : List Nat} {σ σ2 : L2.St} {wi1 : TI}
def In2 (J : It) (g1 : TG) (tt1 : TT) (te : TE) (vs1 : List Nat) (σ2 : L2.St) (D : Addr) (Nx : Hp → Prop) (H4 : Hp) : Prop := ∃ W1 : Nat → Nat → Hp → Prop, (∃ m, W1 0 m H4) ∧ ∀ j k H, W1 j k H →
  (J.stop j H ∧ Nx H) ∨ (J.go j H ∧ ∃ Nx1 : Hp → Prop, (∀ H', Nx1 H' → ∃ k', k' < k ∧ W1 (j + 1) k' H') ∧ ∀ x H', J.yld j H x H' → g1 x (wipe σ2 vs1) H' fun σ3 H5 => wipe σ3 vs1 = wipe σ2 vs1 ∧ tt1 σ3 H5 fun b H6 =>
    if b = true then te σ3 H6 fun y H7 => ∃ acc, H7 D = some (.lst acc) ∧ acc.length < sizeLine ∧ Nx1 (upd H7 D (.lst (acc ++ [y]))) else Nx1 H6)
theorem in2_tup {a : Addr} {xs : List V} {D : Addr} {Nx : Hp → Prop} {H4 : Hp} (Pv : Nat → Hp → Prop) (h0 : Pv 0 H4) (hl : ∀ j Hj, j ≤ xs.length → Pv j Hj → SqT K Hj a xs)
    (hs : ∀ j x Hj, xs[j]? = some x → Pv j Hj → g1 x (wipe σ2 vs1) Hj fun σ3 H5 => wipe σ3 vs1 = wipe σ2 vs1 ∧ tt1 σ3 H5 fun b H6 =>
      if b = true then te σ3 H6 fun y H7 => ∃ acc, H7 D = some (.lst acc) ∧ acc.length < sizeLine ∧ Pv (j + 1) (upd H7 D (.lst (acc ++ [y]))) else Pv (j + 1) H6)
    (hd : ∀ Hj, Pv xs.length Hj → Nx Hj) : In2 (Itt K a) g1 tt1 te vs1 σ2 D Nx H4 := by
  refine ⟨fun j m Hj => m = xs.length - j ∧ j ≤ xs.length ∧ Pv j Hj, ⟨_, rfl, Nat.zero_le _, h0⟩, ?_⟩
  rintro j m Hj ⟨em, hj, p⟩
  have q := hl j Hj hj p
  by_cases l : j < xs.length
  · refine Or.inr ⟨⟨xs, xs[j], q, by simp [l]⟩, Pv (j + 1), fun H' p' => ⟨_, by omega, rfl, l, p'⟩, ?_⟩
    rintro x H' ⟨eh, hx⟩
    rw [eh]
    exact hs j x Hj (hx xs q) p
  · obtain rfl : j = xs.length := by omega
    exact Or.inl ⟨⟨xs, q, Nat.le_refl _⟩, hd Hj p⟩
theorem lc2_tup {a : Addr} {xs : List V} {D : Addr} {Qd : Hp → Prop} {H1 : Hp} (Pv : Nat → Hp → Prop) (h0 : Pv 0 (upd H1 D (.lst []))) (hl : ∀ i Hi, i ≤ xs.length → Pv i Hi → SqT K Hi a xs)
    (hs : ∀ i x Hi, xs[i]? = some x → Pv i Hi → g x (wipe σ vs) Hi fun σ2 H2 => wipe σ2 vs = wipe σ vs ∧ tt σ2 H2 fun b H3 =>
      if b = true then wi1 σ2 H3 fun J1 H4 => In2 J1 g1 tt1 te vs1 σ2 D (Pv (i + 1)) H4 else Pv (i + 1) H3)
    (hd : ∀ Hi, Pv xs.length Hi → Qd Hi) :
    ∃ W : Nat → Nat → Hp → Prop, (∃ m, W 0 m (upd H1 D (.lst []))) ∧ ∀ i m H, W i m H →
      ((Itt K a).stop i H ∧ Qd H) ∨ ((Itt K a).go i H ∧ ∃ Nx : Hp → Prop, (∀ H', Nx H' → ∃ m', m' < m ∧ W (i + 1) m' H') ∧ ∀ x H', (Itt K a).yld i H x H' → g x (wipe σ vs) H' fun σ2 H2 => wipe σ2 vs = wipe σ vs ∧ tt σ2 H2 fun b H3 =>
        if b = true then wi1 σ2 H3 fun J1 H4 => In2 J1 g1 tt1 te vs1 σ2 D Nx H4 else Nx H3) := by
  refine ⟨fun i m Hi => m = xs.length - i ∧ i ≤ xs.length ∧ Pv i Hi, ⟨_, rfl, Nat.zero_le _, h0⟩, ?_⟩
  rintro i m Hi ⟨em, hi, p⟩
  have q := hl i Hi hi p
  by_cases l : i < xs.length
  · refine Or.inr ⟨⟨xs, xs[i], q, by simp [l]⟩, Pv (i + 1), fun H' p' => ⟨_, by omega, rfl, l, p'⟩, ?_⟩
    rintro x H' ⟨eh, hx⟩
    rw [eh]
    exact hs i x Hi (hx xs q) p
  · obtain rfl : i = xs.length := by omega
    exact Or.inl ⟨⟨xs, q, Nat.le_refl _⟩, hd Hi p⟩
end
theorem entD_inv {H : Hp} {v : V} {e : Ent} (h : Td H v (entD e)) : ∃ t tr rs, v = .ref t ∧ H t = some (.tup [.str e.1, .bl e.2.1, .ref tr]) ∧ H tr = some (.tup rs) ∧ TdAll H rs (e.2.2.map refD) := by
  obtain ⟨t, xs, rfl, ht, hx⟩ := h.tup_inv
  cases hx with
  | cons h1 hx =>
    cases hx with
    | cons h2 hx =>
      cases hx with
      | cons h3 hx =>
        cases hx
        obtain ⟨tr, rs, rfl, hr, hrs⟩ := h3.tup_inv
        rw [h1.str_inv, h2.bl_inv] at ht
        exact ⟨t, tr, rs, rfl, ht, hr, hrs⟩
theorem refD_inv {H : Hp} {v : V} {r : Ref} (h : Td H v (refD r)) : ∃ t, v = .ref t ∧ H t = some (.tup [.str r.1, .str r.2]) := by
  obtain ⟨t, xs, rfl, ht, hx⟩ := h.tup_inv
  cases hx with
  | cons h1 hx =>
    cases hx with
    | cons h2 hx =>
      cases hx
      rw [h1.str_inv, h2.str_inv] at ht
      exact ⟨t, rfl, ht⟩
theorem TdAll.getM {α : Type} {H : Hp} {vs : List V} {l : List α} {f : α → PyData} {i : Nat} {v : V} (h : TdAll H vs (l.map f)) (e : vs[i]? = some v) : ∃ x, l[i]? = some x ∧ Td H v (f x) := by
  obtain ⟨d, hd, ht⟩ := h.get e
  rw [List.getElem?_map] at hd
  obtain ⟨x, hx, rfl⟩ := Option.map_eq_some_iff.mp hd
  exact ⟨x, hx, ht⟩
theorem TdAll.getM' {α : Type} {H : Hp} {vs : List V} {l : List α} {f : α → PyData} {i : Nat} {x : α} (h : TdAll H vs (l.map f)) (e : l[i]? = some x) : ∃ v, vs[i]? = some v ∧ Td H v (f x) := by
  refine h.get' (i := i) ?_
  rw [List.getElem?_map, e]
  rfl
theorem all_true (n : Nat) : (List.replicate n true).all id = true := by
  induction n with
  | zero => rfl
  | succ n ih =>
    rw [List.replicate_succ, List.all_cons, ih]
    rfl
theorem rep_bl (n : Nat) : List.replicate n (V.bl true) = (List.replicate n true).map V.bl := by rw [List.map_replicate]
theorem rep_snoc {α : Type} (n : Nat) (x : α) : List.replicate n x ++ [x] = List.replicate (n + 1) x := (List.replicate_succ' (n := n) (a := x)).symm
end My
namespace My
open PySem L2
def sFlds (tv : V) (de : Addr) : List (Str × V) := putF "_entries" (.ref de) (putF "_tables" tv [])
theorem s_ne1 : ¬ (("_entries" : Str) = "_tables") := by decide +kernel
theorem s_ne2 : ¬ (("_tables" : Str) = "_entries") := by decide +kernel
theorem sFlds_t (tv : V) (de : Addr) : (sFlds tv de).lookup ("_tables" : Str) = some tv := by
  unfold sFlds
  rw [lookup_putF, if_neg s_ne2, lookup_putF, if_pos rfl]
theorem sFlds_e (tv : V) (de : Addr) : (sFlds tv de).lookup ("_entries" : Str) = some (.ref de) := by
  unfold sFlds
  rw [lookup_putF, if_pos rfl]
theorem sFlds_no (tv : V) (de : Addr) {m : Str} (h1 : ¬ m = "_entries") (h2 : ¬ m = "_tables") : (sFlds tv de).lookup m = none := by
  unfold sFlds
  rw [lookup_putF, if_neg h1, lookup_putF, if_neg h2]
  rfl
structure EntsAt (H : Hp) (kvs : List (Key × V)) (pl : Plan) : Prop where
  keys : kvs.map (·.1) = pl.map fun e => (Sum.inr e.1 : Key)
  vals : TdAll H (kvs.map (·.2)) (pl.map entD)
structure SchAt (C : Addr) (H : Hp) (p : Addr) (pl : Plan) : Prop where
  good : Good pl
  ex : ∃ dx tv de kvs, H p = some (.ins C dx (sFlds tv de)) ∧ Td H tv (planD pl) ∧ H de = some (.dK kvs) ∧ EntsAt H kvs pl
theorem SchAt.fr {C p a : Addr} {H H' : Hp} {pl : Plan} {xs : List V} (S : SchAt C H p pl) (e : Fr1 a H H') (ha : H a = some (.lst xs)) : SchAt C H' p pl := by
  obtain ⟨dx, tv, de, kvs, h1, h2, h3, h4⟩ := S.ex
  have kt := e.kt ha
  exact ⟨S.good, dx, tv, de, kvs, e p _ (ne_of h1 ha (by intro z; cases z)) h1, h2.mono kt, e de _ (ne_of h3 ha (by intro z; cases z)) h3, h4.keys, h4.vals.mono kt⟩
theorem SchAt.same {C p : Addr} {H H' : Hp} {pl : Plan} (S : SchAt C H p pl) (e : Same H H') : SchAt C H' p pl := by
  obtain ⟨dx, tv, de, kvs, h1, h2, h3, h4⟩ := S.ex
  exact ⟨S.good, dx, tv, de, kvs, e p _ h1, h2.kt_same e, e de _ h3, h4.keys, h4.vals.mono (KT.of e)⟩
theorem SchAt.ins {C p : Addr} {H : Hp} {pl : Plan} (S : SchAt C H p pl) : ∃ dx fs, H p = some (.ins C dx fs) := by
  obtain ⟨dx, tv, de, kvs, h1, _⟩ := S.ex
  exact ⟨_, _, h1⟩
theorem valV_mem {kvs : List (Key × V)} {pl : Plan} (hk : kvs.map (·.1) = pl.map fun e => (Sum.inr e.1 : Key)) (nd : (pl.map (·.1)).Nodup) : ∀ {H : Hp}, TdAll H (kvs.map (·.2)) (pl.map entD) → ∀ e ∈ pl, ∃ v, valV kvs (Sum.inr e.1) = some v ∧ Td H v (entD e) := by
  induction kvs generalizing pl with
  | nil =>
    intro H _ e he
    cases pl with
    | nil => cases he
    | cons _ _ => simp at hk
  | cons q r ih =>
    intro H ht e he
    cases pl with
    | nil => cases he
    | cons e0 pr =>
      rw [List.map_cons, List.map_cons] at hk ht
      have hk1 : q.1 = Sum.inr e0.1 := (List.cons.inj hk).1
      have hk2 := (List.cons.inj hk).2
      rw [List.map_cons] at nd
      obtain ⟨nd1, nd2⟩ := List.nodup_cons.mp nd
      cases ht with
      | cons h1 h2 =>
        by_cases c : e.1 = e0.1
        · have ee : e = e0 := by
            rcases List.mem_cons.mp he with h | h
            · exact h
            · exact absurd (List.mem_map.mpr ⟨e, h, c⟩) nd1
          subst ee
          refine ⟨q.2, ?_, h1⟩
          unfold valV
          simp [hk1]
        · rcases List.mem_cons.mp he with h | h
          · exact absurd (by rw [h]) c
          · obtain ⟨v, hv, hT⟩ := ih hk2 nd2 h2 e h
            refine ⟨v, ?_, hT⟩
            rw [← hv]
            unfold valV
            have : ¬ q.1 = Sum.inr e.1 := by
              rw [hk1]
              intro z
              exact c (Sum.inr.inj z).symm
            simp [this]
theorem valV_no {kvs : List (Key × V)} {pl : Plan} (hk : kvs.map (·.1) = pl.map fun e => (Sum.inr e.1 : Key)) {w : Str} (h : w ∉ pl.map (·.1)) : valV kvs (Sum.inr w) = none := by
  cases c : valV kvs (Sum.inr w : Key) with
  | none => rfl
  | some v =>
    have := valV_in c
    rw [hk] at this
    obtain ⟨e, he, ee⟩ := List.mem_map.mp this
    exact absurd (List.mem_map.mpr ⟨e, he, Sum.inr.inj ee⟩) h
theorem EntsAt.get {H : Hp} {kvs : List (Key × V)} {pl : Plan} (h : EntsAt H kvs pl) (g : Good pl) {e : Ent} (he : e ∈ pl) : ∃ v, valV kvs (Sum.inr e.1) = some v ∧ Td H v (entD e) := valV_mem h.keys g.nd h.vals e he
end My
namespace My
open PySem PySem.Spec PyProof.Rows L2
section
variable {X : Cx} {k : Nat} {C : Addr} {sp : Sp}
def rInOwn (C : Addr) (sp : Sp) : R2 := fun x y H Q => ∃ a dx fs, y = .ref a ∧ H a = some (.ins C dx fs) ∧ sp [.ref a, x] H (fun v H2 => ∃ b, v = .bl b ∧ Q (.bl b) H2) E0
theorem op_inOwn (G : MethOk X.prog X.w X.K X.mg X.base k C "__contains__" sp) (hr : Room k X.A) : OpR X (compareOp .In) (rInOwn C sp) := by
  obtain ⟨f, fd, ps, F, hm, hb, c⟩ := G.ex
  intro pins s σ H x y v u Q I rx ry h
  obtain ⟨a, dx, fs, rfl, ha, h⟩ := h
  obtain rfl : u = Value.ref a := ry
  obtain ⟨m, fr⟩ := I.fr
  obtain ⟨mA, O, _⟩ := ins_get I.hok ha
  obtain ⟨od, J, _⟩ := O.look
  refine PySem.W.in_K fr I.ok.mod.kin J hm.at_ hm.fn (thn (run_fn (us := [.ref a, v]) (vs := [.ref a, x]) F hr hb .nil pass0 I (.cons rfl (.cons rx .nil)) h) fun r s1 ⟨z, H1, I1, r1, b, ez, q⟩ => ?_)
  subst ez
  cases r1
  exact wpAny_truthy_bool ⟨.bl b, H1, I1, rfl, q⟩
def rSetOwn (C : Addr) (sp : Sp) : V → V → V → Hp → (Hp → Prop) → Prop := fun o i v H Q => ∃ a dx fs, o = .ref a ∧ H a = some (.ins C dx fs) ∧ sp [.ref a, i, v] H (fun _ H2 => Q H2) E0
theorem set_own (G : MethOk X.prog X.w X.K X.mg X.base k C "__setitem__" sp) (hr : Room k X.A) (hq : PySem.W.noSeq X.K C = true) : PSet X (rSetOwn C sp) := by
  obtain ⟨f, fd, ps, F, hm, hb, c⟩ := G.ex
  intro pins s σ H o i v ov iv u Q I ro ri rv h
  obtain ⟨a, dx, fs, rfl, ha, h⟩ := h
  obtain rfl : ov = Value.ref a := ro
  obtain ⟨m, fr⟩ := I.fr
  obtain ⟨mA, O, _⟩ := ins_get I.hok ha
  obtain ⟨od, J, _⟩ := O.look
  exact PySem.W.ksp_setItem fr I.ok.mod.kin J hq hm.at_ hm.fn (thn (run_fn (us := [.ref a, iv, u]) (vs := [.ref a, i, v]) F hr hb .nil pass0 I (.cons rfl (.cons ri (.cons rv .nil))) h) fun r s1 ⟨z, H1, I1, r1, q⟩ => ⟨H1, I1, q⟩)
def rGetOwn (C : Addr) (sp : Sp) : R2 := fun x y H Q => ∃ a dx fs, x = .ref a ∧ H a = some (.ins C dx fs) ∧ sp [.ref a, y] H Q E0
theorem kDict {K : PySem.W.Frag} (h : X.K = K := by rfl) : CallR X (.type "dict") (fun xs H Q => ∃ (a : Addr) (kvs : List (Key × V)), xs = [.ref a] ∧ Rd H a (.dK kvs) ∧ ∀ p, H p = none → Q (.ref p) (upd H p (.dK kvs))) := by
  subst h
  exact call_dictD
end
def TupX (a : Addr) (ws : List Str) : HO := .ext fun h => ws.length ≤ sizeLine ∧ ∃ its : List Value, Vals (ws.map V.str) its ∧ h.get? a = some ({ cls := .type "tuple", data := .seq its.toArray } : Obj)
section
variable {X : Cx} {pins : List (Addr × Obj)} {σ : L2.St} {H : Hp} {s : Shared}
theorem tupX_at {a : Addr} {ws : List Str} (I : Inv X pins σ H s) (h : H a = some (TupX a ws)) : ws.length ≤ sizeLine ∧ ∃ its : List Value, Vals (ws.map V.str) its ∧ s.heap.get? a = some ({ cls := .type "tuple", data := .seq its.toArray } : Obj) := (I.hok a _ h).1
def rTupX (K : PySem.W.Frag) : List V → Hp → VK → Prop := fun xs H Q => ∃ (p : Addr) (ws : List Str), xs = [.ref p] ∧ SqL K H p (ws.map V.str) ∧ ∀ l, H l = none → Q (.ref l) (upd H l (TupX l ws))
theorem kTupX {K : PySem.W.Frag} (hK : X.K = K := by rfl) : CallR X (.type "tuple") (rTupX K) := by
  subst hK
  intro pins s0 σ H0 xs us Q I0 r0 h0
  obtain ⟨p, ws, rfl, hq, q⟩ := h0
  obtain ⟨u, rfl, rx⟩ := vals1 r0
  cases rx
  obtain ⟨its, ri, pl, hz⟩ := I0.list hq
  have hn := ri.length
  rw [List.length_map] at hn hz
  refine call_tuple_list pl.isList (fun h9 kp => ?_) (by simp only [List.size_toArray]; omega)
  have I1 : Inv X pins σ H0 { s0 with heap := h9 } := I0.kept (t' := s0.toks) kp
  have hget : (h9.push ({ cls := .type "tuple", data := .seq its.toArray } : Obj)).get? h9.objs.size = some ({ cls := .type "tuple", data := .seq its.toArray } : Obj) := Heap.get?_push_size _ rfl
  have I2 : Inv X pins σ (upd H0 h9.objs.size (TupX h9.objs.size ws)) { s0 with heap := h9.push { cls := .type "tuple", data := .seq its.toArray } } :=
    I1.laid (t' := s0.toks) (fun b o e => Heap.get?_push_of_some _ e) (Nat.le_refl _) ⟨⟨hz, its, ri, hget⟩, ⟨_, hget⟩, fun h1 h2 ⟨z1, z2, z3, z4⟩ k => ⟨z1, z2, z3, k _ z4⟩⟩
  exact ⟨.ref h9.objs.size, _, I2, rfl, q _ (I1.hok.fresh (Nat.le_refl _))⟩
theorem call_lenX : CallR X (.builtin "len") (fun xs H Q => ∃ (p : Addr) (ws : List Str), xs = [.ref p] ∧ H p = some (TupX p ws) ∧ Q (.int ws.length) H) := by
  intro pins s0 σ H0 xs us Q I0 r0 h0
  obtain ⟨p, ws, rfl, hq, q⟩ := h0
  obtain ⟨u, rfl, rx⟩ := vals1 r0
  cases rx
  have l63 := line63
  obtain ⟨hz, its, ri, hg⟩ := tupX_at I0 hq
  have hn := ri.length
  rw [List.length_map] at hn
  exact len_tuple ⟨_, hg, rfl, _, rfl⟩ (by simp only [List.size_toArray]; omega) ⟨.int ws.length, H0, I0.tok _, ⟨s0.toks + 1, by rw [List.size_toArray, hn]⟩, q⟩
def tIdxX (to : TE) (t : TA) : TE := fun σ H Q => to σ H fun x H1 => ∃ (p : Addr) (ws : List Str), x = .ref p ∧ H1 p = some (TupX p ws) ∧ t σ H1 fun vs H2 => H2 p = some (TupX p ws) ∧ ∃ (z : Str) (j : Nat), vs = [.str z] ∧ ws[j]? = some z ∧ (∀ m, m < j → ws[m]? ≠ some z) ∧ Q (.int (j : Nat)) H2
theorem pe_idxX {o e : Expr} {to : TE} {t : TA} {apos cpos : Pos} (ho : PE X o to) (ha : PA X [e] t) (hbase : attributeBase o "index" X.env (eval o X.env) = eval o X.env := by rfl)
    (hfew : ((backTo cpos (starEach [e] X.env)).all (fun x => !x.1) && (backToKw cpos (keywordEach [] X.env)).all (fun x => x.1.isSome)
      && decide ([e].length + ([] : List Keyword).length + (if ([] : List Keyword).isEmpty then 0 else 1) < 30)) = true := by rfl)
    (hline : (apos.endLine == cpos.line) = true := by rfl) (hs : starEach [e] X.env = (false, eval e X.env) :: starEach [] X.env := by rfl) (hplain : (backTo cpos (starEach [] X.env)).any (·.1) = false := by rfl) :
    PE X (.Call (.Attribute o "index" apos) [e] [] cpos) (tIdxX to t) := by
  refine ⟨fun pins s0 σ H0 Q I0 h0 => ?_⟩
  refine wpAny_Call_method_late hbase hfew hline rfl (thn (ho.run pins s0 σ H0 _ I0 h0) fun v s1 ⟨x, H1, I1, r1, p, ws, ex, hX, q1⟩ => ?_)
  subst ex
  cases r1
  obtain ⟨hz, its, ri, hg⟩ := tupX_at I1 hX
  refine ⟨"tuple", "tuple.index", PySem.F.plainAttrs_tuple, PySem.F.slot_tuple_index, PySem.F.type_tuple_index, ⟨_, hg, rfl⟩, fun a ea => ?_, ?_⟩
  · cases ea
    exact ⟨_, hg, rfl⟩
  have hA := ha.run cpos pins s1 σ H1 _ I1 q1
  rw [hs] at hA ⊢
  refine Calls.callWith_builtin (by show (false || (backTo cpos (starEach [] X.env)).any (·.1)) = false; rw [hplain]; rfl) (Calls.evalArgs_plain ?_)
  refine thn hA fun us s2 ⟨vs, H2, I2, r2, hX2, z, j, ev, hj, hno, q⟩ => ?_
  subst ev
  obtain ⟨u, rfl, tk, rfl⟩ := vals1 r2
  obtain ⟨_, its2, rj, hg2⟩ := tupX_at I2 hX2
  have hl : its2.toArray.size = ws.length := by rw [List.size_toArray, ← rj.length, List.length_map]
  have hjs : j < its2.toArray.size := by rw [hl]; exact (List.getElem?_eq_some_iff.mp hj).1
  have each : ∀ (m : Nat) (hm : m < its2.toArray.size), ∃ y t', ws[m]? = some y ∧ its2.toArray[m] = Value.str y t' := fun m hm => by
    have hmw : m < ws.length := by rw [← hl]; exact hm
    obtain ⟨w, hw, t', ew⟩ := rj.get (i := m) (x := .str ws[m]) (by simp [hmw])
    refine ⟨ws[m], t', List.getElem?_eq_getElem hmw, ?_⟩
    rw [← ew, ← (List.getElem?_eq_some_iff.mp hw).2]
    simp
  refine call_meets PySem.F.slot_tuple_index ⟨_, hg2, rfl⟩ PySem.F.entry_tuple_index (PySem.F.args_tuple_index_2 _ _) (TI.tuple_indexAt p its2.toArray 0 none #[] (.str z tk) (eqU (.str z)) j hjs ?_ ?_)
    ⟨hg2, fun w hw => mem_eqAt (x := .str z) ⟨tk, rfl⟩ rfl rj (flat_strs ws) w (by simpa using hw), ⟨.int (j : Nat), H2, I2.tok _, ⟨_, rfl⟩, q⟩⟩
  · obtain ⟨y, t', h1, h2⟩ := each j hjs
    rw [hj] at h1
    cases h1
    rw [h2]
    exact beq_self_eq_true z
  · intro m hm hmj
    obtain ⟨y, t', h1, h2⟩ := each m hm
    rw [h2]
    exact beq_eq_false_iff_ne.mpr fun e => hno m hmj (e ▸ h1)
end
def FrF (F : List Addr) (H H' : Hp) : Prop := ∀ c o, c ∉ F → H c = some o → H' c = some o
theorem FrF.refl (F : List Addr) (H : Hp) : FrF F H H := fun _ _ _ h => h
theorem FrF.trans {F : List Addr} {H H1 H2 : Hp} (e : FrF F H H1) (f : FrF F H1 H2) : FrF F H H2 := fun c o n h => f c o n (e c o n h)
theorem FrF.of {F : List Addr} {H H' : Hp} (e : Same H H') : FrF F H H' := fun c o _ h => e c o h
theorem FrF.same {F : List Addr} {H H1 H2 : Hp} (e : Same H H1) (f : FrF F H1 H2) (n : ∀ c ∈ F, H c = none) : Same H H2 := fun c o h => f c o (fun m => by
  rw [n c m] at h
  cases h) (e c o h)
theorem FrF.at {F : List Addr} {H H' : Hp} {a : Addr} {o : HO} (e : FrF F H H') (m : a ∈ F) : FrF F H (upd H' a o) := fun c u n h => by
  rw [upd_ne (fun z => n (by rw [z]; exact m))]
  exact e c u n h
structure Kept (F : List Addr) (H H' : Hp) : Prop where
  ob : ∀ c ∈ F, ∀ o, H c = some o → H' c = some o
  kt : KT H H'
theorem Kept.of {F : List Addr} {H H' : Hp} (e : Same H H') : Kept F H H' := ⟨fun c _ o h => e c o h, KT.of e⟩
theorem FrF.kept {F G : List Addr} {H H' : Hp} (e : FrF F H H') (d : ∀ c ∈ G, c ∉ F) (n : ∀ c ∈ F, ∀ xs, H c ≠ some (.tup xs)) : Kept G H H' :=
  ⟨fun c m o h => e c o (d c m) h, fun c xs h => e c _ (fun m => n c m xs h) h⟩
theorem Same.unlock {d : Addr} {od : Obj} {u : HO} {H H' : Hp} (e : Same (L2.upd H d (.frz od u)) H') (h : H d = some u) : Same H (L2.upd H' d u) := fun c o hc => by
  by_cases z : c = d
  · rw [z, upd_same]
    rw [z, h] at hc
    exact hc
  · rw [upd_ne z]
    exact e c o (by rw [upd_ne z]; exact hc)
theorem Same.locked {d : Addr} {od : Obj} {kvs : List (Key × V)} {H : Hp} (h : H d = some (.dK kvs)) : KT H (L2.upd H d (.frz od (.dK kvs))) := fun c xs hc => by
  rw [upd_ne (ne_of hc h (by intro z; cases z))]
  exact hc
section
variable {g : TG} {tt : TT} {te tk tv : TE} {tb : TS} {vs : List Nat} {σ : L2.St} {H1 : Hp} {D d : Addr} {Qd : Hp → Prop} {o : Obj} {kvs : List (Key × V)} {Dn : Ends}
theorem lc_keys (Pv : Nat → Hp → Prop) (h0 : Pv 0 (upd H1 D (.lst []))) (hl : ∀ i Hi, i ≤ kvs.length → Pv i Hi → Hi d = some (.frz o (.dK kvs)))
    (hs : ∀ i k v Hi, kvs[i]? = some (k, v) → Pv i Hi → g (kV k) (wipe σ vs) Hi fun σ2 H2 => wipe σ2 vs = wipe σ vs ∧ tt σ2 H2 fun b H3 =>
      if b = true then te σ2 H3 fun y H4 => ∃ acc, H4 D = some (.lst acc) ∧ acc.length < sizeLine ∧ Pv (i + 1) (upd H4 D (.lst (acc ++ [y]))) else Pv (i + 1) H3)
    (hd : ∀ Hi, Pv kvs.length Hi → Qd Hi) :
    ∃ W : Nat → Nat → Hp → Prop, (∃ m, W 0 m (upd H1 D (.lst []))) ∧ ∀ i m Hi, W i m Hi →
      ((Itk d o kvs).stop i Hi ∧ Qd Hi) ∨ ((Itk d o kvs).go i Hi ∧ ∃ Nx : Hp → Prop, (∀ H', Nx H' → ∃ m', m' < m ∧ W (i + 1) m' H') ∧ ∀ v H', (Itk d o kvs).yld i Hi v H' → g v (wipe σ vs) H' fun σ2 H2 => wipe σ2 vs = wipe σ vs ∧ tt σ2 H2 fun b H3 =>
        if b = true then te σ2 H3 fun y H4 => ∃ acc, H4 D = some (.lst acc) ∧ acc.length < sizeLine ∧ Nx (upd H4 D (.lst (acc ++ [y]))) else Nx H3) := by
  refine ⟨fun i m Hi => m = kvs.length - i ∧ i ≤ kvs.length ∧ Pv i Hi, ⟨_, rfl, Nat.zero_le _, h0⟩, ?_⟩
  rintro i m Hi ⟨em, hi, p⟩
  have q := hl i Hi hi p
  by_cases l : i < kvs.length
  · refine Or.inr ⟨⟨q, l⟩, Pv (i + 1), fun H' p' => ⟨_, by omega, rfl, l, p'⟩, ?_⟩
    rintro x H' ⟨eh, k, v, hk, rfl⟩
    rw [eh]
    exact hs i k v Hi hk p
  · obtain rfl : i = kvs.length := by omega
    exact Or.inl ⟨⟨q, Nat.le_refl _⟩, hd Hi p⟩
theorem lc_vals (Pv : Nat → Hp → Prop) (h0 : Pv 0 (upd H1 D (.lst []))) (hl : ∀ i Hi, i ≤ kvs.length → Pv i Hi → Hi d = some (.frz o (.dK kvs)))
    (hs : ∀ i k v Hi, kvs[i]? = some (k, v) → Pv i Hi → g v (wipe σ vs) Hi fun σ2 H2 => wipe σ2 vs = wipe σ vs ∧ tt σ2 H2 fun b H3 =>
      if b = true then te σ2 H3 fun y H4 => ∃ acc, H4 D = some (.lst acc) ∧ acc.length < sizeLine ∧ Pv (i + 1) (upd H4 D (.lst (acc ++ [y]))) else Pv (i + 1) H3)
    (hd : ∀ Hi, Pv kvs.length Hi → Qd Hi) :
    ∃ W : Nat → Nat → Hp → Prop, (∃ m, W 0 m (upd H1 D (.lst []))) ∧ ∀ i m Hi, W i m Hi →
      ((Itd d o kvs).stop i Hi ∧ Qd Hi) ∨ ((Itd d o kvs).go i Hi ∧ ∃ Nx : Hp → Prop, (∀ H', Nx H' → ∃ m', m' < m ∧ W (i + 1) m' H') ∧ ∀ v H', (Itd d o kvs).yld i Hi v H' → g v (wipe σ vs) H' fun σ2 H2 => wipe σ2 vs = wipe σ vs ∧ tt σ2 H2 fun b H3 =>
        if b = true then te σ2 H3 fun y H4 => ∃ acc, H4 D = some (.lst acc) ∧ acc.length < sizeLine ∧ Nx (upd H4 D (.lst (acc ++ [y]))) else Nx H3) := by
  refine ⟨fun i m Hi => m = kvs.length - i ∧ i ≤ kvs.length ∧ Pv i Hi, ⟨_, rfl, Nat.zero_le _, h0⟩, ?_⟩
  rintro i m Hi ⟨em, hi, p⟩
  have q := hl i Hi hi p
  by_cases l : i < kvs.length
  · refine Or.inr ⟨⟨q, l⟩, Pv (i + 1), fun H' p' => ⟨_, by omega, rfl, l, p'⟩, ?_⟩
    rintro x H' ⟨eh, k, hk⟩
    rw [eh]
    exact hs i k x Hi hk p
  · obtain rfl : i = kvs.length := by omega
    exact Or.inl ⟨⟨q, Nat.le_refl _⟩, hd Hi p⟩
theorem dc_keys (Pv : Nat → Hp → Prop) (h0 : Pv 0 (upd H1 D (.dK []))) (hl : ∀ i Hi, i ≤ kvs.length → Pv i Hi → Hi d = some (.frz o (.dK kvs)))
    (hs : ∀ i k v Hi, kvs[i]? = some (k, v) → Pv i Hi → g (kV k) (wipe σ vs) Hi fun σ2 H2 => wipe σ2 vs = wipe σ vs ∧ tt σ2 H2 fun b H3 =>
      if b = true then tk σ2 H3 fun y H4 => tv σ2 H4 fun z H5 => ∃ kvs k, y = kV k ∧ H5 D = some (.dK kvs) ∧ kvs.length < sizeLine ∧ Pv (i + 1) (upd H5 D (.dK (putK kvs k z))) else Pv (i + 1) H3)
    (hd : ∀ Hi, Pv kvs.length Hi → Qd Hi) :
    ∃ W : Nat → Nat → Hp → Prop, (∃ m, W 0 m (upd H1 D (.dK []))) ∧ ∀ i m Hi, W i m Hi →
      ((Itk d o kvs).stop i Hi ∧ Qd Hi) ∨ ((Itk d o kvs).go i Hi ∧ ∃ Nx : Hp → Prop, (∀ H', Nx H' → ∃ m', m' < m ∧ W (i + 1) m' H') ∧ ∀ v H', (Itk d o kvs).yld i Hi v H' → g v (wipe σ vs) H' fun σ2 H2 => wipe σ2 vs = wipe σ vs ∧ tt σ2 H2 fun b H3 =>
        if b = true then tk σ2 H3 fun y H4 => tv σ2 H4 fun z H5 => ∃ kvs k, y = kV k ∧ H5 D = some (.dK kvs) ∧ kvs.length < sizeLine ∧ Nx (upd H5 D (.dK (putK kvs k z))) else Nx H3) := by
  refine ⟨fun i m Hi => m = kvs.length - i ∧ i ≤ kvs.length ∧ Pv i Hi, ⟨_, rfl, Nat.zero_le _, h0⟩, ?_⟩
  rintro i m Hi ⟨em, hi, p⟩
  have q := hl i Hi hi p
  by_cases l : i < kvs.length
  · refine Or.inr ⟨⟨q, l⟩, Pv (i + 1), fun H' p' => ⟨_, by omega, rfl, l, p'⟩, ?_⟩
    rintro x H' ⟨eh, k, v, hk, rfl⟩
    rw [eh]
    exact hs i k v Hi hk p
  · obtain rfl : i = kvs.length := by omega
    exact Or.inl ⟨⟨q, Nat.le_refl _⟩, hd Hi p⟩
theorem for_vals (Pv : Nat → L2.St → Hp → Prop) (h0 : Pv 0 σ H1) (hl : ∀ i σ' Hi, i ≤ kvs.length → Pv i σ' Hi → Hi d = some (.frz o (.dK kvs)))
    (hs : ∀ i k v σ' Hi, kvs[i]? = some (k, v) → Pv i σ' Hi → g v σ' Hi fun σ2 H2 => tb { Dn with nx := Pv (i + 1), ct := Pv (i + 1), bk := Dn.nx } σ2 H2) (hd : ∀ σ' Hi, Pv kvs.length σ' Hi → Dn.nx σ' Hi) :
    ∃ W : Nat → Nat → L2.St → Hp → Prop, (∃ m, W 0 m σ H1) ∧ ∀ i m σ' Hi, W i m σ' Hi →
      ((Itd d o kvs).stop i Hi ∧ Dn.nx σ' Hi) ∨ ((Itd d o kvs).go i Hi ∧ ∃ N : L2.St → Hp → Prop, (∀ σ2 H', N σ2 H' → ∃ m', m' < m ∧ W (i + 1) m' σ2 H') ∧ ∀ x H', (Itd d o kvs).yld i Hi x H' → g x σ' H' fun σ2 H2 => tb { Dn with nx := N, ct := N, bk := Dn.nx } σ2 H2) := by
  refine ⟨fun i m σ' Hi => m = kvs.length - i ∧ i ≤ kvs.length ∧ Pv i σ' Hi, ⟨_, rfl, Nat.zero_le _, h0⟩, ?_⟩
  rintro i m σ' Hi ⟨em, hi, p⟩
  have q := hl i σ' Hi hi p
  by_cases l : i < kvs.length
  · refine Or.inr ⟨⟨q, l⟩, Pv (i + 1), fun σ2 H' p' => ⟨_, by omega, rfl, l, p'⟩, ?_⟩
    rintro x H' ⟨eh, k, hk⟩
    rw [eh]
    exact hs i k x σ' Hi hk p
  · obtain rfl : i = kvs.length := by omega
    exact Or.inl ⟨⟨q, Nat.le_refl _⟩, hd σ' Hi p⟩
end
theorem valV_at {kvs : List (Key × V)} (nd : (kvs.map (·.1)).Nodup) {i : Nat} {k : Key} {v : V} (h : kvs[i]? = some (k, v)) : valV kvs k = some v := by
  induction kvs generalizing i with
  | nil => simp at h
  | cons q r ih =>
    rw [List.map_cons] at nd
    obtain ⟨n1, n2⟩ := List.nodup_cons.mp nd
    cases i with
    | zero =>
      have h : q = (k, v) := Option.some.inj h
      subst h
      exact valV_pos rfl
    | succ i =>
      have hm : (k, v) ∈ r := List.mem_of_getElem? (i := i) h
      have : ¬ q.1 = k := fun z => n1 (by rw [z]; exact List.mem_map.mpr ⟨_, hm, rfl⟩)
      rw [valV_neg this]
      exact ih n2 (i := i) h
end My
namespace My
open PySem L2
structure SchE (C : Addr) (H : Hp) (p : Addr) (pl : Plan) (de : Addr) : Prop where
  good : Good pl
  ex : ∃ dx tv kvs, H p = some (.ins C dx (sFlds tv de)) ∧ Td H tv (planD pl) ∧ H de = some (.dK kvs) ∧ EntsAt H kvs pl
theorem SchE.at {C p de : Addr} {H : Hp} {pl : Plan} (S : SchE C H p pl de) : SchAt C H p pl := by
  obtain ⟨dx, tv, kvs, h1, h2, h3, h4⟩ := S.ex
  exact ⟨S.good, dx, tv, de, kvs, h1, h2, h3, h4⟩
theorem SchE.keep {C p de : Addr} {H H' : Hp} {pl : Plan} (S : SchE C H p pl de) (kt : KT H H') (k1 : ∀ o, H p = some o → H' p = some o) (k2 : ∀ o, H de = some o → H' de = some o) : SchE C H' p pl de := by
  obtain ⟨dx, tv, kvs, h1, h2, h3, h4⟩ := S.ex
  exact ⟨S.good, dx, tv, kvs, k1 _ h1, h2.mono kt, k2 _ h3, h4.keys, h4.vals.mono kt⟩
def cellD : Option Int → PyData
  | none => .none
  | some i => .int i
def rowD (lab : Int) (cs : List (Option Int)) : PyData := .tuple [.int lab, .tuple (cs.map cellD)]
structure GoodRow (w : Nat) (lab : Int) (cs : List (Option Int)) : Prop where
  lo : 0 ≤ lab
  hi : lab < 1000000000000000000000000000000
  len : cs.length = w
  key : ∀ x, some x ∈ cs → 1 ≤ x
structure RowsAt (H : Hp) (kvs : List (Key × V)) (w : Nat) : Prop where
  nd : (kvs.map (·.1)).Nodup
  row : ∀ q ∈ kvs, ∃ (k lab : Int) (cs : List (Option Int)), q.1 = Sum.inl k ∧ 1 ≤ k ∧ Td H q.2 (rowD lab cs) ∧ GoodRow w lab cs
theorem RowsAt.mono {H H' : Hp} {kvs : List (Key × V)} {w : Nat} (r : RowsAt H kvs w) (kt : KT H H') : RowsAt H' kvs w := ⟨r.nd, fun q hq => by
  obtain ⟨k, lab, cs, h1, h2, h3, h4⟩ := r.row q hq
  exact ⟨k, lab, cs, h1, h2, h3.mono kt, h4⟩⟩
theorem RowsAt.nil (H : Hp) (w : Nat) : RowsAt H [] w := ⟨List.nodup_nil, by simp⟩
theorem rowD_inv {H : Hp} {v : V} {lab : Int} {cs : List (Option Int)} (h : Td H v (rowD lab cs)) : ∃ t tc xs, v = .ref t ∧ H t = some (.tup [.int lab, .ref tc]) ∧ H tc = some (.tup xs) ∧ TdAll H xs (cs.map cellD) := by
  obtain ⟨t, xs, rfl, ht, hx⟩ := h.tup_inv
  cases hx with
  | cons h1 hx =>
    cases hx with
    | cons h2 hx =>
      cases hx
      obtain ⟨tc, ys, rfl, hc, hy⟩ := h2.tup_inv
      rw [h1.int_inv] at ht
      exact ⟨t, tc, ys, rfl, ht, hc, hy⟩
def cellV : Option Int → V
  | none => .non
  | some i => .int i
theorem cellD_inv {H : Hp} {v : V} {c : Option Int} (h : Td H v (cellD c)) : v = cellV c := by
  cases c with
  | none =>
    cases h
    rfl
  | some i =>
    cases h
    rfl
theorem cellD_of {H : Hp} (c : Option Int) : Td H (cellV c) (cellD c) := by
  cases c with
  | none => exact .non
  | some i => exact .int i
def dFlds (sp dr : Addr) : List (Str × V) := putF "_rows" (.ref dr) (putF "_schema" (.ref sp) [])
theorem d_ne1 : ¬ (("_rows" : Str) = "_schema") := by decide +kernel
theorem d_ne2 : ¬ (("_schema" : Str) = "_rows") := by decide +kernel
theorem dFlds_s (sp dr : Addr) : (dFlds sp dr).lookup ("_schema" : Str) = some (.ref sp) := by
  unfold dFlds
  rw [lookup_putF, if_neg d_ne2, lookup_putF, if_pos rfl]
theorem dFlds_r (sp dr : Addr) : (dFlds sp dr).lookup ("_rows" : Str) = some (.ref dr) := by
  unfold dFlds
  rw [lookup_putF, if_pos rfl]
theorem dFlds_no (sp dr : Addr) {m : Str} (h1 : ¬ m = "_rows") (h2 : ¬ m = "_schema") : (dFlds sp dr).lookup m = none := by
  unfold dFlds
  rw [lookup_putF, if_neg h1, lookup_putF, if_neg h2]
  rfl
theorem dFlds_eq (sp dr : Addr) : dFlds sp dr = ([("_schema", V.ref sp), ("_rows", V.ref dr)] : List (Str × V)) := by
  show (if ("_schema" : Str) = "_rows" then [(("_schema" : Str), V.ref dr)] else (("_schema" : Str), V.ref sp) :: putF "_rows" (V.ref dr) []) = _
  rw [if_neg d_ne2]
  rfl
theorem dFlds_put (sp dr dr' : Addr) : putF "_rows" (.ref dr') (dFlds sp dr) = dFlds sp dr' := by
  rw [dFlds_eq, dFlds_eq]
  show (if ("_schema" : Str) = "_rows" then _ else (("_schema" : Str), V.ref sp) :: (if ("_rows" : Str) = "_rows" then [(("_rows" : Str), V.ref dr')] else _)) = _
  rw [if_neg d_ne2, if_pos rfl]
def rowsK (pl : Plan) (ds : List Addr) : List (Key × V) := (pl.map fun e => (Sum.inr e.1 : Key)).zip (ds.map V.ref)
theorem rowsK_keys {pl : Plan} {ds : List Addr} (h : ds.length = pl.length) : (rowsK pl ds).map (·.1) = pl.map fun e => (Sum.inr e.1 : Key) := by
  unfold rowsK
  rw [List.map_fst_zip]
  rw [List.length_map, List.length_map]
  omega
theorem rowsK_get : ∀ {pl : Plan} {ds : List Addr} {i : Nat} {e : Ent} {d : Addr}, (pl.map (·.1)).Nodup → pl[i]? = some e → ds[i]? = some d → valV (rowsK pl ds) (Sum.inr e.1) = some (.ref d)
  | [], _, _, _, _, _, h, _ => by simp at h
  | _ :: _, [], _, _, _, _, _, h => by simp at h
  | e0 :: pr, d0 :: dr, 0, e, d, _, h1, h2 => by
    have h1 : e0 = e := Option.some.inj h1
    have h2 : d0 = d := Option.some.inj h2
    subst h1
    subst h2
    exact valV_pos rfl
  | e0 :: pr, d0 :: dr, i + 1, e, d, nd, h1, h2 => by
    rw [List.map_cons] at nd
    obtain ⟨n1, n2⟩ := List.nodup_cons.mp nd
    have hm : e ∈ pr := List.mem_of_getElem? (i := i) h1
    have : ¬ (Sum.inr e0.1 : Key) = Sum.inr e.1 := fun z => n1 (by rw [Sum.inr.inj z]; exact List.mem_map.mpr ⟨e, hm, rfl⟩)
    show valV ((Sum.inr e0.1, V.ref d0) :: rowsK pr dr) _ = _
    rw [valV_neg this]
    exact rowsK_get (i := i) n2 h1 h2
structure DbAt (CD CS : Addr) (H : Hp) (p : Addr) (pl : Plan) (sp de dr : Addr) (ds : List Addr) (ct : List (List (Key × V))) : Prop where
  sch : SchE CS H sp pl de
  ob : ∃ dx, H p = some (.ins CD dx (dFlds sp dr))
  rws : H dr = some (.dK (rowsK pl ds))
  dl : ds.length = pl.length
  cl : ct.length = pl.length
  nd : ds.Nodup
  apart : dr ∉ ds ∧ de ∉ ds
  at_ : ∀ (i : Nat) (d : Addr) (kvs : List (Key × V)), ds[i]? = some d → ct[i]? = some kvs → H d = some (.dK kvs)
  ok : ∀ (i : Nat) (e : Ent) (kvs : List (Key × V)), pl[i]? = some e → ct[i]? = some kvs → RowsAt H kvs e.2.2.length
def foot (p sp de dr : Addr) (ds : List Addr) : List Addr := p :: sp :: de :: dr :: ds
theorem DbAt.keep {CD CS p sp de dr : Addr} {H H' : Hp} {pl : Plan} {ds : List Addr} {ct : List (List (Key × V))} (D : DbAt CD CS H p pl sp de dr ds ct) (k : Kept (foot p sp de dr ds) H H') : DbAt CD CS H' p pl sp de dr ds ct := by
  obtain ⟨dx, hp⟩ := D.ob
  have f : ∀ c, c ∈ foot p sp de dr ds → ∀ o, H c = some o → H' c = some o := k.ob
  refine ⟨D.sch.keep k.kt (f sp (by simp [foot])) (f de (by simp [foot])), ⟨dx, f p (by simp [foot]) _ hp⟩, f dr (by simp [foot]) _ D.rws, D.dl, D.cl, D.nd, D.apart, fun i d kvs h1 h2 => f d ?_ _ (D.at_ i d kvs h1 h2), fun i e kvs h1 h2 => (D.ok i e kvs h1 h2).mono k.kt⟩
  have := List.mem_of_getElem? h1
  simp [foot, this]
theorem DbAt.same {CD CS p sp de dr : Addr} {H H' : Hp} {pl : Plan} {ds : List Addr} {ct : List (List (Key × V))} (D : DbAt CD CS H p pl sp de dr ds ct) (e : Same H H') : DbAt CD CS H' p pl sp de dr ds ct := D.keep (Kept.of e)
end My
namespace My
open PySem L2
theorem rowsK_at : ∀ {pl : Plan} {ds : List Addr} {i : Nat} {k : Key} {v : V}, (rowsK pl ds)[i]? = some (k, v) → ∃ e d, pl[i]? = some e ∧ ds[i]? = some d ∧ k = Sum.inr e.1 ∧ v = .ref d
  | [], _, i, _, _, h => by
    unfold rowsK at h
    simp at h
  | _ :: _, [], i, _, _, h => by
    unfold rowsK at h
    simp at h
  | e0 :: pr, d0 :: dr, 0, k, v, h => by
    have h : ((Sum.inr e0.1 : Key), V.ref d0) = (k, v) := Option.some.inj h
    exact ⟨e0, d0, rfl, rfl, (congrArg Prod.fst h).symm, (congrArg Prod.snd h).symm⟩
  | e0 :: pr, d0 :: dr, i + 1, k, v, h => rowsK_at (i := i) (pl := pr) (ds := dr) h
theorem rowsK_len {pl : Plan} {ds : List Addr} (h : ds.length = pl.length) : (rowsK pl ds).length = pl.length := by
  unfold rowsK
  rw [List.length_zip, List.length_map, List.length_map]
  omega
theorem cells_td {H : Hp} : ∀ cs : List (Option Int), TdAll H (cs.map cellV) (cs.map cellD)
  | [] => .nil
  | c :: r => .cons (cellD_of c) (cells_td r)
structure HeldAt (H : Hp) (dh : Addr) (pl : Plan) (hs : List Addr) (ct : List (List (Key × V))) : Prop where
  rws : H dh = some (.dK (rowsK pl hs))
  dl : hs.length = pl.length
  cl : ct.length = pl.length
  nd : hs.Nodup
  apart : dh ∉ hs
  at_ : ∀ (i : Nat) (d : Addr) (kvs : List (Key × V)), hs[i]? = some d → ct[i]? = some kvs → H d = some (.dK kvs)
theorem HeldAt.keep {H H' : Hp} {dh : Addr} {pl : Plan} {hs : List Addr} {ct : List (List (Key × V))} (D : HeldAt H dh pl hs ct) (k : Kept (dh :: hs) H H') : HeldAt H' dh pl hs ct :=
  ⟨k.ob dh (by simp) _ D.rws, D.dl, D.cl, D.nd, D.apart, fun i d kvs h1 h2 => k.ob d (by simp [List.mem_of_getElem? h1]) _ (D.at_ i d kvs h1 h2)⟩
theorem HeldAt.same {H H' : Hp} {dh : Addr} {pl : Plan} {hs : List Addr} {ct : List (List (Key × V))} (D : HeldAt H dh pl hs ct) (e : Same H H') : HeldAt H' dh pl hs ct := D.keep (Kept.of e)
theorem ix_nd {ds : List Addr} (nd : ds.Nodup) {i j : Nat} {d : Addr} (h1 : ds[i]? = some d) (h2 : ds[j]? = some d) : i = j := by
  obtain ⟨l1, g1⟩ := List.getElem?_eq_some_iff.mp h1
  obtain ⟨l2, g2⟩ := List.getElem?_eq_some_iff.mp h2
  exact (List.getElem_inj nd).mp (g1.trans g2.symm)
theorem HeldAt.set {H : Hp} {dh d : Addr} {pl : Plan} {hs : List Addr} {ct : List (List (Key × V))} {i : Nat} {kvs : List (Key × V)} (D : HeldAt H dh pl hs ct) (hd : hs[i]? = some d) (kvs' : List (Key × V)) : HeldAt (upd H d (.dK kvs')) dh pl hs (ct.set i kvs') := by
  have n1 : dh ≠ d := fun z => D.apart (by rw [z]; exact List.mem_of_getElem? hd)
  refine ⟨by rw [upd_ne n1]; exact D.rws, D.dl, by rw [List.length_set]; exact D.cl, D.nd, D.apart, fun j d2 k2 h1 h2 => ?_⟩
  by_cases c : i = j
  · subst c
    rw [hd] at h1
    cases h1
    have hil : i < ct.length := by
      have := (List.getElem?_eq_some_iff.mp h2).1
      rw [List.length_set] at this
      exact this
    rw [List.getElem?_set_self hil] at h2
    cases h2
    exact upd_same
  · rw [List.getElem?_set_ne c] at h2
    have nd : d2 ≠ d := fun z => by
      subst z
      exact c (ix_nd D.nd hd h1)
    rw [upd_ne nd]
    exact D.at_ j d2 k2 h1 h2
structure Side where
  (p sp de dr : Addr)
  ds : List Addr
  dh : Addr
  hs : List Addr
def Side.fix (s : Side) : List Addr := [s.p, s.sp, s.de, s.dr, s.dh]
def Side.dicts (s : Side) : List Addr := s.ds ++ s.hs
structure SideAt (CD CS : Addr) (H : Hp) (pl : Plan) (s : Side) (ct : List (List (Key × V))) : Prop where
  db : DbAt CD CS H s.p pl s.sp s.de s.dr s.ds ct
  hd : HeldAt H s.dh pl s.hs ct
  nd : s.dicts.Nodup
  ap : ∀ d ∈ s.dicts, d ∉ s.fix
theorem SideAt.same {CD CS : Addr} {H H' : Hp} {pl : Plan} {s : Side} {ct : List (List (Key × V))} (S : SideAt CD CS H pl s ct) (e : Same H H') : SideAt CD CS H' pl s ct := ⟨S.db.same e, S.hd.same e, S.nd, S.ap⟩
theorem SideAt.frf {CD CS : Addr} {H H' : Hp} {pl : Plan} {s : Side} {ct : List (List (Key × V))} {F : List Addr} (S : SideAt CD CS H pl s ct) (e : FrF F H H') (nF : ∀ c ∈ F, ∀ xs, H c ≠ some (.tup xs)) (ap : ∀ c ∈ F, c ∉ s.fix ∧ c ∉ s.dicts) : SideAt CD CS H' pl s ct := by
  have k : ∀ G : List Addr, (∀ c ∈ G, c ∈ s.fix ∨ c ∈ s.dicts) → Kept G H H' := fun G hG => e.kept (fun c hc hF => by
    obtain ⟨a1, a2⟩ := ap c hF
    rcases hG c hc with h | h
    · exact a1 h
    · exact a2 h) nF
  refine ⟨S.db.keep (k _ fun c hc => ?_), S.hd.keep (k _ fun c hc => ?_), S.nd, S.ap⟩
  · simp only [foot, List.mem_cons] at hc
    simp only [Side.fix, Side.dicts, List.mem_cons, List.mem_append]
    rcases hc with h | h | h | h | h <;> simp [h]
  · simp only [List.mem_cons] at hc
    simp only [Side.fix, Side.dicts, List.mem_cons, List.mem_append]
    rcases hc with h | h <;> simp [h]
theorem SideAt.step {CD CS : Addr} {H H1 : Hp} {pl : Plan} {s : Side} {ct : List (List (Key × V))} {i : Nat} {d d2 : Addr} {kvs' : List (Key × V)} (S : SideAt CD CS H pl s ct) (hd : s.ds[i]? = some d) (hd2 : s.hs[i]? = some d2)
    (D1 : DbAt CD CS H1 s.p pl s.sp s.de s.dr s.ds (ct.set i kvs')) (e : Fr1 d H H1) : SideAt CD CS (upd H1 d2 (.dK kvs')) pl s (ct.set i kvs') := by
  have hdm : d ∈ s.ds := List.mem_of_getElem? hd
  have hdm2 : d2 ∈ s.hs := List.mem_of_getElem? hd2
  have dj := (List.nodup_append.mp S.nd).2.2
  have hi2 : i < ct.length := by rw [S.hd.cl, ← S.hd.dl]; exact (List.getElem?_eq_some_iff.mp hd2).1
  have h2 : H d2 = some (.dK ct[i]) := S.hd.at_ i d2 _ hd2 (List.getElem?_eq_getElem hi2)
  have hd0 : H d = some (.dK ct[i]) := S.db.at_ i d _ hd (List.getElem?_eq_getElem hi2)
  have n12 : d2 ≠ d := fun z => dj d hdm d2 hdm2 z.symm
  have h2' : H1 d2 = some (.dK ct[i]) := e d2 _ n12 h2
  have ap1 := S.ap d (List.mem_append.mpr (.inl hdm))
  have ap2 := S.ap d2 (List.mem_append.mpr (.inr hdm2))
  have kH : HeldAt H1 s.dh pl s.hs ct := S.hd.keep ⟨fun c hc o ho => e c o (fun z => by
    subst z
    rcases List.mem_cons.mp hc with h | h
    · exact ap1 (by simp [Side.fix, h])
    · exact dj c hdm c h rfl) ho, fun c xs hc => e c _ (ne_of hc hd0 (by intro z; cases z)) hc⟩
  refine ⟨D1.keep ⟨fun c hc o ho => ?_, fun c xs hc => ?_⟩, kH.set (kvs := kvs') hd2 kvs', S.nd, S.ap⟩
  · have : c ≠ d2 := fun z => by
      subst z
      simp only [foot, List.mem_cons] at hc
      rcases hc with h | h | h | h | h
      · exact ap2 (by simp [Side.fix, h])
      · exact ap2 (by simp [Side.fix, h])
      · exact ap2 (by simp [Side.fix, h])
      · exact ap2 (by simp [Side.fix, h])
      · exact dj c h c hdm2 rfl
    rw [upd_ne this]
    exact ho
  · rw [upd_ne (ne_of hc h2' (by intro z; cases z))]
    exact hc
end My
namespace My
open PySem L2
theorem putK_len (kvs : List (Key × V)) (k : Key) (v : V) : (putK kvs k v).length ≤ kvs.length + 1 := by
  unfold putK
  split
  · rw [List.length_map]
    omega
  · rw [List.length_append]
    exact Nat.le_refl _
theorem two_at {α : Type} (f : Nat → α) {k : Nat} (h : k < 2) : [f 0, f 1][k]? = some (f k) := by
  match k, h with
  | 0, _ => rfl
  | 1, _ => rfl
def Young (H : Hp) (ct : List (List (Key × V))) (m : Nat) : Prop := ∀ kvs ∈ ct, kvs.length ≤ m ∧ ∀ q ∈ kvs, ∃ lab cs, Td H q.2 (rowD lab cs) ∧ lab ≤ m
theorem Young.kt {H H' : Hp} {ct : List (List (Key × V))} {m : Nat} (y : Young H ct m) (kt : KT H H') : Young H' ct m := fun kvs hk => ⟨(y kvs hk).1, fun q hq => by
  obtain ⟨lab, cs, h1, h2⟩ := (y kvs hk).2 q hq
  exact ⟨lab, cs, h1.mono kt, h2⟩⟩
theorem Young.up {H : Hp} {ct : List (List (Key × V))} {m n : Nat} (y : Young H ct m) (l : m ≤ n) : Young H ct n := fun kvs hk => ⟨Nat.le_trans (y kvs hk).1 l, fun q hq => by
  obtain ⟨lab, cs, h1, h2⟩ := (y kvs hk).2 q hq
  exact ⟨lab, cs, h1, by omega⟩⟩
theorem Young.set {H : Hp} {ct : List (List (Key × V))} {m i : Nat} {kvs' : List (Key × V)} (y : Young H ct m) (h1 : kvs'.length ≤ m) (h2 : ∀ q ∈ kvs', ∃ lab cs, Td H q.2 (rowD lab cs) ∧ lab ≤ m) : Young H (ct.set i kvs') m := fun kvs hk => by
  rcases List.mem_or_eq_of_mem_set hk with h | rfl
  · exact y kvs h
  · exact ⟨h1, h2⟩
structure Two (CD CS : Addr) (H : Hp) (pl : Plan) (vp : V) (B HL : Addr) (S : Nat → Side) (C : Nat → List (List (Key × V))) (m : Nat) : Prop where
  pln : Td H vp (planD pl)
  bs : H B = some (.lst [.ref (S 0).p, .ref (S 1).p])
  hl : H HL = some (.lst [.ref (S 0).dh, .ref (S 1).dh])
  sd : ∀ k, k < 2 → SideAt CD CS H pl (S k) (C k)
  yg : ∀ k, k < 2 → Young H (C k) m
def Apart (S : Nat → Side) : Prop := ∀ k j, k < 2 → j < 2 → k ≠ j → ∀ c ∈ (S k).dicts, c ∉ (S j).fix ∧ c ∉ (S j).dicts
theorem Two.same {CD CS B HL : Addr} {H H' : Hp} {pl : Plan} {vp : V} {S : Nat → Side} {C : Nat → List (List (Key × V))} {m : Nat} (W : Two CD CS H pl vp B HL S C m) (e : Same H H') : Two CD CS H' pl vp B HL S C m :=
  ⟨W.pln.kt_same e, e _ _ W.bs, e _ _ W.hl, fun k hk => (W.sd k hk).same e, fun k hk => (W.yg k hk).kt (KT.of e)⟩
theorem Two.up {CD CS B HL : Addr} {H : Hp} {pl : Plan} {vp : V} {S : Nat → Side} {C : Nat → List (List (Key × V))} {m n : Nat} (W : Two CD CS H pl vp B HL S C m) (l : m ≤ n) : Two CD CS H pl vp B HL S C n :=
  ⟨W.pln, W.bs, W.hl, W.sd, fun k hk => (W.yg k hk).up l⟩
theorem SideAt.dict {CD CS : Addr} {H : Hp} {pl : Plan} {s : Side} {ct : List (List (Key × V))} (S : SideAt CD CS H pl s ct) {c : Addr} (hc : c ∈ s.dicts) : ∃ kvs, H c = some (.dK kvs) := by
  rcases List.mem_append.mp hc with h | h
  · obtain ⟨i, hi, ei⟩ := List.getElem_of_mem h
    have hi2 : i < ct.length := by rw [S.db.cl, ← S.db.dl]; exact hi
    exact ⟨_, S.db.at_ i c _ (by rw [List.getElem?_eq_getElem hi, ei]) (List.getElem?_eq_getElem hi2)⟩
  · obtain ⟨i, hi, ei⟩ := List.getElem_of_mem h
    have hi2 : i < ct.length := by rw [S.hd.cl, ← S.hd.dl]; exact hi
    exact ⟨_, S.hd.at_ i c _ (by rw [List.getElem?_eq_getElem hi, ei]) (List.getElem?_eq_getElem hi2)⟩
theorem Two.step {CD CS B HL : Addr} {H H1 : Hp} {pl : Plan} {vp : V} {S : Nat → Side} {C : Nat → List (List (Key × V))} {m k i : Nat} {d d2 : Addr} {kvs' : List (Key × V)} (W : Two CD CS H pl vp B HL S C m) (A : Apart S) (hk : k < 2) (hd : (S k).ds[i]? = some d) (hd2 : (S k).hs[i]? = some d2)
    (D1 : DbAt CD CS H1 (S k).p pl (S k).sp (S k).de (S k).dr (S k).ds ((C k).set i kvs')) (e : Fr1 d H H1) (l : kvs'.length ≤ m) (y : ∀ q ∈ kvs', ∃ lab cs, Td H q.2 (rowD lab cs) ∧ lab ≤ m) :
    FrF [d, d2] H (upd H1 d2 (.dK kvs')) ∧ Two CD CS (upd H1 d2 (.dK kvs')) pl vp B HL S (fun j => if j = k then (C k).set i kvs' else C j) m := by
  have hdm : d ∈ (S k).dicts := List.mem_append.mpr (.inl (List.mem_of_getElem? hd))
  have hdm2 : d2 ∈ (S k).dicts := List.mem_append.mpr (.inr (List.mem_of_getElem? hd2))
  obtain ⟨u1, hu1⟩ := (W.sd k hk).dict hdm
  obtain ⟨u2, hu2⟩ := (W.sd k hk).dict hdm2
  have f : FrF [d, d2] H (upd H1 d2 (.dK kvs')) := fun c o hc ho => by
    simp only [List.mem_cons, List.not_mem_nil, or_false, not_or] at hc
    rw [upd_ne hc.2]
    exact e c o hc.1 ho
  have nt : ∀ c ∈ [d, d2], ∀ xs, H c ≠ some (.tup xs) := fun c hc xs z => by
    simp only [List.mem_cons, List.not_mem_nil, or_false] at hc
    rcases hc with rfl | rfl
    · rw [hu1] at z
      cases z
    · rw [hu2] at z
      cases z
  have kt : KT H (upd H1 d2 (.dK kvs')) := (f.kept (G := []) (fun c hc => by cases hc) nt).kt
  have ls : ∀ (c : Addr) (xs : List V), H c = some (.lst xs) → upd H1 d2 (.dK kvs') c = some (.lst xs) := fun c xs h => f c _ (fun z => by
    simp only [List.mem_cons, List.not_mem_nil, or_false] at z
    rcases z with rfl | rfl
    · rw [hu1] at h
      cases h
    · rw [hu2] at h
      cases h) h
  refine ⟨f, W.pln.mono kt, ls _ _ W.bs, ls _ _ W.hl, fun j hj => ?_, fun j hj => ?_⟩
  · show SideAt CD CS _ pl (S j) (if j = k then _ else _)
    split
    · rename_i z
      subst z
      exact (W.sd j hj).step hd hd2 D1 e
    · rename_i z
      refine (W.sd j hj).frf f nt fun c hc => ?_
      simp only [List.mem_cons, List.not_mem_nil, or_false] at hc
      rcases hc with rfl | rfl
      · exact A k j hk hj (fun w => z w.symm) _ hdm
      · exact A k j hk hj (fun w => z w.symm) _ hdm2
  · show Young _ (if j = k then _ else _) m
    split
    · rename_i z
      subst z
      exact ((W.yg j hj).set l y).kt kt
    · exact (W.yg j hj).kt kt
end My
namespace My
open PySem L2
theorem DbAt.live {CD CS p sp de dr : Addr} {H : Hp} {pl : Plan} {ds : List Addr} {ct : List (List (Key × V))} (D : DbAt CD CS H p pl sp de dr ds ct) : ∀ c ∈ foot p sp de dr ds, H c ≠ none := by
  obtain ⟨dx, hp⟩ := D.ob
  obtain ⟨sdx, stv, skvs, s1, _, s3, _⟩ := D.sch.ex
  intro c hc z
  simp only [foot, List.mem_cons] at hc
  rcases hc with rfl | rfl | rfl | rfl | h
  · rw [hp] at z
    cases z
  · rw [s1] at z
    cases z
  · rw [s3] at z
    cases z
  · rw [D.rws] at z
    cases z
  · obtain ⟨i, hi, ei⟩ := List.getElem_of_mem h
    have hi2 : i < ct.length := by rw [D.cl, ← D.dl]; exact hi
    rw [D.at_ i c _ (by rw [List.getElem?_eq_getElem hi, ei]) (List.getElem?_eq_getElem hi2)] at z
    cases z
theorem SideAt.of {CD CS p sp de dr dh : Addr} {H G : Hp} {pl : Plan} {ds hs : List Addr} {ct : List (List (Key × V))} (D : DbAt CD CS H p pl sp de dr ds ct) (Hd : HeldAt H dh pl hs ct) (L : ∀ c ∈ foot p sp de dr ds, G c ≠ none) (n1 : G dh = none) (n2 : ∀ d ∈ hs, G d = none) :
    SideAt CD CS H pl ⟨p, sp, de, dr, ds, dh, hs⟩ ct := by
  obtain ⟨dx, hp⟩ := D.ob
  obtain ⟨sdx, stv, skvs, s1, _⟩ := D.sch.ex
  have inF : ∀ c ∈ ds, c ∈ foot p sp de dr ds := fun c hc => by simp [foot, hc]
  refine ⟨D, Hd, List.nodup_append.mpr ⟨D.nd, Hd.nd, fun x hx y hy e => ?_⟩, fun d hd => ?_⟩
  · subst e
    exact L x (inF x hx) (n2 x hy)
  · intro m
    simp only [Side.fix, List.mem_cons, List.not_mem_nil, or_false] at m
    rcases List.mem_append.mp hd with h | h
    · have hdk : ∃ u, H d = some (.dK u) := by
        obtain ⟨i, hi, ei⟩ := List.getElem_of_mem h
        have hi2 : i < ct.length := by rw [D.cl, ← D.dl]; exact hi
        exact ⟨_, D.at_ i d _ (by rw [List.getElem?_eq_getElem hi, ei]) (List.getElem?_eq_getElem hi2)⟩
      obtain ⟨u, hu⟩ := hdk
      rcases m with rfl | rfl | rfl | rfl | rfl
      · rw [hp] at hu
        cases hu
      · rw [s1] at hu
        cases hu
      · exact D.apart.2 h
      · exact D.apart.1 h
      · exact L _ (inF _ h) n1
    · rcases m with rfl | rfl | rfl | rfl | rfl
      · exact L _ (by simp [foot]) (n2 _ h)
      · exact L _ (by simp [foot]) (n2 _ h)
      · exact L _ (by simp [foot]) (n2 _ h)
      · exact L _ (by simp [foot]) (n2 _ h)
      · exact Hd.apart h
end My
namespace My
open PySem L2
theorem SideAt.fr1 {CD CS a : Addr} {H H' : Hp} {pl : Plan} {s : Side} {ct : List (List (Key × V))} {xs : List V} (S : SideAt CD CS H pl s ct) (h : H a = some (.lst xs)) (e : Fr1 a H H') : SideAt CD CS H' pl s ct := by
  refine S.frf (F := [a]) (fun c o hc ho => e c o (fun z => hc (by simp [z])) ho) (fun c hc ys z => ?_) fun c hc => ?_
  · rw [List.mem_singleton.mp hc, h] at z
    cases z
  · rw [List.mem_singleton.mp hc]
    refine ⟨fun m => ?_, fun m => ?_⟩
    · obtain ⟨dx, hp⟩ := S.db.ob
      obtain ⟨sdx, stv, skvs, s1, _, s3, _⟩ := S.db.sch.ex
      simp only [Side.fix, List.mem_cons, List.not_mem_nil, or_false] at m
      rcases m with rfl | rfl | rfl | rfl | rfl
      · rw [hp] at h
        cases h
      · rw [s1] at h
        cases h
      · rw [s3] at h
        cases h
      · rw [S.db.rws] at h
        cases h
      · rw [S.hd.rws] at h
        cases h
    · obtain ⟨u, hu⟩ := S.dict m
      rw [hu] at h
      cases h
theorem Two.fr1 {CD CS B HL a : Addr} {H H' : Hp} {pl : Plan} {vp : V} {S : Nat → Side} {C : Nat → List (List (Key × V))} {m : Nat} {xs : List V} (W : Two CD CS H pl vp B HL S C m) (h : H a = some (.lst xs)) (e : Fr1 a H H') (n1 : B ≠ a) (n2 : HL ≠ a) : Two CD CS H' pl vp B HL S C m :=
  ⟨W.pln.mono (e.kt h), e _ _ n1 W.bs, e _ _ n2 W.hl, fun k hk => (W.sd k hk).fr1 h e, fun k hk => (W.yg k hk).kt (e.kt h)⟩
end My
namespace My
open PySem PySem.Spec PyProof.Rows L2
section
variable {X : Cx} {k : Nat} {C : Addr} {sp : Sp} {m q : Str} {st : Stmt} {ps : List Str}
theorem run_fn1 {f : Addr} {fd : FuncData} {ps : List Str} {pins : List (Addr × Obj)} {σ : L2.St} {H : Hp} {s : Shared} {Q : VK} {us : List Value} {vs : List V} (F : FnOk X.prog X.w X.K X.mg X.base CX0 k f fd ps sp) (hr : Room (k + 1) X.A) (hb : Binds X.K fd ps [])
    (I : Inv X pins σ H s) (r : Vals vs us) (h : sp vs H Q E0) : wpAny (model X.prog X.w) X.A.in1 (call (.ref f) us) (EP X pins σ Q) X.xe s := by
  have hl : us.length = ps.length := by rw [← r.length]; exact F.len _ _ _ _ h
  have hbt := hb s us I.kIn (by simpa using hl)
  rw [List.append_nil] at hbt
  refine wpAny_call (codeAny_mono (F.run X.A.in1 X.stack s H ⟨us, []⟩ us vs Q E0 hr.in1 I.env0.in1 hbt r h) fun r s' hq => ?_)
  cases r with
  | error e => exact pass0 pins σ H s e s' I hq
  | ok fl =>
    cases fl with
    | ret u => exact I.after hq
    | next => exact False.elim hq
    | brk => exact False.elim hq
    | cont => exact False.elim hq
theorem MethAt.fnIn (D : MethAt X.K C m q st ps) {f : Addr} (hm : Meth X.K C m f) : PySem.W.fnIn X.K f = true := by
  obtain ⟨f', fd, F, hm', hb⟩ := D.ex
  have : f' = f := by
    have h1 := hm.at_
    rw [hm'.at_] at h1
    exact Value.ref.inj (Option.some.inj (Option.some.inj h1))
  subst this
  obtain ⟨oc, od, kV, doc, pm, an, cdv, ct, osl, rfl, lk, hcd⟩ := F.ex
  unfold PySem.W.fnIn
  rw [lk]
theorem pe_ixOwn {a b : Expr} {ta tb : TE} {pos : Pos} (ha : PE X a ta) (hb : PE X b tb) (G : MethOk X.prog X.w X.K X.mg X.base k C "__getitem__" sp) (D : MethAt X.K C "__getitem__" q st ps) (hr : Room (k + 1) X.A)
    (hs : ∀ o i, subscripted b true o i = runValue (.builtin "lifetime.subscript" ⟨[o, i], []⟩) := by intro _ _; rfl) : PE X (.Subscript a b pos) (tOp (rGetOwn C sp) ta tb) := by
  obtain ⟨f, fd, ps2, F, hm, hbd, c⟩ := G.ex
  refine ⟨fun pins s σ H Q I h => ?_⟩
  refine Subscript_ (binT ha hb I h fun v u s2 x y H2 I2 rx ry q => ?_)
  obtain ⟨p, dx, fs, rfl, hp, q⟩ := q
  obtain rfl : v = Value.ref p := rx
  obtain ⟨m, fr⟩ := I2.fr
  obtain ⟨mA, O, _⟩ := ins_get I2.hok hp
  obtain ⟨od, J, _⟩ := O.look
  exact PySem.W.sub_K fr I2.ok.mod.kin J hm.at_ (D.fnIn hm) hm.fn (run_fn1 (us := [.ref p, u]) (vs := [.ref p, y]) F hr hbd I2 (.cons rfl (.cons ry .nil)) q) (hs _ _)
def rLenOwn (C : Addr) (sp : Sp) : List V → Hp → VK → Prop := fun xs H Q => ∃ p dx fs, xs = [.ref p] ∧ H p = some (.ins C dx fs) ∧ sp [.ref p] H (fun v H2 => ∃ n : Int, v = .int n ∧ 0 ≤ n ∧ n < 2 ^ 63 ∧ Q (.int n) H2) E0
theorem call_lenOwn (G : MethOk X.prog X.w X.K X.mg X.base k C "__len__" sp) (hr : Room (k + 1) X.A) : CallR X (.builtin "len") (rLenOwn C sp) := by
  obtain ⟨f, fd, ps2, F, hm, hbd, c⟩ := G.ex
  intro pins s0 σ H0 xs us Q I0 r0 h0
  obtain ⟨p, dx, fs, rfl, hp, h0⟩ := h0
  obtain ⟨u, rfl, rx⟩ := vals1 r0
  obtain rfl : u = Value.ref p := rx
  obtain ⟨m, fr⟩ := I0.fr
  obtain ⟨mA, O, _⟩ := ins_get I0.hok hp
  obtain ⟨od, J, _⟩ := O.look
  refine PySem.W.len_K fr I0.ok.mod.kin J hm.at_ hm.fn (thn (run_fn1 (us := [.ref p]) (vs := [.ref p]) F hr hbd I0 (.cons rfl .nil) h0) fun v s1 ⟨z, H1, I1, r1, n, ez, n0, n1, q⟩ => ?_)
  subst ez
  obtain ⟨t, rfl⟩ := r1
  exact ⟨⟨n0, n1⟩, ⟨.int n, H1, I1.tok _, ⟨_, rfl⟩, q⟩⟩
end
end My
namespace My
open PySem L2
def lockN : Nat → TE → TE
  | 0, t => t
  | n + 1, t => tLockE (lockN n t)
def tLocks (t : TE) : TE := fun σ H Q => ∃ n, lockN n t σ H Q
theorem pe_locks {X : Cx} {e : Expr} {t : TE} (h : PE X e t) : PE X e (tLocks t) := by
  have go : ∀ n, PE X e (lockN n t) := fun n => by
    induction n with
    | zero => exact h
    | succ n ih => exact pe_lock ih
  exact ⟨fun pins s σ H Q I ⟨n, hn⟩ => (go n).run pins s σ H Q I hn⟩
theorem lockN_of {t : TE} {σ : L2.St} : ∀ (L : List (Addr × List (Key × V))) (H : Hp) (Q : VK), (L.map (·.1)).Nodup → (∀ p ∈ L, H p.1 = some (.dK p.2)) →
    (∀ (G : Hp) (R : VK), (∀ p ∈ L, ∃ od, G p.1 = some (.frz od (.dK p.2))) → (∀ c, c ∉ L.map (·.1) → G c = H c) →
      (∀ v H', (∀ p ∈ L, H' p.1 = G p.1) → (∀ H'', (∀ p ∈ L, H'' p.1 = some (.dK p.2)) → (∀ c, c ∉ L.map (·.1) → H'' c = H' c) → Q v H'') → R v H') → t σ G R) → lockN L.length t σ H Q
  | [], H, Q, _, _, h => h H Q (by simp) (fun _ _ => rfl) fun v H' _ k => k H' (by simp) fun _ _ => rfl
  | (d, kvs) :: L, H, Q, nd, hd, h => by
    rw [List.map_cons] at nd
    obtain ⟨n1, n2⟩ := List.nodup_cons.mp nd
    have ne : ∀ p ∈ L, p.1 ≠ d := fun p hp z => n1 (by rw [← z]; exact List.mem_map.mpr ⟨p, hp, rfl⟩)
    refine ⟨d, .dK kvs, hd _ List.mem_cons_self, trivial, fun od => lockN_of L _ _ n2 (fun p hp => by rw [upd_ne (ne p hp)]; exact hd p (List.mem_cons_of_mem _ hp)) fun G R hG hGc hR => ?_⟩
    have hGd : G d = some (.frz od (.dK kvs)) := by rw [hGc d n1, upd_same]
    refine h G R (fun p hp => ?_) (fun c hc => ?_) fun v H' e k => hR v H' (fun p hp => e p (List.mem_cons_of_mem _ hp)) fun H'' r1 r2 => ⟨?_, k _ (fun p hp => ?_) fun c hc => ?_⟩
    · rcases List.mem_cons.mp hp with rfl | hp
      · exact ⟨od, hGd⟩
      · exact hG p hp
    · rw [List.map_cons, List.mem_cons, not_or] at hc
      rw [hGc c hc.2, upd_ne hc.1]
    · rw [r2 d n1, e (d, kvs) List.mem_cons_self, hGd]
    · rcases List.mem_cons.mp hp with rfl | hp
      · exact upd_same
      · rw [upd_ne (ne p hp)]
        exact r1 p hp
    · rw [List.map_cons, List.mem_cons, not_or] at hc
      rw [upd_ne hc.1]
      exact r2 c hc.2
section
variable {g g1 : TG} {tt tt1 : TT} {te : TE} {vs vs1 : List Nat} {σ σ2 : L2.St} {wi1 : TI}
theorem in2_keys {d : Addr} {o : Obj} {kvs : List (Key × V)} {D : Addr} {Nx : Hp → Prop} {H4 : Hp} (Pv : Nat → Hp → Prop) (h0 : Pv 0 H4) (hl : ∀ j Hj, j ≤ kvs.length → Pv j Hj → Hj d = some (.frz o (.dK kvs)))
    (hs : ∀ j k v Hj, kvs[j]? = some (k, v) → Pv j Hj → g1 (kV k) (wipe σ2 vs1) Hj fun σ3 H5 => wipe σ3 vs1 = wipe σ2 vs1 ∧ tt1 σ3 H5 fun b H6 =>
      if b = true then te σ3 H6 fun y H7 => ∃ acc, H7 D = some (.lst acc) ∧ acc.length < sizeLine ∧ Pv (j + 1) (upd H7 D (.lst (acc ++ [y]))) else Pv (j + 1) H6)
    (hd : ∀ Hj, Pv kvs.length Hj → Nx Hj) : In2 (Itk d o kvs) g1 tt1 te vs1 σ2 D Nx H4 := by
  refine ⟨fun j m Hj => m = kvs.length - j ∧ j ≤ kvs.length ∧ Pv j Hj, ⟨_, rfl, Nat.zero_le _, h0⟩, ?_⟩
  rintro j m Hj ⟨em, hj, p⟩
  have q := hl j Hj hj p
  by_cases l : j < kvs.length
  · refine Or.inr ⟨⟨q, l⟩, Pv (j + 1), fun H' p' => ⟨_, by omega, rfl, l, p'⟩, ?_⟩
    rintro x H' ⟨eh, k, v, hk, rfl⟩
    rw [eh]
    exact hs j k v Hj hk p
  · obtain rfl : j = kvs.length := by omega
    exact Or.inl ⟨⟨q, Nat.le_refl _⟩, hd Hj p⟩
theorem lc2_keys {d : Addr} {o : Obj} {kvs : List (Key × V)} {D : Addr} {Qd : Hp → Prop} {H1 : Hp} (Pv : Nat → Hp → Prop) (h0 : Pv 0 (upd H1 D (.lst []))) (hl : ∀ i Hi, i ≤ kvs.length → Pv i Hi → Hi d = some (.frz o (.dK kvs)))
    (hs : ∀ i k v Hi, kvs[i]? = some (k, v) → Pv i Hi → g (kV k) (wipe σ vs) Hi fun σ2 H2 => wipe σ2 vs = wipe σ vs ∧ tt σ2 H2 fun b H3 =>
      if b = true then wi1 σ2 H3 fun J1 H4 => In2 J1 g1 tt1 te vs1 σ2 D (Pv (i + 1)) H4 else Pv (i + 1) H3)
    (hd : ∀ Hi, Pv kvs.length Hi → Qd Hi) :
    ∃ W : Nat → Nat → Hp → Prop, (∃ m, W 0 m (upd H1 D (.lst []))) ∧ ∀ i m H, W i m H →
      ((Itk d o kvs).stop i H ∧ Qd H) ∨ ((Itk d o kvs).go i H ∧ ∃ Nx : Hp → Prop, (∀ H', Nx H' → ∃ m', m' < m ∧ W (i + 1) m' H') ∧ ∀ x H', (Itk d o kvs).yld i H x H' → g x (wipe σ vs) H' fun σ2 H2 => wipe σ2 vs = wipe σ vs ∧ tt σ2 H2 fun b H3 =>
        if b = true then wi1 σ2 H3 fun J1 H4 => In2 J1 g1 tt1 te vs1 σ2 D Nx H4 else Nx H3) := by
  refine ⟨fun i m Hi => m = kvs.length - i ∧ i ≤ kvs.length ∧ Pv i Hi, ⟨_, rfl, Nat.zero_le _, h0⟩, ?_⟩
  rintro i m Hi ⟨em, hi, p⟩
  have q := hl i Hi hi p
  by_cases l : i < kvs.length
  · refine Or.inr ⟨⟨q, l⟩, Pv (i + 1), fun H' p' => ⟨_, by omega, rfl, l, p'⟩, ?_⟩
    rintro x H' ⟨eh, k, v, hk, rfl⟩
    rw [eh]
    exact hs i k v Hi hk p
  · obtain rfl : i = kvs.length := by omega
    exact Or.inl ⟨⟨q, Nat.le_refl _⟩, hd Hi p⟩
end
theorem sorted_one : ∀ {l m : List Int}, l.Perm m → l.Pairwise (· ≤ ·) → m.Pairwise (· ≤ ·) → l = m
  | [], m, p, _, _ => p.nil_eq
  | x :: l, [], p, _, _ => absurd p.length_eq (by simp)
  | x :: l, y :: m, p, hl, hm => by
    rw [List.pairwise_cons] at hl hm
    have h1 : x ≤ y := by
      rcases List.mem_cons.mp (p.symm.subset List.mem_cons_self) with h | h
      · omega
      · exact hl.1 y h
    have h2 : y ≤ x := by
      rcases List.mem_cons.mp (p.subset List.mem_cons_self) with h | h
      · omega
      · exact hm.1 x h
    have e : x = y := by omega
    subst e
    rw [sorted_one ((List.perm_cons x).mp p) hl.2 hm.2]
end My
namespace My
open PySem L2
structure Many (n : Nat) (CD CS : Addr) (H : Hp) (PL : Nat → Plan) (S : Nat → Side) (C : Nat → List (List (Key × V))) (m : Nat) : Prop where
  sd : ∀ k, k < n → SideAt CD CS H (PL k) (S k) (C k)
  ln : ∀ k, k < n → ∀ kvs ∈ C k, kvs.length ≤ m
def ApartN (n : Nat) (S : Nat → Side) : Prop := ∀ k j, k < n → j < n → k ≠ j → ∀ c ∈ (S k).dicts, c ∉ (S j).fix ∧ c ∉ (S j).dicts
section
variable {n : Nat} {CD CS : Addr} {H H' : Hp} {PL : Nat → Plan} {S : Nat → Side} {C : Nat → List (List (Key × V))} {m : Nat}
theorem Many.same (W : Many n CD CS H PL S C m) (e : Same H H') : Many n CD CS H' PL S C m := ⟨fun k hk => (W.sd k hk).same e, W.ln⟩
theorem Many.up {m' : Nat} (W : Many n CD CS H PL S C m) (l : m ≤ m') : Many n CD CS H PL S C m' := ⟨W.sd, fun k hk kvs h => Nat.le_trans (W.ln k hk kvs h) l⟩
theorem Many.fr1 {a : Addr} {xs : List V} (W : Many n CD CS H PL S C m) (h : H a = some (.lst xs)) (e : Fr1 a H H') : Many n CD CS H' PL S C m := ⟨fun k hk => (W.sd k hk).fr1 h e, W.ln⟩
theorem Many.step {H1 : Hp} {k i : Nat} {d d2 : Addr} {kvs' : List (Key × V)} (W : Many n CD CS H PL S C m) (A : ApartN n S) (hk : k < n) (hd : (S k).ds[i]? = some d) (hd2 : (S k).hs[i]? = some d2)
    (D1 : DbAt CD CS H1 (S k).p (PL k) (S k).sp (S k).de (S k).dr (S k).ds ((C k).set i kvs')) (e : Fr1 d H H1) (l : kvs'.length ≤ m) :
    FrF [d, d2] H (upd H1 d2 (.dK kvs')) ∧ KT H (upd H1 d2 (.dK kvs')) ∧ (∀ (c : Addr) (xs : List V), H c = some (.lst xs) → upd H1 d2 (.dK kvs') c = some (.lst xs)) ∧ Many n CD CS (upd H1 d2 (.dK kvs')) PL S (fun j => if j = k then (C k).set i kvs' else C j) m := by
  have hdm : d ∈ (S k).dicts := List.mem_append.mpr (.inl (List.mem_of_getElem? hd))
  have hdm2 : d2 ∈ (S k).dicts := List.mem_append.mpr (.inr (List.mem_of_getElem? hd2))
  obtain ⟨u1, hu1⟩ := (W.sd k hk).dict hdm
  obtain ⟨u2, hu2⟩ := (W.sd k hk).dict hdm2
  have f : FrF [d, d2] H (upd H1 d2 (.dK kvs')) := fun c o hc ho => by
    simp only [List.mem_cons, List.not_mem_nil, or_false, not_or] at hc
    rw [upd_ne hc.2]
    exact e c o hc.1 ho
  have nt : ∀ c ∈ [d, d2], ∀ xs, H c ≠ some (.tup xs) := fun c hc xs z => by
    simp only [List.mem_cons, List.not_mem_nil, or_false] at hc
    rcases hc with rfl | rfl
    · rw [hu1] at z
      cases z
    · rw [hu2] at z
      cases z
  have kt : KT H (upd H1 d2 (.dK kvs')) := (f.kept (G := []) (fun c hc => by cases hc) nt).kt
  have ls : ∀ (c : Addr) (xs : List V), H c = some (.lst xs) → upd H1 d2 (.dK kvs') c = some (.lst xs) := fun c xs h => f c _ (fun z => by
    simp only [List.mem_cons, List.not_mem_nil, or_false] at z
    rcases z with rfl | rfl
    · rw [hu1] at h
      cases h
    · rw [hu2] at h
      cases h) h
  refine ⟨f, kt, ls, fun j hj => ?_, fun j hj => ?_⟩
  · show SideAt CD CS _ (PL j) (S j) (if j = k then _ else _)
    split
    · rename_i z
      subst z
      exact (W.sd j hj).step hd hd2 D1 e
    · rename_i z
      refine (W.sd j hj).frf f nt fun c hc => ?_
      simp only [List.mem_cons, List.not_mem_nil, or_false] at hc
      rcases hc with rfl | rfl
      · exact A k j hk hj (fun w => z w.symm) _ hdm
      · exact A k j hk hj (fun w => z w.symm) _ hdm2
  · show ∀ kvs ∈ (if j = k then _ else _), _
    split
    · rename_i z
      subst z
      intro kvs hv
      rcases List.mem_or_eq_of_mem_set hv with h | rfl
      · exact W.ln j hj kvs h
      · exact l
    · exact W.ln j hj
end
def nils (pl : Plan) : List (List (Key × V)) := pl.map fun _ => []
theorem nils_at {pl : Plan} {i : Nat} {kvs : List (Key × V)} (h : (nils pl)[i]? = some kvs) : kvs = [] := by
  unfold nils at h
  rw [List.getElem?_map] at h
  obtain ⟨_, _, e⟩ := Option.map_eq_some_iff.mp h
  exact e.symm
theorem nils_mem {pl : Plan} {kvs : List (Key × V)} (h : kvs ∈ nils pl) : kvs = [] := by
  obtain ⟨_, _, rfl⟩ := List.mem_map.mp h
  rfl
structure Fill (H0 : Hp) (A : Addr) (pl : Plan) (j : Nat) (hs : List Addr) (H : Hp) : Prop where
  le : j ≤ pl.length
  hl : hs.length = j
  nd : hs.Nodup
  ds : ∀ d ∈ hs, H0 d = none ∧ d ≠ A ∧ H d = some (.dK [])
  at_ : H A = some (.dK (rowsK (pl.take j) hs))
  fr : Fr1 A H0 H
theorem Fill.start {H0 : Hp} {A : Addr} (pl : Plan) (h : H0 A = some (.dK [])) : Fill H0 A pl 0 [] H0 := ⟨Nat.zero_le _, rfl, List.nodup_nil, by simp, h, Fr1.refl _ _⟩
theorem Fill.no {H0 H : Hp} {A : Addr} {pl : Plan} {j : Nat} {hs : List Addr} (F : Fill H0 A pl j hs H) (nd : (pl.map (·.1)).Nodup) {en : Ent} (hen : pl[j]? = some en) : valV (rowsK (pl.take j) hs) (Sum.inr en.1 : Key) = none := by
  have hjp : j < pl.length := (List.getElem?_eq_some_iff.mp hen).1
  refine valV_no (rowsK_keys (by rw [List.length_take, F.hl]; omega)) fun hm => ?_
  obtain ⟨e2, he2, ee⟩ := List.mem_map.mp hm
  obtain ⟨m, hm2, em⟩ := List.getElem_of_mem he2
  rw [List.getElem_take] at em
  have hmj : m < j := by
    rw [List.length_take] at hm2
    omega
  obtain ⟨l2, g2⟩ := List.getElem?_eq_some_iff.mp hen
  have a1 : (pl.map (·.1))[m]'(by rw [List.length_map]; omega) = (pl.map (·.1))[j]'(by rw [List.length_map]; omega) := by
    rw [List.getElem_map, List.getElem_map, g2, em, ee]
  have := (List.getElem_inj nd).mp a1
  omega
theorem Fill.next {H0 H : Hp} {A d : Addr} {pl : Plan} {j : Nat} {hs : List Addr} (F : Fill H0 A pl j hs H) (nd : (pl.map (·.1)).Nodup) {en : Ent} (hen : pl[j]? = some en) (hd : H d = none) :
    upd H d (.dK []) A = some (.dK (rowsK (pl.take j) hs)) ∧ (rowsK (pl.take j) hs).length ≤ j ∧ Fill H0 A pl (j + 1) (hs ++ [d]) (upd (upd H d (.dK [])) A (.dK (putK (rowsK (pl.take j) hs) (Sum.inr en.1) (.ref d)))) := by
  have hjp : j < pl.length := (List.getElem?_eq_some_iff.mp hen).1
  have hen2 : pl[j] = en := (List.getElem?_eq_some_iff.mp hen).2
  have ndA : d ≠ A := fun z => by
    rw [z, F.at_] at hd
    cases hd
  have hdi : H0 d = none := F.fr.free ndA hd
  have hno := F.no nd hen
  have hl := F.hl
  refine ⟨by rw [upd_ne ndA.symm]; exact F.at_, ?_, hjp, by simp [F.hl], nd_snoc F.nd fun m => ?_, fun c hc => ?_, ?_, ?_⟩
  · unfold rowsK
    rw [List.length_zip, List.length_map, List.length_map, List.length_take]
    omega
  · have := (F.ds d m).2.2
    rw [hd] at this
    cases this
  · rcases List.mem_append.mp hc with m | m
    · obtain ⟨a1, a2, a3⟩ := F.ds c m
      exact ⟨a1, a2, by rw [upd_ne a2, upd_ne (fun z => by rw [z, hd] at a3; cases a3)]; exact a3⟩
    · rw [List.mem_singleton.mp m]
      exact ⟨hdi, ndA, by rw [upd_ne ndA, upd_same]⟩
  · rw [upd_same, putK_new _ hno]
    refine congrArg (fun l => some (HO.dK l)) ?_
    unfold rowsK
    rw [List.take_succ_eq_append_getElem hjp, List.map_append, List.map_append, List.zip_append (by rw [List.length_map, List.length_map, List.length_take]; omega), hen2]
    rfl
  · exact (F.fr.upd hdi).at
theorem Fill.held {H0 H : Hp} {A : Addr} {pl : Plan} {j : Nat} {hs : List Addr} (F : Fill H0 A pl j hs H) (h : j = pl.length) : HeldAt H A pl hs (nils pl) := by
  subst h
  refine ⟨by have := F.at_; rw [List.take_length] at this; exact this, F.hl, by unfold nils; rw [List.length_map], F.nd, fun m => (F.ds A m).2.1 rfl, fun j d kvs h1 h2 => ?_⟩
  rw [nils_at h2]
  exact (F.ds d (List.mem_of_getElem? h1)).2.2
end My
namespace My
open PySem L2
def ft (s : Side) : List Addr := foot s.p s.sp s.de s.dr s.ds
theorem pair_fn {α : Type} (x y : α) : ∃ f : Nat → α, f 0 = x ∧ f 1 = y := ⟨fun k => match k with | 0 => x | _ => y, rfl, rfl⟩
section
variable {CD CS : Addr} {G H H' Hb : Hp} {PL : Nat → Plan} {S : Nat → Side} {i n : Nat} {A : Nat → Addr} {hs : Nat → List Addr}
theorem DbAt.fr1 {p sp de dr a : Addr} {pl : Plan} {ds : List Addr} {ct : List (List (Key × V))} {xs : List V} (D : DbAt CD CS H p pl sp de dr ds ct) (h : H a = some (.lst xs)) (e : Fr1 a H H') : DbAt CD CS H' p pl sp de dr ds ct := by
  refine D.keep ⟨fun c hc o ho => e c o (fun z => ?_) ho, e.kt h⟩
  subst z
  obtain ⟨dx, hp⟩ := D.ob
  obtain ⟨sdx, stv, skvs, s1, _, s3, _⟩ := D.sch.ex
  simp only [foot, List.mem_cons] at hc
  rcases hc with rfl | rfl | rfl | rfl | hc
  · rw [hp] at h
    cases h
  · rw [s1] at h
    cases h
  · rw [s3] at h
    cases h
  · rw [D.rws] at h
    cases h
  · obtain ⟨j, hj, ej⟩ := List.getElem_of_mem hc
    have hj2 : j < ct.length := by rw [D.cl, ← D.dl]; exact hj
    rw [D.at_ j c _ (by rw [List.getElem?_eq_getElem hj, ej]) (List.getElem?_eq_getElem hj2)] at h
    cases h
structure Bases (i : Nat) (CD CS : Addr) (H : Hp) (PL : Nat → Plan) (S : Nat → Side) : Prop where
  db : ∀ k, k < i → DbAt CD CS H (S k).p (PL k) (S k).sp (S k).de (S k).dr (S k).ds (nils (PL k))
  ap : ∀ k j, k < i → j < i → k ≠ j → ∀ c ∈ ft (S k), c ∉ ft (S j)
theorem Bases.zero : Bases 0 CD CS H PL S := ⟨fun k h => absurd h (Nat.not_lt_zero _), fun k j h => absurd h (Nat.not_lt_zero _)⟩
theorem Bases.same (B : Bases i CD CS H PL S) (e : Same H H') : Bases i CD CS H' PL S := ⟨fun k h => (B.db k h).same e, B.ap⟩
theorem Bases.fr1 {a : Addr} {xs : List V} (B : Bases i CD CS H PL S) (h : H a = some (.lst xs)) (e : Fr1 a H H') : Bases i CD CS H' PL S := ⟨fun k hk => (B.db k hk).fr1 h e, B.ap⟩
def addS (S : Nat → Side) (i : Nat) (s : Side) : Nat → Side := fun k => if k = i then s else S k
theorem addS_at (S : Nat → Side) (i : Nat) (s : Side) : addS S i s i = s := if_pos rfl
theorem addS_ne (S : Nat → Side) (i : Nat) (s : Side) {k : Nat} (h : k ≠ i) : addS S i s k = S k := if_neg h
theorem Bases.add (B : Bases i CD CS H PL S) (e : Same H H') {s : Side} (D : DbAt CD CS H' s.p (PL i) s.sp s.de s.dr s.ds (nils (PL i))) (f : ∀ c ∈ ft s, H c = none) : Bases (i + 1) CD CS H' PL (addS S i s) := by
  refine ⟨fun k hk => ?_, fun k j hk hj hkj c hc hm => ?_⟩
  · by_cases z : k = i
    · subst z
      rw [addS_at]
      exact D
    · rw [addS_ne _ _ _ z]
      exact (B.db k (by omega)).same e
  · by_cases z : k = i
    · subst z
      rw [addS_at] at hc
      rw [addS_ne _ _ _ (fun w => hkj w.symm)] at hm
      exact (B.db j (by omega)).live c hm (f c hc)
    · rw [addS_ne _ _ _ z] at hc
      by_cases w : j = i
      · subst w
        rw [addS_at] at hm
        exact (B.db k (by omega)).live c hc (f c hm)
      · rw [addS_ne _ _ _ w] at hm
        exact B.ap k j (by omega) (by omega) hkj c hc hm
structure Helds (i n : Nat) (Hb H : Hp) (PL : Nat → Plan) (A : Nat → Addr) (hs : Nat → List Addr) : Prop where
  hd : ∀ k, k < i → HeldAt H (A k) (PL k) (hs k) (nils (PL k))
  rest : ∀ k, i ≤ k → k < n → H (A k) = some (.dK [])
  free : ∀ k, k < i → ∀ d ∈ hs k, Hb d = none
  dj : ∀ k j, k < i → j < i → k ≠ j → ∀ d ∈ hs k, d ∉ hs j
  fr : ∀ c o, (∀ k, k < n → c ≠ A k) → Hb c = some o → H c = some o
theorem Helds.start (h : ∀ k, k < n → Hb (A k) = some (.dK [])) : Helds 0 n Hb Hb PL A hs := ⟨fun k hk => absurd hk (Nat.not_lt_zero _), fun k _ hk => h k hk, fun k hk => absurd hk (Nat.not_lt_zero _), fun k j hk => absurd hk (Nat.not_lt_zero _), fun _ _ _ h => h⟩
theorem HeldAt.live {dh : Addr} {pl : Plan} {l : List Addr} {ct : List (List (Key × V))} (D : HeldAt H dh pl l ct) : ∀ c ∈ dh :: l, ∃ u, H c = some (.dK u) := fun c hc => by
  rcases List.mem_cons.mp hc with rfl | h
  · exact ⟨_, D.rws⟩
  · obtain ⟨m, hm, em⟩ := List.getElem_of_mem h
    have hm2 : m < ct.length := by rw [D.cl, ← D.dl]; exact hm
    exact ⟨_, D.at_ m c _ (by rw [List.getElem?_eq_getElem hm, em]) (List.getElem?_eq_getElem hm2)⟩
theorem Helds.add (Q : Helds i n Hb H PL A hs) (hb : ∀ k, k < n → Hb (A k) = some (.dK [])) (hA : ∀ k j, k < n → j < n → k ≠ j → A k ≠ A j) (hi : i < n) {l : List Addr} {j0 : Nat} (F : Fill H (A i) (PL i) j0 l H') (hj : j0 = (PL i).length) : Helds (i + 1) n Hb H' PL A (fun k => if k = i then l else hs k) := by
  have hAi : H (A i) = some (.dK []) := Q.rest i (Nat.le_refl _) hi
  have kt : KT H H' := fun c ys hc => F.fr c _ (ne_of hc hAi (by intro z; cases z)) hc
  have HA := F.held hj
  have nin : ∀ k, k < i → A i ∉ A k :: hs k := fun k hk m => by
    rcases List.mem_cons.mp m with h | h
    · exact hA i k hi (by omega) (by omega) h
    · have h2 := Q.free k hk _ h
      rw [hb i hi] at h2
      cases h2
  have frH : ∀ k, k < i → ∀ c ∈ A k :: hs k, H c ≠ none := fun k hk c hc z => by
    obtain ⟨u, hu⟩ := (Q.hd k hk).live c hc
    rw [hu] at z
    cases z
  have lb : ∀ d ∈ l, Hb d = none := fun d hd => by
    cases q : Hb d with
    | none => rfl
    | some o =>
      have h1 := (F.ds d hd).1
      have : ∀ k, k < n → d ≠ A k := fun k hk z => by
        subst z
        by_cases w : k < i
        · exact frH k w _ List.mem_cons_self h1
        · rw [Q.rest k (by omega) hk] at h1
          cases h1
      rw [Q.fr d o this q] at h1
      cases h1
  refine ⟨fun k hk => ?_, fun k hk hkn => ?_, fun k hk d hd => ?_, fun k j hk hj hkj d hd hm => ?_, fun c o hc ho => ?_⟩
  · by_cases z : k = i
    · subst z
      rw [if_pos rfl]
      exact HA
    · rw [if_neg z]
      exact (Q.hd k (by omega)).keep ⟨fun c hc o ho => F.fr c o (fun w => nin k (by omega) (by rw [← w]; exact hc)) ho, kt⟩
  · exact F.fr _ _ (hA k i hkn hi (by omega)) (Q.rest k (by omega) hkn)
  · by_cases z : k = i
    · subst z
      rw [if_pos rfl] at hd
      exact lb d hd
    · rw [if_neg z] at hd
      exact Q.free k (by omega) d hd
  · by_cases z : k = i
    · subst z
      rw [if_pos rfl] at hd
      rw [if_neg (fun w => hkj w.symm)] at hm
      exact frH j (by omega) d (List.mem_cons_of_mem _ hm) (F.ds d hd).1
    · rw [if_neg z] at hd
      by_cases w : j = i
      · subst w
        rw [if_pos rfl] at hm
        exact frH k (by omega) d (List.mem_cons_of_mem _ hd) (F.ds d hm).1
      · rw [if_neg w] at hm
        exact Q.dj k j (by omega) (by omega) hkj d hd hm
  · exact F.fr c o (hc i hi) (Q.fr c o hc ho)
def sides (S : Nat → Side) (A : Nat → Addr) (hs : Nat → List Addr) : Nat → Side := fun k => ⟨(S k).p, (S k).sp, (S k).de, (S k).dr, (S k).ds, A k, hs k⟩
theorem sides_of (B : Bases n CD CS G PL S) (eG : Same G Hb) (e : Same G H) (Q : Helds n n Hb H PL A hs) (nA : ∀ k, k < n → G (A k) = none) (hb : ∀ k, k < n → Hb (A k) = some (.dK [])) :
    Many n CD CS H PL (sides S A hs) (fun k => nils (PL k)) 0 ∧ ApartN n (sides S A hs) ∧ ∀ k, k < n → A k ∉ ft (S k) := by
  have gh : ∀ k, k < n → ∀ d ∈ hs k, G d = none := fun k hk d hd => eG.free (Q.free k hk d hd)
  refine ⟨⟨fun k hk => SideAt.of (((B.db k hk).same e)) (Q.hd k hk) (B.db k hk).live (nA k hk) (gh k hk), fun k hk kvs h => by rw [nils_mem h]; exact Nat.le_refl _⟩, fun k j hk hj hkj c hc => ?_, fun k hk m => (B.db k hk).live _ m (nA k hk)⟩
  have inF : ∀ k c, c ∈ (S k).ds → c ∈ ft (S k) := fun k c h => by simp [ft, foot, h]
  have inX : ∀ c, c ∈ (sides S A hs j).fix → c ∈ ft (S j) ∨ c = A j := fun c h => by
    simp only [sides, Side.fix, List.mem_cons, List.not_mem_nil, or_false] at h
    rcases h with rfl | rfl | rfl | rfl | rfl
    · exact .inl (by simp [ft, foot])
    · exact .inl (by simp [ft, foot])
    · exact .inl (by simp [ft, foot])
    · exact .inl (by simp [ft, foot])
    · exact .inr rfl
  rcases List.mem_append.mp hc with h | h
  · have h : c ∈ (S k).ds := h
    have lv := (B.db k hk).live c (inF k c h)
    refine ⟨fun m => ?_, fun m => ?_⟩
    · rcases inX c m with g | rfl
      · exact B.ap k j hk hj hkj c (inF k c h) g
      · exact lv (nA j hj)
    · rcases List.mem_append.mp m with g | g
      · exact B.ap k j hk hj hkj c (inF k c h) (inF j c g)
      · exact lv (gh j hj c g)
  · have h : c ∈ hs k := h
    refine ⟨fun m => ?_, fun m => ?_⟩
    · rcases inX c m with g | rfl
      · exact (B.db j hj).live c g (gh k hk c h)
      · have := Q.free k hk _ h
        rw [hb j hj] at this
        cases this
    · rcases List.mem_append.mp m with g | g
      · exact (B.db j hj).live c (inF j c g) (gh k hk c h)
      · exact Q.dj k j hk hj hkj c h g
end
end My
namespace My
open PySem PySem.Spec PyProof.Rows L2
structure InitOk (P : Program) (w : World) (K : PySem.W.Frag) (mg : Str → Option Value) (base : Heap) (k : Nat) (C : Addr) (x : Str) (sp : Sp) : Prop where
  ex : ∃ f fd ps mc, FnOk P w K mg base CX0 k f fd ps sp ∧ PySem.W.keepIn K (.ref f) = true ∧ Binds K fd ps [] ∧ mg x = some (.ref C) ∧ ClX.CRead K C mc ∧ ClX.CVal K C mc "__init__" (.ref f) (.ref f)
structure BaseAt (K : PySem.W.Frag) (mg : Str → Option Value) (C : Addr) (x : Str) : Prop where
  mg : mg x = some (.ref C)
  rd : ∃ mc f, PySem.W.readsIn K C mc = true ∧ PySem.W.specialIn K (.ref C) "__getattribute__" = some (some (.builtin "type.__getattribute__")) ∧ PySem.W.findCls K (.ref C) mc "__init__" = some (.val (.ref f)) ∧ PySem.W.findIn K (.ref C) "__init__" = some (some (.ref f))
structure ErrAt (K : PySem.W.Frag) (mg : Str → Option Value) (C : Addr) (x : Str) (names : List Str) : Prop where
  mg : mg x = some (.ref C)
  ox : OexC K C
  xf : XfC K C
  no : ∀ f ∈ names, PySem.W.findIn K (.ref C) f = some none
section
variable {P : Program} {w : World} {K : PySem.W.Frag} {mg : Str → Option Value} {base : Heap} {k : Nat} {x m q : Str} {C : Addr} {sp : Sp} {N ps : List Str} {st : Stmt}
theorem MethAt.init (D : MethAt K C "__init__" q st ps) (c : BaseAt K mg C x) (S : FnScope N ps (defScope st)) (len : ∀ vs H Q E, sp vs H Q E → vs.length = ps.length) (b : BodyOk P w K mg base k N q st sp) : InitOk P w K mg base (k + 1) C x sp := by
  obtain ⟨f, fd, F, hm, hb⟩ := D.ex
  obtain ⟨mc, f', h1, h2, h3, h4⟩ := c.rd
  have : f' = f := by
    have h5 := hm.at_
    rw [h4] at h5
    exact Value.ref.inj (Option.some.inj (Option.some.inj h5))
  subst this
  exact ⟨f', fd, ps, mc, F.ok S len (fun cdv A outer s H vs Q E hr h => b f' cdv A outer s H vs Q E hr h), F.kp, hb, c.mg, ⟨h1, h2⟩, ⟨h3, rfl⟩⟩
end
section
variable {X : Cx} {k : Nat} {x : Str} {C : Addr} {sp : Sp} {p1 p2 pos : Pos} {e : Expr} {es : List Expr} {t : TA}
theorem pe_cinit {pl : Sem Bool} (G : InitOk X.prog X.w X.K X.mg X.base k C x sp) (hr : Room k X.A) (ha : PA X (e :: es) t) (hg : Gl X x := by rfl) (hdb : (x == ("__debug__" : Str)) = false := by decide)
    (hst : starEach (e :: es) X.env = (false, eval e X.env) :: starEach es X.env := by rfl) (hpl : (backTo pos (starEach es X.env)).any (·.1) = false := by rfl)
    (ht : eval (.Call (.Attribute (.Name x p1) "__init__" p2) (e :: es) [] pos) X.env = (do
      let ov ← eval (.Name x p1) X.env
      standAt p2.atName
      let (f, first) ← holding [ov] (getMethod ov "__init__" pl)
      callWith pos f first (backTo pos (starEach (e :: es) X.env)) (backToKw pos (keywordEach [] X.env))) := by rfl) :
    PE X (.Call (.Attribute (.Name x p1) "__init__" p2) (e :: es) [] pos) (tCall sp [] E0 t) := by
  obtain ⟨f, fd, ps, mc, F, hk, hb, hm, r, c⟩ := G.ex
  refine ⟨fun pins s σ H Q I h => ?_⟩
  refine PySem.W.methodCall_KW (ld_glob I hg hm ?_ hdb) ht
  refine PySem.W.method_cls (I.tok _).kIn r.ga (ClX.getcval_ok (I.tok _) r c fun s2 I2 => ?_)
  refine PySem.W.callWith_K (first := []) (h₀ := X.base) I2.ok.mod.kin hk (thn (ha.run pos pins s2 σ H _ I2 h) fun us s3 ⟨vs, H2, I3, rv, q2⟩ => ⟨I3.kIn, ?_⟩) hst hpl
  exact run_fn F hr hb .nil pass0 I3 rv q2
end
def spBase : Sp := fun vs H Q _ => ∃ (a C : Addr) (w : V) (K : PySem.W.Frag), vs = [.ref a, w] ∧ OexC K C ∧ H a = some (exo a C none) ∧ Q .non H
def spBaseK (K : PySem.W.Frag) : Sp := fun vs H Q _ => ∃ (a C : Addr) (w : V), vs = [.ref a, w] ∧ OexC K C ∧ H a = some (exo a C none) ∧ Q .non H
def spErr (C : Addr) (names : List Str) : Sp := fun vs H Q _ => ∃ (a : Addr) (ys : List V), vs = .ref a :: ys ∧ ys.length = names.length ∧ H a = some (exo a C none) ∧
  ∀ dx, H dx = none → dx ≠ a → Q .non (upd (upd H dx (exd dx (names.zip ys).reverse)) a (exo a C (some dx)))
theorem upd_swap {H : Hp} {a b : Addr} {o o1 o2 : HO} (n : b ≠ a) : upd (upd (upd H b o1) a o) b o2 = upd (upd H b o2) a o := by
  funext c
  by_cases h1 : c = b
  · subst h1
    rw [upd_same, upd_ne n, upd_same]
  · rw [upd_ne h1]
    by_cases h2 : c = a
    · subst h2
      rw [upd_same, upd_same]
    · rw [upd_ne h2, upd_ne h2, upd_ne h1, upd_ne h1]
theorem errMk {C : Addr} {names : List Str} {vs : List V} {H1 : Hp} {Q : XK} (hl : vs.length = names.length) (hn : names.length ≤ 10) (q : ∀ d, H1 d = none → Q (.ref C) (some d) (upd H1 d (.xd (names.zip vs).reverse))) :
    vs.length ≤ 1000 ∧ ∀ a, H1 a = none → spErr C names (.ref a :: (vs ++ [])) (upd H1 a (exo a C none))
      (fun v H2 => v = .non ∧ ∃ (d : Addr) (fs : List (Str × V)), H2 a = some (exo a C (some d)) ∧ H2 d = some (exd d fs) ∧ H1 d = none ∧ Q (.ref C) (some d) (upd (del H2 a) d (.xd fs))) (fun _ _ _ => False) := by
  refine ⟨by omega, fun a ha => ⟨a, vs, by rw [List.append_nil], hl, upd_same, fun dx hdx ndx => ⟨rfl, dx, _, upd_same, by rw [upd_ne ndx, upd_same], by rw [upd_ne ndx] at hdx; exact hdx, ?_⟩⟩⟩
  have hd : H1 dx = none := by rw [upd_ne ndx] at hdx; exact hdx
  have e : upd (del (upd (upd (upd H1 a (exo a C none)) dx (exd dx (names.zip vs).reverse)) a (exo a C (some dx))) a) dx (.xd (names.zip vs).reverse) = upd H1 dx (.xd (names.zip vs).reverse) := by
    funext c
    by_cases h1 : c = dx
    · subst h1
      rw [upd_same, upd_same]
    · rw [upd_ne h1, upd_ne h1]
      by_cases h2 : c = a
      · subst h2
        rw [del_same, ha]
      · rw [del_ne h2, upd_ne h2, upd_ne h1, upd_ne h2]
  rw [e]
  exact q dx hd
structure CallX (P : Program) (w : World) (K : PySem.W.Frag) (mg : Str → Option Value) (base : Heap) (k : Nat) (x : Str) (sp : Sp) : Prop where
  ex : ∃ f fd ps, FnOk P w K mg base (L2.CX P w) k f fd ps sp ∧ mg x = some (.ref f) ∧ PySem.W.keepIn K (.ref f) = true ∧ Binds K fd ps []
structure MethX (P : Program) (w : World) (K : PySem.W.Frag) (mg : Str → Option Value) (base : Heap) (k : Nat) (C : Addr) (m : Str) (sp : Sp) : Prop where
  ex : ∃ f fd ps, FnOk P w K mg base (L2.CX P w) k f fd ps sp ∧ Meth K C m f ∧ Binds K fd ps [] ∧ Cls K C
structure MakeX (P : Program) (w : World) (K : PySem.W.Frag) (mg : Str → Option Value) (base : Heap) (k : Nat) (C : Addr) (x : Str) (sp : Sp) : Prop where
  ex : ∃ f fd ps, FnOk P w K mg base (L2.CX P w) k f fd ps sp ∧ Mk K C f ∧ Binds K fd ps [] ∧ mg x = some (.ref C)
section
variable {P : Program} {w : World} {K : PySem.W.Frag} {mg : Str → Option Value} {base : Heap} {k : Nat} {x m q : Str} {C : Addr} {sp : Sp} {N ps : List Str} {st : Stmt}
def BodyX (P : Program) (w : World) (K : PySem.W.Frag) (mg : Str → Option Value) (base : Heap) (k : Nat) (N : List Str) (q : Str) (st : Stmt) (sp : Sp) : Prop :=
  ∀ (f : Addr) (cdv : Value) (A : Around) (outer : List Env) (s : Shared) (H : Hp) (vs : List V) (Q : VK) (E : XK), Room k (A.deeper (envOfC q (defScope st) s.heap.objs.size f cdv)) → sp vs H Q E →
    ∃ t, PSs (cxOf (L2.CX P w) P w K mg base N q (defScope st) f cdv A outer s H E) (defBody st) t ∧ t { nx := fun _ H' => Q .non H', rt := Q } (start N vs) H
theorem DefAt.okX (D : DefAt K mg x st ps) (S : FnScope N ps (defScope st)) (len : ∀ vs H Q E, sp vs H Q E → vs.length = ps.length) (b : BodyX P w K mg base k N x st sp) : CallX P w K mg base (k + 1) x sp := by
  obtain ⟨f, fd, F, hm, hb⟩ := D.ex
  exact ⟨f, fd, ps, F.okX S len (fun cdv A outer s H vs Q E hr h => b f cdv A outer s H vs Q E hr h), hm, F.kp, hb⟩
theorem MethAt.okX (D : MethAt K C m q st ps) (c : Cls K C) (S : FnScope N ps (defScope st)) (len : ∀ vs H Q E, sp vs H Q E → vs.length = ps.length) (b : BodyX P w K mg base k N q st sp) : MethX P w K mg base (k + 1) C m sp := by
  obtain ⟨f, fd, F, hm, hb⟩ := D.ex
  exact ⟨f, fd, ps, F.okX S len (fun cdv A outer s H vs Q E hr h => b f cdv A outer s H vs Q E hr h), hm, hb, c⟩
theorem MethAt.makeX (D : MethAt K C "__init__" q st ps) (c : ClassAt K mg C x) (S : FnScope N ps (defScope st)) (len : ∀ vs H Q E, sp vs H Q E → vs.length = ps.length) (b : BodyX P w K mg base k N q st sp) : MakeX P w K mg base (k + 1) C x sp := by
  obtain ⟨f, fd, F, hm, hb⟩ := D.ex
  exact ⟨f, fd, ps, F.okX S len (fun cdv A outer s H vs Q E hr h => b f cdv A outer s H vs Q E hr h), ⟨c.makes, hm.at_, hm.fn, c.kp⟩, hb, c.mg⟩
end
section
variable {X : Cx} {k : Nat} {x m : Str} {C : Addr} {sp : Sp} {p pos apos : Pos} {e o : Expr} {es : List Expr} {t : TA} {ta ti : TE} {W : WX} {E : L2.St → XK}
theorem pe_callX (G : CallX X.prog X.w X.K X.mg X.base k x sp) (hr : Room k X.A) (tk : Takes X W) (ha : PA X (e :: es) t) (hg : Gl X x := by rfl) (hdb : (x == ("__debug__" : Str)) = false := by decide)
    (he : starEach (e :: es) X.env = (false, eval e X.env) :: starEach es X.env := by rfl) (hpl : (backTo pos (starEach es X.env)).any (·.1) = false := by rfl) : PE X (.Call (.Name x p) (e :: es) [] pos) (tCallS sp (WE W) t) := by
  obtain ⟨f, fd, ps, F, hm, hk, hb⟩ := G.ex
  exact pe_callS F hr hg hm hk hb (fun σ => passAt tk σ) ha hdb he hpl
def tMethX (C : Addr) (m : Str) (sp : Sp) (E : L2.St → XK) (ta : TE) (t : TA) : TE := fun σ H Q => ta σ H fun x H1 => ∃ a dx fs, x = .ref a ∧ H1 a = some (.ins C dx fs) ∧ fs.lookup m = none ∧ t σ H1 fun vs H2 => sp (x :: vs) H2 Q (E σ)
theorem pe_methX {pl : Sem Bool} (he : PE X o ta) (G : MethX X.prog X.w X.K X.mg X.base k C m sp) (hr : Room k X.A) (tk : Takes X W) (ha : PA X (e :: es) t)
    (hst : starEach (e :: es) X.env = (false, eval e X.env) :: starEach es X.env := by rfl) (hpl : (backTo pos (starEach es X.env)).any (·.1) = false := by rfl)
    (ht : eval (.Call (.Attribute o m apos) (e :: es) [] pos) X.env = (do
      let ov ← eval o X.env
      standAt apos.atName
      let (f, first) ← holding [ov] (getMethod ov m pl)
      callWith pos f first (backTo pos (starEach (e :: es) X.env)) (backToKw pos (keywordEach [] X.env))) := by rfl) :
    PE X (.Call (.Attribute o m apos) (e :: es) [] pos) (tMethX C m sp (WE W) ta t) := by
  obtain ⟨f, fd, ps, F, hm, hb, c⟩ := G.ex
  refine ⟨fun pins s σ H Q I h => ?_⟩
  refine PySem.W.methodCall_KW (pl := pl) (thn (he.run pins s σ H _ I h) fun u s1 ⟨x, H1, I1, rx, a, dx, fs, ex, ea, l, q⟩ => ?_) ht
  subst ex
  obtain rfl : u = Value.ref a := rx
  refine getmeth_ok I1 ea c hm l ?_
  refine PySem.W.callWith_K (first := [.ref a]) (h₀ := X.base) I.ok.mod.kin hm.kp (thn (ha.run pos pins s1 σ H1 _ I1 q) fun us s2 ⟨vs, H2, I2, r, q2⟩ => ⟨I2.kIn, ?_⟩) hst hpl
  exact run_fnS (us := .ref a :: us) (vs := .ref a :: vs) F hr hb (passAt tk σ) I2 (.cons rfl r) q2
theorem run_makeS {f : Addr} {fd : FuncData} {ps : List Str} {CX : CXT} {pins : List (Addr × Obj)} {σ : L2.St} {H : Hp} {s : Shared} {Q : VK} {us : List Value} {vs : List V} (M : Mk X.K C f) (F : FnOk X.prog X.w X.K X.mg X.base CX k f fd ps sp) (hr : Room (k + 1) X.A) (hb : Binds X.K fd ps [])
    (hx : PassesAt CX X σ (E σ)) (I : Inv X pins σ H s) (r : Vals vs us)
    (h : ∀ x dx, H x = none → H dx = none → dx ≠ x → sp (.ref x :: vs) (upd (upd H dx (.own x)) x (.ins C dx [])) (fun v H2 => v = .non ∧ Q (.ref x) H2) (E σ)) :
    wpAny (model X.prog X.w) X.A (call (.ref C) us) (EP X pins σ Q) X.xe s := by
  have hq := h (s.heap.objs.size + 1) s.heap.objs.size (I.hok.fresh (Nat.le_succ _)) (I.hok.fresh (Nat.le_refl _)) (Nat.ne_of_lt (Nat.lt_succ_self _))
  have I2 := Inv.made (C := C) I
  have r2 : Vals (V.ref (s.heap.objs.size + 1) :: vs) (Value.ref (s.heap.objs.size + 1) :: us) := .cons rfl r
  have hl : (Value.ref (s.heap.objs.size + 1) :: us).length = ps.length := by
    have e := r2.length
    rw [F.len _ _ _ _ hq] at e
    exact e.symm
  have hb2 := hb _ (Value.ref (s.heap.objs.size + 1) :: us) I2.kIn (by rw [List.append_nil]; exact hl)
  rw [List.append_nil] at hb2
  refine wpAny_call (make_map (f := f) I.kIn M.makes M.init (beq_iff_eq.mp M.fn) (codeAny_mono (F.run _ X.stack _ _ ⟨Value.ref (s.heap.objs.size + 1) :: us, []⟩ (Value.ref (s.heap.objs.size + 1) :: us) _ _ (E σ) (hr.make C us [])
    (I2.env0.make C us []) hb2 r2 hq) fun r s' hq' => ?_))
  cases r with
  | error e => exact hx pins _ _ e s' I2 hq'
  | ok fl =>
    cases fl with
    | ret u =>
      obtain ⟨v, H', I3, rv, ev, q3⟩ := I2.after hq'
      subst ev
      exact ⟨rv, ⟨V.ref (s.heap.objs.size + 1), H', I3, rfl, q3⟩⟩
    | next => exact False.elim hq'
    | brk => exact False.elim hq'
    | cont => exact False.elim hq'
def tMakeX (C : Addr) (sp : Sp) (E : L2.St → XK) (t : TA) : TE := fun σ H Q => t σ H fun vs H1 => ∀ x dx, H1 x = none → H1 dx = none → dx ≠ x →
  sp (.ref x :: vs) (upd (upd H1 dx (.own x)) x (.ins C dx [])) (fun v H2 => v = .non ∧ Q (.ref x) H2) (E σ)
theorem pe_makeX (G : MakeX X.prog X.w X.K X.mg X.base k C x sp) (hr : Room (k + 1) X.A) (tk : Takes X W) (ha : PA X (e :: es) t) (hg : Gl X x := by rfl) (hdb : (x == ("__debug__" : Str)) = false := by decide)
    (he : starEach (e :: es) X.env = (false, eval e X.env) :: starEach es X.env := by rfl) (hpl : (backTo pos (starEach es X.env)).any (·.1) = false := by rfl) : PE X (.Call (.Name x p) (e :: es) [] pos) (tMakeX C sp (WE W) t) := by
  obtain ⟨f, fd, ps, F, M, hb, hm⟩ := G.ex
  refine ⟨fun pins s σ H Q I h => ?_⟩
  refine wpAny_Call_Name_kw (ld_glob I hg hm ?_ hdb)
  refine PySem.W.callWith_K (h₀ := X.base) I.ok.mod.kin M.kp (thn (ha.run pos pins s σ H _ I h) fun us s1 ⟨vs, H1, I1, r, q⟩ => ⟨I1.kIn, ?_⟩) he hpl
  exact run_makeS M F hr hb (passAt tk σ) I1 r q
def gSubX (C : Addr) (sp : Sp) (E : L2.St → XK) (to ti : TE) : TG := fun v σ H Q => to σ H fun o H1 => ti σ H1 fun i H2 => ∃ a dx fs, o = .ref a ∧ H2 a = some (.ins C dx fs) ∧ sp [.ref a, i, v] H2 (fun _ H3 => Q σ H3) (E σ)
theorem pg_subX {i : Expr} (ho : PE X o ta) (hi : PE X i ti) (G : MethX X.prog X.w X.K X.mg X.base k C "__setitem__" sp) (hr : Room k X.A) (hq : PySem.W.noSeq X.K C = true) (tk : Takes X W)
    (ha : ∀ v, assign (.Subscript o i pos) X.env v = (do
      let ov ← holding [v] (eval o X.env)
      let iv ← holding [v, ov] (eval i X.env)
      standAt pos
      holding [v, ov, iv] (setItem ov iv v)
      release [v, ov, iv] []) := by intro _; rfl) : PG X (.Subscript o i pos) (gSubX C sp (WE W) ta ti) := by
  obtain ⟨f, fd, ps, F, hm, hb, c⟩ := G.ex
  refine ⟨fun pins s σ H v u Q I r h => ?_⟩
  rw [ha]
  refine wpAny_bind (wpAny_holding (thn (ho.run pins s σ H _ I h) fun ov s1 ⟨x, H1, I1, r1, q1⟩ => ?_))
  refine wpAny_bind (wpAny_holding (thn (hi.run pins s1 σ H1 _ I1 q1) fun iv s2 ⟨y, H2, I2, r2, q2⟩ => ?_))
  obtain ⟨a, dx, fs, rfl, hp, q2⟩ := q2
  obtain rfl : ov = Value.ref a := r1
  have I2t := I2.tok s2.toks
  refine wpAny_bind (wpAny_standAt (wpAny_bind (wpAny_holding ?_)))
  obtain ⟨m, fr⟩ := I2.fr
  obtain ⟨mA, O, _⟩ := ins_get I2.hok hp
  obtain ⟨od, J, _⟩ := O.look
  refine PySem.W.ksp_setItem fr I2.ok.mod.kin J hq hm.at_ hm.fn (thn (run_fnS (us := [.ref a, iv, u]) (vs := [.ref a, y, v]) F hr hb (passAt tk σ) I2 (.cons rfl (.cons r2 (.cons r .nil))) q2) fun rr s3 ⟨z, H3, I3, r3, q3⟩ => ?_)
  exact wpAny_release ⟨σ, H3, I3, q3⟩
def tIxX (C : Addr) (sp : Sp) (E : L2.St → XK) (ta tb : TE) : TE := fun σ H Q => ta σ H fun x H1 => tb σ H1 fun y H2 => ∃ a dx fs, x = .ref a ∧ H2 a = some (.ins C dx fs) ∧ sp [.ref a, y] H2 Q (E σ)
end
end My
namespace My
open PySem PySem.Spec PyProof.Rows L2
section
variable {X : Cx} {k : Nat} {C : Addr} {sp : Sp} {q : Str} {st : Stmt} {ps : List Str} {pos : Pos} {o i : Expr} {ta ti : TE} {W : WX}
theorem pe_ixX {s2 : Stmt} (ho : PE X o ta) (hi : PE X i ti) (G : MethX X.prog X.w X.K X.mg X.base k C "__getitem__" sp) (D : MethAt X.K C "__getitem__" q st ps) (hr : Room (k + 1) X.A) (tk : Takes X W)
    (hs : ∀ ov iv, subscripted i true ov iv = runValue (.builtin "lifetime.subscript" ⟨[ov, iv], []⟩) := by intro _ _; rfl) : PE X (.Subscript o i pos) (tIxX C sp (WE W) ta ti) := by
  obtain ⟨f, fd, ps2, F, hm, hb, c⟩ := G.ex
  refine ⟨fun pins s σ H Q I h => ?_⟩
  refine Subscript_ (thn (ho.run pins s σ H _ I h) fun ov s1 ⟨x, H1, I1, r1, q1⟩ => thn (hi.run pins s1 σ H1 _ I1 q1) fun iv s2 ⟨y, H2, I2, r2, q2⟩ => ?_)
  obtain ⟨a, dx, fs, rfl, hp, q2⟩ := q2
  obtain rfl : ov = Value.ref a := r1
  obtain ⟨m, fr⟩ := I2.fr
  obtain ⟨mA, O, _⟩ := ins_get I2.hok hp
  obtain ⟨od, J, _⟩ := O.look
  have hl : ([.ref a, iv] : List Value).length = ps2.length := by
    have e : Vals [V.ref a, y] [Value.ref a, iv] := .cons rfl (.cons r2 .nil)
    rw [← e.length]
    exact F.len _ _ _ _ q2
  have hbt := hb s2 [.ref a, iv] I2.kIn (by simpa using hl)
  rw [List.append_nil] at hbt
  refine PySem.W.sub_K fr I2.ok.mod.kin J hm.at_ (D.fnIn hm) hm.fn ?_ (hs _ _)
  refine wpAny_call (codeAny_mono (F.run X.A.in1 X.stack s2 H2 ⟨[.ref a, iv], []⟩ [.ref a, iv] [.ref a, y] Q (WE W σ) hr.in1 I2.env0.in1 hbt (.cons rfl (.cons r2 .nil)) q2) fun r s' hq => ?_)
  cases r with
  | error e => exact passAt tk σ pins _ _ e s' I2 hq
  | ok fl =>
    cases fl with
    | ret u => exact I2.after hq
    | next => exact False.elim hq
    | brk => exact False.elim hq
    | cont => exact False.elim hq
end
end My
namespace My
open PySem PySem.Spec PyProof.Rows L2
structure ErrOk (P : Program) (w : World) (K : PySem.W.Frag) (mg : Str → Option Value) (base : Heap) (k : Nat) (C : Addr) (x : Str) (names : List Str) : Prop where
  ex : ∃ f fd ps, FnOk P w K mg base CX0 k f fd ps (spErr C names) ∧ PySem.W.findIn K (.ref C) "__init__" = some (some (.ref f)) ∧ PySem.W.typeIn K (.ref f) = some (.type "function") ∧ Binds K fd ps [] ∧ ErrAt K mg C x names
theorem MethAt.err {P : Program} {w : World} {K : PySem.W.Frag} {mg : Str → Option Value} {base : Heap} {k : Nat} {x q : Str} {C : Addr} {N ps names : List Str} {st : Stmt} (D : MethAt K C "__init__" q st ps) (c : ErrAt K mg C x names) (S : FnScope N ps (defScope st))
    (len : ∀ vs H Q E, spErr C names vs H Q E → vs.length = ps.length) (b : BodyOk P w K mg base k N q st (spErr C names)) : ErrOk P w K mg base (k + 1) C x names := by
  obtain ⟨f, fd, F, hm, hb⟩ := D.ex
  exact ⟨f, fd, ps, F.ok S len (fun cdv A outer s H vs Q E hr h => b f cdv A outer s H vs Q E hr h), hm.at_, beq_iff_eq.mp hm.fn, hb, c⟩
section
variable {X : Cx} {k : Nat} {x : Str} {C : Addr} {names : List Str} {p pos pos2 : Pos} {e : Expr} {es : List Expr} {t : TA} {W : WX}
def tRaiseE (C : Addr) (names : List Str) (W : WX) (t : TA) : TS := fun _ σ H => tMkO C (spErr C names) [] t σ H fun cls d H' => W cls d σ H'
theorem ps_raiseE (hc : X.calm = true) (G : ErrOk X.prog X.w X.K X.mg X.base k C x names) (hr : Room (k + 1) X.A) (tk : Takes X W) (ha : PA X (e :: es) t) (hg : Gl X x := by rfl) (hdb : (x == ("__debug__" : Str)) = false := by decide)
    (he : starEach (e :: es) X.env = (false, eval e X.env) :: starEach es X.env := by rfl) (hpl : (backTo pos (starEach es X.env)).any (·.1) = false := by rfl) :
    PS X (.Raise (some (.Call (.Name x p) (e :: es) [] pos)) none pos2) (tRaiseE C names W t) := by
  obtain ⟨f, fd, ps, F, iC, tI, hb, c⟩ := G.ex
  exact ps_raise hc tk (pmk_oex c.ox iC tI F hr hb .nil pass0 hg c.mg ha hdb he hpl)
end
end My
namespace My
open PySem PySem.Spec PyProof.Rows L2
section
variable {K : PySem.W.Frag} {h : Heap} {mg : Str → Option Value} {C f N : Addr} {x nm q : Str} {bs bm : List Value} {sn : List Str} {sub : List Value} {ab : Bool} {col : Option Bool} {dd : Option Addr} {m0 m1 m2 m3 m5 : Option Value}
theorem baseAt (X : K.In h) (G : h.Ns mainGlobals mg) (a : PySem.W.nsIn K mainGlobals x = some (some (.ref C))) (rd : PySem.W.readsIn K C (.type "type") = true) (ga : PySem.W.specialIn K (.ref C) "__getattribute__" = some (some (.builtin "type.__getattribute__")))
    (fi : PySem.W.findIn K (.ref C) "__init__" = some (some (.ref f))) (fc : PySem.W.findCls K (.ref C) (.type "type") "__init__" = some (.val (.ref f))) : BaseAt K mg C x := ⟨PySem.W.mg_of X G a, _, f, rd, ga, fc, fi⟩
theorem errAt {names : List Str} (X : K.In h) (G : h.Ns mainGlobals mg) (a : PySem.W.nsIn K mainGlobals x = some (some (.ref C))) (l : K.lookup C = some (excClassObj nm q C N bs bm true sn sub ab col dd m0 m1 m2 m3 m5 "ValueError.__new__")) (b : PySem.HandSPX.refsVE bm = true)
    (sa : PySem.W.findIn K (.ref C) "__setattr__" = some (some (.builtin "object.__setattr__"))) (eC : PySem.W.subIn K (.ref C) (.type "BaseException") = some true) (tC : PySem.W.typeIn K (.ref C) = some (.type "type")) (kC : PySem.W.keepIn K (.ref C) = true)
    (ga : PySem.W.findIn K (.ref C) "__getattribute__" = some (some (.builtin "BaseException.__getattribute__"))) (gg : PySem.W.findIn K (.ref C) "__getattr__" = some none) (hC : PySem.W.hasDictIn K C = true) (no : ∀ f ∈ names, PySem.W.findIn K (.ref C) f = some none) : ErrAt K mg C x names :=
  ⟨PySem.W.mg_of X G a, ⟨⟨nm, q, N, bs, bm, sn, sub, ab, col, dd, m0, m1, m2, m3, m5, l, b⟩, sa, eC, tC, kC⟩, ⟨ga, gg, eC, hC⟩, no⟩
theorem no0 : ∀ f ∈ ([] : List Str), PySem.W.findIn K (.ref C) f = some none := by simp
theorem noC {g : Str} {l : List Str} (h : PySem.W.findIn K (.ref C) g = some none) (r : ∀ f ∈ l, PySem.W.findIn K (.ref C) f = some none) : ∀ f ∈ g :: l, PySem.W.findIn K (.ref C) f = some none := fun f hf => by
  rcases List.mem_cons.mp hf with rfl | hf
  · exact h
  · exact r f hf
theorem ErrAt.exm {names : List Str} {cls : Value} {b : Bool} (c : ErrAt K mg C x names) (h : PySem.W.subIn K cls (.ref C) = some b) : PySem.W.exmOne K cls (.ref C) = some b := PySem.W.exm_ref c.ox.exC c.xf.hdC c.ox.tyC h
end
end My
namespace My
open PySem PySem.Spec PyProof.Rows L2
theorem xd1 {f : Str} {y : V} {l : List (Str × V)} : ((f, y) :: l).lookup f = some y := by rw [lookup_put, if_pos rfl]
theorem xdS {f g : Str} {y : V} {l : List (Str × V)} {o : Option V} (h : ¬ g = f) (r : l.lookup g = o) : ((f, y) :: l).lookup g = o := by rw [lookup_put, if_neg h, r]
end My
namespace My
open PySem L2
theorem Fr1.new {a p : Addr} {H H' : Hp} {o : HO} {n : Nat} (f : Fr1 a H H') (S : StAt H' a n) (h : H' p = none) : Fr1 a H (L2.upd H' p o) := f.upd (f.free (S.ne h).symm h)
theorem cut_drop (xs : List V) (k : Nat) (h : k ≤ xs.length) : cutV xs (some (k : Int)) none = xs.drop k := by
  unfold cutV
  rw [show HT.sIx xs.length 0 (some (k : Int)) = min k xs.length from HT.sIx_nat _ _ k, HT.sIx_none, Nat.min_eq_left h]
  exact List.take_of_length_le (by rw [List.length_drop]; exact Nat.le_refl _)
end My
namespace My
open PySem L2
theorem vSome {kvs : List (Key × V)} {k : Key} (h : k ∈ kvs.map (·.1)) : ∃ v, valV kvs k = some v := by
  have h1 := valV_any k kvs
  obtain ⟨q, hq, rfl⟩ := List.mem_map.mp h
  have h2 : (kvs.any fun kv => decide (kv.1 = q.1)) = true := List.any_eq_true.mpr ⟨q, hq, decide_eq_true rfl⟩
  rw [h2] at h1
  exact Option.isSome_iff_exists.mp h1.symm
theorem vPair {kvs : List (Key × V)} {k : Key} {v : V} (h : valV kvs k = some v) : (k, v) ∈ kvs := by
  unfold valV at h
  obtain ⟨q, hq, rfl⟩ := Option.map_eq_some_iff.mp h
  have h2 : q.1 = k := of_decide_eq_true (List.find?_some (p := fun kv : Key × V => decide (kv.1 = k)) hq)
  rw [← h2]
  exact List.mem_of_find?_eq_some hq
theorem vNone {kvs : List (Key × V)} {k : Key} (h : k ∉ kvs.map (·.1)) : valV kvs k = none := by
  cases c : valV kvs k with
  | none => rfl
  | some v => exact absurd (valV_in c) h
theorem vMem {kvs : List (Key × V)} (nd : (kvs.map (·.1)).Nodup) {q : Key × V} (h : q ∈ kvs) : valV kvs q.1 = some q.2 := by
  obtain ⟨i, hi, e⟩ := List.getElem_of_mem h
  exact valV_at nd (i := i) (by rw [List.getElem?_eq_getElem hi, e])
theorem putK_keys (a : List (Key × V)) (k : Key) (v : V) : (putK a k v).map (·.1) = if ((a.map (·.1)).any fun x => decide (x = k)) = true then a.map (·.1) else a.map (·.1) ++ [k] := by
  by_cases h : k ∈ a.map (·.1)
  · rw [if_pos (List.any_eq_true.mpr ⟨k, h, decide_eq_true rfl⟩)]
    obtain ⟨u, hu⟩ := vSome h
    unfold putK
    rw [valV_any, hu]
    show ((a.map fun kv => if kv.1 = k then (kv.1, v) else kv).map (·.1)) = _
    rw [List.map_map]
    have : ((·.1) ∘ fun kv : Key × V => if kv.1 = k then (kv.1, v) else kv) = (·.1) := by
      funext kv
      show (if kv.1 = k then (kv.1, v) else kv).1 = kv.1
      split <;> rfl
    rw [this]
  · rw [if_neg (fun z => by
      obtain ⟨x, hx, e⟩ := List.any_eq_true.mp z
      rw [of_decide_eq_true e] at hx
      exact h hx), putK_new _ (vNone h), List.map_append]
    rfl
theorem dropK_keys : ∀ (a : List (Key × V)) (k : Key), (dropK a k).map (·.1) = (a.map (·.1)).filter fun x => decide (x ≠ k)
  | [], _ => rfl
  | p :: r, k => by
    by_cases e : p.1 = k
    · rw [dropK_pos e, dropK_keys r k, List.map_cons, List.filter_cons, if_neg (by simp [e])]
    · rw [dropK_neg e, List.map_cons, dropK_keys r k, List.map_cons, List.filter_cons, if_pos (by simp [e])]
theorem vDrop : ∀ (a : List (Key × V)) (k j : Key), valV (dropK a k) j = if j = k then none else valV a j
  | [], k, j => by
    show valV [] j = _
    rw [valV_nil]
    split <;> rfl
  | p :: r, k, j => by
    by_cases e : p.1 = k
    · rw [dropK_pos e, vDrop r k j]
      by_cases h : j = k
      · rw [if_pos h, if_pos h]
      · rw [if_neg h, if_neg h, valV_neg (fun z => h (z.symm.trans e))]
    · rw [dropK_neg e]
      by_cases h : p.1 = j
      · rw [valV_pos h, if_neg (fun z => e (h.trans z)), valV_pos h]
      · rw [valV_neg h, vDrop r k j, valV_neg h]
structure RowsEq (H : Hp) (a b : List (Key × V)) : Prop where
  keys : b.map (·.1) = a.map (·.1)
  row : ∀ k v, valV a k = some v → ∃ v' lab cs, valV b k = some v' ∧ Td H v (rowD lab cs) ∧ Td H v' (rowD lab cs)
section
variable {H H' : Hp} {a b : List (Key × V)}
theorem RowsEq.mono (h : RowsEq H a b) (kt : KT H H') : RowsEq H' a b := ⟨h.keys, fun k v hv => by
  obtain ⟨v', lab, cs, h1, h2, h3⟩ := h.row k v hv
  exact ⟨v', lab, cs, h1, h2.mono kt, h3.mono kt⟩⟩
theorem RowsEq.nil : RowsEq H [] [] := ⟨rfl, fun k v h => by cases h⟩
theorem RowsEq.len (h : RowsEq H a b) : b.length = a.length := by
  have := congrArg List.length h.keys
  rw [List.length_map, List.length_map] at this
  exact this
theorem RowsEq.some (h : RowsEq H a b) (k : Key) : (valV b k).isSome = (valV a k).isSome := by
  cases c : valV a k with
  | some v =>
    obtain ⟨v', lab, cs, h1, _⟩ := h.row k v c
    rw [h1]
    rfl
  | none =>
    have : k ∉ a.map (·.1) := fun m => by
      obtain ⟨v, hv⟩ := vSome m
      rw [c] at hv
      cases hv
    rw [← h.keys] at this
    rw [vNone this]
theorem RowsEq.put {k : Key} {v v' : V} {lab : Int} {cs : List (Option Int)} (h : RowsEq H a b) (h1 : Td H v (rowD lab cs)) (h2 : Td H v' (rowD lab cs)) : RowsEq H (putK a k v) (putK b k v') := by
  refine ⟨by rw [putK_keys, putK_keys, h.keys], fun j u hu => ?_⟩
  rw [valV_put] at hu
  rw [valV_put]
  by_cases e : j = k
  · rw [if_pos e] at hu ⊢
    cases hu
    exact ⟨_, lab, cs, rfl, h1, h2⟩
  · rw [if_neg e] at hu ⊢
    exact h.row j u hu
theorem RowsEq.drop {k : Key} (h : RowsEq H a b) : RowsEq H (dropK a k) (dropK b k) := by
  refine ⟨by rw [dropK_keys, dropK_keys, h.keys], fun j u hu => ?_⟩
  rw [vDrop] at hu ⊢
  by_cases e : j = k
  · rw [if_pos e] at hu
    cases hu
  · rw [if_neg e] at hu ⊢
    exact h.row j u hu
end
structure Side2 (CD CS : Addr) (H : Hp) (pl : Plan) (s : Side) (ct ch : List (List (Key × V))) : Prop where
  db : DbAt CD CS H s.p pl s.sp s.de s.dr s.ds ct
  hd : HeldAt H s.dh pl s.hs ch
  nd : s.dicts.Nodup
  ap : ∀ d ∈ s.dicts, d ∉ s.fix
  eq : ∀ (i : Nat) (a b : List (Key × V)), ct[i]? = some a → ch[i]? = some b → RowsEq H a b
section
variable {CD CS : Addr} {H H' : Hp} {pl : Plan} {s : Side} {ct ch : List (List (Key × V))}
theorem Side2.same (S : Side2 CD CS H pl s ct ch) (e : Same H H') : Side2 CD CS H' pl s ct ch := ⟨S.db.same e, S.hd.same e, S.nd, S.ap, fun i a b h1 h2 => (S.eq i a b h1 h2).mono (KT.of e)⟩
theorem Side2.frf {F : List Addr} (S : Side2 CD CS H pl s ct ch) (e : FrF F H H') (nF : ∀ c ∈ F, ∀ xs, H c ≠ some (.tup xs)) (ap : ∀ c ∈ F, c ∉ s.fix ∧ c ∉ s.dicts) : Side2 CD CS H' pl s ct ch := by
  have k : ∀ G : List Addr, (∀ c ∈ G, c ∈ s.fix ∨ c ∈ s.dicts) → Kept G H H' := fun G hG => e.kept (fun c hc hF => by
    obtain ⟨a1, a2⟩ := ap c hF
    rcases hG c hc with h | h
    · exact a1 h
    · exact a2 h) nF
  refine ⟨S.db.keep (k _ fun c hc => ?_), S.hd.keep (k _ fun c hc => ?_), S.nd, S.ap, fun i a b h1 h2 => (S.eq i a b h1 h2).mono (k [] (by simp)).kt⟩
  · simp only [foot, List.mem_cons] at hc
    simp only [Side.fix, Side.dicts, List.mem_cons, List.mem_append]
    rcases hc with h | h | h | h | h <;> simp [h]
  · simp only [List.mem_cons] at hc
    simp only [Side.fix, Side.dicts, List.mem_cons, List.mem_append]
    rcases hc with h | h <;> simp [h]
theorem Side2.dict (S : Side2 CD CS H pl s ct ch) {c : Addr} (hc : c ∈ s.dicts) : ∃ kvs, H c = some (.dK kvs) := by
  rcases List.mem_append.mp hc with h | h
  · obtain ⟨i, hi, ei⟩ := List.getElem_of_mem h
    have hi2 : i < ct.length := by rw [S.db.cl, ← S.db.dl]; exact hi
    exact ⟨_, S.db.at_ i c _ (by rw [List.getElem?_eq_getElem hi, ei]) (List.getElem?_eq_getElem hi2)⟩
  · obtain ⟨i, hi, ei⟩ := List.getElem_of_mem h
    have hi2 : i < ch.length := by rw [S.hd.cl, ← S.hd.dl]; exact hi
    exact ⟨_, S.hd.at_ i c _ (by rw [List.getElem?_eq_getElem hi, ei]) (List.getElem?_eq_getElem hi2)⟩
theorem Side2.fr1 {a : Addr} {xs : List V} (S : Side2 CD CS H pl s ct ch) (h : H a = some (.lst xs)) (e : Fr1 a H H') : Side2 CD CS H' pl s ct ch := by
  refine S.frf (F := [a]) (fun c o hc ho => e c o (fun z => hc (by simp [z])) ho) (fun c hc ys z => ?_) fun c hc => ?_
  · rw [List.mem_singleton.mp hc, h] at z
    cases z
  · rw [List.mem_singleton.mp hc]
    refine ⟨fun m => ?_, fun m => ?_⟩
    · obtain ⟨dx, hp⟩ := S.db.ob
      obtain ⟨sdx, stv, skvs, s1, _, s3, _⟩ := S.db.sch.ex
      simp only [Side.fix, List.mem_cons, List.not_mem_nil, or_false] at m
      rcases m with rfl | rfl | rfl | rfl | rfl
      · rw [hp] at h
        cases h
      · rw [s1] at h
        cases h
      · rw [s3] at h
        cases h
      · rw [S.db.rws] at h
        cases h
      · rw [S.hd.rws] at h
        cases h
    · obtain ⟨u, hu⟩ := S.dict m
      rw [hu] at h
      cases h
theorem Side2.of {p sp de dr dh : Addr} {G : Hp} {ds hs : List Addr} (D : DbAt CD CS H p pl sp de dr ds ct) (Hd : HeldAt H dh pl hs ch) (L : ∀ c ∈ foot p sp de dr ds, G c ≠ none) (n1 : G dh = none) (n2 : ∀ d ∈ hs, G d = none) (eq : ∀ (i : Nat) (a b : List (Key × V)), ct[i]? = some a → ch[i]? = some b → RowsEq H a b) :
    Side2 CD CS H pl ⟨p, sp, de, dr, ds, dh, hs⟩ ct ch := by
  obtain ⟨dx, hp⟩ := D.ob
  obtain ⟨sdx, stv, skvs, s1, _⟩ := D.sch.ex
  have inF : ∀ c ∈ ds, c ∈ foot p sp de dr ds := fun c hc => by simp [foot, hc]
  refine ⟨D, Hd, List.nodup_append.mpr ⟨D.nd, Hd.nd, fun x hx y hy e => ?_⟩, fun d hd => ?_, eq⟩
  · subst e
    exact L x (inF x hx) (n2 x hy)
  · intro m
    simp only [Side.fix, List.mem_cons, List.not_mem_nil, or_false] at m
    rcases List.mem_append.mp hd with h | h
    · have hdk : ∃ u, H d = some (.dK u) := by
        obtain ⟨i, hi, ei⟩ := List.getElem_of_mem h
        have hi2 : i < ct.length := by rw [D.cl, ← D.dl]; exact hi
        exact ⟨_, D.at_ i d _ (by rw [List.getElem?_eq_getElem hi, ei]) (List.getElem?_eq_getElem hi2)⟩
      obtain ⟨u, hu⟩ := hdk
      rcases m with rfl | rfl | rfl | rfl | rfl
      · rw [hp] at hu
        cases hu
      · rw [s1] at hu
        cases hu
      · exact D.apart.2 h
      · exact D.apart.1 h
      · exact L _ (inF _ h) n1
    · rcases m with rfl | rfl | rfl | rfl | rfl
      · exact L _ (by simp [foot]) (n2 _ h)
      · exact L _ (by simp [foot]) (n2 _ h)
      · exact L _ (by simp [foot]) (n2 _ h)
      · exact L _ (by simp [foot]) (n2 _ h)
      · exact Hd.apart h
theorem Side2.step {H1 : Hp} {i : Nat} {d d2 : Addr} {ka kb : List (Key × V)} (S : Side2 CD CS H pl s ct ch) (hd : s.ds[i]? = some d) (hd2 : s.hs[i]? = some d2)
    (D1 : DbAt CD CS H1 s.p pl s.sp s.de s.dr s.ds (ct.set i ka)) (e : Fr1 d H H1) (q : RowsEq (upd H1 d2 (.dK kb)) ka kb) : Side2 CD CS (upd H1 d2 (.dK kb)) pl s (ct.set i ka) (ch.set i kb) := by
  have hdm : d ∈ s.ds := List.mem_of_getElem? hd
  have hdm2 : d2 ∈ s.hs := List.mem_of_getElem? hd2
  have dj := (List.nodup_append.mp S.nd).2.2
  have hi2 : i < ch.length := by rw [S.hd.cl, ← S.hd.dl]; exact (List.getElem?_eq_some_iff.mp hd2).1
  have hi1 : i < ct.length := by rw [S.db.cl, ← S.db.dl]; exact (List.getElem?_eq_some_iff.mp hd).1
  have h2 : H d2 = some (.dK ch[i]) := S.hd.at_ i d2 _ hd2 (List.getElem?_eq_getElem hi2)
  have hd0 : H d = some (.dK ct[i]) := S.db.at_ i d _ hd (List.getElem?_eq_getElem hi1)
  have n12 : d2 ≠ d := fun z => dj d hdm d2 hdm2 z.symm
  have h2' : H1 d2 = some (.dK ch[i]) := e d2 _ n12 h2
  have ap1 := S.ap d (List.mem_append.mpr (.inl hdm))
  have ap2 := S.ap d2 (List.mem_append.mpr (.inr hdm2))
  have kt1 : KT H H1 := fun c xs hc => e c _ (ne_of hc hd0 (by intro z; cases z)) hc
  have kt2 : KT H1 (upd H1 d2 (.dK kb)) := fun c xs hc => by
    rw [upd_ne (ne_of hc h2' (by intro z; cases z))]
    exact hc
  have kH : HeldAt H1 s.dh pl s.hs ch := S.hd.keep ⟨fun c hc o ho => e c o (fun z => by
    subst z
    rcases List.mem_cons.mp hc with h | h
    · exact ap1 (by simp [Side.fix, h])
    · exact dj c hdm c h rfl) ho, kt1⟩
  refine ⟨D1.keep ⟨fun c hc o ho => ?_, kt2⟩, kH.set (kvs := ch[i]) hd2 kb, S.nd, S.ap, fun j a b h1 h3 => ?_⟩
  · have : c ≠ d2 := fun z => by
      subst z
      simp only [foot, List.mem_cons] at hc
      rcases hc with h | h | h | h | h
      · exact ap2 (by simp [Side.fix, h])
      · exact ap2 (by simp [Side.fix, h])
      · exact ap2 (by simp [Side.fix, h])
      · exact ap2 (by simp [Side.fix, h])
      · exact dj c h c hdm2 rfl
    rw [upd_ne this]
    exact ho
  · by_cases c : i = j
    · subst c
      rw [List.getElem?_set_self hi1] at h1
      rw [List.getElem?_set_self hi2] at h3
      cases h1
      cases h3
      exact q
    · rw [List.getElem?_set_ne c] at h1 h3
      exact (S.eq j a b h1 h3).mono (kt1.trans kt2)
end
structure Many2 (n : Nat) (CD CS : Addr) (H : Hp) (PL : Nat → Plan) (S : Nat → Side) (C Ch : Nat → List (List (Key × V))) (m : Nat) : Prop where
  sd : ∀ k, k < n → Side2 CD CS H (PL k) (S k) (C k) (Ch k)
  ln : ∀ k, k < n → ∀ kvs ∈ C k, kvs.length ≤ m
def setF (C : Nat → List (List (Key × V))) (k i : Nat) (kvs : List (Key × V)) : Nat → List (List (Key × V)) := fun j => if j = k then (C k).set i kvs else C j
theorem setF_at (C : Nat → List (List (Key × V))) (k i : Nat) (kvs : List (Key × V)) : setF C k i kvs k = (C k).set i kvs := if_pos rfl
section
variable {n : Nat} {CD CS : Addr} {H H' : Hp} {PL : Nat → Plan} {S : Nat → Side} {C Ch : Nat → List (List (Key × V))} {m : Nat}
theorem Many2.same (W : Many2 n CD CS H PL S C Ch m) (e : Same H H') : Many2 n CD CS H' PL S C Ch m := ⟨fun k hk => (W.sd k hk).same e, W.ln⟩
theorem Many2.up {m' : Nat} (W : Many2 n CD CS H PL S C Ch m) (l : m ≤ m') : Many2 n CD CS H PL S C Ch m' := ⟨W.sd, fun k hk kvs h => Nat.le_trans (W.ln k hk kvs h) l⟩
theorem Many2.fr1 {a : Addr} {xs : List V} (W : Many2 n CD CS H PL S C Ch m) (h : H a = some (.lst xs)) (e : Fr1 a H H') : Many2 n CD CS H' PL S C Ch m := ⟨fun k hk => (W.sd k hk).fr1 h e, W.ln⟩
theorem Many2.step {H1 : Hp} {k i : Nat} {d d2 : Addr} {ka kb : List (Key × V)} (W : Many2 n CD CS H PL S C Ch m) (A : ApartN n S) (hk : k < n) (hd : (S k).ds[i]? = some d) (hd2 : (S k).hs[i]? = some d2)
    (D1 : DbAt CD CS H1 (S k).p (PL k) (S k).sp (S k).de (S k).dr (S k).ds ((C k).set i ka)) (e : Fr1 d H H1) (l : ka.length ≤ m) (q : RowsEq (upd H1 d2 (.dK kb)) ka kb) :
    FrF [d, d2] H (upd H1 d2 (.dK kb)) ∧ KT H (upd H1 d2 (.dK kb)) ∧ (∀ (c : Addr) (xs : List V), H c = some (.lst xs) → upd H1 d2 (.dK kb) c = some (.lst xs)) ∧ Many2 n CD CS (upd H1 d2 (.dK kb)) PL S (setF C k i ka) (setF Ch k i kb) m := by
  have hdm : d ∈ (S k).dicts := List.mem_append.mpr (.inl (List.mem_of_getElem? hd))
  have hdm2 : d2 ∈ (S k).dicts := List.mem_append.mpr (.inr (List.mem_of_getElem? hd2))
  obtain ⟨u1, hu1⟩ := (W.sd k hk).dict hdm
  obtain ⟨u2, hu2⟩ := (W.sd k hk).dict hdm2
  have f : FrF [d, d2] H (upd H1 d2 (.dK kb)) := fun c o hc ho => by
    simp only [List.mem_cons, List.not_mem_nil, or_false, not_or] at hc
    rw [upd_ne hc.2]
    exact e c o hc.1 ho
  have nt : ∀ c ∈ [d, d2], ∀ xs, H c ≠ some (.tup xs) := fun c hc xs z => by
    simp only [List.mem_cons, List.not_mem_nil, or_false] at hc
    rcases hc with rfl | rfl
    · rw [hu1] at z
      cases z
    · rw [hu2] at z
      cases z
  have kt : KT H (upd H1 d2 (.dK kb)) := (f.kept (G := []) (fun c hc => by cases hc) nt).kt
  have ls : ∀ (c : Addr) (xs : List V), H c = some (.lst xs) → upd H1 d2 (.dK kb) c = some (.lst xs) := fun c xs h => f c _ (fun z => by
    simp only [List.mem_cons, List.not_mem_nil, or_false] at z
    rcases z with rfl | rfl
    · rw [hu1] at h
      cases h
    · rw [hu2] at h
      cases h) h
  refine ⟨f, kt, ls, fun j hj => ?_, fun j hj => ?_⟩
  · show Side2 CD CS _ (PL j) (S j) (if j = k then _ else _) (if j = k then _ else _)
    by_cases z : j = k
    · subst z
      rw [if_pos rfl, if_pos rfl]
      exact (W.sd j hj).step hd hd2 D1 e q
    · rw [if_neg z, if_neg z]
      refine (W.sd j hj).frf f nt fun c hc => ?_
      simp only [List.mem_cons, List.not_mem_nil, or_false] at hc
      rcases hc with rfl | rfl
      · exact A k j hk hj (fun w => z w.symm) _ hdm
      · exact A k j hk hj (fun w => z w.symm) _ hdm2
  · show ∀ kvs ∈ (if j = k then _ else _), _
    split
    · rename_i z
      subst z
      intro kvs hv
      rcases List.mem_or_eq_of_mem_set hv with h | rfl
      · exact W.ln j hj kvs h
      · exact l
    · exact W.ln j hj
end
def addF {α : Type} (f : Nat → α) (i : Nat) (x : α) : Nat → α := fun k => if k = i then x else f k
theorem addF_at {α : Type} (f : Nat → α) (i : Nat) (x : α) : addF f i x i = x := if_pos rfl
theorem addF_ne {α : Type} (f : Nat → α) (i : Nat) (x : α) {k : Nat} (h : k ≠ i) : addF f i x k = f k := if_neg h
structure Hn (i : Nat) (G H : Hp) (PL : Nat → Plan) (A : Nat → Addr) (hs : Nat → List Addr) : Prop where
  hd : ∀ k, k < i → HeldAt H (A k) (PL k) (hs k) (nils (PL k))
  free : ∀ k, k < i → ∀ d ∈ A k :: hs k, G d = none
  dj : ∀ k j, k < i → j < i → k ≠ j → ∀ d ∈ A k :: hs k, d ∉ A j :: hs j
section
variable {i n : Nat} {CD CS : Addr} {G H H' : Hp} {PL : Nat → Plan} {S : Nat → Side} {A : Nat → Addr} {hs : Nat → List Addr}
theorem Hn.zero : Hn 0 G H PL A hs := ⟨fun k h => absurd h (Nat.not_lt_zero _), fun k h => absurd h (Nat.not_lt_zero _), fun k j h => absurd h (Nat.not_lt_zero _)⟩
theorem Hn.same (Q : Hn i G H PL A hs) (e : Same H H') : Hn i G H' PL A hs := ⟨fun k hk => (Q.hd k hk).same e, Q.free, Q.dj⟩
theorem Hn.add (Q : Hn i G H PL A hs) (eG : Same G H) {a : Addr} {l : List Addr} (D : HeldAt H' a (PL i) l (nils (PL i))) (f : ∀ d ∈ a :: l, H d = none) (e : Same H H') : Hn (i + 1) G H' PL (addF A i a) (addF hs i l) := by
  refine ⟨fun k hk => ?_, fun k hk d hd => ?_, fun k j hk hj hkj d hd hm => ?_⟩
  · by_cases z : k = i
    · subst z
      rw [addF_at, addF_at]
      exact D
    · rw [addF_ne _ _ _ z, addF_ne _ _ _ z]
      exact (Q.hd k (by omega)).same e
  · by_cases z : k = i
    · subst z
      rw [addF_at, addF_at] at hd
      exact eG.free (f d hd)
    · rw [addF_ne _ _ _ z, addF_ne _ _ _ z] at hd
      exact Q.free k (by omega) d hd
  · have lv : ∀ k, k < i → ∀ c ∈ A k :: hs k, H c ≠ none := fun k hk c hc z => by
      obtain ⟨u, hu⟩ := (Q.hd k hk).live c hc
      rw [hu] at z
      cases z
    by_cases z : k = i
    · subst z
      rw [addF_at, addF_at] at hd
      rw [addF_ne _ _ _ (fun w => hkj w.symm), addF_ne _ _ _ (fun w => hkj w.symm)] at hm
      exact lv j (by omega) d hm (f d hd)
    · rw [addF_ne _ _ _ z, addF_ne _ _ _ z] at hd
      by_cases w : j = i
      · subst w
        rw [addF_at, addF_at] at hm
        exact lv k (by omega) d hd (f d hm)
      · rw [addF_ne _ _ _ w, addF_ne _ _ _ w] at hm
        exact Q.dj k j (by omega) (by omega) hkj d hd hm
theorem sides2_of (B : Bases n CD CS G PL S) (e : Same G H) (Q : Hn n G H PL A hs) :
    Many2 n CD CS H PL (sides S A hs) (fun k => nils (PL k)) (fun k => nils (PL k)) 0 ∧ ApartN n (sides S A hs) ∧ ∀ k, k < n → A k ∉ ft (S k) := by
  refine ⟨⟨fun k hk => Side2.of (((B.db k hk).same e)) (Q.hd k hk) (B.db k hk).live (Q.free k hk _ List.mem_cons_self) (fun d hd => Q.free k hk d (List.mem_cons_of_mem _ hd)) fun i a b h1 h2 => by
    rw [nils_at h1, nils_at h2]
    exact RowsEq.nil, fun k hk kvs h => by rw [nils_mem h]; exact Nat.le_refl _⟩, fun k j hk hj hkj c hc => ?_, fun k hk m => (B.db k hk).live _ m (Q.free k hk _ List.mem_cons_self)⟩
  have inF : ∀ k c, c ∈ (S k).ds → c ∈ ft (S k) := fun k c h => by simp [ft, foot, h]
  have inX : ∀ c, c ∈ (sides S A hs j).fix → c ∈ ft (S j) ∨ c = A j := fun c h => by
    simp only [sides, Side.fix, List.mem_cons, List.not_mem_nil, or_false] at h
    rcases h with rfl | rfl | rfl | rfl | rfl
    · exact .inl (by simp [ft, foot])
    · exact .inl (by simp [ft, foot])
    · exact .inl (by simp [ft, foot])
    · exact .inl (by simp [ft, foot])
    · exact .inr rfl
  rcases List.mem_append.mp hc with h | h
  · have h : c ∈ (S k).ds := h
    have lv := (B.db k hk).live c (inF k c h)
    refine ⟨fun m => ?_, fun m => ?_⟩
    · rcases inX c m with g | rfl
      · exact B.ap k j hk hj hkj c (inF k c h) g
      · exact lv (Q.free j hj _ List.mem_cons_self)
    · rcases List.mem_append.mp m with g | g
      · exact B.ap k j hk hj hkj c (inF k c h) (inF j c g)
      · exact lv (Q.free j hj c (List.mem_cons_of_mem _ g))
  · have h : c ∈ hs k := h
    refine ⟨fun m => ?_, fun m => ?_⟩
    · rcases inX c m with g | rfl
      · exact (B.db j hj).live c g (Q.free k hk c (List.mem_cons_of_mem _ h))
      · exact Q.dj k j hk hj hkj _ (List.mem_cons_of_mem _ h) List.mem_cons_self
    · rcases List.mem_append.mp m with g | g
      · exact (B.db j hj).live c (inF j c g) (Q.free k hk c (List.mem_cons_of_mem _ h))
      · exact Q.dj k j hk hj hkj c (List.mem_cons_of_mem _ h) (List.mem_cons_of_mem _ g)
end
end My
namespace My
open PySem L2
theorem cellD_inj2 : ∀ {cs ds : List (Option Int)}, cs.map cellV = ds.map cellV → cs = ds
  | [], [], _ => rfl
  | [], _ :: _, h => by simp at h
  | _ :: _, [], h => by simp at h
  | c :: cs, d :: ds, h => by
    rw [List.map_cons, List.map_cons] at h
    have h1 := (List.cons.inj h).1
    have h2 := cellD_inj2 (List.cons.inj h).2
    subst h2
    cases c <;> cases d
    · rfl
    · cases h1
    · cases h1
    · rw [V.int.inj h1]
theorem cellsD_inv2 : ∀ {H : Hp} {xs : List V} {cs : List (Option Int)}, TdAll H xs (cs.map cellD) → xs = cs.map cellV
  | _, _, [], h => by cases h; rfl
  | _, _, c :: cs, h => by
    cases h with
    | cons h1 h2 => rw [List.map_cons, ← cellsD_inv2 h2, cellD_inv h1]
theorem rowD_cells2 {H : Hp} {v : V} {l1 l2 : Int} {c1 c2 : List (Option Int)} (h1 : Td H v (rowD l1 c1)) (h2 : Td H v (rowD l2 c2)) : c1 = c2 := by
  obtain ⟨t, tc, xs, rfl, ht, hc, hx⟩ := rowD_inv h1
  obtain ⟨t', tc', xs', e, ht', hc', hx'⟩ := rowD_inv h2
  cases e
  rw [ht] at ht'
  have h := HO.tup.inj (Option.some.inj ht')
  have h3 : tc = tc' := V.ref.inj (List.cons.inj (List.cons.inj h).2).1
  subst h3
  rw [hc] at hc'
  have h4 := HO.tup.inj (Option.some.inj hc')
  subst h4
  exact cellD_inj2 ((cellsD_inv2 hx).symm.trans (cellsD_inv2 hx'))
end My
namespace My
open PySem L2
def top (i : Nat) : Stmt := PySem.Challenge.pw_carrykeys_k06_labels_taken.main.body.getD i (.Pass ⟨0, 0, 0, 0⟩)
abbrev s_CarryError_init : Stmt := inClass (top 2) 0
abbrev s_Taken_init : Stmt := inClass (top 8) 0
abbrev s_law_at : Stmt := top 32
abbrev s_law_begin : Stmt := top 33
abbrev s_law_take : Stmt := top 34
abbrev s_law_word : Stmt := top 35
abbrev s_law_words : Stmt := top 36
abbrev s_law_keys : Stmt := top 38
abbrev s_law_labels : Stmt := top 39
abbrev s_is_flag : Stmt := top 16
abbrev s_is_one_of : Stmt := top 17
abbrev s_is_name : Stmt := top 18
abbrev s_is_reference : Stmt := top 26
abbrev s_are_distinct : Stmt := top 27
abbrev s_are_references : Stmt := top 25
abbrev s_is_table : Stmt := top 24
abbrev s_are_tables : Stmt := top 22
abbrev s_refer_within : Stmt := top 23
abbrev s_is_whole : Stmt := top 15
abbrev s_is_key : Stmt := top 19
abbrev s_is_label : Stmt := top 20
abbrev s_is_row : Stmt := top 21
abbrev s_Schema_init : Stmt := inClass (top 29) 0
abbrev s_Schema_tables : Stmt := inClass (top 29) 2
abbrev s_Schema__entry : Stmt := inClass (top 29) 7
abbrev s_Schema_is_unique : Stmt := inClass (top 29) 5
abbrev s_Schema_columns : Stmt := inClass (top 29) 3
abbrev s_Database_init : Stmt := inClass (top 30) 0
abbrev s_Database__is_taken : Stmt := inClass (top 30) 15
abbrev s_Database___setitem__ : Stmt := inClass (top 30) 2
abbrev s_Database__has : Stmt := inClass (top 30) 13
abbrev s_Database___getitem__ : Stmt := inClass (top 30) 1
abbrev s_Database___contains__ : Stmt := inClass (top 30) 3
abbrev s_Database_drop : Stmt := inClass (top 30) 7
abbrev s_Database__held : Stmt := inClass (top 30) 14
abbrev s_Database_rows : Stmt := inClass (top 30) 8
abbrev s_law_whole : Stmt := top 41
abbrev s_law_is_row : Stmt := top 42
abbrev s_law_are_rows : Stmt := top 43
abbrev s_law_taken : Stmt := top 44
abbrev s_law_set : Stmt := top 45
abbrev s_law_plan : Stmt := top 46
abbrev s_law_new : Stmt := top 47
abbrev s_law : Stmt := top 48
theorem sc_CarryError_init : FnScope ["self", "words"] ["self", "words"] (defScope s_CarryError_init) := ⟨rfl, rfl, rfl, by decide +kernel, rfl, by decide +kernel, by decide +kernel⟩
theorem sc_Taken_init : FnScope ["self", "table", "label"] ["self", "table", "label"] (defScope s_Taken_init) := ⟨rfl, rfl, rfl, by decide +kernel, rfl, by decide +kernel, by decide +kernel⟩
theorem sc_law_at : FnScope ["script", "k"] ["script", "k"] (defScope s_law_at) := ⟨rfl, rfl, rfl, by decide +kernel, rfl, by decide +kernel, by decide +kernel⟩
theorem sc_law_begin : FnScope ["cell"] ["cell"] (defScope s_law_begin) := ⟨rfl, rfl, rfl, by decide +kernel, rfl, by decide +kernel, by decide +kernel⟩
theorem sc_law_take : FnScope ["state", "base", "k", "number", "digit"] ["state", "base"] (defScope s_law_take) := ⟨rfl, rfl, rfl, by decide +kernel, rfl, by decide +kernel, by decide +kernel⟩
theorem sc_law_word : FnScope ["state", "letters", "size", "k"] ["state"] (defScope s_law_word) := ⟨rfl, rfl, rfl, by decide +kernel, rfl, by decide +kernel, by decide +kernel⟩
theorem sc_law_words : FnScope ["state", "count", "letters", "words", "k", "word", "way", "near", "at", "letter"] ["state", "count"] (defScope s_law_words) := ⟨rfl, rfl, rfl, by decide +kernel, rfl, by decide +kernel, by decide +kernel⟩
theorem sc_law_keys : FnScope ["state", "count", "pool", "k", "way", "key"] ["state", "count"] (defScope s_law_keys) := ⟨rfl, rfl, rfl, by decide +kernel, rfl, by decide +kernel, by decide +kernel⟩
theorem sc_law_labels : FnScope ["state", "count", "pool", "k", "way", "label"] ["state", "count"] (defScope s_law_labels) := ⟨rfl, rfl, rfl, by decide +kernel, rfl, by decide +kernel, by decide +kernel⟩
theorem sc_is_flag : FnScope ["value"] ["value"] (defScope s_is_flag) := ⟨rfl, rfl, rfl, by decide +kernel, rfl, by decide +kernel, by decide +kernel⟩
theorem sc_is_one_of : FnScope ["value", "words"] ["value", "words"] (defScope s_is_one_of) := ⟨rfl, rfl, rfl, by decide +kernel, rfl, by decide +kernel, by decide +kernel⟩
theorem sc_is_name : FnScope ["value", "letter"] ["value"] (defScope s_is_name) := ⟨rfl, rfl, rfl, by decide +kernel, rfl, by decide +kernel, by decide +kernel⟩
theorem sc_is_reference : FnScope ["value", "column", "target"] ["value"] (defScope s_is_reference) := ⟨rfl, rfl, rfl, by decide +kernel, rfl, by decide +kernel, by decide +kernel⟩
theorem sc_are_distinct : FnScope ["names"] ["names"] (defScope s_are_distinct) := ⟨rfl, rfl, rfl, by decide +kernel, rfl, by decide +kernel, by decide +kernel⟩
theorem sc_are_references : FnScope ["value", "item"] ["value"] (defScope s_are_references) := ⟨rfl, rfl, rfl, by decide +kernel, rfl, by decide +kernel, by decide +kernel⟩
theorem sc_is_table : FnScope ["value", "name", "unique", "references"] ["value"] (defScope s_is_table) := ⟨rfl, rfl, rfl, by decide +kernel, rfl, by decide +kernel, by decide +kernel⟩
theorem sc_are_tables : FnScope ["value", "item"] ["value"] (defScope s_are_tables) := ⟨rfl, rfl, rfl, by decide +kernel, rfl, by decide +kernel, by decide +kernel⟩
theorem sc_refer_within : FnScope ["tables", "names", "item", "_", "target"] ["tables"] (defScope s_refer_within) := ⟨rfl, rfl, rfl, by decide +kernel, rfl, by decide +kernel, by decide +kernel⟩
theorem sc_is_whole : FnScope ["value"] ["value"] (defScope s_is_whole) := ⟨rfl, rfl, rfl, by decide +kernel, rfl, by decide +kernel, by decide +kernel⟩
theorem sc_is_key : FnScope ["value"] ["value"] (defScope s_is_key) := ⟨rfl, rfl, rfl, by decide +kernel, rfl, by decide +kernel, by decide +kernel⟩
theorem sc_is_label : FnScope ["value"] ["value"] (defScope s_is_label) := ⟨rfl, rfl, rfl, by decide +kernel, rfl, by decide +kernel, by decide +kernel⟩
theorem sc_is_row : FnScope ["value", "width", "label", "cells", "cell"] ["value", "width"] (defScope s_is_row) := ⟨rfl, rfl, rfl, by decide +kernel, rfl, by decide +kernel, by decide +kernel⟩
theorem sc_Schema_init : FnScope ["self", "tables", "entry"] ["self", "tables"] (defScope s_Schema_init) := ⟨rfl, rfl, rfl, by decide +kernel, rfl, by decide +kernel, by decide +kernel⟩
theorem sc_Schema_tables : FnScope ["self"] ["self"] (defScope s_Schema_tables) := ⟨rfl, rfl, rfl, by decide +kernel, rfl, by decide +kernel, by decide +kernel⟩
theorem sc_Schema__entry : FnScope ["self", "name"] ["self", "name"] (defScope s_Schema__entry) := ⟨rfl, rfl, rfl, by decide +kernel, rfl, by decide +kernel, by decide +kernel⟩
theorem sc_Schema_is_unique : FnScope ["self", "name"] ["self", "name"] (defScope s_Schema_is_unique) := ⟨rfl, rfl, rfl, by decide +kernel, rfl, by decide +kernel, by decide +kernel⟩
theorem sc_Schema_columns : FnScope ["self", "name", "column", "_"] ["self", "name"] (defScope s_Schema_columns) := ⟨rfl, rfl, rfl, by decide +kernel, rfl, by decide +kernel, by decide +kernel⟩
theorem sc_Database_init : FnScope ["self", "schema", "entry"] ["self", "schema"] (defScope s_Database_init) := ⟨rfl, rfl, rfl, by decide +kernel, rfl, by decide +kernel, by decide +kernel⟩
theorem sc_Database__is_taken : FnScope ["self", "table", "key", "label", "held", "other"] ["self", "table", "key", "label"] (defScope s_Database__is_taken) := ⟨rfl, rfl, rfl, by decide +kernel, rfl, by decide +kernel, by decide +kernel⟩
theorem sc_Database___setitem__ : FnScope ["self", "at", "worth", "table", "key", "width"] ["self", "at", "worth"] (defScope s_Database___setitem__) := ⟨rfl, rfl, rfl, by decide +kernel, rfl, by decide +kernel, by decide +kernel⟩
theorem sc_Database__has : FnScope ["self", "table", "key"] ["self", "table", "key"] (defScope s_Database__has) := ⟨rfl, rfl, rfl, by decide +kernel, rfl, by decide +kernel, by decide +kernel⟩
theorem sc_Database___getitem__ : FnScope ["self", "at", "table", "key"] ["self", "at"] (defScope s_Database___getitem__) := ⟨rfl, rfl, rfl, by decide +kernel, rfl, by decide +kernel, by decide +kernel⟩
theorem sc_Database___contains__ : FnScope ["self", "x"] ["self", "x"] (defScope s_Database___contains__) := ⟨rfl, rfl, rfl, by decide +kernel, rfl, by decide +kernel, by decide +kernel⟩
theorem sc_Database_drop : FnScope ["self", "table", "key"] ["self", "table", "key"] (defScope s_Database_drop) := ⟨rfl, rfl, rfl, by decide +kernel, rfl, by decide +kernel, by decide +kernel⟩
theorem sc_Database__held : FnScope ["self", "table"] ["self", "table"] (defScope s_Database__held) := ⟨rfl, rfl, rfl, by decide +kernel, rfl, by decide +kernel, by decide +kernel⟩
theorem sc_Database_rows : FnScope ["self", "table", "held", "key"] ["self", "table"] (defScope s_Database_rows) := ⟨rfl, rfl, rfl, by decide +kernel, rfl, by decide +kernel, by decide +kernel⟩
theorem sc_law_whole : FnScope ["found"] ["found"] (defScope s_law_whole) := ⟨rfl, rfl, rfl, by decide +kernel, rfl, by decide +kernel, by decide +kernel⟩
theorem sc_law_is_row : FnScope ["found", "due", "cell"] ["found", "due"] (defScope s_law_is_row) := ⟨rfl, rfl, rfl, by decide +kernel, rfl, by decide +kernel, by decide +kernel⟩
theorem sc_law_are_rows : FnScope ["found", "due", "place", "key", "entry"] ["found", "due"] (defScope s_law_are_rows) := ⟨rfl, rfl, rfl, by decide +kernel, rfl, by decide +kernel, by decide +kernel⟩
theorem sc_law_taken : FnScope ["rows", "key", "label", "unique", "place"] ["rows", "key", "label", "unique"] (defScope s_law_taken) := ⟨rfl, rfl, rfl, by decide +kernel, rfl, by decide +kernel, by decide +kernel⟩
theorem sc_law_set : FnScope ["base", "name", "key", "row", "found", "e"] ["base", "name", "key", "row"] (defScope s_law_set) := ⟨rfl, rfl, rfl, by decide +kernel, rfl, by decide +kernel, by decide +kernel⟩
theorem sc_law_plan : FnScope ["state", "names", "turn", "plan", "name"] ["state"] (defScope s_law_plan) := ⟨rfl, rfl, rfl, by decide +kernel, rfl, by decide +kernel, by decide +kernel⟩
theorem sc_law_new : FnScope ["plan", "held", "entry"] ["plan"] (defScope s_law_new) := ⟨rfl, rfl, rfl, by decide +kernel, rfl, by decide +kernel, by decide +kernel⟩
theorem sc_law : FnScope ["script", "plan", "schema", "bases", "helds", "pool", "keys", "labels", "cell", "at", "deed", "name", "unique", "references", "key", "label", "base", "rows", "found"] ["script"] (defScope s_law) := ⟨rfl, rfl, rfl, by decide +kernel, rfl, by decide +kernel, by decide +kernel⟩
structure Txt (K : PySem.W.Frag) (mg : Str → Option Value) (CS CD XCarryError XTaken : Addr) : Prop where
  c_Schema : ClassAt K mg CS "Schema"
  a_Schema_tables : NoAttr K CS "_tables"
  a_Schema_entries : NoAttr K CS "_entries"
  c_Database : ClassAt K mg CD "Database"
  a_Database_schema : NoAttr K CD "_schema"
  a_Database_rows : NoAttr K CD "_rows"
  b_CarryError : BaseAt K mg XCarryError "CarryError"
  e_Taken : ErrAt K mg XTaken "Taken" ["table", "label"]
  s_Taken_Taken : PySem.W.subIn K (.ref XTaken) (.ref XTaken) = some true
  ve : PySem.W.findCls K (.type "ValueError") (.type "type") "__init__" = some (.val (.builtin "ValueError.__init__"))
  q_Database : PySem.W.noSeq K CD = true
  d_CarryError_init : MethAt K XCarryError "__init__" "CarryError.__init__" s_CarryError_init ["self", "words"]
  d_Taken_init : MethAt K XTaken "__init__" "Taken.__init__" s_Taken_init ["self", "table", "label"]
  d_law_at : DefAt K mg "_law_at" s_law_at ["script", "k"]
  d_law_begin : DefAt K mg "_law_begin" s_law_begin ["cell"]
  d_law_take : DefAt K mg "_law_take" s_law_take ["state", "base"]
  d_law_word : DefAt K mg "_law_word" s_law_word ["state"]
  d_law_words : DefAt K mg "_law_words" s_law_words ["state", "count"]
  d_law_keys : DefAt K mg "_law_keys" s_law_keys ["state", "count"]
  d_law_labels : DefAt K mg "_law_labels" s_law_labels ["state", "count"]
  d_is_flag : DefAt K mg "is_flag" s_is_flag ["value"]
  d_is_one_of : DefAt K mg "is_one_of" s_is_one_of ["value", "words"]
  d_is_name : DefAt K mg "is_name" s_is_name ["value"]
  d_is_reference : DefAt K mg "_is_reference" s_is_reference ["value"]
  d_are_distinct : DefAt K mg "_are_distinct" s_are_distinct ["names"]
  d_are_references : DefAt K mg "_are_references" s_are_references ["value"]
  d_is_table : DefAt K mg "_is_table" s_is_table ["value"]
  d_are_tables : DefAt K mg "are_tables" s_are_tables ["value"]
  d_refer_within : DefAt K mg "refer_within" s_refer_within ["tables"]
  d_is_whole : DefAt K mg "is_whole" s_is_whole ["value"]
  d_is_key : DefAt K mg "is_key" s_is_key ["value"]
  d_is_label : DefAt K mg "is_label" s_is_label ["value"]
  d_is_row : DefAt K mg "is_row" s_is_row ["value", "width"]
  d_Schema_init : MethAt K CS "__init__" "Schema.__init__" s_Schema_init ["self", "tables"]
  d_Schema_tables : MethAt K CS "tables" "Schema.tables" s_Schema_tables ["self"]
  d_Schema__entry : MethAt K CS "_entry" "Schema._entry" s_Schema__entry ["self", "name"]
  d_Schema_is_unique : MethAt K CS "is_unique" "Schema.is_unique" s_Schema_is_unique ["self", "name"]
  d_Schema_columns : MethAt K CS "columns" "Schema.columns" s_Schema_columns ["self", "name"]
  d_Database_init : MethAt K CD "__init__" "Database.__init__" s_Database_init ["self", "schema"]
  d_Database__is_taken : MethAt K CD "_is_taken" "Database._is_taken" s_Database__is_taken ["self", "table", "key", "label"]
  d_Database___setitem__ : MethAt K CD "__setitem__" "Database.__setitem__" s_Database___setitem__ ["self", "at", "worth"]
  d_Database__has : MethAt K CD "_has" "Database._has" s_Database__has ["self", "table", "key"]
  d_Database___getitem__ : MethAt K CD "__getitem__" "Database.__getitem__" s_Database___getitem__ ["self", "at"]
  d_Database___contains__ : MethAt K CD "__contains__" "Database.__contains__" s_Database___contains__ ["self", "x"]
  d_Database_drop : MethAt K CD "drop" "Database.drop" s_Database_drop ["self", "table", "key"]
  d_Database__held : MethAt K CD "_held" "Database._held" s_Database__held ["self", "table"]
  d_Database_rows : MethAt K CD "rows" "Database.rows" s_Database_rows ["self", "table"]
  d_law_whole : DefAt K mg "_law_whole" s_law_whole ["found"]
  d_law_is_row : DefAt K mg "_law_is_row" s_law_is_row ["found", "due"]
  d_law_are_rows : DefAt K mg "_law_are_rows" s_law_are_rows ["found", "due"]
  d_law_taken : DefAt K mg "_law_taken" s_law_taken ["rows", "key", "label", "unique"]
  d_law_set : DefAt K mg "_law_set" s_law_set ["base", "name", "key", "row"]
  d_law_plan : DefAt K mg "_law_plan" s_law_plan ["state"]
  d_law_new : DefAt K mg "_law_new" s_law_new ["plan"]
  d_law : DefAt K mg "law" s_law ["script"]
  v_LETTERS : ∃ u, mg "LETTERS" = some u ∧ RelV (.str "abcdefghijklmnopqrstuvwxyz") u
  v_LONGEST_NAME : ∃ u, mg "LONGEST_NAME" = some u ∧ RelV (.int 8) u
  v_MOST_TABLES : ∃ u, mg "MOST_TABLES" = some u ∧ RelV (.int 5) u
  v_MOST_REFERENCES : ∃ u, mg "MOST_REFERENCES" = some u ∧ RelV (.int 3) u
  v_LABELS_END : ∃ u, mg "LABELS_END" = some u ∧ RelV (.int 1000000000000000000000000000000) u
  n_len : mg "len" = none
  n_range : mg "range" = none
  n_int : mg "int" = none
  n_tuple : mg "tuple" = none
  n_isinstance : mg "isinstance" = none
  n_str : mg "str" = none
  n_bool : mg "bool" = none
  n_list : mg "list" = none
  n_all : mg "all" = none
  n_set : mg "set" = none
  n_dict : mg "dict" = none
  n_min : mg "min" = none
  n_any : mg "any" = none
  n_sorted : mg "sorted" = none
  n_ValueError : mg "ValueError" = none
end My
namespace My
open PySem L2
theorem ok_CarryError_init {P : Program} {w : World} {K : PySem.W.Frag} {mg : Str → Option Value} {base : Heap} {CS CD XCarryError XTaken : Addr} (T : Txt K mg CS CD XCarryError XTaken) : InitOk P w K mg base 1 XCarryError "CarryError" (spBaseK K) := by
  refine T.d_CarryError_init.init T.b_CarryError sc_CarryError_init (fun vs H Q E h => ?_) (fun f cdv A outer s H vs Q E hr h => ?_)
  · obtain ⟨a, C, w, rfl, _⟩ := h
    rfl
  · obtain ⟨a, C, w, rfl, hx, ha, q⟩ := h
    refine ⟨_, (pss_one (ps_expr (pe_veinit rfl T.n_ValueError T.ve (pa_cons (pv 0) (pa_cons (pv 1) pa_nil))))), ?_⟩
    exact ⟨_, rfl, _, rfl, a, C, [w], rfl, (by show 1 ≤ 1000; decide), hx, ha, q⟩
end My
namespace My
open PySem L2
theorem ok_Taken_init {P : Program} {w : World} {K : PySem.W.Frag} {mg : Str → Option Value} {base : Heap} {CS CD XCarryError XTaken : Addr} (T : Txt K mg CS CD XCarryError XTaken) : ErrOk P w K mg base 3 XTaken "Taken" ["table", "label"] := by
  have c_CarryError_init__ := ok_CarryError_init (P := P) (w := w) (base := base) T
  refine T.d_Taken_init.err T.e_Taken sc_Taken_init (fun vs H Q E h => ?_) (fun f cdv A outer s H vs Q E hr h => ?_)
  · obtain ⟨a, ys, rfl, hl, _⟩ := h
    simpa using hl
  · obtain ⟨a, ys, rfl, hl, ha, q⟩ := h
    obtain ⟨y0, y1, rfl⟩ : ∃ y0 y1, ys = [y0, y1] := by
      match ys, hl with
      | [y0, y1], _ => exact ⟨y0, y1, rfl⟩
    refine ⟨_, (pss_cons (ps_expr (pe_cinit c_CarryError_init__ (hr.mono (by decide)) (pa_cons (pv 0) (pa_cons pe_str pa_nil))))
      (pss_cons (ps_ost (pv 0) (pv 1))
      (pss_one (ps_ost (pv 0) (pv 2))))), ?_⟩
    refine ⟨_, rfl, a, XTaken, .str _, rfl, T.e_Taken.ox, ha, ?_⟩
    refine ⟨_, rfl, _, rfl, a, XTaken, rfl, T.e_Taken.ox, T.e_Taken.no _ (by simp), .inl ⟨ha, fun dx hdx ndx => ?_⟩⟩
    refine ⟨_, rfl, _, rfl, a, XTaken, rfl, T.e_Taken.ox, T.e_Taken.no _ (by simp), .inr ⟨dx, _, upd_same, by rw [upd_ne ndx, upd_same], (by simp), ?_⟩⟩
    rw [upd_swap ndx]
    exact q dx hdx ndx
end My
namespace My
open PySem L2
def spAt (K : PySem.W.Frag) : Sp := fun vs H Q _ => ∃ (a : Addr) (ns : List Int) (k : Nat), vs = [.ref a, .int k] ∧ SqL K H a (ns.map V.int) ∧ ∀ z : Int, Q (.int z) H
theorem ok_law_at {P : Program} {w : World} {K : PySem.W.Frag} {mg : Str → Option Value} {base : Heap} {CS CD XCarryError XTaken : Addr} (T : Txt K mg CS CD XCarryError XTaken) : CallOk P w K mg base 1 "_law_at" (spAt K) := by
  refine T.d_law_at.ok sc_law_at (fun vs H Q E h => ?_) (fun f cdv A outer s H vs Q E hr h => ?_)
  · obtain ⟨a, ns, k, rfl, _⟩ := h
    rfl
  · obtain ⟨a, ns, k, rfl, hS, q⟩ := h
    refine ⟨_, (pss_cons (ps_if (pt_cmpR op_lt (pv 1) (pe_callB (kLen (K := K)) (by rfl) T.n_len PySem.boot_len (pa_cons (pv 0) pa_nil)) (nomark _)) (pss_one (ps_ret (pe_ix (kIxL (K := K)) (pv 0) (pv 1) (fun _ _ => rfl)))) pss_nil)
      (pss_one (ps_ret pe_int))), ?_⟩
    refine ⟨_, rfl, _, rfl, a, _, rfl, .inl hS, _, _, rfl, rfl, _, rfl, ?_⟩
    refine ite2 (fun c => ?_) (fun _ => ?_)
    · have hk : k < ns.length := by
        have := of_decide_eq_true c
        rw [List.length_map] at this
        omega
      refine ⟨_, rfl, _, rfl, a, _, _, V.int ns[k], rfl, rfl, hS, atI_nat ?_, q _⟩
      rw [List.getElem?_map, List.getElem?_eq_getElem hk] <;> rfl
    · exact q 0
end My
namespace My
open PySem L2
def spBegin : Sp := fun vs H Q _ => ∃ z : Int, vs = [.int z] ∧ ∀ p H', H p = none → Same H H' → StAt H' p 1000000 → Q (.ref p) H'
theorem ok_law_begin {P : Program} {w : World} {K : PySem.W.Frag} {mg : Str → Option Value} {base : Heap} {CS CD XCarryError XTaken : Addr} (T : Txt K mg CS CD XCarryError XTaken) : CallOk P w K mg base 1 "_law_begin" spBegin := by
  refine T.d_law_begin.ok sc_law_begin (fun vs H Q E h => ?_) (fun f cdv A outer s H vs Q E hr h => ?_)
  · obtain ⟨z, rfl, _⟩ := h
    rfl
  · obtain ⟨z, rfl, q⟩ := h
    refine ⟨_, (pss_cons (ps_if (pt_cmpR op_ge (pv 0) (pe_op op_pow pe_int pe_int) (nomark _)) (pss_one (ps_ret (pe_lst (pa_cons (pe_op op_sub (pv 0) (pe_op op_pow pe_int pe_int)) (pa_cons (pv 0) (pa_cons pe_int pa_nil)))))) pss_nil)
      (pss_one (ps_ret (pe_lst (pa_cons (pe_un un_neg pe_int) (pa_cons (pv 0) (pa_cons pe_int pa_nil))))))), ?_⟩
    refine ⟨_, rfl, _, _, rfl, rfl, ⟨by decide, by decide, by decide⟩, _, _, rfl, rfl, _, rfl, ?_⟩
    refine ite2 (fun c => ?_) (fun _ => ?_)
    · refine ⟨_, rfl, _, _, rfl, rfl, ⟨by decide, by decide, by decide⟩, _, _, rfl, rfl, _, rfl, sizeL (by show 3 ≤ 100000; decide), fun p hp => ?_⟩
      exact q p _ hp (Same.upd (Same.refl H) hp) ⟨_, _, _, upd_same, by omega, by omega⟩
    · refine ⟨_, rfl, _, rfl, sizeL (by show 3 ≤ 100000; decide), fun p hp => ?_⟩
      exact q p _ hp (Same.upd (Same.refl H) hp) ⟨_, _, _, upd_same, by omega, by omega⟩
end My
namespace My
open PySem L2
def spTake : Sp := fun vs H Q _ => ∃ (a : Addr) (b : Int) (n : Nat), vs = [.ref a, .int b] ∧ 0 < b ∧ b < 2 ^ 200 ∧ StAt H a (n + 1) ∧ ∀ (d : Int) H', 0 ≤ d → d < b → StAt H' a n → Fr1 a H H' → Q (.int d) H'
theorem ok_law_take {P : Program} {w : World} {K : PySem.W.Frag} {mg : Str → Option Value} {base : Heap} {CS CD XCarryError XTaken : Addr} (T : Txt K mg CS CD XCarryError XTaken) : CallOk P w K mg base 1 "_law_take" spTake := by
  refine T.d_law_take.ok sc_law_take (fun vs H Q E h => ?_) (fun f cdv A outer s H vs Q E hr h => ?_)
  · obtain ⟨a, b, n, rfl, _⟩ := h
    rfl
  · obtain ⟨a, b, n, rfl, hb0, hb1, ⟨x, y, k, hs, k0, k1⟩, q⟩ := h
    have hS : SqL K H a [.int x, .int y, .int k] := SqL.of hs
    have hbn : b.natAbs < 2 ^ 200 := by omega
    have hbd : CDivW x b := wide_div hb0 hbn (by decide) (by decide)
    refine ⟨_, (pss_cons (ps_if (pt_cmpR op_ge (pe_ix (kIxL (K := K)) (pv 0) pe_int (fun _ _ => rfl)) pe_int (nomark _)) (pss_cons (ps_set (i := 4) sc_law_take.nd rfl (by first | exact Or.inl rfl | exact Or.inr rfl) (pe_op op_mod (pe_callTy call_int1 (by rfl) T.n_int (by decide +kernel) (pa_cons (pe_ix (kIxL (K := K)) (pv 0) pe_int (fun _ _ => rfl)) pa_nil)) (pv 1)))
        (pss_cons (ps_asg (pe_op op_fdivW (pe_ix (kIxL (K := K)) (pv 0) pe_int (fun _ _ => rfl)) (pv 1)) (pg_sub (pv 0) pe_int set_list))
        (pss_one (ps_ret (pv 4))))) pss_nil)
      (pss_cons (ps_set (i := 2) sc_law_take.nd rfl (by first | exact Or.inl rfl | exact Or.inr rfl) (pe_ix (kIxL (K := K)) (pv 0) pe_int (fun _ _ => rfl)))
      (pss_cons (ps_asg (pe_op op_add (pv 2) pe_int) (pg_sub (pv 0) pe_int set_list))
      (pss_cons (ps_set (i := 3) sc_law_take.nd rfl (by first | exact Or.inl rfl | exact Or.inr rfl) (pe_op op_mul (pe_op op_add (pe_op op_add (pe_op op_add (pe_op op_mod (pe_callTy call_int1 (by rfl) T.n_int (by decide +kernel) (pa_cons (pe_ix (kIxL (K := K)) (pv 0) pe_int (fun _ _ => rfl)) pa_nil)) pe_int) (pe_op op_mul (pv 2) (pv 2))) (pv 2)) pe_int) (pe_op op_add (pe_op op_mul pe_int (pv 2)) pe_int)))
      (pss_cons (ps_set (i := 3) sc_law_take.nd rfl (by first | exact Or.inl rfl | exact Or.inr rfl) (pe_op op_mod (pe_callTy call_int1 (by rfl) T.n_int (by decide +kernel) (pa_cons (pv 3) pa_nil)) pe_int))
      (pss_cons (ps_set (i := 3) sc_law_take.nd rfl (by first | exact Or.inl rfl | exact Or.inr rfl) (pe_op op_mod (pe_callTy call_int1 (by rfl) T.n_int (by decide +kernel) (pa_cons (pe_op op_add (pe_op op_mul (pv 3) (pv 3)) (pe_op op_mul pe_int (pv 2))) pa_nil)) pe_int))
      (pss_one (ps_ret (pe_op op_mod (pe_callTy call_int1 (by rfl) T.n_int (by decide +kernel) (pa_cons (pe_op op_fdiv (pe_op op_mul (pe_op op_add (pe_op op_add (pv 3) (pe_op op_mul pe_int (pv 2))) pe_int) (pv 3)) pe_int) pa_nil)) (pv 1)))))))))), ?_⟩
    refine ⟨_, rfl, a, _, _, _, rfl, rfl, hS, rfl, _, _, rfl, rfl, _, rfl, ?_⟩
    refine ite2 (fun c => ?_) (fun _ => ?_)
    · refine ⟨_, rfl, a, _, _, _, rfl, rfl, hS, rfl, .inl ⟨_, rfl, _, rfl, _, _, rfl, rfl, hb0, ?_⟩⟩
      refine ⟨_, rfl, a, _, _, _, rfl, rfl, hS, rfl, _, rfl, _, _, rfl, rfl, hbd, ?_⟩
      refine ⟨_, rfl, a, _, _, 0, rfl, rfl, hs, rfl, ?_⟩
      refine ⟨_, rfl, q _ _ (Int.emod_nonneg _ (by omega)) (Int.emod_lt_of_pos _ hb0) ⟨_, _, _, upd_same, k0, by omega⟩ ((Fr1.refl a H).at)⟩
    · have m0 : 0 ≤ y % 2305843009213693951 := Int.emod_nonneg _ (by decide)
      have m1 : y % 2305843009213693951 < 2305843009213693951 := Int.emod_lt_of_pos _ (by decide)
      have hkk : k * k ≤ 1000000 * 1000000 := Int.mul_le_mul (by omega) (by omega) k0 (by omega)
      have hk0 : 0 ≤ k * k := Int.mul_nonneg k0 k0
      refine ⟨_, rfl, a, _, _, _, rfl, rfl, hS, rfl, ?_⟩
      refine ⟨_, rfl, _, _, rfl, rfl, _, rfl, a, _, _, 2, rfl, rfl, hs, rfl, ?_⟩
      have hS2 : SqL K (upd H a (.lst [.int x, .int y, .int (k + 1)])) a [.int x, .int y, .int (k + 1)] := SqL.of upd_same
      refine ⟨_, rfl, a, _, _, _, rfl, rfl, hS2, rfl, .inl ⟨_, rfl, _, _, rfl, rfl, (by show (0 : Int) < 2305843009213693951; decide), _, rfl, _, rfl, _, _, rfl, rfl, .inl ⟨by omega, by omega⟩, _, _, rfl, rfl, _, rfl, _, _, rfl, rfl, _, _, rfl, rfl,
        _, rfl, _, _, rfl, rfl, .inl ⟨by omega, by omega⟩, _, _, rfl, rfl, _, _, rfl, rfl, .inl ⟨by omega, by omega⟩, ?_⟩⟩
      refine ⟨_, rfl, .inl ⟨_, rfl, _, _, rfl, rfl, (by show (0 : Int) < 2305843009213693951; decide), ?_⟩⟩
      generalize hn : ((y % 2305843009213693951 + k * k + k + 1) * (2 * k + 3)) % 2305843009213693951 = u
      have u0 : 0 ≤ u := hn ▸ Int.emod_nonneg _ (by decide)
      have u1 : u < 2305843009213693951 := hn ▸ Int.emod_lt_of_pos _ (by decide)
      refine ⟨_, rfl, _, rfl, _, _, rfl, rfl, .inl ⟨by omega, by omega⟩, _, rfl, _, _, rfl, rfl, .inl ⟨by omega, by omega⟩, _, _, rfl, rfl, .inl ⟨_, rfl, _, _, rfl, rfl, (by show (0 : Int) < 2305843009213693921; decide), ?_⟩⟩
      generalize hn2 : (u * u + 40692 * k) % 2305843009213693921 = v
      have v0 : 0 ≤ v := hn2 ▸ Int.emod_nonneg _ (by decide)
      have v1 : v < 2305843009213693921 := hn2 ▸ Int.emod_lt_of_pos _ (by decide)
      refine ⟨_, rfl, _, rfl, _, _, rfl, rfl, .inl ⟨by omega, by omega⟩, _, _, rfl, rfl, _, _, rfl, rfl, _, rfl, _, _, rfl, rfl, .inl ⟨by omega, by omega⟩, _, _, rfl, rfl, ⟨by decide, by decide⟩, .inl ⟨_, rfl, _, rfl, _, _, rfl, rfl, hb0, ?_⟩⟩
      exact q _ _ (Int.emod_nonneg _ (by omega)) (Int.emod_lt_of_pos _ hb0) ⟨_, _, _, upd_same, by omega, by omega⟩ ((Fr1.refl a H).at)
end My
namespace My
open PySem L2
def spWord : Sp := fun vs H Q _ => ∃ (a : Addr) (n : Nat), vs = [.ref a] ∧ StAt H a (n + 9) ∧ ∀ w H', Nm w → StAt H' a n → Fr1 a H H' → Q (.str w) H'
theorem ok_law_word {P : Program} {w : World} {K : PySem.W.Frag} {mg : Str → Option Value} {base : Heap} {CS CD XCarryError XTaken : Addr} (T : Txt K mg CS CD XCarryError XTaken) : CallOk P w K mg base 2 "_law_word" spWord := by
  have c_law_take := ok_law_take (P := P) (w := w) (base := base) T
  refine T.d_law_word.ok sc_law_word (fun vs H Q E h => ?_) (fun f cdv A outer s H vs Q E hr h => ?_)
  · obtain ⟨a, n, rfl, _⟩ := h
    rfl
  · obtain ⟨a, n, rfl, hS, q⟩ := h
    refine ⟨_, (pss_cons (ps_set (i := 1) sc_law_word.nd rfl (by first | exact Or.inl rfl | exact Or.inr rfl) pe_str)
      (pss_cons (ps_set (i := 2) sc_law_word.nd rfl (by first | exact Or.inl rfl | exact Or.inr rfl) (pe_op op_add pe_int (pe_callC c_law_take (hr.mono (by decide)) (pa_cons (pv 0) (pa_cons pe_int pa_nil)))))
      (pss_one (ps_ret (pe_join pe_str (pe_lc (own := [("k", 3)]) rfl sc_law_word.nd (pi_range1 (by rfl) T.n_range (pa_cons (pv 2) pa_nil)) (blkOk_by (N := ["state", "letters", "size", "k"]) (sc := defScope s_law_word) (own := [("k", 3)]) (by decide +kernel)) (fun _ _ _ _ _ => (pg_name (i := 3) sc_law_word.nd rfl (by first | exact Or.inl rfl | exact Or.inr rfl))) (fun _ _ _ _ _ => pts_nil) (fun _ _ _ _ _ => (pe_ix ix_str (pv 1) (pe_callC c_law_take (hr.mono (by decide)) (pa_cons (pv 0) (pa_cons pe_int pa_nil))) (fun _ _ => rfl))))))))), ?_⟩
    refine ⟨_, rfl, a, 8, n + 8, rfl, by decide, by decide, hS, fun d H1 d0 d1 hS1 e1 => ⟨_, _, rfl, rfl, ?_⟩⟩
    obtain ⟨xs1, hx1⟩ := hS1.lst
    refine ⟨⟨_, rfl⟩, _, rfl, _, rfl, by omega, by omega, fun D hD => ?_⟩
    have hDa : D ≠ a := (ne_of_none hx1 hD).symm
    refine lc_range (lo := 0) (n := (1 + d).toNat) (fun i Hi => ∃ cs : List Nat, cs.length = i ∧ (∀ c ∈ cs, 97 ≤ c ∧ c ≤ 122) ∧ Hi D = some (.lst (cs.map fun c => V.str ⟨#[c]⟩)) ∧ StAt Hi a (n + (8 - i)) ∧ Fr1 a H1 Hi) ?_ ?_ ?_
    · exact ⟨[], rfl, by simp, upd_same, hS1.upd (hDa.symm), (Fr1.refl a H1).upd hD⟩
    · rintro i Hi hi ⟨cs, hc, az, hl, hs, e2⟩
      refine ⟨rfl, tYes_if ?_⟩
      refine ⟨_, rfl, _, rfl, a, 26, n + (8 - (i + 1)), rfl, by decide, by decide, hs.mono (by omega), fun z H2 z0 z1 hs2 e3 => ?_⟩
      obtain ⟨j, rfl⟩ : ∃ j : Nat, z = (j : Int) := ⟨z.toNat, by omega⟩
      have hj : j < 26 := by omega
      refine ⟨abc, _, 97 + j, rfl, rfl, sizeL (by rw [abc_len]; decide), atI_nat (abc_at j hj), _, e3 D _ hDa hl, sizeLt (by rw [List.length_map]; omega), cs ++ [97 + j], by simp [hc], ?_, ?_, hs2.upd hDa.symm, ?_⟩
      · intro c hm
        rcases List.mem_append.mp hm with m | m
        · exact az c m
        · rw [List.mem_singleton.mp m]
          omega
      · rw [upd_same, List.map_append]
        rfl
      · exact fun c o nc hc => by
          rw [upd_ne (ne_of_none hc hD)]
          exact e3 c o nc (e2 c o nc hc)
    · rintro Hi ⟨cs, hc, az, hl, hs, e2⟩
      refine ⟨_, D, cs.map fun c => ⟨#[c]⟩, rfl, rfl, .inl (SqL.of ?_), ?_, ?_⟩
      · rw [hl, List.map_map]
        rfl
      · have e0 : ((cs.map fun c => (⟨#[c]⟩ : Str)).map (·.length)).sum = cs.length := by
          clear hc az hl
          induction cs with
          | nil => rfl
          | cons c r ih =>
            rw [List.map_cons, List.map_cons, List.sum_cons, ih, List.length_cons]
            show 1 + r.length = r.length + 1
            omega
        rw [e0, List.length_map]
        have : (Str.ofString "").length = 0 := by decide +kernel
        rw [this]
        omega
      · refine q _ Hi (Nm.of (cd_join cs) (by omega) (by omega) az) (hs.mono (by omega)) (e1.trans e2)
end My
namespace My
open PySem L2
structure WsAt (H : Hp) (a p : Addr) (n : Nat) (ws : List Str) (Hi : Hp) : Prop where
  nd : ws.Nodup
  nm : ∀ w ∈ ws, Nm w
  at_ : Hi p = some (.lst (ws.map V.str))
  st : StAt Hi a n
  fr : Fr1 a H Hi
theorem WsAt.step {H Hi Hj : Hp} {a p : Addr} {n m : Nat} {ws : List Str} (h : WsAt H a p n ws Hi) (np : p ≠ a) (s : StAt Hj a m) (e : Fr1 a Hi Hj) : WsAt H a p m ws Hj :=
  ⟨h.nd, h.nm, e p _ np h.at_, s, h.fr.trans e⟩
theorem WsAt.new {H Hi : Hp} {a p q : Addr} {n : Nat} {ws : List Str} {o : HO} (h : WsAt H a p n ws Hi) (hq : Hi q = none) : WsAt H a p n ws (upd Hi q o) :=
  ⟨h.nd, h.nm, by rw [upd_ne (ne_of_none h.at_ hq)]; exact h.at_, h.st.upd (h.st.ne hq), fun c u nc hc => by
    have := h.fr c u nc hc
    rw [upd_ne (ne_of_none this hq)]
    exact this⟩
def spWords : Sp := fun vs H Q _ => ∃ (a : Addr) (z : Int) (c n : Nat), vs = [.ref a, .int z] ∧ z = (c : Int) ∧ c ≤ 6 ∧ StAt H a (n + 12 * c) ∧
  ∀ (p : Addr) (ws : List Str) (H' : Hp), H p = none → ws.length = c → ws.Nodup → (∀ w ∈ ws, Nm w) → H' p = some (.lst (ws.map V.str)) → StAt H' a n → Fr1 a H H' → Q (.ref p) H'
theorem ok_law_words {P : Program} {w : World} {K : PySem.W.Frag} {mg : Str → Option Value} {base : Heap} {CS CD XCarryError XTaken : Addr} (T : Txt K mg CS CD XCarryError XTaken) : CallOk P w K mg base 3 "_law_words" spWords := by
  have c_law_take := ok_law_take (P := P) (w := w) (base := base) T
  have c_law_word := ok_law_word (P := P) (w := w) (base := base) T
  refine T.d_law_words.ok sc_law_words (fun vs H Q E h => ?_) (fun f cdv A outer s H vs Q E hr h => ?_)
  · obtain ⟨a, z, c, n, rfl, _⟩ := h
    rfl
  · obtain ⟨a, _, c, n, rfl, rfl, hc6, hS, q⟩ := h
    refine ⟨_, (pss_cons (ps_set (i := 2) sc_law_words.nd rfl (by first | exact Or.inl rfl | exact Or.inr rfl) pe_str)
      (pss_cons (ps_set (i := 3) sc_law_words.nd rfl (by first | exact Or.inl rfl | exact Or.inr rfl) (pe_lst pa_nil))
      (pss_cons (ps_for PassesOwn.never rfl (pi_range1 (by rfl) T.n_range (pa_cons (pv 1) pa_nil)) (pg_name (i := 4) sc_law_words.nd rfl (by first | exact Or.inl rfl | exact Or.inr rfl))
      (pss_cons (ps_set (i := 5) sc_law_words.nd rfl (by first | exact Or.inl rfl | exact Or.inr rfl) (pe_callC c_law_word (hr.mono (by decide)) (pa_cons (pv 0) pa_nil)))
          (pss_cons (ps_set (i := 6) sc_law_words.nd rfl (by first | exact Or.inl rfl | exact Or.inr rfl) (pe_callC c_law_take (hr.mono (by decide)) (pa_cons (pv 0) (pa_cons pe_int pa_nil))))
          (Evl.pss_cut (ps_if (PW.pt (pw_and (pt_cmpR (kNeD (K := K) hr.units) (pv 3) (pe_lst pa_nil) (nomark _)) (pw_and1 (pt_cmpR op_gt (pv 6) pe_int (nomark _))))) (pss_cons (ps_set (i := 7) sc_law_words.nd rfl (by first | exact Or.inl rfl | exact Or.inr rfl) (pe_ix (kIxL (K := K)) (pv 3) (pe_un un_neg pe_int) (fun _ _ => rfl)))
        (pss_cons (ps_set (i := 8) sc_law_words.nd rfl (by first | exact Or.inl rfl | exact Or.inr rfl) (pe_callC c_law_take (hr.mono (by decide)) (pa_cons (pv 0) (pa_cons (pe_callB call_len_str (by rfl) T.n_len PySem.boot_len (pa_cons (pv 7) pa_nil)) pa_nil))))
        (pss_cons (ps_set (i := 5) sc_law_words.nd rfl (by first | exact Or.inl rfl | exact Or.inr rfl) (pe_op op_add_str (pe_op op_add_str (pe_slice sl_str (pv 7) po_none (po_some (pv 8))) (pe_ix ix_str (pv 2) (pe_callC c_law_take (hr.mono (by decide)) (pa_cons (pv 0) (pa_cons pe_int pa_nil))) (fun _ _ => rfl))) (pe_slice sl_str (pv 7) (po_some (pe_op op_add (pv 8) pe_int)) po_none)))
        (Evl.pss_cut (ps_if (PW.pt (pw_and (pt_cmpR op_eq (pv 6) pe_int (nomark _)) (pw_and1 (pt_cmpR op_lt (pe_callB call_len_str (by rfl) T.n_len PySem.boot_len (pa_cons (pv 7) pa_nil)) pe_int (nomark _))))) (pss_one (ps_set (i := 5) sc_law_words.nd rfl (by first | exact Or.inl rfl | exact Or.inr rfl) (pe_op op_add_str (pv 7) (pe_ix ix_str (pv 5) (pv 8) (fun _ _ => rfl))))) pss_nil)
        (pss_one (ps_if (PW.pt (pw_and (pt_cmpR op_eq (pv 6) pe_int (nomark _)) (pw_and1 (pt_cmpR op_gt (pe_callB call_len_str (by rfl) T.n_len PySem.boot_len (pa_cons (pv 7) pa_nil)) pe_int (nomark _))))) (pss_one (ps_set (i := 5) sc_law_words.nd rfl (by first | exact Or.inl rfl | exact Or.inr rfl) (pe_op op_add_str (pe_slice sl_str (pv 7) po_none (po_some (pv 8))) (pe_slice sl_str (pv 7) (po_some (pe_op op_add (pv 8) pe_int)) po_none)))) pss_nil)))))) pss_nil)
          (Evl.pss_cut (ps_if (pt_cmpR (kIn (K := K)) (pv 5) (pv 3) rfl) (pss_one (ps_set (i := 5) sc_law_words.nd rfl (by first | exact Or.inl rfl | exact Or.inr rfl) (pe_ix (kIxL (K := K)) (pe_lc (own := [("letter", 9)]) rfl sc_law_words.nd (pi_str (pv 2)) (blkOk_by (N := ["state", "count", "letters", "words", "k", "word", "way", "near", "at", "letter"]) (sc := defScope s_law_words) (own := [("letter", 9)]) (by decide +kernel)) (fun _ _ _ _ _ => (pg_name (i := 9) sc_law_words.nd rfl (by first | exact Or.inl rfl | exact Or.inr rfl))) (fun _ _ _ _ _ => (pts_one (pt_cmpR (kNotIn (K := K)) (pv 9) (pv 3) rfl))) (fun _ _ _ _ _ => (pv 9))) pe_int (fun _ _ => rfl)))) pss_nil)
          (pss_one (ps_expr (pe_bm PySem.F.plainAttrs_list PySem.F.slot_list_append PySem.F.type_list_append mt_append (pv 3) (pa_cons (pv 5) pa_nil)))))))))
      (pss_one (ps_ret (pv 3)))))), ?_⟩
    refine ⟨Nat.zero_le _, fun p hp => ?_⟩
    obtain ⟨xs0, hx0⟩ := hS.lst
    have np : p ≠ a := (ne_of_none hx0 hp).symm
    refine ⟨_, rfl, _, rfl, by omega, by omega, for_range (lo := 0) (n := ((c : Int)).toNat) (fun i σ Hi => ∃ (ws : List Str) (o4 o5 o6 o7 o8 o9 : Option V), σ = [some (.ref a), some (.int c), some (.str abc), some (.ref p), o4, o5, o6, o7, o8, o9] ∧ ws.length = i ∧ i ≤ c ∧ WsAt H a p (n + 12 * (c - i)) ws Hi) ?_ ?_ ?_⟩
    · exact ⟨[], none, none, none, none, none, none, rfl, rfl, Nat.zero_le _, List.nodup_nil, by simp, upd_same, (hS.mono (by omega)).upd np.symm, (Fr1.refl a H).upd hp⟩
    · rintro i σ Hi hi ⟨ws, o4, o5, o6, o7, o8, o9, rfl, hl, hic, W⟩
      have hi' : i < c := by omega
      refine ⟨_, rfl, a, n + 12 * (c - i) - 9, rfl, W.st.mono (by omega), fun w H1 nw hS1 e1 => ?_⟩
      have W1 := W.step np hS1 e1
      refine ⟨_, rfl, a, 4, n + 12 * (c - i) - 10, rfl, by decide, by decide, hS1.mono (by omega), fun way H2 w0 w1 hS2 e2 => ?_⟩
      have W2 := W1.step np hS2 e2
      refine ⟨fun σ' H' => ∃ (v : Str) (o7 o8 o9 : Option V), σ' = [some (.ref a), some (.int c), some (.str abc), some (.ref p), some (.int (0 + i)), some (.str v), some (.int way), o7, o8, o9] ∧ Nm v ∧ WsAt H a p (n + 12 * (c - (i + 1))) ws H', ?_, ?_⟩
      · -- if words != [] and way > 0
        refine ⟨_, rfl, Nat.zero_le _, fun l hl2 => ?_⟩
        have W3 := W2.new (o := .lst []) hl2
        have nl : p ≠ l := ne_of_none W2.at_ hl2
        refine ⟨.list (ws.map PyData.str), .list [], Dp.lst (SqL.of W3.at_) (TdAll.dp (TdAll.strs ws)), Dp.lst (SqL.of upd_same) .nil, (Fine.lst (fine_strs W.nm)).sh (by decide), (Fine.lst (n := 1) (by simp)).sh (by decide), ?_⟩
        rcases Classical.em (ws = []) with hw | hw
        · subst hw
          refine ⟨false, by simp [PyData.eqv, PyData.eqvAll], iteF ?_⟩
          exact iteF ⟨w, _, _, _, rfl, nw, W3.step np (W3.st.mono (by omega)) (Fr1.refl a _)⟩
        · obtain ⟨ini, near, rfl⟩ : ∃ ini near, ws = ini ++ [near] := ⟨ws.dropLast, ws.getLast hw, (List.dropLast_concat_getLast hw).symm⟩
          refine ⟨true, ?_, iteT ?_⟩
          · rw [eqv_lists_nil]
            simp
          refine ⟨_, rfl, _, _, rfl, rfl, _, rfl, ite2 (fun c1 => ?_) (fun _ => ?_)⟩
          rotate_left
          · exact ⟨w, _, _, _, rfl, nw, W3.step np (W3.st.mono (by omega)) (Fr1.refl a _)⟩
          have nn : Nm near := W.nm near (by simp)
          refine ⟨_, rfl, _, rfl, p, _, _, .str near, rfl, rfl, SqL.of W3.at_, (by rw [List.map_append]; exact atI_last _ _), ?_⟩
          refine ⟨_, rfl, _, rfl, near, rfl, sizeL (by have := nn.hi; omega), a, _, n + 12 * (c - i) - 11, rfl, (by have := nn.lo; omega), (by have := nn.hi; omega), W3.st.mono (by omega), fun at_ H4 a0 a1 hS4 e4 => ?_⟩
          have W4 := W3.step np hS4 e4
          obtain ⟨k, rfl⟩ : ∃ k : Nat, at_ = (k : Int) := ⟨at_.toNat, by omega⟩
          have hk : k < (cd near).length := by
            rw [← cd_len]
            omega
          have hz : near.length ≤ sizeLine := sizeL (by have := nn.hi; omega)
          refine ⟨_, rfl, _, rfl, _, rfl, _, rfl, hz, _, rfl, _, rfl, a, 26, n + 12 * (c - (i + 1)), rfl, by decide, by decide, hS4.mono (by omega), fun z H5 z0 z1 hS5 e5 => ?_⟩
          have W5 := W4.step np hS5 e5
          obtain ⟨j, rfl⟩ : ∃ j : Nat, z = (j : Int) := ⟨z.toNat, by omega⟩
          have hj : j < 26 := by omega
          have l1 : cd (cutS near none (some (k : Int))) = (cd near).take k := cut_to near k (by rw [cd_len]; omega)
          have l2 : cd (cutS near (some ((k : Int) + 1)) none) = (cd near).drop (k + 1) := cut_from near (k + 1)
          have z1' : (cutS near none (some (k : Int))).length ≤ 8 := by
            rw [cd_len, l1, List.length_take]
            have := nn.l8
            omega
          have z2' : (cutS near (some ((k : Int) + 1)) none).length ≤ 8 := by
            rw [cd_len, l2, List.length_drop]
            have := nn.l8
            omega
          refine ⟨abc, _, 97 + j, rfl, rfl, sizeL (by rw [abc_len]; decide), atI_nat (abc_at j hj), _, _, rfl, rfl, sizeL (by show _ + 1 ≤ _; omega), ?_⟩
          have hzz : (cutS near none (some (k : Int)) ++ (⟨#[97 + j]⟩ : Str)).length ≤ 9 := by
            rw [cd_len, cd_app, List.length_append, ← cd_len]
            show _ + 1 ≤ 9
            omega
          refine ⟨_, rfl, _, rfl, _, _, rfl, rfl, _, rfl, _, rfl, hz, _, _, rfl, rfl, sizeL (by omega), ?_⟩
          generalize hv : cutS near none (some (k : Int)) ++ (⟨#[97 + j]⟩ : Str) ++ cutS near (some ((k : Int) + 1)) none = v
          have cv : cd v = (cd near).take k ++ [97 + j] ++ (cd near).drop (k + 1) := by
            rw [← hv, cd_app, cd_app, l1, l2]
          have nv : Nm v := nn.bent hk (by omega) cv
          have vl : (cd v).length = (cd near).length := by
            rw [cv]
            simp only [List.length_append, List.length_take, List.length_drop, List.length_singleton]
            omega
          refine ⟨fun σ' H' => ∃ (v : Str), σ' = [some (.ref a), some (.int c), some (.str abc), some (.ref p), some (.int (0 + i)), some (.str v), some (.int way), some (.str near), some (.int k), o9] ∧ Nm v ∧ WsAt H a p (n + 12 * (c - (i + 1))) (ini ++ [near]) H', ?_, ?_⟩
          · -- if way == 2 and len(near) < 8: word = near + word[at]
            refine ⟨_, rfl, rfl, _, rfl, ite2 (fun _ => ?_) (fun _ => iteF ⟨v, rfl, nv, W5⟩)⟩
            refine ⟨_, rfl, _, rfl, hz, _, _, rfl, rfl, _, rfl, ite2 (fun c8 => ?_) (fun _ => ⟨v, rfl, nv, W5⟩)⟩
            have c8 : near.length < 8 := by
              have := of_decide_eq_true c8
              omega
            have hk2 : k < (cd v).length := by omega
            refine ⟨_, rfl, _, rfl, _, rfl, v, _, (cd v)[k], rfl, rfl, sizeL (by have := nv.hi; omega), atI_nat (List.getElem?_eq_getElem hk2), _, _, rfl, rfl, sizeL (by show _ + 1 ≤ _; omega), ?_⟩
            exact ⟨_, rfl, nn.more (by rw [← cd_len]; exact c8) (nv.az _ (List.getElem_mem hk2)) (by rw [cd_app]), W5⟩
          · rintro σ' H' ⟨v, rfl, nv, W6⟩
            refine ⟨_, rfl, rfl, _, rfl, ite2 (fun _ => ?_) (fun _ => iteF ⟨v, _, _, _, rfl, nv, W6⟩)⟩
            refine ⟨_, rfl, _, rfl, hz, _, _, rfl, rfl, _, rfl, ite2 (fun c1 => ?_) (fun _ => ⟨v, _, _, _, rfl, nv, W6⟩)⟩
            have c1 : 1 < near.length := by
              have := of_decide_eq_true c1
              omega
            refine ⟨_, rfl, _, rfl, _, rfl, _, rfl, hz, _, rfl, _, rfl, _, _, rfl, rfl, _, rfl, _, rfl, hz, _, _, rfl, rfl, sizeL (by omega), ?_⟩
            exact ⟨_, _, _, _, rfl, nn.less hk (by rw [← cd_len]; exact c1) (by rw [cd_app, l1, l2]), W6⟩
      · rintro σ' H' ⟨v, o7, o8, o9, rfl, nv, W3⟩
        refine ⟨fun σ' H' => ∃ (v : Str) (o9 : Option V), σ' = [some (.ref a), some (.int c), some (.str abc), some (.ref p), some (.int (0 + i)), some (.str v), some (.int way), o7, o8, o9] ∧ Nm v ∧ v ∉ ws ∧ WsAt H a p (n + 12 * (c - (i + 1))) ws H', ?_, ?_⟩
        · -- if word in words
          refine ⟨_, rfl, _, rfl, p, _, rfl, .inl (SqL.of W3.at_), rfl, flat_strs ws, decide (v ∈ ws), ?_, ?_⟩
          · show V.bl (inV _ _) = _
            rw [inV_strs]
          refine ite2 (fun _ => ?_) (fun c1 => ⟨v, _, rfl, nv, (by simpa using c1), W3⟩)
          refine ⟨_, rfl, _, rfl, fun D hD => lc_str (x := abc) (fun t Ht => ∃ acc : List V, Ht D = some (.lst acc) ∧ acc.length ≤ t ∧ (acc = [] → ∀ u, u < t → (⟨#[97 + u]⟩ : Str) ∈ ws) ∧ (∀ y ∈ acc, ∃ c, (97 ≤ c ∧ c ≤ 122) ∧ (⟨#[c]⟩ : Str) ∉ ws ∧ y = .str ⟨#[c]⟩) ∧ WsAt H a p (n + 12 * (c - (i + 1))) ws Ht) ?_ ?_ ?_⟩
          · exact ⟨[], upd_same, Nat.zero_le _, fun _ u h => absurd h (Nat.not_lt_zero _), by simp, W3.new hD⟩
          · rintro t s Ht hts ⟨acc, hacc, hal, hno, hyes, W4⟩
            have ht26 : t < 26 := by
              have h1 := (Array.getElem?_eq_some_iff.mp hts).1
              have h2 : abc.cps.size = 26 := abc_len
              omega
            have es : s = 97 + t := by
              have h1 := abc_at t ht26
              rw [Array.getElem?_toList, hts] at h1
              exact Option.some.inj h1
            subst es
            have nDp : D ≠ p := fun e => by
              have := W3.at_
              rw [← e, hD] at this
              cases this
            have nDa : D ≠ a := (W3.st.ne hD).symm
            refine ⟨rfl, _, rfl, _, rfl, p, _, rfl, .inl (SqL.of W4.at_), rfl, flat_strs ws, !decide ((⟨#[97 + t]⟩ : Str) ∈ ws), ?_, ?_⟩
            · show V.bl (!inV _ _) = _
              rw [inV_strs]
            by_cases hm : (⟨#[97 + t]⟩ : Str) ∈ ws
            · rw [decide_eq_true hm]
              refine iteF ⟨acc, hacc, by omega, fun e u hu => ?_, hyes, W4⟩
              rcases Nat.lt_succ_iff_lt_or_eq.mp hu with h | rfl
              · exact hno e u h
              · exact hm
            · rw [decide_eq_false hm]
              refine iteT ⟨_, rfl, acc, hacc, sizeLt (by omega), acc ++ [.str ⟨#[97 + t]⟩], upd_same, by simp; omega, fun e => by simp at e, fun y hy => ?_, W4.nd, W4.nm, by rw [upd_ne nDp.symm]; exact W4.at_, W4.st.upd nDa.symm, ?_⟩
              · rcases List.mem_append.mp hy with h | h
                · exact hyes y h
                · exact ⟨97 + t, by omega, hm, List.mem_singleton.mp h⟩
              · intro b o nb hb
                have hbD : b ≠ D := fun e => by
                  have h3 := W3.fr b o nb hb
                  rw [e, hD] at h3
                  cases h3
                rw [upd_ne hbD]
                exact W4.fr b o nb hb
          · rintro Ht ⟨acc, hacc, hal, hno, hyes, W4⟩
            cases acc with
            | nil =>
              exfalso
              obtain ⟨j, hj, hf⟩ := free_letter ws (by omega)
              have h2 : abc.cps.size = 26 := abc_len
              exact hf (hno rfl j (by omega))
            | cons y r =>
              obtain ⟨s, az, hf, rfl⟩ := hyes y List.mem_cons_self
              refine ⟨D, _, _, _, rfl, rfl, SqL.of hacc, atI_nat (j := 0) rfl, ?_⟩
              exact ⟨_, _, rfl, Nm.sign az, hf, W4⟩
        · rintro σ' H' ⟨v, o9, rfl, nv, hf, W4⟩
          refine ⟨_, rfl, .inl ⟨rfl, _, SqL.of W4.at_⟩, _, rfl, p, _, _, rfl, rfl, W4.at_, sizeLt (by rw [List.length_map]; omega), ?_⟩
          refine ⟨ws ++ [v], _, _, _, _, _, _, rfl, by simp [hl], by omega, nd_snoc W4.nd hf, fun w hw => ?_, by rw [upd_same, List.map_append]; rfl, W4.st.upd np.symm, ?_⟩
          · rcases List.mem_append.mp hw with h | h
            · exact W4.nm w h
            · rw [List.mem_singleton.mp h]
              exact nv
          · intro b o nb hb
            have hbp : b ≠ p := fun e => by
              rw [e, hp] at hb
              cases hb
            rw [upd_ne hbp]
            exact W4.fr b o nb hb
    · rintro σ Hi ⟨ws, o4, o5, o6, o7, o8, o9, rfl, hl, hic, W⟩
      exact ⟨_, rfl, q p ws Hi hp (by omega) W.nd W.nm W.at_ (W.st.mono (by omega)) W.fr⟩
end My
namespace My
open PySem L2
theorem ints_dp {H : Hp} : ∀ ks : List Int, TdAll H (ks.map V.int) (ks.map PyData.int)
  | [] => .nil
  | k :: r => .cons (.int k) (ints_dp r)
theorem fine_ints (ks : List Int) : ∀ d ∈ ks.map PyData.int, Fine 1 d := by
  intro d hd
  obtain ⟨w, _, rfl⟩ := List.mem_map.mp hd
  exact Fine.int w
def Within (lo hi : Int) (ks : List Int) : Prop := ∀ k ∈ ks, lo ≤ k ∧ k ≤ hi
theorem Within.snoc {lo hi k : Int} {ks : List Int} (h : Within lo hi ks) (h1 : lo ≤ k) (h2 : k ≤ hi) : Within lo hi (ks ++ [k]) := fun x hx => by
  rcases List.mem_append.mp hx with m | m
  · exact h x m
  · rw [List.mem_singleton.mp m]
    exact ⟨h1, h2⟩
def spKeys : Sp := fun vs H Q _ => ∃ (a : Addr) (z : Int) (c n : Nat), vs = [.ref a, .int z] ∧ z = (c : Int) ∧ c ≤ 1000 ∧ StAt H a (n + 3 * c) ∧
  ∀ (p : Addr) (ks : List Int) (H' : Hp), H p = none → ks.length = c → Within 1 99999999999999999999999999999 ks → H' p = some (.lst (ks.map V.int)) → StAt H' a n → Fr1 a H H' → Q (.ref p) H'
theorem ok_law_keys {P : Program} {w : World} {K : PySem.W.Frag} {mg : Str → Option Value} {base : Heap} {CS CD XCarryError XTaken : Addr} (T : Txt K mg CS CD XCarryError XTaken) : CallOk P w K mg base 2 "_law_keys" spKeys := by
  have c_law_take := ok_law_take (P := P) (w := w) (base := base) T
  refine T.d_law_keys.ok sc_law_keys (fun vs H Q E h => ?_) (fun f cdv A outer s H vs Q E hr h => ?_)
  · obtain ⟨a, z, c, n, rfl, _⟩ := h
    rfl
  · obtain ⟨a, _, c, n, rfl, rfl, hc6, hS, q⟩ := h
    refine ⟨_, (pss_cons (ps_set (i := 2) sc_law_keys.nd rfl (by first | exact Or.inl rfl | exact Or.inr rfl) (pe_lst pa_nil))
      (pss_cons (ps_for PassesOwn.never rfl (pi_range1 (by rfl) T.n_range (pa_cons (pv 1) pa_nil)) (pg_name (i := 3) sc_law_keys.nd rfl (by first | exact Or.inl rfl | exact Or.inr rfl))
      (pss_cons (ps_set (i := 4) sc_law_keys.nd rfl (by first | exact Or.inl rfl | exact Or.inr rfl) (pe_callC c_law_take (hr.mono (by decide)) (pa_cons (pv 0) (pa_cons pe_int pa_nil))))
          (pss_cons (ps_set (i := 5) sc_law_keys.nd rfl (by first | exact Or.inl rfl | exact Or.inr rfl) (pe_op op_add pe_int (pe_callC c_law_take (hr.mono (by decide)) (pa_cons (pv 0) (pa_cons pe_int pa_nil)))))
          (Evl.pss_cut (ps_if (pt_cmpR op_eq (pv 4) pe_int (nomark _)) (pss_one (ps_set (i := 5) sc_law_keys.nd rfl (by first | exact Or.inl rfl | exact Or.inr rfl) (pe_op op_add pe_int (pe_callC c_law_take (hr.mono (by decide)) (pa_cons (pv 0) (pa_cons (pe_op op_sub (pe_op op_pow pe_int pe_int) pe_int) pa_nil)))))) pss_nil)
          (Evl.pss_cut (ps_if (PW.pt (pw_and (pt_cmpR op_eq (pv 4) pe_int (nomark _)) (pw_and1 (pt_cmpR (kNeD (K := K) hr.units) (pv 2) (pe_lst pa_nil) (nomark _))))) (pss_one (ps_set (i := 5) sc_law_keys.nd rfl (by first | exact Or.inl rfl | exact Or.inr rfl) (pe_callB (call_min2 rfl) (by rfl) T.n_min (by decide +kernel) (pa_cons (pe_op op_add (pe_ix (kIxL (K := K)) (pv 2) (pe_un un_neg pe_int) (fun _ _ => rfl)) pe_int) (pa_cons (pe_op op_sub (pe_op op_pow pe_int pe_int) pe_int) pa_nil))))) pss_nil)
          (pss_one (ps_expr (pe_bm PySem.F.plainAttrs_list PySem.F.slot_list_append PySem.F.type_list_append mt_append (pv 2) (pa_cons (pv 5) pa_nil)))))))))
      (pss_one (ps_ret (pv 2))))), ?_⟩
    refine ⟨Nat.zero_le _, fun p hp => ?_⟩
    have np : p ≠ a := (hS.ne hp).symm
    refine ⟨_, rfl, _, rfl, by omega, by omega, for_range (lo := 0) (n := ((c : Int)).toNat) (fun i σ Hi => ∃ (ks : List Int) (o3 o4 o5 : Option V), σ = [some (.ref a), some (.int c), some (.ref p), o3, o4, o5] ∧ ks.length = i ∧ i ≤ c ∧ Within 1 99999999999999999999999999999 ks ∧ Hi p = some (.lst (ks.map V.int)) ∧ StAt Hi a (n + 3 * (c - i)) ∧ Fr1 a H Hi) ?_ ?_ ?_⟩
    · exact ⟨[], none, none, none, rfl, rfl, Nat.zero_le _, (fun k hk => by cases hk), upd_same, (hS.mono (by omega)).upd np.symm, (Fr1.refl a H).upd hp⟩
    · rintro i σ Hi hi ⟨ks, o3, o4, o5, rfl, hl, hic, hw, hpi, hSi, ei⟩
      have hi' : i < c := by omega
      refine ⟨_, rfl, a, 4, n + 3 * (c - i) - 1, rfl, by decide, by decide, hSi.mono (by omega), fun way H2 w0 w1 hS2 e2 => ?_⟩
      refine ⟨_, rfl, a, 12, n + 3 * (c - i) - 2, rfl, by decide, by decide, hS2.mono (by omega), fun d3 H3 d0 d1 hS3 e3 => ⟨_, _, rfl, rfl, ?_⟩⟩
      have hp3 : H3 p = some (.lst (ks.map V.int)) := e3 p _ np (e2 p _ np hpi)
      refine ⟨fun σ' H' => ∃ key : Int, σ' = [some (.ref a), some (.int c), some (.ref p), some (.int (0 + i)), some (.int way), some (.int key)] ∧ 1 ≤ key ∧ key ≤ 99999999999999999999999999999 ∧ H' p = some (.lst (ks.map V.int)) ∧ StAt H' a (n + 3 * (c - (i + 1))) ∧ Fr1 a H H', ?_, ?_⟩
      · refine ⟨_, rfl, rfl, _, rfl, ite2 (fun _ => ?_) (fun _ => ⟨_, rfl, by omega, by omega, hp3, hS3.mono (by omega), (ei.trans e2).trans e3⟩)⟩
        refine ⟨_, rfl, _, _, rfl, rfl, ⟨by decide, by decide, by decide⟩, _, _, rfl, rfl, a, _, n + 3 * (c - (i + 1)), rfl, by decide, by decide, hS3.mono (by omega), fun d4 H4 f0 f1 hS4 e4 => ⟨_, _, rfl, rfl, ?_⟩⟩
        have f1 : d4 < 99999999999999999999999999999 := f1
        exact ⟨_, rfl, by omega, by omega, e4 p _ np hp3, hS4, ((ei.trans e2).trans e3).trans e4⟩
      · rintro σ' H' ⟨key, rfl, k1, k2, hp4, hS4, e4⟩
        refine ⟨fun σ' H' => ∃ key : Int, σ' = [some (.ref a), some (.int c), some (.ref p), some (.int (0 + i)), some (.int way), some (.int key)] ∧ 1 ≤ key ∧ key ≤ 99999999999999999999999999999 ∧ H' p = some (.lst (ks.map V.int)) ∧ StAt H' a (n + 3 * (c - (i + 1))) ∧ Fr1 a H H', ?_, ?_⟩
        · refine ⟨_, rfl, rfl, _, rfl, ite2 (fun _ => ?_) (fun _ => iteF ⟨_, rfl, k1, k2, hp4, hS4, e4⟩)⟩
          refine ⟨_, rfl, Nat.zero_le _, fun l hl2 => ?_⟩
          have nl : p ≠ l := ne_of_none hp4 hl2
          have hp5 : upd H' l (.lst []) p = some (.lst (ks.map V.int)) := by rw [upd_ne nl]; exact hp4
          have hS5 := hS4.upd (o := .lst []) (hS4.ne hl2)
          have e5 := e4.upd (o := .lst []) (e4.free (hS4.ne hl2).symm hl2)
          refine ⟨.list (ks.map PyData.int), .list [], Dp.lst (SqL.of hp5) (TdAll.dp (ints_dp ks)), Dp.lst (SqL.of upd_same) .nil, (Fine.lst (fine_ints ks)).sh (by decide), (Fine.lst (n := 1) (by simp)).sh (by decide), ?_⟩
          rcases Classical.em (ks = []) with hk | hk
          · subst hk
            exact ⟨false, by simp [PyData.eqv, PyData.eqvAll], iteF ⟨_, rfl, k1, k2, hp5, hS5, e5⟩⟩
          · obtain ⟨ini, x, rfl⟩ : ∃ ini x, ks = ini ++ [x] := ⟨ks.dropLast, ks.getLast hk, (List.dropLast_concat_getLast hk).symm⟩
            refine ⟨true, ?_, iteT ?_⟩
            · rw [eqv_lists_nil]
              simp
            have hx := hw x (by simp)
            refine ⟨_, rfl, _, rfl, p, _, _, .int x, rfl, rfl, SqL.of hp5, (by rw [List.map_append]; exact atI_last _ _), _, _, rfl, rfl, _, _, rfl, rfl, ⟨by decide, by decide, by decide⟩, _, _, rfl, rfl, _, _, rfl, _, rfl, ?_, ?_, hp5, hS5, e5⟩
            · rw [show (10 : Int) ^ Int.toNat 29 = 100000000000000000000000000000 from by decide +kernel]
              split <;> omega
            · rw [show (10 : Int) ^ Int.toNat 29 = 100000000000000000000000000000 from by decide +kernel]
              split <;> omega
        · rintro σ' H' ⟨key, rfl, k1, k2, hp4, hS4, e4⟩
          refine ⟨_, rfl, .inl ⟨rfl, _, SqL.of hp4⟩, _, rfl, p, _, _, rfl, rfl, hp4, sizeLt (by rw [List.length_map]; omega), ?_⟩
          refine ⟨ks ++ [key], _, _, _, rfl, by simp [hl], by omega, hw.snoc k1 k2, by rw [upd_same, List.map_append]; rfl, hS4.upd np.symm, fun b o nb hb => ?_⟩
          rw [upd_ne (ne_of_none hb hp)]
          exact e4 b o nb hb
    · rintro σ Hi ⟨ks, o3, o4, o5, rfl, hl, hic, hw, hpi, hSi, ei⟩
      exact ⟨_, rfl, q p ks Hi hp (by omega) hw hpi (hSi.mono (by omega)) ei⟩
end My
namespace My
open PySem L2
def spLabels : Sp := fun vs H Q _ => ∃ (a : Addr) (z : Int) (c n : Nat), vs = [.ref a, .int z] ∧ z = (c : Int) ∧ c ≤ 1000 ∧ StAt H a (n + 3 * c) ∧
  ∀ (p : Addr) (ks : List Int) (H' : Hp), H p = none → ks.length = c → Within 0 999999999999999999999999999999 ks → H' p = some (.lst (ks.map V.int)) → StAt H' a n → Fr1 a H H' → Q (.ref p) H'
theorem ok_law_labels {P : Program} {w : World} {K : PySem.W.Frag} {mg : Str → Option Value} {base : Heap} {CS CD XCarryError XTaken : Addr} (T : Txt K mg CS CD XCarryError XTaken) : CallOk P w K mg base 2 "_law_labels" spLabels := by
  have c_law_take := ok_law_take (P := P) (w := w) (base := base) T
  refine T.d_law_labels.ok sc_law_labels (fun vs H Q E h => ?_) (fun f cdv A outer s H vs Q E hr h => ?_)
  · obtain ⟨a, z, c, n, rfl, _⟩ := h
    rfl
  · obtain ⟨a, _, c, n, rfl, rfl, hc6, hS, q⟩ := h
    refine ⟨_, (pss_cons (ps_set (i := 2) sc_law_labels.nd rfl (by first | exact Or.inl rfl | exact Or.inr rfl) (pe_lst pa_nil))
      (pss_cons (ps_for PassesOwn.never rfl (pi_range1 (by rfl) T.n_range (pa_cons (pv 1) pa_nil)) (pg_name (i := 3) sc_law_labels.nd rfl (by first | exact Or.inl rfl | exact Or.inr rfl))
      (pss_cons (ps_set (i := 4) sc_law_labels.nd rfl (by first | exact Or.inl rfl | exact Or.inr rfl) (pe_callC c_law_take (hr.mono (by decide)) (pa_cons (pv 0) (pa_cons pe_int pa_nil))))
          (pss_cons (ps_set (i := 5) sc_law_labels.nd rfl (by first | exact Or.inl rfl | exact Or.inr rfl) (pe_callC c_law_take (hr.mono (by decide)) (pa_cons (pv 0) (pa_cons pe_int pa_nil))))
          (Evl.pss_cut (ps_if (pt_cmpR op_eq (pv 4) pe_int (nomark _)) (pss_one (ps_set (i := 5) sc_law_labels.nd rfl (by first | exact Or.inl rfl | exact Or.inr rfl) (pe_callC c_law_take (hr.mono (by decide)) (pa_cons (pv 0) (pa_cons (pe_op op_pow pe_int pe_int) pa_nil))))) pss_nil)
          (Evl.pss_cut (ps_if (PW.pt (pw_and (pt_cmpR op_eq (pv 4) pe_int (nomark _)) (pw_and1 (pt_cmpR (kNeD (K := K) hr.units) (pv 2) (pe_lst pa_nil) (nomark _))))) (pss_one (ps_set (i := 5) sc_law_labels.nd rfl (by first | exact Or.inl rfl | exact Or.inr rfl) (pe_callB (call_min2 rfl) (by rfl) T.n_min (by decide +kernel) (pa_cons (pe_op op_add (pe_ix (kIxL (K := K)) (pv 2) (pe_un un_neg pe_int) (fun _ _ => rfl)) pe_int) (pa_cons (pe_op op_sub (pe_op op_pow pe_int pe_int) pe_int) pa_nil))))) pss_nil)
          (pss_one (ps_expr (pe_bm PySem.F.plainAttrs_list PySem.F.slot_list_append PySem.F.type_list_append mt_append (pv 2) (pa_cons (pv 5) pa_nil)))))))))
      (pss_one (ps_ret (pv 2))))), ?_⟩
    refine ⟨Nat.zero_le _, fun p hp => ?_⟩
    have np : p ≠ a := (hS.ne hp).symm
    refine ⟨_, rfl, _, rfl, by omega, by omega, for_range (lo := 0) (n := ((c : Int)).toNat) (fun i σ Hi => ∃ (ks : List Int) (o3 o4 o5 : Option V), σ = [some (.ref a), some (.int c), some (.ref p), o3, o4, o5] ∧ ks.length = i ∧ i ≤ c ∧ Within 0 999999999999999999999999999999 ks ∧ Hi p = some (.lst (ks.map V.int)) ∧ StAt Hi a (n + 3 * (c - i)) ∧ Fr1 a H Hi) ?_ ?_ ?_⟩
    · exact ⟨[], none, none, none, rfl, rfl, Nat.zero_le _, (fun k hk => by cases hk), upd_same, (hS.mono (by omega)).upd np.symm, (Fr1.refl a H).upd hp⟩
    · rintro i σ Hi hi ⟨ks, o3, o4, o5, rfl, hl, hic, hw, hpi, hSi, ei⟩
      have hi' : i < c := by omega
      refine ⟨_, rfl, a, 4, n + 3 * (c - i) - 1, rfl, by decide, by decide, hSi.mono (by omega), fun way H2 w0 w1 hS2 e2 => ?_⟩
      refine ⟨_, rfl, a, 9, n + 3 * (c - i) - 2, rfl, by decide, by decide, hS2.mono (by omega), fun d3 H3 d0 d1 hS3 e3 => ?_⟩
      have hp3 : H3 p = some (.lst (ks.map V.int)) := e3 p _ np (e2 p _ np hpi)
      refine ⟨fun σ' H' => ∃ key : Int, σ' = [some (.ref a), some (.int c), some (.ref p), some (.int (0 + i)), some (.int way), some (.int key)] ∧ 0 ≤ key ∧ key ≤ 999999999999999999999999999999 ∧ H' p = some (.lst (ks.map V.int)) ∧ StAt H' a (n + 3 * (c - (i + 1))) ∧ Fr1 a H H', ?_, ?_⟩
      · refine ⟨_, rfl, rfl, _, rfl, ite2 (fun _ => ?_) (fun _ => ⟨_, rfl, by omega, by omega, hp3, hS3.mono (by omega), (ei.trans e2).trans e3⟩)⟩
        refine ⟨_, rfl, _, _, rfl, rfl, ⟨by decide, by decide, by decide⟩, a, _, n + 3 * (c - (i + 1)), rfl, by decide, by decide, hS3.mono (by omega), fun d4 H4 f0 f1 hS4 e4 => ?_⟩
        have f1 : d4 < 1000000000000000000000000000000 := f1
        exact ⟨_, rfl, by omega, by omega, e4 p _ np hp3, hS4, ((ei.trans e2).trans e3).trans e4⟩
      · rintro σ' H' ⟨key, rfl, k1, k2, hp4, hS4, e4⟩
        refine ⟨fun σ' H' => ∃ key : Int, σ' = [some (.ref a), some (.int c), some (.ref p), some (.int (0 + i)), some (.int way), some (.int key)] ∧ 0 ≤ key ∧ key ≤ 999999999999999999999999999999 ∧ H' p = some (.lst (ks.map V.int)) ∧ StAt H' a (n + 3 * (c - (i + 1))) ∧ Fr1 a H H', ?_, ?_⟩
        · refine ⟨_, rfl, rfl, _, rfl, ite2 (fun _ => ?_) (fun _ => iteF ⟨_, rfl, k1, k2, hp4, hS4, e4⟩)⟩
          refine ⟨_, rfl, Nat.zero_le _, fun l hl2 => ?_⟩
          have nl : p ≠ l := ne_of_none hp4 hl2
          have hp5 : upd H' l (.lst []) p = some (.lst (ks.map V.int)) := by rw [upd_ne nl]; exact hp4
          have hS5 := hS4.upd (o := .lst []) (hS4.ne hl2)
          have e5 := e4.upd (o := .lst []) (e4.free (hS4.ne hl2).symm hl2)
          refine ⟨.list (ks.map PyData.int), .list [], Dp.lst (SqL.of hp5) (TdAll.dp (ints_dp ks)), Dp.lst (SqL.of upd_same) .nil, (Fine.lst (fine_ints ks)).sh (by decide), (Fine.lst (n := 1) (by simp)).sh (by decide), ?_⟩
          rcases Classical.em (ks = []) with hk | hk
          · subst hk
            exact ⟨false, by simp [PyData.eqv, PyData.eqvAll], iteF ⟨_, rfl, k1, k2, hp5, hS5, e5⟩⟩
          · obtain ⟨ini, x, rfl⟩ : ∃ ini x, ks = ini ++ [x] := ⟨ks.dropLast, ks.getLast hk, (List.dropLast_concat_getLast hk).symm⟩
            refine ⟨true, ?_, iteT ?_⟩
            · rw [eqv_lists_nil]
              simp
            have hx := hw x (by simp)
            refine ⟨_, rfl, _, rfl, p, _, _, .int x, rfl, rfl, SqL.of hp5, (by rw [List.map_append]; exact atI_last _ _), _, _, rfl, rfl, _, _, rfl, rfl, ⟨by decide, by decide, by decide⟩, _, _, rfl, rfl, _, _, rfl, _, rfl, ?_, ?_, hp5, hS5, e5⟩
            · rw [show (10 : Int) ^ Int.toNat 30 = 1000000000000000000000000000000 from by decide +kernel]
              split <;> omega
            · rw [show (10 : Int) ^ Int.toNat 30 = 1000000000000000000000000000000 from by decide +kernel]
              split <;> omega
        · rintro σ' H' ⟨key, rfl, k1, k2, hp4, hS4, e4⟩
          refine ⟨_, rfl, .inl ⟨rfl, _, SqL.of hp4⟩, _, rfl, p, _, _, rfl, rfl, hp4, sizeLt (by rw [List.length_map]; omega), ?_⟩
          refine ⟨ks ++ [key], _, _, _, rfl, by simp [hl], by omega, hw.snoc k1 k2, by rw [upd_same, List.map_append]; rfl, hS4.upd np.symm, fun b o nb hb => ?_⟩
          rw [upd_ne (ne_of_none hb hp)]
          exact e4 b o nb hb
    · rintro σ Hi ⟨ks, o3, o4, o5, rfl, hl, hic, hw, hpi, hSi, ei⟩
      exact ⟨_, rfl, q p ks Hi hp (by omega) hw hpi (hSi.mono (by omega)) ei⟩
end My
namespace My
open PySem L2
def spFlag : Sp := fun vs H Q _ => ∃ b : Bool, vs = [.bl b] ∧ Q (.bl true) H
theorem ok_is_flag {P : Program} {w : World} {K : PySem.W.Frag} {mg : Str → Option Value} {base : Heap} {CS CD XCarryError XTaken : Addr} (T : Txt K mg CS CD XCarryError XTaken) : CallOk P w K mg base 1 "is_flag" spFlag := by
  refine T.d_is_flag.ok sc_is_flag (fun vs H Q E h => ?_) (fun f cdv A outer s H vs Q E hr h => ?_)
  · obtain ⟨b, rfl, _⟩ := h
    rfl
  · obtain ⟨b, rfl, q⟩ := h
    refine ⟨_, (pss_one (ps_ret (pe_or (pe_cmpR op_isBl (pv 0) pe_bl (nomark _)) (pe_one (pe_cmpR op_isBl (pv 0) pe_bl (nomark _)))))), ?_⟩
    refine ⟨_, rfl, _, _, rfl, rfl, _, rfl, ite2 (fun _ => q) (fun c => ?_)⟩
    have hb : b = false := by simpa using c
    subst hb
    exact ⟨_, rfl, _, _, rfl, rfl, q⟩
end My
namespace My
open PySem L2
def spOneOf (K : PySem.W.Frag) : Sp := fun vs H Q _ => ∃ v w : V, vs = [v, w] ∧ ((∃ t, TyX K H v t ∧ PySem.W.kitOne K t (.type "str") = some false ∧ Q (.bl false) H) ∨
  ∃ x, v = .str x ∧ ((∃ a o, w = .ref a ∧ DGet H a (.str x) o ∧ Q (.bl o.isSome) H) ∨ ∃ p xs, w = .ref p ∧ (SqL K H p xs ∨ SqT K H p xs) ∧ xs.all flatV = true ∧ Q (.bl (inV (.str x) xs)) H))
theorem ok_is_one_of {P : Program} {w : World} {K : PySem.W.Frag} {mg : Str → Option Value} {base : Heap} {CS CD XCarryError XTaken : Addr} (T : Txt K mg CS CD XCarryError XTaken) : CallOk P w K mg base 1 "is_one_of" (spOneOf K) := by
  refine T.d_is_one_of.ok sc_is_one_of (fun vs H Q E h => ?_) (fun f cdv A outer s H vs Q E hr h => ?_)
  · obtain ⟨v, w, rfl, _⟩ := h
    rfl
  · obtain ⟨v, w, rfl, h⟩ := h
    have hu := hu_of hr
    refine ⟨_, (pss_one (ps_ret (pe_and (pe_callB (kIsi (K := K)) (by rfl) T.n_isinstance (by decide +kernel) (pa_cons (pv 0) (pa_cons (pe_bltn (v := .ty "str") (by rfl) T.n_str (by decide +kernel) rfl) pa_nil))) (pe_one (pe_cmpR (kInG (K := K) hu) (pv 0) (pv 1) rfl))))), ?_⟩
    rcases h with ⟨t, ty, ko, q⟩ | ⟨x, rfl, h⟩
    · exact ⟨_, rfl, v, _, t, _, false, rfl, ClsV.ty "str", ty, ko, false, rfl, iteF q⟩
    · refine ⟨_, rfl, _, _, _, _, true, rfl, ClsV.ty "str", TyX.base (TyOf.str x), kit_ty (by decide +kernel), true, rfl, iteT ?_⟩
      refine ⟨_, rfl, _, rfl, ?_⟩
      rcases h with ⟨a, o, rfl, g, q⟩ | ⟨p, xs, rfl, hx, hf, q⟩
      · exact Or.inl ⟨a, o, rfl, g, q⟩
      · exact Or.inr ⟨p, xs, rfl, hx, rfl, hf, q⟩
end My
namespace My
open PySem L2
def spName : Sp := fun vs H Q _ => ∃ w, vs = [.str w] ∧ Nm w ∧ ∀ H', Same H H' → Q (.bl true) H'
theorem ok_is_name {P : Program} {w : World} {K : PySem.W.Frag} {mg : Str → Option Value} {base : Heap} {CS CD XCarryError XTaken : Addr} (T : Txt K mg CS CD XCarryError XTaken) : CallOk P w K mg base 1 "is_name" spName := by
  refine T.d_is_name.ok sc_is_name (fun vs H Q E h => ?_) (fun f cdv A outer s H vs Q E hr h => ?_)
  · obtain ⟨w, rfl, _⟩ := h
    rfl
  · obtain ⟨w, rfl, nw, q⟩ := h
    refine ⟨_, (pss_cons (ps_if (PW.pt (pw_or (pt_not (pt_val (pe_callB (kIsi (K := K)) (by rfl) T.n_isinstance (by decide +kernel) (pa_cons (pv 0) (pa_cons (pe_bltn (v := .ty "str") (by rfl) T.n_str (by decide +kernel) rfl) pa_nil))))) (pw_or1 (pt_not (pt_chain op_le op_le pe_int (pe_callB call_len_str (by rfl) T.n_len PySem.boot_len (pa_cons (pv 0) pa_nil)) (pe_globV T.v_LONGEST_NAME)))))) (pss_one (ps_ret pe_bl)) pss_nil)
      (pss_one (ps_ret (pe_callB (kAll (K := K) rfl) (by rfl) T.n_all (by decide +kernel) (pa_cons (pe_lc (own := [("letter", 1)]) rfl sc_is_name.nd (pi_str (pv 0)) (blkOk_by (N := ["value", "letter"]) (sc := defScope s_is_name) (own := [("letter", 1)]) (by decide +kernel)) (fun _ _ _ _ _ => (pg_name (i := 1) sc_is_name.nd rfl (by first | exact Or.inl rfl | exact Or.inr rfl))) (fun _ _ _ _ _ => pts_nil) (fun _ _ _ _ _ => (pe_cmpR op_in_sign (pv 1) (pe_globV T.v_LETTERS) rfl))) pa_nil))))), ?_⟩
    have l1 := nw.lo
    have l8 := nw.hi
    have hz : w.length ≤ sizeLine := sizeL (by omega)
    refine ⟨_, rfl, _, _, _, _, true, rfl, ClsV.ty "str", TyX.base (TyOf.str w), kit_ty (by decide +kernel), _, rfl, ?_⟩
    refine iteF ?_
    refine ⟨_, rfl, w, rfl, hz, _, _, rfl, rfl, true, ?_, iteT ⟨_, _, rfl, rfl, true, ?_, iteF ?_⟩⟩
    · exact congrArg V.bl (decide_eq_true (show (1 : Int) ≤ (w.length : Int) by omega))
    · exact congrArg V.bl (decide_eq_true (show (w.length : Int) ≤ 8 by omega))
    refine ⟨_, rfl, _, rfl, fun D hD => lc_str (x := w) (fun i Hi => Hi D = some (.lst (List.replicate i (V.bl true))) ∧ Same H Hi) ?_ ?_ ?_⟩
    · exact ⟨upd_same, Same.upd (Same.refl H) hD⟩
    · rintro i c Hi hc ⟨hl, e⟩
      have hcm : c ∈ w.cps.toList := by
        rw [← Array.getElem?_toList] at hc
        exact List.mem_of_getElem? hc
      have hi : i < 8 := by
        have h1 := (Array.getElem?_eq_some_iff.mp hc).1
        have h2 : w.cps.size ≤ 8 := l8
        omega
      refine ⟨rfl, tYes_if ?_⟩
      refine ⟨_, rfl, c, abc, rfl, rfl, _, hl, sizeLt (by rw [List.length_replicate]; omega), ?_, ?_⟩
      · rw [decide_eq_true ((abc_mem c).mpr (nw.az c hcm)), upd_same, rep_snoc]
      · exact Same.upd e hD
    · rintro Hi ⟨hl, e⟩
      refine ⟨D, List.replicate w.cps.size true, rfl, SqL.of (by rw [hl, rep_bl]), ?_⟩
      rw [all_true]
      exact q _ e
end My
namespace My
open PySem L2
def spRef : Sp := fun vs H Q _ => ∃ v r, vs = [v] ∧ Td H v (refD r) ∧ Nm r.1 ∧ Nm r.2 ∧ ∀ H', Same H H' → Q (.bl true) H'
theorem ok_is_reference {P : Program} {w : World} {K : PySem.W.Frag} {mg : Str → Option Value} {base : Heap} {CS CD XCarryError XTaken : Addr} (T : Txt K mg CS CD XCarryError XTaken) : CallOk P w K mg base 2 "_is_reference" spRef := by
  have c_is_name := ok_is_name (P := P) (w := w) (base := base) T
  refine T.d_is_reference.ok sc_is_reference (fun vs H Q E h => ?_) (fun f cdv A outer s H vs Q E hr h => ?_)
  · obtain ⟨v, r, rfl, _⟩ := h
    rfl
  · obtain ⟨v, r, rfl, hv, n1, n2, q⟩ := h
    obtain ⟨t, rfl, ht⟩ := refD_inv hv
    refine ⟨_, (pss_cons (ps_if (PW.pt (pw_or (pt_not (pt_val (pe_callB (kIsi (K := K)) (by rfl) T.n_isinstance (by decide +kernel) (pa_cons (pv 0) (pa_cons (pe_bltn (v := .ty "tuple") (by rfl) T.n_tuple (by decide +kernel) rfl) pa_nil))))) (pw_or1 (pt_cmpR op_ne (pe_callB (kLen (K := K)) (by rfl) T.n_len PySem.boot_len (pa_cons (pv 0) pa_nil)) pe_int (nomark _))))) (pss_one (ps_ret pe_bl)) pss_nil)
      (pss_cons (ps_asg (pv 0) (kPgT (K := K) (n := 2) rfl (pgs_cons (pg_name (i := 1) sc_is_reference.nd rfl (by first | exact Or.inl rfl | exact Or.inr rfl)) (pgs_cons (pg_name (i := 2) sc_is_reference.nd rfl (by first | exact Or.inl rfl | exact Or.inr rfl)) pgs_nil))))
      (pss_one (ps_ret (pe_and (pe_callC c_is_name (hr.mono (by decide)) (pa_cons (pv 1) pa_nil)) (pe_one (pe_callC c_is_name (hr.mono (by decide)) (pa_cons (pv 2) pa_nil)))))))), ?_⟩
    refine ⟨_, rfl, _, _, _, _, true, rfl, ClsV.ty "tuple", TyX.base (TyOf.tup ht), kit_ty (by decide +kernel), _, rfl, iteF ?_⟩
    refine ⟨_, rfl, t, _, rfl, .inr (SqT.of ht), rfl, false, rfl, iteF ?_⟩
    refine ⟨_, rfl, t, _, rfl, SqT.of ht, rfl, _, _, rfl, _, _, rfl, rfl, ?_⟩
    refine ⟨_, rfl, r.1, rfl, n1, fun H1 e1 => ⟨true, rfl, iteT ?_⟩⟩
    exact ⟨_, rfl, r.2, rfl, n2, fun H2 e2 => q H2 (e1.trans e2)⟩
end My
namespace My
open PySem L2
def spDistinct (K : PySem.W.Frag) : Sp := fun vs H Q _ => ∃ (p : Addr) (ws : List Str), vs = [.ref p] ∧ SqL K H p (ws.map V.str) ∧ ws.length ≤ 1000 ∧ ∀ b, (b = true ↔ ws.Nodup) → Q (.bl b) H
theorem ok_are_distinct {P : Program} {w : World} {K : PySem.W.Frag} {mg : Str → Option Value} {base : Heap} {CS CD XCarryError XTaken : Addr} (T : Txt K mg CS CD XCarryError XTaken) : CallOk P w K mg base 1 "_are_distinct" (spDistinct K) := by
  refine T.d_are_distinct.ok sc_are_distinct (fun vs H Q E h => ?_) (fun f cdv A outer s H vs Q E hr h => ?_)
  · obtain ⟨p, ws, rfl, _⟩ := h
    rfl
  · obtain ⟨p, ws, rfl, hp, hl, q⟩ := h
    refine ⟨_, (pss_one (ps_ret (pe_cmpR op_eq (pe_lenSetS T.n_len T.n_set (pv 0)) (pe_callB (kLen (K := K)) (by rfl) T.n_len PySem.boot_len (pa_cons (pv 0) pa_nil)) (nomark _)))), ?_⟩
    refine ⟨_, rfl, p, ws, rfl, hp, hl, _, rfl, p, _, rfl, .inl hp, rfl, q _ ?_⟩
    rw [List.length_map, decide_eq_true_eq]
    by_cases h : ws.Nodup
    · rw [onces_nodup ws h]
      exact ⟨fun _ => h, fun _ => rfl⟩
    · have := onces_lt ws h
      refine ⟨fun e => ?_, fun e => absurd e h⟩
      have e : (((onces ws).length : Nat) : Int) = ((ws.length : Nat) : Int) := V.int.inj e
      omega
end My
namespace My
open PySem L2
def spRefs : Sp := fun vs H Q _ => ∃ v rs, vs = [v] ∧ Td H v (refsD rs) ∧ rs.length ≤ 3 ∧ (∀ r ∈ rs, Nm r.1 ∧ Nm r.2) ∧ (rs.map (·.1)).Nodup ∧ ∀ H', Same H H' → Q (.bl true) H'
theorem ok_are_references {P : Program} {w : World} {K : PySem.W.Frag} {mg : Str → Option Value} {base : Heap} {CS CD XCarryError XTaken : Addr} (T : Txt K mg CS CD XCarryError XTaken) : CallOk P w K mg base 3 "_are_references" spRefs := by
  have c_are_distinct := ok_are_distinct (P := P) (w := w) (base := base) T
  have c_is_reference := ok_is_reference (P := P) (w := w) (base := base) T
  refine T.d_are_references.ok sc_are_references (fun vs H Q E h => ?_) (fun f cdv A outer s H vs Q E hr h => ?_)
  · obtain ⟨v, rs, rfl, _⟩ := h
    rfl
  · obtain ⟨v, rs, rfl, hv, hl3, hnm, hnd, q⟩ := h
    obtain ⟨t, xs, rfl, ht, hx⟩ := hv.tup_inv
    have hlx : xs.length = rs.length := by rw [hx.length, List.length_map]
    refine ⟨_, (pss_cons (ps_if (PW.pt (pw_or (pt_not (pt_val (pe_callB (kIsi (K := K)) (by rfl) T.n_isinstance (by decide +kernel) (pa_cons (pv 0) (pa_cons (pe_bltn (v := .ty "tuple") (by rfl) T.n_tuple (by decide +kernel) rfl) pa_nil))))) (pw_or1 (pt_cmpR op_gt (pe_callB (kLen (K := K)) (by rfl) T.n_len PySem.boot_len (pa_cons (pv 0) pa_nil)) (pe_globV T.v_MOST_REFERENCES) (nomark _))))) (pss_one (ps_ret pe_bl)) pss_nil)
      (pss_cons (ps_if (pt_not (pt_val (pe_callB (kAll (K := K) rfl) (by rfl) T.n_all (by decide +kernel) (pa_cons (pe_lc (own := [("item", 1)]) rfl sc_are_references.nd (kPiT (K := K) (pv 0)) (blkOk_by (N := ["value", "item"]) (sc := defScope s_are_references) (own := [("item", 1)]) (by decide +kernel)) (fun _ _ _ _ _ => (pg_name (i := 1) sc_are_references.nd rfl (by first | exact Or.inl rfl | exact Or.inr rfl))) (fun _ _ _ _ _ => pts_nil) (fun _ _ _ _ _ => (pe_callC c_is_reference (hr.mono (by decide)) (pa_cons (pv 1) pa_nil)))) pa_nil)))) (pss_one (ps_ret pe_bl)) pss_nil)
      (pss_one (ps_ret (pe_callC c_are_distinct (hr.mono (by decide)) (pa_cons (pe_lc (own := [("item", 1)]) rfl sc_are_references.nd (kPiT (K := K) (pv 0)) (blkOk_by (N := ["value", "item"]) (sc := defScope s_are_references) (own := [("item", 1)]) (by decide +kernel)) (fun _ _ _ _ _ => (pg_name (i := 1) sc_are_references.nd rfl (by first | exact Or.inl rfl | exact Or.inr rfl))) (fun _ _ _ _ _ => pts_nil) (fun _ _ _ _ _ => (pe_ix (kIxT (K := K)) (pv 1) pe_int (fun _ _ => rfl)))) pa_nil)))))), ?_⟩
    refine ⟨_, rfl, _, _, _, _, true, rfl, ClsV.ty "tuple", TyX.base (TyOf.tup ht), kit_ty (by decide +kernel), _, rfl, iteF ?_⟩
    refine ⟨_, rfl, t, _, rfl, .inr (SqT.of ht), _, _, rfl, rfl, false, ?_, iteF ?_⟩
    · exact congrArg V.bl (decide_eq_false (show ¬ (3 : Int) < (xs.length : Int) by omega))
    refine ⟨_, rfl, t, rfl, ⟨_, SqT.of ht⟩, fun D hD => lc_tup (K := K) (a := t) (xs := xs) (fun i Hi => i ≤ xs.length ∧ Hi D = some (.lst (List.replicate i (V.bl true))) ∧ Same H Hi) ?_ ?_ ?_ ?_⟩
    · exact ⟨Nat.zero_le _, upd_same, Same.upd (Same.refl H) hD⟩
    · rintro i Hi _ ⟨_, _, e⟩
      exact SqT.of (e t _ ht)
    · rintro i x Hi hxi ⟨hi, hl, e⟩
      have hil : i < xs.length := (List.getElem?_eq_some_iff.mp hxi).1
      obtain ⟨d, hd, hTd⟩ := hx.get hxi
      rw [List.getElem?_map] at hd
      obtain ⟨r, hri, rfl⟩ := Option.map_eq_some_iff.mp hd
      have hrm := hnm r (List.mem_of_getElem? hri)
      refine ⟨rfl, tYes_if ?_⟩
      refine ⟨_, rfl, x, r, rfl, hTd.kt_same e, hrm.1, hrm.2, fun H2 e2 => ?_⟩
      refine ⟨_, e2 D _ hl, sizeLt (by rw [List.length_replicate]; omega), hil, ?_, Same.upd (e.trans e2) hD⟩
      rw [upd_same, rep_snoc]
    · rintro Hi ⟨_, hl, e⟩
      refine ⟨D, List.replicate xs.length true, rfl, SqL.of (by rw [hl, rep_bl]), _, rfl, ?_⟩
      rw [all_true]
      refine iteF ?_
      have ht' := e t _ ht
      refine ⟨_, rfl, t, rfl, ⟨_, SqT.of ht'⟩, fun D2 hD2 => lc_tup (K := K) (a := t) (xs := xs) (fun i Hj => i ≤ xs.length ∧ Hj D2 = some (.lst ((rs.map (·.1)).take i |>.map V.str)) ∧ Same Hi Hj) ?_ ?_ ?_ ?_⟩
      · exact ⟨Nat.zero_le _, upd_same, Same.upd (Same.refl Hi) hD2⟩
      · rintro i Hj _ ⟨_, _, e2⟩
        exact SqT.of (e2 t _ ht')
      · rintro i x Hj hxi ⟨hi, hl2, e2⟩
        have hil : i < xs.length := (List.getElem?_eq_some_iff.mp hxi).1
        obtain ⟨d, hd, hTd⟩ := hx.get hxi
        rw [List.getElem?_map] at hd
        obtain ⟨r, hri, rfl⟩ := Option.map_eq_some_iff.mp hd
        obtain ⟨tr, rfl, htr⟩ := refD_inv hTd
        have hrl : i < (rs.map (·.1)).length := by rw [List.length_map]; omega
        refine ⟨rfl, tYes_if ?_⟩
        refine ⟨_, rfl, tr, _, _, _, rfl, rfl, SqT.of (e2 tr _ (e tr _ htr)), rfl, ?_⟩
        refine ⟨_, hl2, sizeLt (by rw [List.length_map, List.length_take]; omega), hil, ?_, Same.upd e2 hD2⟩
        rw [upd_same, List.take_succ_eq_append_getElem hrl, List.map_append]
        have er : (rs.map (·.1))[i] = r.1 := by
          rw [List.getElem_map]
          rw [(List.getElem?_eq_some_iff.mp hri).2]
        rw [er]
        rfl
      · rintro Hj ⟨_, hl2, e2⟩
        refine ⟨D2, rs.map (·.1), rfl, SqL.of ?_, by rw [List.length_map]; omega, fun b hb => ?_⟩
        · rw [hl2, List.take_of_length_le (by rw [List.length_map]; omega)]
        · rw [hb.mpr hnd]
          exact q _ (e.trans e2)
end My
namespace My
open PySem L2
def spTable : Sp := fun vs H Q _ => ∃ v e, vs = [v] ∧ Td H v (entD e) ∧ Nm e.1 ∧ e.2.2.length ≤ 3 ∧ (∀ r ∈ e.2.2, Nm r.1 ∧ Nm r.2) ∧ (e.2.2.map (·.1)).Nodup ∧ ∀ H', Same H H' → Q (.bl true) H'
theorem ok_is_table {P : Program} {w : World} {K : PySem.W.Frag} {mg : Str → Option Value} {base : Heap} {CS CD XCarryError XTaken : Addr} (T : Txt K mg CS CD XCarryError XTaken) : CallOk P w K mg base 4 "_is_table" spTable := by
  have c_are_references := ok_are_references (P := P) (w := w) (base := base) T
  have c_is_flag := ok_is_flag (P := P) (w := w) (base := base) T
  have c_is_name := ok_is_name (P := P) (w := w) (base := base) T
  refine T.d_is_table.ok sc_is_table (fun vs H Q E h => ?_) (fun f cdv A outer s H vs Q E hr h => ?_)
  · obtain ⟨v, r, rfl, _⟩ := h
    rfl
  · obtain ⟨v, e, rfl, hv, n1, hl, hn, hd, q⟩ := h
    obtain ⟨t, tr, rs, rfl, ht, htr, hrs⟩ := entD_inv hv
    refine ⟨_, (pss_cons (ps_if (PW.pt (pw_or (pt_not (pt_val (pe_callB (kIsi (K := K)) (by rfl) T.n_isinstance (by decide +kernel) (pa_cons (pv 0) (pa_cons (pe_bltn (v := .ty "tuple") (by rfl) T.n_tuple (by decide +kernel) rfl) pa_nil))))) (pw_or1 (pt_cmpR op_ne (pe_callB (kLen (K := K)) (by rfl) T.n_len PySem.boot_len (pa_cons (pv 0) pa_nil)) pe_int (nomark _))))) (pss_one (ps_ret pe_bl)) pss_nil)
      (pss_cons (ps_asg (pv 0) (kPgT (K := K) (n := 3) rfl (pgs_cons (pg_name (i := 1) sc_is_table.nd rfl (by first | exact Or.inl rfl | exact Or.inr rfl)) (pgs_cons (pg_name (i := 2) sc_is_table.nd rfl (by first | exact Or.inl rfl | exact Or.inr rfl)) (pgs_cons (pg_name (i := 3) sc_is_table.nd rfl (by first | exact Or.inl rfl | exact Or.inr rfl)) pgs_nil)))))
      (pss_one (ps_ret (pe_and (pe_callC c_is_name (hr.mono (by decide)) (pa_cons (pv 1) pa_nil)) (pe_and (pe_callC c_is_flag (hr.mono (by decide)) (pa_cons (pv 2) pa_nil)) (pe_one (pe_callC c_are_references (hr.mono (by decide)) (pa_cons (pv 3) pa_nil))))))))), ?_⟩
    refine ⟨_, rfl, _, _, _, _, true, rfl, ClsV.ty "tuple", TyX.base (TyOf.tup ht), kit_ty (by decide +kernel), _, rfl, iteF ?_⟩
    refine ⟨_, rfl, t, _, rfl, .inr (SqT.of ht), rfl, false, rfl, iteF ?_⟩
    refine ⟨_, rfl, t, _, rfl, SqT.of ht, rfl, _, _, rfl, _, _, rfl, _, _, rfl, rfl, ?_⟩
    refine ⟨_, rfl, e.1, rfl, n1, fun H1 e1 => ⟨true, rfl, iteT ?_⟩⟩
    refine ⟨_, rfl, e.2.1, rfl, true, rfl, iteT ?_⟩
    exact ⟨_, rfl, _, e.2.2, rfl, (Td.tup htr hrs).kt_same e1, hl, hn, hd, fun H2 e2 => q H2 (e1.trans e2)⟩
end My
namespace My
open PySem L2
def spAreTables : Sp := fun vs H Q _ => ∃ v pl, vs = [v] ∧ Td H v (planD pl) ∧ Good pl ∧ ∀ H', Same H H' → Q (.bl true) H'
theorem ok_are_tables {P : Program} {w : World} {K : PySem.W.Frag} {mg : Str → Option Value} {base : Heap} {CS CD XCarryError XTaken : Addr} (T : Txt K mg CS CD XCarryError XTaken) : CallOk P w K mg base 5 "are_tables" spAreTables := by
  have c_are_distinct := ok_are_distinct (P := P) (w := w) (base := base) T
  have c_is_table := ok_is_table (P := P) (w := w) (base := base) T
  refine T.d_are_tables.ok sc_are_tables (fun vs H Q E h => ?_) (fun f cdv A outer s H vs Q E hr h => ?_)
  · obtain ⟨v, pl, rfl, _⟩ := h
    rfl
  · obtain ⟨v, pl, rfl, hv, g, q⟩ := h
    obtain ⟨t, xs, rfl, ht, hx⟩ := hv.tup_inv
    have hlx : xs.length = pl.length := by rw [hx.length, List.length_map]
    have lo := g.lo
    have hi5 := g.hi
    refine ⟨_, (pss_cons (ps_if (PW.pt (pw_or (pt_not (pt_val (pe_callB (kIsi (K := K)) (by rfl) T.n_isinstance (by decide +kernel) (pa_cons (pv 0) (pa_cons (pe_bltn (v := .ty "tuple") (by rfl) T.n_tuple (by decide +kernel) rfl) pa_nil))))) (pw_or1 (pt_not (pt_chain op_le op_le pe_int (pe_callB (kLen (K := K)) (by rfl) T.n_len PySem.boot_len (pa_cons (pv 0) pa_nil)) (pe_globV T.v_MOST_TABLES)))))) (pss_one (ps_ret pe_bl)) pss_nil)
      (pss_cons (ps_if (pt_not (pt_val (pe_callB (kAll (K := K) rfl) (by rfl) T.n_all (by decide +kernel) (pa_cons (pe_lc (own := [("item", 1)]) rfl sc_are_tables.nd (kPiT (K := K) (pv 0)) (blkOk_by (N := ["value", "item"]) (sc := defScope s_are_tables) (own := [("item", 1)]) (by decide +kernel)) (fun _ _ _ _ _ => (pg_name (i := 1) sc_are_tables.nd rfl (by first | exact Or.inl rfl | exact Or.inr rfl))) (fun _ _ _ _ _ => pts_nil) (fun _ _ _ _ _ => (pe_callC c_is_table (hr.mono (by decide)) (pa_cons (pv 1) pa_nil)))) pa_nil)))) (pss_one (ps_ret pe_bl)) pss_nil)
      (pss_one (ps_ret (pe_callC c_are_distinct (hr.mono (by decide)) (pa_cons (pe_lc (own := [("item", 1)]) rfl sc_are_tables.nd (kPiT (K := K) (pv 0)) (blkOk_by (N := ["value", "item"]) (sc := defScope s_are_tables) (own := [("item", 1)]) (by decide +kernel)) (fun _ _ _ _ _ => (pg_name (i := 1) sc_are_tables.nd rfl (by first | exact Or.inl rfl | exact Or.inr rfl))) (fun _ _ _ _ _ => pts_nil) (fun _ _ _ _ _ => (pe_ix (kIxT (K := K)) (pv 1) pe_int (fun _ _ => rfl)))) pa_nil)))))), ?_⟩
    refine ⟨_, rfl, _, _, _, _, true, rfl, ClsV.ty "tuple", TyX.base (TyOf.tup ht), kit_ty (by decide +kernel), _, rfl, iteF ?_⟩
    refine ⟨_, rfl, t, _, rfl, .inr (SqT.of ht), _, _, rfl, rfl, true, ?_, iteT ⟨_, _, rfl, rfl, true, ?_, iteF ?_⟩⟩
    · exact congrArg V.bl (decide_eq_true (show (1 : Int) ≤ (xs.length : Int) by omega))
    · exact congrArg V.bl (decide_eq_true (show (xs.length : Int) ≤ 5 by omega))
    refine ⟨_, rfl, t, rfl, ⟨_, SqT.of ht⟩, fun D hD => lc_tup (K := K) (a := t) (xs := xs) (fun i Hi => i ≤ xs.length ∧ Hi D = some (.lst (List.replicate i (V.bl true))) ∧ Same H Hi) ?_ ?_ ?_ ?_⟩
    · exact ⟨Nat.zero_le _, upd_same, Same.upd (Same.refl H) hD⟩
    · rintro i Hi _ ⟨_, _, e⟩
      exact SqT.of (e t _ ht)
    · rintro i x Hi hxi ⟨hi, hl, e⟩
      have hil : i < xs.length := (List.getElem?_eq_some_iff.mp hxi).1
      obtain ⟨en, hen, hTd⟩ := hx.getM hxi
      have hem := List.mem_of_getElem? hen
      have gr := g.refs en hem
      refine ⟨rfl, tYes_if ?_⟩
      refine ⟨_, rfl, x, en, rfl, hTd.kt_same e, g.nm en hem, gr.len, fun r hr => ⟨gr.nm r hr, g.toNm hem hr⟩, gr.nd, fun H2 e2 => ?_⟩
      refine ⟨_, e2 D _ hl, sizeLt (by rw [List.length_replicate]; omega), hil, ?_, Same.upd (e.trans e2) hD⟩
      rw [upd_same, rep_snoc]
    · rintro Hi ⟨_, hl, e⟩
      refine ⟨D, List.replicate xs.length true, rfl, SqL.of (by rw [hl, rep_bl]), _, rfl, ?_⟩
      rw [all_true]
      refine iteF ?_
      have ht' := e t _ ht
      refine ⟨_, rfl, t, rfl, ⟨_, SqT.of ht'⟩, fun D2 hD2 => lc_tup (K := K) (a := t) (xs := xs) (fun i Hj => i ≤ xs.length ∧ Hj D2 = some (.lst ((pl.map (·.1)).take i |>.map V.str)) ∧ Same Hi Hj) ?_ ?_ ?_ ?_⟩
      · exact ⟨Nat.zero_le _, upd_same, Same.upd (Same.refl Hi) hD2⟩
      · rintro i Hj _ ⟨_, _, e2⟩
        exact SqT.of (e2 t _ ht')
      · rintro i x Hj hxi ⟨hi, hl2, e2⟩
        have hil : i < xs.length := (List.getElem?_eq_some_iff.mp hxi).1
        obtain ⟨en, hen, hTd⟩ := hx.getM hxi
        obtain ⟨tn, tr, rs, rfl, htn, htr, hrs⟩ := entD_inv hTd
        have hrl : i < (pl.map (·.1)).length := by rw [List.length_map]; omega
        refine ⟨rfl, tYes_if ?_⟩
        refine ⟨_, rfl, tn, _, _, _, rfl, rfl, SqT.of (e2 tn _ (e tn _ htn)), rfl, ?_⟩
        refine ⟨_, hl2, sizeLt (by rw [List.length_map, List.length_take]; omega), hil, ?_, Same.upd e2 hD2⟩
        rw [upd_same, List.take_succ_eq_append_getElem hrl, List.map_append]
        have er : (pl.map (·.1))[i] = en.1 := by
          rw [List.getElem_map]
          rw [(List.getElem?_eq_some_iff.mp hen).2]
        rw [er]
        rfl
      · rintro Hj ⟨_, hl2, e2⟩
        refine ⟨D2, pl.map (·.1), rfl, SqL.of ?_, by rw [List.length_map]; omega, fun b hb => ?_⟩
        · rw [hl2, List.take_of_length_le (by rw [List.length_map]; omega)]
        · rw [hb.mpr g.nd]
          exact q _ (e.trans e2)
end My
namespace My
open PySem L2
def spWithin : Sp := fun vs H Q _ => ∃ v pl, vs = [v] ∧ Td H v (planD pl) ∧ Good pl ∧ ∀ H', Same H H' → Q (.bl true) H'
theorem ok_refer_within {P : Program} {w : World} {K : PySem.W.Frag} {mg : Str → Option Value} {base : Heap} {CS CD XCarryError XTaken : Addr} (T : Txt K mg CS CD XCarryError XTaken) : CallOk P w K mg base 1 "refer_within" spWithin := by
  refine T.d_refer_within.ok sc_refer_within (fun vs H Q E h => ?_) (fun f cdv A outer s H vs Q E hr h => ?_)
  · obtain ⟨v, pl, rfl, _⟩ := h
    rfl
  · obtain ⟨v, pl, rfl, hv, g, q⟩ := h
    obtain ⟨t, xs, rfl, ht, hx⟩ := hv.tup_inv
    have hlx : xs.length = pl.length := by rw [hx.length, List.length_map]
    have hi5 := g.hi
    refine ⟨_, (pss_cons (ps_set (i := 1) sc_refer_within.nd rfl (by first | exact Or.inl rfl | exact Or.inr rfl) (pe_lc (own := [("item", 2)]) rfl sc_refer_within.nd (kPiT (K := K) (pv 0)) (blkOk_by (N := ["tables", "names", "item", "_", "target"]) (sc := defScope s_refer_within) (own := [("item", 2)]) (by decide +kernel)) (fun _ _ _ _ _ => (pg_name (i := 2) sc_refer_within.nd rfl (by first | exact Or.inl rfl | exact Or.inr rfl))) (fun _ _ _ _ _ => pts_nil) (fun _ _ _ _ _ => (pe_ix (kIxT (K := K)) (pv 2) pe_int (fun _ _ => rfl)))))
      (pss_one (ps_ret (pe_callB (kAll (K := K) rfl) (by rfl) T.n_all (by decide +kernel) (pa_cons (pe_lc2 (own := [("item", 2), ("_", 3), ("target", 4)]) (vs1 := [3, 4]) rfl sc_refer_within.nd (kPiT (K := K) (pv 0)) (blkOk_by (N := ["tables", "names", "item", "_", "target"]) (sc := defScope s_refer_within) (own := [("item", 2), ("_", 3), ("target", 4)]) (by decide +kernel)) (by decide) (fun _ _ _ _ _ => (pg_name (i := 2) sc_refer_within.nd rfl (by first | exact Or.inl rfl | exact Or.inr rfl))) (fun _ _ _ _ _ => pts_nil) (fun _ _ _ _ _ => (kPiT (K := K) (pe_ix (kIxT (K := K)) (pv 2) pe_int (fun _ _ => rfl)))) (fun _ _ _ _ _ => (kPgT (K := K) (n := 2) rfl (pgs_cons (pg_name (i := 3) sc_refer_within.nd rfl (by first | exact Or.inl rfl | exact Or.inr rfl)) (pgs_cons (pg_name (i := 4) sc_refer_within.nd rfl (by first | exact Or.inl rfl | exact Or.inr rfl)) pgs_nil)))) (fun _ _ _ _ _ => pts_nil) (fun _ _ _ _ _ => (pe_cmpR (kIn (K := K)) (pv 4) (pv 1) rfl))) pa_nil))))), ?_⟩
    refine ⟨_, rfl, t, rfl, ⟨_, SqT.of ht⟩, fun N0 hN0 => lc_tup (K := K) (a := t) (xs := xs) (fun i Hj => i ≤ xs.length ∧ Hj N0 = some (.lst ((pl.map (·.1)).take i |>.map V.str)) ∧ Same H Hj) ?_ ?_ ?_ ?_⟩
    · exact ⟨Nat.zero_le _, upd_same, Same.upd (Same.refl H) hN0⟩
    · rintro i Hj _ ⟨_, _, e2⟩
      exact SqT.of (e2 t _ ht)
    · rintro i x Hj hxi ⟨hi, hl2, e2⟩
      have hil : i < xs.length := (List.getElem?_eq_some_iff.mp hxi).1
      obtain ⟨en, hen, hTd⟩ := hx.getM hxi
      obtain ⟨tn, tr, rs, rfl, htn, htr, hrs⟩ := entD_inv hTd
      have hrl : i < (pl.map (·.1)).length := by rw [List.length_map]; omega
      refine ⟨rfl, tYes_if ?_⟩
      refine ⟨_, rfl, tn, _, _, _, rfl, rfl, SqT.of (e2 tn _ htn), rfl, ?_⟩
      refine ⟨_, hl2, sizeLt (by rw [List.length_map, List.length_take]; omega), hil, ?_, Same.upd e2 hN0⟩
      rw [upd_same, List.take_succ_eq_append_getElem hrl, List.map_append]
      have er : (pl.map (·.1))[i] = en.1 := by
        rw [List.getElem_map]
        rw [(List.getElem?_eq_some_iff.mp hen).2]
      rw [er]
      rfl
    · rintro Hi ⟨_, hN, e⟩
      rw [List.take_of_length_le (by rw [List.length_map]; omega)] at hN
      have ht' := e t _ ht
      refine ⟨_, rfl, t, rfl, ⟨_, SqT.of ht'⟩, fun D hD => lc2_tup (K := K) (a := t) (xs := xs) (fun i Hj => i ≤ xs.length ∧ ∃ n, n ≤ 3 * i ∧ Hj D = some (.lst (List.replicate n (V.bl true))) ∧ Same Hi Hj) ?_ ?_ ?_ ?_⟩
      · exact ⟨Nat.zero_le _, 0, Nat.zero_le _, upd_same, Same.upd (Same.refl Hi) hD⟩
      · rintro i Hj _ ⟨_, _, _, _, e2⟩
        exact SqT.of (e2 t _ ht')
      · rintro i x Hj hxi ⟨hi, n, hn, hl, e2⟩
        have hil : i < xs.length := (List.getElem?_eq_some_iff.mp hxi).1
        obtain ⟨en, hen, hTd⟩ := hx.getM hxi
        have hem := List.mem_of_getElem? hen
        have gr := g.refs en hem
        obtain ⟨tn, tr, rs, rfl, htn, htr, hrs⟩ := entD_inv hTd
        have hlr : rs.length = en.2.2.length := by rw [hrs.length, List.length_map]
        have g3 := gr.len
        have e3 := e.trans e2
        refine ⟨rfl, tYes_if ?_⟩
        refine ⟨_, rfl, tn, _, _, _, rfl, rfl, SqT.of (e3 tn _ htn), rfl, tr, rfl, ⟨_, SqT.of (e3 tr _ htr)⟩, ?_⟩
        refine in2_tup (K := K) (a := tr) (xs := rs) (fun j Hk => j ≤ rs.length ∧ Hk D = some (.lst (List.replicate (n + j) (V.bl true))) ∧ Same Hi Hk) ?_ ?_ ?_ ?_
        · exact ⟨Nat.zero_le _, hl, e2⟩
        · rintro j Hk _ ⟨_, _, e4⟩
          exact SqT.of (e4 tr _ (e tr _ htr))
        · rintro j y Hk hyj ⟨hj, hl4, e4⟩
          have hjl : j < rs.length := (List.getElem?_eq_some_iff.mp hyj).1
          obtain ⟨r, hr, hTr⟩ := hrs.getM hyj
          have hrm := List.mem_of_getElem? hr
          obtain ⟨tt, rfl, htt⟩ := refD_inv hTr
          refine ⟨tt, _, rfl, SqT.of (e4 tt _ (e tt _ htt)), rfl, _, _, rfl, _, _, rfl, rfl, rfl, tYes_if ?_⟩
          refine ⟨_, rfl, _, rfl, N0, _, rfl, .inl (SqL.of (e4 N0 _ hN)), rfl, flat_strs _, ?_⟩
          refine ⟨_, hl4, sizeLt (by rw [List.length_replicate]; omega), hjl, ?_, Same.upd e4 hD⟩
          have ev : inV (.str r.2) ((pl.map (·.1)).map V.str) = true := by
            rw [inV_strs]
            exact decide_eq_true (gr.to r hrm)
          have ev' : V.bl (if false = true then !inV (V.str r.2) ((pl.map (·.1)).map V.str) else inV (V.str r.2) ((pl.map (·.1)).map V.str)) = V.bl true := by
            rw [if_neg Bool.false_ne_true, ev]
          rw [upd_same]
          exact congrArg (fun z => some (HO.lst z)) (by rw [ev', rep_snoc, Nat.add_assoc])
        · rintro Hk ⟨hj, hl4, e4⟩
          exact ⟨hil, n + rs.length, by omega, hl4, e4⟩
      · rintro Hj ⟨_, n, hn, hl, e2⟩
        refine ⟨D, List.replicate n true, rfl, SqL.of (by rw [hl, rep_bl]), ?_⟩
        rw [all_true]
        exact q _ (e.trans e2)
end My
namespace My
open PySem L2
def spWhole (K : PySem.W.Frag) : Sp := fun vs H Q _ => ∃ v, vs = [v] ∧ ((∃ i, v = .int i ∧ Q (.bl true) H) ∨ (∃ b, v = .bl b ∧ Q (.bl false) H) ∨ ∃ t, TyX K H v t ∧ PySem.W.kitOne K t (.type "int") = some false ∧ Q (.bl false) H)
theorem ok_is_whole {P : Program} {w : World} {K : PySem.W.Frag} {mg : Str → Option Value} {base : Heap} {CS CD XCarryError XTaken : Addr} (T : Txt K mg CS CD XCarryError XTaken) : CallOk P w K mg base 1 "is_whole" (spWhole K) := by
  refine T.d_is_whole.ok sc_is_whole (fun vs H Q E h => ?_) (fun f cdv A outer s H vs Q E hr h => ?_)
  · obtain ⟨v, rfl, _⟩ := h
    rfl
  · obtain ⟨v, rfl, h⟩ := h
    refine ⟨_, (pss_one (ps_ret (pe_and (pe_callB (kIsi (K := K)) (by rfl) T.n_isinstance (by decide +kernel) (pa_cons (pv 0) (pa_cons (pe_bltn (v := .ty "int") (by rfl) T.n_int (by decide +kernel) rfl) pa_nil))) (pe_one (pe_not (pe_callB (kIsi (K := K)) (by rfl) T.n_isinstance (by decide +kernel) (pa_cons (pv 0) (pa_cons (pe_bltn (v := .ty "bool") (by rfl) T.n_bool (by decide +kernel) rfl) pa_nil)))))))), ?_⟩
    rcases h with ⟨i, rfl, q⟩ | ⟨b, rfl, q⟩ | ⟨t, ty, ko, q⟩
    · refine ⟨_, rfl, _, _, _, _, true, rfl, ClsV.ty "int", TyX.base (TyOf.int i), kit_ty (by decide +kernel), true, rfl, iteT ?_⟩
      exact ⟨_, rfl, _, _, _, _, false, rfl, ClsV.ty "bool", TyX.base (TyOf.int i), kit_ty (by decide +kernel), false, rfl, q⟩
    · refine ⟨_, rfl, _, _, _, _, true, rfl, ClsV.ty "int", TyX.base (TyOf.bl b), kit_ty (by decide +kernel), true, rfl, iteT ?_⟩
      exact ⟨_, rfl, _, _, _, _, true, rfl, ClsV.ty "bool", TyX.base (TyOf.bl b), kit_ty (by decide +kernel), true, rfl, q⟩
    · exact ⟨_, rfl, _, _, _, _, false, rfl, ClsV.ty "int", ty, ko, false, rfl, iteF q⟩
end My
namespace My
open PySem L2
def spKey : Sp := fun vs H Q _ => ∃ i : Int, vs = [.int i] ∧ Q (.bl (decide (1 ≤ i))) H
theorem ok_is_key {P : Program} {w : World} {K : PySem.W.Frag} {mg : Str → Option Value} {base : Heap} {CS CD XCarryError XTaken : Addr} (T : Txt K mg CS CD XCarryError XTaken) : CallOk P w K mg base 2 "is_key" spKey := by
  have c_is_whole := ok_is_whole (P := P) (w := w) (base := base) T
  refine T.d_is_key.ok sc_is_key (fun vs H Q E h => ?_) (fun f cdv A outer s H vs Q E hr h => ?_)
  · obtain ⟨v, rfl, _⟩ := h
    rfl
  · obtain ⟨i, rfl, q⟩ := h
    refine ⟨_, (pss_one (ps_ret (pe_and (pe_callC c_is_whole (hr.mono (by decide)) (pa_cons (pv 0) pa_nil)) (pe_one (pe_cmpR op_ge (pv 0) pe_int (nomark _)))))), ?_⟩
    exact ⟨_, rfl, _, rfl, .inl ⟨i, rfl, true, rfl, iteT ⟨_, rfl, _, _, rfl, rfl, q⟩⟩⟩
end My
namespace My
open PySem L2
def spLabel : Sp := fun vs H Q _ => ∃ i : Int, vs = [.int i] ∧ 0 ≤ i ∧ i < 1000000000000000000000000000000 ∧ Q (.bl true) H
theorem ok_is_label {P : Program} {w : World} {K : PySem.W.Frag} {mg : Str → Option Value} {base : Heap} {CS CD XCarryError XTaken : Addr} (T : Txt K mg CS CD XCarryError XTaken) : CallOk P w K mg base 2 "is_label" spLabel := by
  have c_is_whole := ok_is_whole (P := P) (w := w) (base := base) T
  refine T.d_is_label.ok sc_is_label (fun vs H Q E h => ?_) (fun f cdv A outer s H vs Q E hr h => ?_)
  · obtain ⟨v, rfl, _⟩ := h
    rfl
  · obtain ⟨i, rfl, h0, h1, q⟩ := h
    refine ⟨_, (pss_one (ps_ret (pe_and (pe_callC c_is_whole (hr.mono (by decide)) (pa_cons (pv 0) pa_nil)) (pe_one (pe_chain op_le op_lt pe_int (pv 0) (pe_globV T.v_LABELS_END)))))), ?_⟩
    refine ⟨_, rfl, _, rfl, .inl ⟨i, rfl, true, rfl, iteT ?_⟩⟩
    refine ⟨_, rfl, _, _, rfl, rfl, true, congrArg V.bl (decide_eq_true (show (0 : Int) ≤ i from h0)), iteT ⟨_, _, rfl, rfl, ?_⟩⟩
    have e : decide (i < (1000000000000000000000000000000 : Int)) = true := decide_eq_true h1
    show Q (.bl (decide (i < (1000000000000000000000000000000 : Int)))) H
    rw [e]
    exact q
end My
namespace My
open PySem L2
def spRow : Sp := fun vs H Q _ => ∃ (v : V) (w : Nat) (lab : Int) (cs : List (Option Int)), vs = [v, .int w] ∧ Td H v (rowD lab cs) ∧ GoodRow w lab cs ∧ w ≤ 1000 ∧ ∀ H', Same H H' → Q (.bl true) H'
theorem ok_is_row {P : Program} {w : World} {K : PySem.W.Frag} {mg : Str → Option Value} {base : Heap} {CS CD XCarryError XTaken : Addr} (T : Txt K mg CS CD XCarryError XTaken) : CallOk P w K mg base 3 "is_row" spRow := by
  have c_is_key := ok_is_key (P := P) (w := w) (base := base) T
  have c_is_label := ok_is_label (P := P) (w := w) (base := base) T
  refine T.d_is_row.ok sc_is_row (fun vs H Q E h => ?_) (fun f cdv A outer s H vs Q E hr h => ?_)
  · obtain ⟨v, w, lab, cs, rfl, _⟩ := h
    rfl
  · obtain ⟨v, w, lab, cs, rfl, hv, g, hw, q⟩ := h
    obtain ⟨t, tc, xs, rfl, ht, htc, hx⟩ := rowD_inv hv
    have hl : xs.length = w := by rw [hx.length, List.length_map, g.len]
    refine ⟨_, (pss_cons (ps_if (PW.pt (pw_or (pt_not (pt_val (pe_callB (kIsi (K := K)) (by rfl) T.n_isinstance (by decide +kernel) (pa_cons (pv 0) (pa_cons (pe_bltn (v := .ty "tuple") (by rfl) T.n_tuple (by decide +kernel) rfl) pa_nil))))) (pw_or1 (pt_cmpR op_ne (pe_callB (kLen (K := K)) (by rfl) T.n_len PySem.boot_len (pa_cons (pv 0) pa_nil)) pe_int (nomark _))))) (pss_one (ps_ret pe_bl)) pss_nil)
      (pss_cons (ps_asg (pv 0) (kPgT (K := K) (n := 2) rfl (pgs_cons (pg_name (i := 2) sc_is_row.nd rfl (by first | exact Or.inl rfl | exact Or.inr rfl)) (pgs_cons (pg_name (i := 3) sc_is_row.nd rfl (by first | exact Or.inl rfl | exact Or.inr rfl)) pgs_nil))))
      (pss_cons (ps_if (PW.pt (pw_or (pt_not (pt_val (pe_callC c_is_label (hr.mono (by decide)) (pa_cons (pv 2) pa_nil)))) (pw_or (pt_not (pt_val (pe_callB (kIsi (K := K)) (by rfl) T.n_isinstance (by decide +kernel) (pa_cons (pv 3) (pa_cons (pe_bltn (v := .ty "tuple") (by rfl) T.n_tuple (by decide +kernel) rfl) pa_nil))))) (pw_or1 (pt_cmpR op_ne (pe_callB (kLen (K := K)) (by rfl) T.n_len PySem.boot_len (pa_cons (pv 3) pa_nil)) (pv 1) (nomark _)))))) (pss_one (ps_ret pe_bl)) pss_nil)
      (pss_one (ps_ret (pe_callB (kAll (K := K) rfl) (by rfl) T.n_all (by decide +kernel) (pa_cons (pe_lc (own := [("cell", 4)]) rfl sc_is_row.nd (kPiT (K := K) (pv 3)) (blkOk_by (N := ["value", "width", "label", "cells", "cell"]) (sc := defScope s_is_row) (own := [("cell", 4)]) (by decide +kernel)) (fun _ _ _ _ _ => (pg_name (i := 4) sc_is_row.nd rfl (by first | exact Or.inl rfl | exact Or.inr rfl))) (fun _ _ _ _ _ => pts_nil) (fun _ _ _ _ _ => (pe_or (pe_cmpR op_isN (pv 4) pe_non (nomark _)) (pe_one (pe_callC c_is_key (hr.mono (by decide)) (pa_cons (pv 4) pa_nil)))))) pa_nil))))))), ?_⟩
    refine ⟨_, rfl, _, _, _, _, true, rfl, ClsV.ty "tuple", TyX.base (TyOf.tup ht), kit_ty (by decide +kernel), _, rfl, iteF ?_⟩
    refine ⟨_, rfl, t, _, rfl, .inr (SqT.of ht), rfl, false, rfl, iteF ?_⟩
    refine ⟨_, rfl, t, _, rfl, SqT.of ht, rfl, _, _, rfl, _, _, rfl, rfl, ?_⟩
    refine ⟨_, rfl, lab, rfl, g.lo, g.hi, true, rfl, iteF ?_⟩
    refine ⟨_, rfl, _, _, _, _, true, rfl, ClsV.ty "tuple", TyX.base (TyOf.tup htc), kit_ty (by decide +kernel), _, rfl, iteF ?_⟩
    refine ⟨_, rfl, tc, _, rfl, .inr (SqT.of htc), _, rfl, rfl, false, by rw [hl]; simp, iteF ?_⟩
    refine ⟨_, rfl, tc, rfl, ⟨_, SqT.of htc⟩, fun D hD => lc_tup (K := K) (a := tc) (xs := xs) (fun i Hi => i ≤ xs.length ∧ Hi D = some (.lst (List.replicate i (V.bl true))) ∧ Same H Hi) ?_ ?_ ?_ ?_⟩
    · exact ⟨Nat.zero_le _, upd_same, Same.upd (Same.refl H) hD⟩
    · rintro i Hi _ ⟨_, _, e⟩
      exact SqT.of (e tc _ htc)
    · rintro i x Hi hxi ⟨hi, hl2, e⟩
      have hil : i < xs.length := (List.getElem?_eq_some_iff.mp hxi).1
      obtain ⟨c, hc, hTd⟩ := hx.getM hxi
      have hcm := List.mem_of_getElem? hc
      have fin : ∃ acc, Hi D = some (HO.lst acc) ∧ acc.length < sizeLine ∧ i + 1 ≤ xs.length ∧ upd Hi D (.lst (acc ++ [V.bl true])) D = some (.lst (List.replicate (i + 1) (V.bl true))) ∧ Same H (upd Hi D (.lst (acc ++ [V.bl true]))) :=
        ⟨_, hl2, sizeLt (by rw [List.length_replicate]; omega), hil, by rw [upd_same, rep_snoc], Same.upd e hD⟩
      refine ⟨rfl, tYes_if ?_⟩
      obtain rfl := cellD_inv hTd
      cases c with
      | none =>
        exact ⟨_, rfl, rfl, true, rfl, iteT fin⟩
      | some z =>
        refine ⟨_, rfl, rfl, false, rfl, iteF ⟨_, rfl, z, rfl, ?_⟩⟩
        rw [decide_eq_true (g.key z hcm)]
        exact fin
    · rintro Hi ⟨_, hl2, e⟩
      refine ⟨D, List.replicate xs.length true, rfl, SqL.of (by rw [hl2, rep_bl]), ?_⟩
      rw [all_true]
      exact q _ e
end My
namespace My
open PySem L2
def spSchema (CS : Addr) : Sp := fun vs H Q _ => ∃ (p dx : Addr) (v : V) (pl : Plan), vs = [.ref p, v] ∧ Td H v (planD pl) ∧ Good pl ∧ H p = some (.ins CS dx []) ∧ ∀ H' de, SchE CS H' p pl de → H de = none → Fr1 p H H' → Q .non H'
theorem body_Schema_init {P : Program} {w : World} {K : PySem.W.Frag} {mg : Str → Option Value} {base : Heap} {CS CD XCarryError XTaken : Addr} (T : Txt K mg CS CD XCarryError XTaken) : BodyOk P w K mg base 5 ["self", "tables", "entry"] "Schema.__init__" s_Schema_init (spSchema CS) := by
  have c_are_tables := ok_are_tables (P := P) (w := w) (base := base) T
  have c_refer_within := ok_refer_within (P := P) (w := w) (base := base) T
  intro f cdv A outer s H vs Q E hr h
  · obtain ⟨p, dx, v, pl, rfl, hv, g, hp, q⟩ := h
    refine ⟨_, (pss_cons (ps_if (pt_not (pt_val (pe_callC c_are_tables (hr.mono (by decide)) (pa_cons (pv 1) pa_nil)))) (pss_one ps_never) pss_nil)
      (pss_cons (ps_if (pt_not (pt_val (pe_callC c_refer_within (hr.mono (by decide)) (pa_cons (pv 1) pa_nil)))) (pss_one ps_never) pss_nil)
      (pss_cons (ps_fld (pv 0) (pv 1) rfl)
      (pss_one (ps_fld (pv 0) (pe_dc (own := [("entry", 2)]) rfl sc_Schema_init.nd (kPiT (K := K) (pv 1)) (blkOk_by (N := ["self", "tables", "entry"]) (sc := defScope s_Schema_init) (own := [("entry", 2)]) (by decide +kernel)) (fun _ _ _ _ _ => (pg_name (i := 2) sc_Schema_init.nd rfl (by first | exact Or.inl rfl | exact Or.inr rfl))) (fun _ _ _ _ _ => pts_nil) (fun _ _ _ _ _ => (pe_ix (kIxT (K := K)) (pv 2) pe_int (fun _ _ => rfl))) (fun _ _ _ _ _ => (pv 2))) rfl))))), ?_⟩
    refine ⟨_, rfl, v, pl, rfl, hv, g, fun H1 e1 => ⟨true, rfl, iteF ?_⟩⟩
    refine ⟨_, rfl, v, pl, rfl, hv.kt_same e1, g, fun H2 e2 => ⟨true, rfl, iteF ?_⟩⟩
    have e12 := e1.trans e2
    have hp2 := e12 p _ hp
    have hv2 := hv.kt_same e12
    refine ⟨_, rfl, _, rfl, p, CS, dx, [], rfl, hp2, T.c_Schema.cl, T.a_Schema_tables, (by show 0 < 1000; decide), ?_⟩
    have kt3 : KT H2 (upd H2 p (.ins CS dx (putF "_tables" v []))) := fun c xs hc => by
      rw [upd_ne (ne_of hc hp2 (by intro z; cases z))]
      exact hc
    obtain ⟨t, xs, rfl, ht, hx⟩ := hv2.tup_inv
    have hlx : xs.length = pl.length := by rw [hx.length, List.length_map]
    have hi5 := g.hi
    have ht3 := kt3 t _ ht
    generalize hH3 : upd H2 p (.ins CS dx (putF "_tables" (V.ref t) [])) = H3 at *
    have hp3 : H3 p = some (.ins CS dx (putF "_tables" (V.ref t) [])) := by rw [← hH3, upd_same]
    have hx3 := hx.mono kt3
    refine ⟨_, rfl, t, rfl, ⟨_, SqT.of ht3⟩, fun D hD => dc_tup (K := K) (a := t) (xs := xs) (fun i Hi => i ≤ xs.length ∧ ∃ kvs, Hi D = some (.dK kvs) ∧ EntsAt Hi kvs (pl.take i) ∧ Same H3 Hi) ?_ ?_ ?_ ?_⟩
    · exact ⟨Nat.zero_le _, [], upd_same, ⟨rfl, .nil⟩, Same.upd (Same.refl H3) hD⟩
    · rintro i Hi _ ⟨_, _, _, _, e⟩
      exact SqT.of (e t _ ht3)
    · rintro i x Hi hxi ⟨hi, kvs, hl, he, e⟩
      have hil : i < xs.length := (List.getElem?_eq_some_iff.mp hxi).1
      have hip : i < pl.length := by omega
      obtain ⟨en, hen, hTd⟩ := hx3.getM hxi
      have hen2 : pl[i] = en := (List.getElem?_eq_some_iff.mp hen).2
      obtain ⟨tn, tr, rs, rfl, htn, htr, hrs⟩ := entD_inv hTd
      refine ⟨rfl, tYes_if ?_⟩
      refine ⟨_, rfl, tn, _, _, _, rfl, rfl, SqT.of (e tn _ htn), rfl, _, rfl, kvs, Sum.inr en.1, rfl, hl, ?_, hil, _, upd_same, ?_, Same.upd e hD⟩
      · have hkl : kvs.length = (pl.take i).length := by
          have := congrArg List.length he.keys
          rwa [List.length_map, List.length_map] at this
        rw [List.length_take] at hkl
        exact sizeLt (by omega)
      · have hno : valV kvs (Sum.inr en.1 : Key) = none := by
          refine valV_no he.keys fun hm => ?_
          have nd := g.nd
          obtain ⟨e2, he2, ee⟩ := List.mem_map.mp hm
          obtain ⟨j, hj, ej⟩ := List.getElem_of_mem he2
          rw [List.getElem_take] at ej
          have hji : j < i := by
            rw [List.length_take] at hj
            omega
          have hji2 : j < pl.length := by omega
          have a1 : (pl.map (·.1))[j]'(by rw [List.length_map]; omega) = (pl.map (·.1))[i]'(by rw [List.length_map]; omega) := by
            rw [List.getElem_map, List.getElem_map, hen2, ej, ee]
          have := (List.getElem_inj nd).mp a1
          omega
        rw [putK_new _ hno]
        have ktD : KT Hi (upd Hi D (.dK (kvs ++ [(Sum.inr en.1, V.ref tn)]))) := fun c ys hc => by
          rw [upd_ne (ne_of hc hl (by intro z; cases z))]
          exact hc
        refine ⟨?_, ?_⟩
        · rw [List.take_succ_eq_append_getElem hip, List.map_append, List.map_append, he.keys, hen2]
          rfl
        · rw [List.take_succ_eq_append_getElem hip, List.map_append, List.map_append, hen2]
          exact (he.vals.mono ktD).append (.cons ((hTd.kt_same e).mono ktD) .nil)
    · rintro Hi ⟨_, kvs, hl, he, e⟩
      rw [List.take_of_length_le (by omega)] at he
      have hpi := e p _ hp3
      refine ⟨_, rfl, p, CS, dx, _, rfl, hpi, T.c_Schema.cl, T.a_Schema_entries, (by show 1 < 1000; decide), ?_⟩
      have ktp : KT Hi (upd Hi p (.ins CS dx (putF "_entries" (V.ref D) (putF "_tables" (V.ref t) [])))) := fun c ys hc => by
        rw [upd_ne (ne_of hc hpi (by intro z; cases z))]
        exact hc
      have nDp : D ≠ p := ne_of hl hpi (by intro z; cases z)
      refine q _ D ⟨g, dx, .ref t, kvs, upd_same, ((Td.tup ht3 hx3).kt_same e).mono ktp, by rw [upd_ne nDp]; exact hl, he.keys, he.vals.mono ktp⟩ ?_ ?_
      · cases c : H D with
        | none => rfl
        | some o =>
          have c2 := e12 D o c
          have c3 : H3 D = some o := by rw [← hH3, upd_ne nDp]; exact c2
          rw [hD] at c3
          cases c3
      intro c o nc hc
      rw [upd_ne nc]
      refine e c o ?_
      rw [← hH3, upd_ne nc]
      exact e12 c o hc
theorem len_Schema_init {CS : Addr} : ∀ vs H Q E, spSchema CS vs H Q E → vs.length = ["self", "tables"].length := by
  rintro vs H Q E ⟨p, dx, v, pl, rfl, _⟩
  rfl
theorem ok_Schema_init {P : Program} {w : World} {K : PySem.W.Frag} {mg : Str → Option Value} {base : Heap} {CS CD XCarryError XTaken : Addr} (T : Txt K mg CS CD XCarryError XTaken) : MakeOk P w K mg base 6 CS "Schema" (spSchema CS) := T.d_Schema_init.make T.c_Schema sc_Schema_init len_Schema_init (body_Schema_init T)
theorem kw_Schema_init {P : Program} {w : World} {K : PySem.W.Frag} {mg : Str → Option Value} {base : Heap} {CS CD XCarryError XTaken : Addr} (T : Txt K mg CS CD XCarryError XTaken) : MakeKOk P w K mg base 6 CS "Schema" 0 ["tables"] (fun vs zs => vs ++ zs) (spSchema CS) :=
  T.d_Schema_init.makeK T.c_Schema sc_Schema_init len_Schema_init (body_Schema_init T) (fun us ws => us ++ ws) (fun r1 r2 => r1.append r2) fun _ _ _ _ _ _ us ws h1 h2 => match us, ws, h1, h2 with | [_], [_], _, _ => rfl
end My
namespace My
open PySem L2
def spSTables (CS : Addr) : Sp := fun vs H Q _ => ∃ (p : Addr) (pl : Plan), vs = [.ref p] ∧ SchAt CS H p pl ∧ ∀ v, Td H v (planD pl) → Q v H
theorem ok_Schema_tables {P : Program} {w : World} {K : PySem.W.Frag} {mg : Str → Option Value} {base : Heap} {CS CD XCarryError XTaken : Addr} (T : Txt K mg CS CD XCarryError XTaken) : MethOk P w K mg base 1 CS "tables" (spSTables CS) := by
  refine T.d_Schema_tables.ok T.c_Schema.cl sc_Schema_tables (fun vs H Q E h => ?_) (fun f cdv A outer s H vs Q E hr h => ?_)
  · obtain ⟨p, pl, rfl, _⟩ := h
    rfl
  · obtain ⟨p, pl, rfl, S, q⟩ := h
    obtain ⟨dx, tv, de, kvs, h1, h2, h3, h4⟩ := S.ex
    refine ⟨_, (pss_one (ps_ret (kFld (K := K) (pv 0) rfl))), ?_⟩
    exact ⟨_, rfl, p, CS, dx, _, _, rfl, h1, T.c_Schema.cl, T.a_Schema_tables, sFlds_t _ _, q _ h2⟩
end My
namespace My
open PySem L2
def spEntry (CS : Addr) : Sp := fun vs H Q _ => ∃ (p : Addr) (pl : Plan) (e : Ent), vs = [.ref p, .str e.1] ∧ SchAt CS H p pl ∧ e ∈ pl ∧ ∀ v, Td H v (entD e) → Q v H
theorem ok_Schema__entry {P : Program} {w : World} {K : PySem.W.Frag} {mg : Str → Option Value} {base : Heap} {CS CD XCarryError XTaken : Addr} (T : Txt K mg CS CD XCarryError XTaken) : MethOk P w K mg base 2 CS "_entry" (spEntry CS) := by
  have c_is_one_of := ok_is_one_of (P := P) (w := w) (base := base) T
  refine T.d_Schema__entry.ok T.c_Schema.cl sc_Schema__entry (fun vs H Q E h => ?_) (fun f cdv A outer s H vs Q E hr h => ?_)
  · obtain ⟨p, pl, e, rfl, _⟩ := h
    rfl
  · obtain ⟨p, pl, e, rfl, S, he, q⟩ := h
    obtain ⟨dx, tv, de, kvs, h1, h2, h3, h4⟩ := S.ex
    obtain ⟨v, hv, hT⟩ := h4.get S.good he
    have hg : DGet H de (V.str e.1) (some v) := by
      rw [← hv]
      exact DGet.k (k := Sum.inr e.1) h3
    refine ⟨_, (pss_cons (ps_if (pt_not (pt_val (pe_callC c_is_one_of (hr.mono (by decide)) (pa_cons (pv 1) (pa_cons (kFld (K := K) (pv 0) rfl) pa_nil))))) (pss_one ps_never) pss_nil)
      (pss_one (ps_ret (pe_dget (hu_of hr) (kFld (K := K) (pv 0) rfl) (pv 1) (fun _ _ => rfl))))), ?_⟩
    refine ⟨_, rfl, _, rfl, p, CS, dx, _, _, rfl, h1, T.c_Schema.cl, T.a_Schema_entries, sFlds_e _ _, _, _, rfl, .inr ⟨e.1, rfl, .inl ⟨de, _, rfl, hg, true, rfl, iteF ?_⟩⟩⟩
    exact ⟨_, rfl, p, CS, dx, _, _, rfl, h1, T.c_Schema.cl, T.a_Schema_entries, sFlds_e _ _, _, rfl, de, v, rfl, hg, q v hT⟩
end My
namespace My
open PySem L2
def spUnique (CS : Addr) : Sp := fun vs H Q _ => ∃ (p : Addr) (pl : Plan) (e : Ent), vs = [.ref p, .str e.1] ∧ SchAt CS H p pl ∧ e ∈ pl ∧ Q (.bl e.2.1) H
theorem ok_Schema_is_unique {P : Program} {w : World} {K : PySem.W.Frag} {mg : Str → Option Value} {base : Heap} {CS CD XCarryError XTaken : Addr} (T : Txt K mg CS CD XCarryError XTaken) : MethOk P w K mg base 3 CS "is_unique" (spUnique CS) := by
  have c_Schema_entry := ok_Schema__entry (P := P) (w := w) (base := base) T
  refine T.d_Schema_is_unique.ok T.c_Schema.cl sc_Schema_is_unique (fun vs H Q E h => ?_) (fun f cdv A outer s H vs Q E hr h => ?_)
  · obtain ⟨p, pl, e, rfl, _⟩ := h
    rfl
  · obtain ⟨p, pl, e, rfl, S, he, q⟩ := h
    obtain ⟨dx, tv, de, kvs, h1, h2, h3, h4⟩ := S.ex
    refine ⟨_, (pss_one (ps_ret (pe_ix (kIxT (K := K)) (pe_methC (pv 0) c_Schema_entry (hr.mono (by decide)) (pa_cons (pv 1) pa_nil)) pe_int (fun _ _ => rfl)))), ?_⟩
    refine ⟨_, rfl, p, dx, _, rfl, h1, sFlds_no _ _ (by decide +kernel) (by decide +kernel), _, rfl, p, pl, e, rfl, S, he, fun v hv => ?_⟩
    obtain ⟨t, tr, rs, rfl, ht, htr, hrs⟩ := entD_inv hv
    exact ⟨t, _, _, _, rfl, rfl, SqT.of ht, rfl, q⟩
end My
namespace My
open PySem L2
def colsD (e : Ent) : PyData := .tuple ((e.2.2.map (·.1)).map PyData.str)
def spColumns (CS : Addr) : Sp := fun vs H Q _ => ∃ (p : Addr) (pl : Plan) (e : Ent), vs = [.ref p, .str e.1] ∧ SchAt CS H p pl ∧ e ∈ pl ∧ ∀ t H', H t = none → H' t = some (TupX t (e.2.2.map (·.1))) → Same H H' → Q (.ref t) H'
theorem ok_Schema_columns {P : Program} {w : World} {K : PySem.W.Frag} {mg : Str → Option Value} {base : Heap} {CS CD XCarryError XTaken : Addr} (T : Txt K mg CS CD XCarryError XTaken) : MethOk P w K mg base 3 CS "columns" (spColumns CS) := by
  have c_Schema_entry := ok_Schema__entry (P := P) (w := w) (base := base) T
  refine T.d_Schema_columns.ok T.c_Schema.cl sc_Schema_columns (fun vs H Q E h => ?_) (fun f cdv A outer s H vs Q E hr h => ?_)
  · obtain ⟨p, pl, e, rfl, _⟩ := h
    rfl
  · obtain ⟨p, pl, e, rfl, S, he, q⟩ := h
    obtain ⟨dx, tv, de, kvs, h1, h2, h3, h4⟩ := S.ex
    have gr := S.good.refs e he
    have g3 := gr.len
    refine ⟨_, (pss_one (ps_ret (pe_callTy (kTupX (K := K)) (by rfl) T.n_tuple (by decide +kernel) (pa_cons (pe_lc (own := [("column", 2), ("_", 3)]) rfl sc_Schema_columns.nd (kPiT (K := K) (pe_ix (kIxT (K := K)) (pe_methC (pv 0) c_Schema_entry (hr.mono (by decide)) (pa_cons (pv 1) pa_nil)) pe_int (fun _ _ => rfl))) (blkOk_by (N := ["self", "name", "column", "_"]) (sc := defScope s_Schema_columns) (own := [("column", 2), ("_", 3)]) (by decide +kernel)) (fun _ _ _ _ _ => (kPgT (K := K) (n := 2) rfl (pgs_cons (pg_name (i := 2) sc_Schema_columns.nd rfl (by first | exact Or.inl rfl | exact Or.inr rfl)) (pgs_cons (pg_name (i := 3) sc_Schema_columns.nd rfl (by first | exact Or.inl rfl | exact Or.inr rfl)) pgs_nil)))) (fun _ _ _ _ _ => pts_nil) (fun _ _ _ _ _ => (pv 2))) pa_nil)))), ?_⟩
    refine ⟨_, rfl, p, dx, _, rfl, h1, sFlds_no _ _ (by decide +kernel) (by decide +kernel), _, rfl, p, pl, e, rfl, S, he, fun v hv => ?_⟩
    obtain ⟨t, tr, rs, rfl, ht, htr, hrs⟩ := entD_inv hv
    have hlr : rs.length = e.2.2.length := by rw [hrs.length, List.length_map]
    refine ⟨t, _, _, _, rfl, rfl, SqT.of ht, rfl, tr, rfl, ⟨_, SqT.of htr⟩, fun D hD => lc_tup (K := K) (a := tr) (xs := rs) (fun i Hi => i ≤ rs.length ∧ Hi D = some (.lst ((e.2.2.map (·.1)).take i |>.map V.str)) ∧ Same H Hi) ?_ ?_ ?_ ?_⟩
    · exact ⟨Nat.zero_le _, upd_same, Same.upd (Same.refl H) hD⟩
    · rintro i Hi _ ⟨_, _, e2⟩
      exact SqT.of (e2 tr _ htr)
    · rintro i x Hi hxi ⟨hi, hl, e2⟩
      have hil : i < rs.length := (List.getElem?_eq_some_iff.mp hxi).1
      obtain ⟨r, hrr, hTr⟩ := hrs.getM hxi
      obtain ⟨tt, rfl, htt⟩ := refD_inv hTr
      have hrl : i < (e.2.2.map (·.1)).length := by rw [List.length_map]; omega
      refine ⟨tt, _, rfl, SqT.of (e2 tt _ htt), rfl, _, _, rfl, _, _, rfl, rfl, rfl, tYes_if ?_⟩
      refine ⟨_, rfl, _, hl, sizeLt (by rw [List.length_map, List.length_take]; omega), hil, ?_, Same.upd e2 hD⟩
      rw [upd_same, List.take_succ_eq_append_getElem hrl, List.map_append]
      have er : (e.2.2.map (·.1))[i] = r.1 := by
        rw [List.getElem_map]
        rw [(List.getElem?_eq_some_iff.mp hrr).2]
      rw [er]
      rfl
    · rintro Hi ⟨_, hl, e2⟩
      rw [List.take_of_length_le (by rw [List.length_map]; omega)] at hl
      refine ⟨D, _, rfl, SqL.of hl, fun t1 ht1 => ?_⟩
      exact q t1 _ (Same.free e2 ht1) upd_same (Same.upd e2 (Same.free e2 ht1))
end My
namespace My
open PySem L2
def spDb (CD CS : Addr) : Sp := fun vs H Q _ => ∃ (p dx s : Addr) (pl : Plan), vs = [.ref p, .ref s] ∧ SchAt CS H s pl ∧ H p = some (.ins CD dx []) ∧
  ∀ H' sp de dr ds, DbAt CD CS H' p pl sp de dr ds (pl.map fun _ => []) → (∀ c ∈ sp :: de :: dr :: ds, H c = none) → Fr1 p H H' → Q .non H'
theorem body_Database_init {P : Program} {w : World} {K : PySem.W.Frag} {mg : Str → Option Value} {base : Heap} {CS CD XCarryError XTaken : Addr} (T : Txt K mg CS CD XCarryError XTaken) : BodyOk P w K mg base 7 ["self", "schema", "entry"] "Database.__init__" s_Database_init (spDb CD CS) := by
  have c_Schema := ok_Schema_init (P := P) (w := w) (base := base) T
  have c_Schema_tables := ok_Schema_tables (P := P) (w := w) (base := base) T
  intro f cdv A outer s H vs Q E hr h
  · obtain ⟨p, dx, s, pl, rfl, S, hp, q⟩ := h
    refine ⟨_, (pss_cons (ps_fld (pv 0) (pe_makeC c_Schema (hr.mono (by decide)) (pa_cons (pe_methC0 (pv 1) c_Schema_tables (hr.mono (by decide))) pa_nil)) rfl)
      (pss_one (ps_fld (pv 0) (pe_dc (own := [("entry", 2)]) rfl sc_Database_init.nd (kPiT (K := K) (pe_methC0 (pv 1) c_Schema_tables (hr.mono (by decide)))) (blkOk_by (N := ["self", "schema", "entry"]) (sc := defScope s_Database_init) (own := [("entry", 2)]) (by decide +kernel)) (fun _ _ _ _ _ => (pg_name (i := 2) sc_Database_init.nd rfl (by first | exact Or.inl rfl | exact Or.inr rfl))) (fun _ _ _ _ _ => pts_nil) (fun _ _ _ _ _ => (pe_ix (kIxT (K := K)) (pv 2) pe_int (fun _ _ => rfl))) (fun _ _ _ _ _ => pe_dnewK)) rfl))), ?_⟩
    obtain ⟨sdx, stv, sde, skvs, s1, _⟩ := S.ex
    have hi5 := S.good.hi
    refine ⟨_, rfl, s, sdx, _, rfl, s1, sFlds_no _ _ (by decide +kernel) (by decide +kernel), s, pl, rfl, S, fun v hv => ?_⟩
    refine fun x xdx nx ndx nex => ⟨x, xdx, v, pl, rfl, hv.mono (KT.upd ((KT.refl H).upd ndx) nx), S.good, upd_same, fun H1 de S1 hde e1 => ⟨rfl, ?_⟩⟩
    have h1 : Same H H1 := Same.made' nx ndx e1
    have hde0 : H de = none := by
      cases c : H de with
      | none => rfl
      | some o =>
        rw [upd_ne (ne_of_none c nx), upd_ne (ne_of_none c ndx), c] at hde
        cases hde
    have hp1 := h1 p _ hp
    refine ⟨_, rfl, p, CD, dx, [], rfl, hp1, T.c_Database.cl, T.a_Database_schema, (by show 0 < 1000; decide), ?_⟩
    have kt2 : KT H1 (upd H1 p (.ins CD dx (putF "_schema" (V.ref x) []))) := fun c xs hc => by
      rw [upd_ne (ne_of hc hp1 (by intro z; cases z))]
      exact hc
    have f2 : Fr1 p H (upd H1 p (.ins CD dx (putF "_schema" (V.ref x) []))) := (Fr1.of h1).at
    have hp2 : upd H1 p (.ins CD dx (putF "_schema" (V.ref x) [])) p = some (.ins CD dx (putF "_schema" (V.ref x) [])) := upd_same
    have nps : s ≠ p := fun z => by
      rw [z, hp] at s1
      have := HO.ins.inj (Option.some.inj s1)
      have h3 := congrArg (List.lookup ("_tables" : Str)) this.2.2
      rw [sFlds_t] at h3
      cases h3
    have npx : x ≠ p := fun z => by
      rw [z, hp] at nx
      cases nx
    have npde : de ≠ p := fun z => by
      rw [z, hp] at hde0
      cases hde0
    have S2 : SchE CS (upd H1 p (.ins CD dx (putF "_schema" (V.ref x) []))) x pl de := S1.keep kt2 (fun o ho => by rw [upd_ne npx]; exact ho) (fun o ho => by rw [upd_ne npde]; exact ho)
    have SS2 : SchAt CS (upd H1 p (.ins CD dx (putF "_schema" (V.ref x) []))) s pl := by
      obtain ⟨_, tv, de', kvs', g1, g2, g3, g4⟩ := S.ex
      have npd : de' ≠ p := ne_of g3 hp (by intro z; cases z)
      refine ⟨S.good, _, tv, de', kvs', by rw [upd_ne nps]; exact h1 _ _ g1, (g2.kt_same h1).mono kt2, by rw [upd_ne npd]; exact h1 _ _ g3, g4.keys, (g4.vals.mono (KT.of h1)).mono kt2⟩
    generalize hH2 : upd H1 p (.ins CD dx (putF "_schema" (V.ref x) [])) = H2 at *
    obtain ⟨sdx, stv, sde, skvs, s2, _⟩ := SS2.ex
    refine ⟨_, rfl, s, sdx, _, rfl, s2, sFlds_no _ _ (by decide +kernel) (by decide +kernel), s, pl, rfl, SS2, fun v2 hv2 => ?_⟩
    obtain ⟨t, xs, rfl, ht, hx⟩ := hv2.tup_inv
    have hlx : xs.length = pl.length := by rw [hx.length, List.length_map]
    refine ⟨t, rfl, ⟨_, SqT.of ht⟩, fun D hD => dc_tup (K := K) (a := t) (xs := xs) (fun i Hi => i ≤ xs.length ∧ ∃ ds : List Addr, ds.length = i ∧ ds.Nodup ∧ (∀ d ∈ ds, H2 d = none ∧ d ≠ D ∧ Hi d = some (.dK [])) ∧ Hi D = some (.dK (rowsK (pl.take i) ds)) ∧ Same H2 Hi) ?_ ?_ ?_ ?_⟩
    · exact ⟨Nat.zero_le _, [], rfl, List.nodup_nil, by simp, upd_same, Same.upd (Same.refl H2) hD⟩
    · rintro i Hi _ ⟨_, _, _, _, _, _, e⟩
      exact SqT.of (e t _ ht)
    · rintro i y Hi hyi ⟨hi, ds, hdl, hnd, hds, hDi, e⟩
      have hil : i < xs.length := (List.getElem?_eq_some_iff.mp hyi).1
      have hip : i < pl.length := by omega
      obtain ⟨en, hen, hTd⟩ := hx.getM hyi
      have hen2 : pl[i] = en := (List.getElem?_eq_some_iff.mp hen).2
      obtain ⟨tn, tr, rs, rfl, htn, htr, hrs⟩ := entD_inv hTd
      refine ⟨rfl, tYes_if ?_⟩
      refine ⟨_, rfl, tn, _, _, _, rfl, rfl, SqT.of (e tn _ htn), rfl, fun d hd => ?_⟩
      have ndD : d ≠ D := fun z => by
        rw [z, hDi] at hd
        cases hd
      have hd2 : H2 d = none := Same.free e hd
      refine ⟨_, Sum.inr en.1, rfl, by rw [upd_ne ndD.symm]; exact hDi, ?_, hil, ds ++ [d], by simp [hdl], nd_snoc hnd fun m => ?_, ?_, ?_, ?_⟩
      · unfold rowsK
        rw [List.length_zip, List.length_map, List.length_map, List.length_take]
        exact sizeLt (by omega)
      · have := (hds d m).2.2
        rw [hd] at this
        cases this
      · intro c hc
        rcases List.mem_append.mp hc with m | m
        · obtain ⟨a1, a2, a3⟩ := hds c m
          refine ⟨a1, a2, ?_⟩
          rw [upd_ne a2, upd_ne (fun z => by rw [z, hd] at a3; cases a3)]
          exact a3
        · rw [List.mem_singleton.mp m]
          refine ⟨hd2, ndD, ?_⟩
          rw [upd_ne ndD, upd_same]
      · rw [upd_same]
        have hno : valV (rowsK (pl.take i) ds) (Sum.inr en.1 : Key) = none := by
          refine valV_no (rowsK_keys (by rw [List.length_take]; omega)) fun hm => ?_
          obtain ⟨e2, he2, ee⟩ := List.mem_map.mp hm
          obtain ⟨j, hj, ej⟩ := List.getElem_of_mem he2
          rw [List.getElem_take] at ej
          have hji : j < i := by
            rw [List.length_take] at hj
            omega
          have hji2 : j < pl.length := by omega
          have a1 : (pl.map (·.1))[j]'(by rw [List.length_map]; omega) = (pl.map (·.1))[i]'(by rw [List.length_map]; omega) := by
            rw [List.getElem_map, List.getElem_map, hen2, ej, ee]
          have := (List.getElem_inj S.good.nd).mp a1
          omega
        rw [putK_new _ hno]
        refine congrArg (fun l => some (HO.dK l)) ?_
        unfold rowsK
        rw [List.take_succ_eq_append_getElem hip, List.map_append, List.map_append, List.zip_append (by rw [List.length_map, List.length_map, List.length_take]; omega), hen2]
        rfl
      · exact Same.upd' (Same.upd e hd2) hD
    · rintro Hi ⟨_, ds, hdl, hnd, hds, hDi, e⟩
      rw [List.take_of_length_le (by omega)] at hDi
      have hpi := e p _ hp2
      refine ⟨_, rfl, p, CD, dx, _, rfl, hpi, T.c_Database.cl, T.a_Database_rows, (by show 1 < 1000; decide), ?_⟩
      have ktp : KT Hi (upd Hi p (.ins CD dx (dFlds x D))) := fun c ys hc => by
        rw [upd_ne (ne_of hc hpi (by intro z; cases z))]
        exact hc
      have nDp : D ≠ p := ne_of hDi hpi (by intro z; cases z)
      have hnp : ∀ d ∈ ds, d ≠ p := fun d hd => ne_of (hds d hd).2.2 hpi (by intro z; cases z)
      have fr : ∀ c, H2 c = none → H c = none := fun c hc => by
        cases q2 : H c with
        | none => rfl
        | some o =>
          by_cases z : c = p
          · rw [z, hp2] at hc
            cases hc
          · have := f2 c o z q2
            rw [hc] at this
            cases this
      have hde2 : ∃ u, H2 de = some (.dK u) := by
        obtain ⟨_, _, u, _, _, z, _⟩ := S2.ex
        exact ⟨u, z⟩
      obtain ⟨u, hu2⟩ := hde2
      refine q _ x de D ds ⟨S2.keep ((KT.of e).trans ktp) (fun o ho => by rw [upd_ne npx]; exact e _ _ ho) (fun o ho => by rw [upd_ne npde]; exact e _ _ ho), ⟨dx, upd_same⟩, by rw [upd_ne nDp]; exact hDi, by omega, by rw [List.length_map], hnd, ⟨fun m => (hds D m).2.1 rfl, fun m => ?_⟩, fun i d kvs h3 h4 => ?_, fun i en kvs h3 h4 => ?_⟩ ?_ ?_
      · have := (hds de m).1
        rw [hu2] at this
        cases this
      · have hm := List.mem_of_getElem? h3
        rw [List.getElem?_map] at h4
        obtain ⟨_, _, rfl⟩ := Option.map_eq_some_iff.mp h4
        rw [upd_ne (hnp d hm)]
        exact (hds d hm).2.2
      · rw [List.getElem?_map] at h4
        obtain ⟨_, _, rfl⟩ := Option.map_eq_some_iff.mp h4
        exact RowsAt.nil _ _
      · intro c hc
        rcases List.mem_cons.mp hc with rfl | hc
        · exact nx
        · rcases List.mem_cons.mp hc with rfl | hc
          · exact hde0
          · rcases List.mem_cons.mp hc with rfl | hc
            · exact fr _ hD
            · exact fr _ (hds c hc).1
      · intro c o nc hc
        rw [upd_ne nc]
        exact e c o (f2 c o nc hc)
theorem len_Database_init {CD CS : Addr} : ∀ vs H Q E, spDb CD CS vs H Q E → vs.length = ["self", "schema"].length := by
  rintro vs H Q E ⟨p, dx, s, pl, rfl, _⟩
  rfl
theorem ok_Database_init {P : Program} {w : World} {K : PySem.W.Frag} {mg : Str → Option Value} {base : Heap} {CS CD XCarryError XTaken : Addr} (T : Txt K mg CS CD XCarryError XTaken) : MakeOk P w K mg base 8 CD "Database" (spDb CD CS) := T.d_Database_init.make T.c_Database sc_Database_init len_Database_init (body_Database_init T)
theorem kw_Database_init {P : Program} {w : World} {K : PySem.W.Frag} {mg : Str → Option Value} {base : Heap} {CS CD XCarryError XTaken : Addr} (T : Txt K mg CS CD XCarryError XTaken) : MakeKOk P w K mg base 8 CD "Database" 0 ["schema"] (fun vs zs => vs ++ zs) (spDb CD CS) :=
  T.d_Database_init.makeK T.c_Database sc_Database_init len_Database_init (body_Database_init T) (fun us ws => us ++ ws) (fun r1 r2 => r1.append r2) fun _ _ _ _ _ _ us ws h1 h2 => match us, ws, h1, h2 with | [_], [_], _, _ => rfl
end My
namespace My
open PySem L2
def TakenAt (H : Hp) (kvs : List (Key × V)) (k lab : Int) : Prop := ∃ q ∈ kvs, q.1 ≠ Sum.inl k ∧ ∃ cs, Td H q.2 (rowD lab cs)
def spTaken (CD CS : Addr) : Sp := fun vs H Q _ => ∃ (p sp de dr : Addr) (pl : Plan) (ds : List Addr) (ct : List (List (Key × V))) (i : Nat) (e : Ent) (kvs : List (Key × V)) (k lab : Int), vs = [.ref p, .str e.1, .int k, .int lab] ∧
  DbAt CD CS H p pl sp de dr ds ct ∧ pl[i]? = some e ∧ ct[i]? = some kvs ∧ kvs.length ≤ 10000 ∧ ∀ b H', Same H H' → (b = true → e.2.1 = true ∧ TakenAt H kvs k lab) → (b = false → e.2.1 = true → ¬ TakenAt H kvs k lab) → Q (.bl b) H'
theorem rowD_lab {H : Hp} {v : V} {l1 l2 : Int} {c1 c2 : List (Option Int)} (h1 : Td H v (rowD l1 c1)) (h2 : Td H v (rowD l2 c2)) : l1 = l2 := by
  obtain ⟨t, tc, xs, rfl, ht, _⟩ := rowD_inv h1
  obtain ⟨t', tc', xs', e, ht', _⟩ := rowD_inv h2
  cases e
  rw [ht] at ht'
  have h := HO.tup.inj (Option.some.inj ht')
  exact V.int.inj (List.cons.inj h).1
theorem ok_Database__is_taken {P : Program} {w : World} {K : PySem.W.Frag} {mg : Str → Option Value} {base : Heap} {CS CD XCarryError XTaken : Addr} (T : Txt K mg CS CD XCarryError XTaken) : MethOk P w K mg base 4 CD "_is_taken" (spTaken CD CS) := by
  have c_Schema_is_unique := ok_Schema_is_unique (P := P) (w := w) (base := base) T
  refine T.d_Database__is_taken.ok T.c_Database.cl sc_Database__is_taken (fun vs H Q E h => ?_) (fun f cdv A outer s H vs Q E hr h => ?_)
  · obtain ⟨p, sp, de, dr, pl, ds, ct, i, e, kvs, k, lab, rfl, _⟩ := h
    rfl
  · obtain ⟨p, sp, de, dr, pl, ds, ct, i, e, kvs, k, lab, rfl, D, hpi, hci, hkl, q⟩ := h
    obtain ⟨dx, hp⟩ := D.ob
    have hil : i < ds.length := by
      have := (List.getElem?_eq_some_iff.mp hpi).1
      rw [D.dl]
      exact this
    have hdi : ds[i]? = some ds[i] := List.getElem?_eq_getElem hil
    have hH := D.at_ i _ kvs hdi hci
    have hrow := D.ok i e kvs hpi hci
    have hem := List.mem_of_getElem? hpi
    obtain ⟨sdx, stv, skvs, s1, _⟩ := D.sch.ex
    generalize ds[i] = d at *
    refine ⟨_, (pss_cons (ps_if (pt_not (pt_val (pe_methC (kFld (K := K) (pv 0) rfl) c_Schema_is_unique (hr.mono (by decide)) (pa_cons (pv 1) pa_nil)))) (pss_one (ps_ret pe_bl)) pss_nil)
      (pss_cons (ps_set (i := 4) sc_Database__is_taken.nd rfl (by first | exact Or.inl rfl | exact Or.inr rfl) (pe_dget (hu_of hr) (kFld (K := K) (pv 0) rfl) (pv 1) (fun _ _ => rfl)))
      (pss_one (ps_ret (pe_cmpR (kIn (K := K)) (pv 3) (pe_lock (pe_lc (own := [("other", 5)]) rfl sc_Database__is_taken.nd (pi_keys (pv 4)) (blkOk_by (N := ["self", "table", "key", "label", "held", "other"]) (sc := defScope s_Database__is_taken) (own := [("other", 5)]) (by decide +kernel)) (fun _ _ _ _ _ => (pg_name (i := 5) sc_Database__is_taken.nd rfl (by first | exact Or.inl rfl | exact Or.inr rfl))) (fun _ _ _ _ _ => (pts_one (pt_cmpR op_ne (pv 5) (pv 2) (nomark _)))) (fun _ _ _ _ _ => (pe_ix (kIxT (K := K)) (pe_dget (hu_of hr) (pv 4) (pv 5) (fun _ _ => rfl)) pe_int (fun _ _ => rfl))))) rfl))))), ?_⟩
    refine ⟨_, rfl, p, CD, dx, _, _, rfl, hp, T.c_Database.cl, T.a_Database_schema, dFlds_s _ _, sp, sdx, _, rfl, s1, sFlds_no _ _ (by decide +kernel) (by decide +kernel), _, rfl, sp, pl, e, rfl, D.sch.at, hem, e.2.1, rfl, ?_⟩
    cases hu : e.2.1 with
    | false => exact q false H (Same.refl H) (fun z => by cases z) (fun _ z => by rw [hu] at z; cases z)
    | true =>
      refine iteF ?_
      have hg : DGet H dr (V.str e.1) (some (.ref d)) := by
        rw [← rowsK_get D.sch.good.nd hpi hdi]
        exact DGet.k (k := Sum.inr e.1) D.rws
      refine ⟨_, rfl, p, CD, dx, _, _, rfl, hp, T.c_Database.cl, T.a_Database_rows, dFlds_r _ _, _, rfl, dr, _, rfl, hg, ?_⟩
      refine ⟨_, rfl, d, .dK kvs, hH, trivial, fun od => ⟨_, rfl, d, od, rfl, .inl ⟨kvs, upd_same, fun L hL => lc_keys (o := od) (d := d) (kvs := kvs) (fun j Hj => ∃ labs : List Int, Hj L = some (.lst (labs.map V.int)) ∧ labs.length ≤ j ∧ (∀ l ∈ labs, TakenAt H kvs k l) ∧ (∀ t < j, ∀ z, kvs[t]? = some z → z.1 ≠ Sum.inl k → ∀ l cs, Td H z.2 (rowD l cs) → l ∈ labs) ∧ Same (upd H d (.frz od (.dK kvs))) Hj) ?_ ?_ ?_ ?_⟩⟩⟩
      · exact ⟨[], upd_same, Nat.zero_le _, by simp, fun t h => absurd h (Nat.not_lt_zero _), Same.upd (Same.refl _) hL⟩
      · rintro j Hj _ ⟨_, _, _, _, _, e2⟩
        exact e2 d _ upd_same
      · rintro j kk v Hj hkj ⟨labs, hl, hll, h1, h2, e2⟩
        have hjl : j < kvs.length := (List.getElem?_eq_some_iff.mp hkj).1
        have hm := List.mem_of_getElem? hkj
        obtain ⟨k2, lab2, cs2, rfl, _, hT, _⟩ := hrow.row _ hm
        refine ⟨rfl, _, rfl, _, rfl, rfl, !decide ((V.int k2) = V.int k), rfl, ?_⟩
        by_cases c : k2 = k
        · subst c
          rw [decide_eq_true rfl]
          refine iteF ⟨labs, hl, by omega, h1, fun t ht z hz hne l cs hT2 => ?_, e2⟩
          rcases Nat.lt_succ_iff_lt_or_eq.mp ht with h | rfl
          · exact h2 t h z hz hne l cs hT2
          · rw [hkj] at hz
            cases hz
            exact absurd rfl hne
        · have c' : ¬ (V.int k2 = V.int k) := fun z => c (V.int.inj z)
          rw [decide_eq_false c']
          refine iteT ?_
          obtain ⟨t, tc, xs, hve, ht, htc, hx⟩ := rowD_inv hT
          have hve : v = .ref t := hve
          subst hve
          have hgd : DGet Hj d (V.int k2) (some (.ref t)) := .inl ⟨kvs, Sum.inl k2, .inr ⟨od, e2 d _ upd_same⟩, rfl, (valV_at hrow.nd hkj).symm⟩
          have htj : Hj t = some (.tup [V.int lab2, .ref tc]) := e2 t _ (Same.locked hH t _ ht)
          refine ⟨_, rfl, _, rfl, d, _, rfl, hgd, t, _, _, _, rfl, rfl, SqT.of htj, rfl, ?_⟩
          refine ⟨_, hl, sizeLt (by rw [List.length_map]; omega), labs ++ [lab2], by rw [upd_same, List.map_append]; rfl, by simp; omega, fun l hm2 => ?_, fun t2 ht2 z hz hne l cs hT2 => ?_, Same.upd e2 hL⟩
          · rcases List.mem_append.mp hm2 with m | m
            · exact h1 l m
            · rw [List.mem_singleton.mp m]
              exact ⟨_, hm, fun z => c (Sum.inl.inj z), cs2, hT⟩
          · rcases Nat.lt_succ_iff_lt_or_eq.mp ht2 with h | rfl
            · exact List.mem_append.mpr (.inl (h2 t2 h z hz hne l cs hT2))
            · rw [hkj] at hz
              cases hz
              rw [rowD_lab hT2 hT]
              exact List.mem_append.mpr (.inr (List.mem_singleton.mpr rfl))
      · rintro Hj ⟨labs, hl, hll, h1, h2, e2⟩
        have hdj : Hj d = some (.frz od (.dK kvs)) := e2 d _ upd_same
        have nLd : L ≠ d := fun z => by
          rw [z, hdj] at hl
          cases hl
        refine ⟨hdj, L, labs.map V.int, rfl, .inl (SqL.of (by rw [upd_ne nLd]; exact hl)), rfl, ?_, ?_⟩
        · rw [List.all_map, List.all_eq_true]
          intro x _
          rfl
        · have ev : inV (.int lab) (labs.map V.int) = decide (lab ∈ labs) := by
            clear hl hll h1 h2
            induction labs with
            | nil => rfl
            | cons x r ih =>
              unfold inV at ih ⊢
              rw [List.map_cons, List.any_cons, ih]
              by_cases z : x = lab
              · subst z
                simp [eqV]
              · have z' : ¬ lab = x := fun w => z w.symm
                simp [eqV, z, z']
          show Q (.bl (if false = true then _ else inV (.int lab) (labs.map V.int))) _
          rw [if_neg Bool.false_ne_true, ev]
          refine q _ _ (Same.unlock e2 hH) (fun z => ⟨hu, h1 lab (of_decide_eq_true z)⟩) (fun z _ => ?_)
          rintro ⟨w2, hw, hne, cs, hT⟩
          obtain ⟨t, ht, et⟩ := List.getElem_of_mem hw
          have := h2 t ht w2 (by rw [List.getElem?_eq_getElem ht, et]) hne lab cs hT
          rw [decide_eq_true this] at z
          cases z
end My
namespace My
open PySem L2
theorem mem_putK {kvs : List (Key × V)} {k : Key} {v : V} {q : Key × V} (h : q ∈ putK kvs k v) : q ∈ kvs ∨ q = (k, v) := by
  unfold putK at h
  split at h
  · obtain ⟨z, hz, rfl⟩ := List.mem_map.mp h
    by_cases c : z.1 = k
    · rw [if_pos c, c]
      exact .inr rfl
    · rw [if_neg c]
      exact .inl hz
  · rcases List.mem_append.mp h with m | m
    · exact .inl m
    · exact .inr (List.mem_singleton.mp m)
theorem putK_nd {kvs : List (Key × V)} {k : Key} {v : V} (h : (kvs.map (·.1)).Nodup) : ((putK kvs k v).map (·.1)).Nodup := by
  cases c : valV kvs k with
  | none => exact nd_putK v h c
  | some x =>
    unfold putK
    rw [valV_any, c]
    show ((kvs.map fun kv => if kv.1 = k then (kv.1, v) else kv).map (·.1)).Nodup
    rw [List.map_map]
    have : ((·.1) ∘ fun kv : Key × V => if kv.1 = k then (kv.1, v) else kv) = (·.1) := by
      funext kv
      show (if kv.1 = k then (kv.1, v) else kv).1 = kv.1
      split <;> rfl
    rw [this]
    exact h
theorem RowsAt.put {H : Hp} {kvs : List (Key × V)} {w : Nat} {k lab : Int} {cs : List (Option Int)} {v : V} (r : RowsAt H kvs w) (hk : 1 ≤ k) (hv : Td H v (rowD lab cs)) (g : GoodRow w lab cs) : RowsAt H (putK kvs (Sum.inl k) v) w := by
  refine ⟨putK_nd r.nd, fun q hq => ?_⟩
  rcases mem_putK hq with h | rfl
  · exact r.row q h
  · exact ⟨k, lab, cs, rfl, hk, hv, g⟩
theorem DbAt.set {CD CS p sp de dr d : Addr} {H : Hp} {pl : Plan} {ds : List Addr} {ct : List (List (Key × V))} {i : Nat} {e : Ent} {kvs kvs' : List (Key × V)} (D : DbAt CD CS H p pl sp de dr ds ct) (hp : pl[i]? = some e) (hc : ct[i]? = some kvs) (hd : ds[i]? = some d) (r : RowsAt H kvs' e.2.2.length) :
    DbAt CD CS (upd H d (.dK kvs')) p pl sp de dr ds (ct.set i kvs') := by
  have hH := D.at_ i d kvs hd hc
  obtain ⟨dx, ho⟩ := D.ob
  have hdm := List.mem_of_getElem? hd
  have kt : KT H (upd H d (.dK kvs')) := fun c xs h => by
    rw [upd_ne (ne_of h hH (by intro z; cases z))]
    exact h
  have n1 : p ≠ d := ne_of ho hH (by intro z; cases z)
  have n2 : dr ≠ d := fun z => D.apart.1 (by rw [z]; exact hdm)
  have n3 : de ≠ d := fun z => D.apart.2 (by rw [z]; exact hdm)
  obtain ⟨sdx, stv, skvs, s1, _⟩ := D.sch.ex
  have n4 : sp ≠ d := ne_of s1 hH (by intro z; cases z)
  have hil : i < ct.length := (List.getElem?_eq_some_iff.mp hc).1
  refine ⟨D.sch.keep kt (fun o h => by rw [upd_ne n4]; exact h) (fun o h => by rw [upd_ne n3]; exact h), ⟨dx, by rw [upd_ne n1]; exact ho⟩, by rw [upd_ne n2]; exact D.rws, D.dl, by rw [List.length_set]; exact D.cl, D.nd, D.apart, fun j d2 k2 h1 h2 => ?_, fun j e2 k2 h1 h2 => ?_⟩
  · by_cases c : i = j
    · subst c
      rw [hd] at h1
      rw [List.getElem?_set_self hil] at h2
      cases h1
      cases h2
      exact upd_same
    · rw [List.getElem?_set_ne c] at h2
      have nd : d2 ≠ d := fun z => by
        subst z
        exact c (nd_ix D.nd hd h1)
      rw [upd_ne nd]
      exact D.at_ j d2 k2 h1 h2
  · by_cases c : i = j
    · subst c
      rw [hp] at h1
      rw [List.getElem?_set_self hil] at h2
      cases h1
      cases h2
      exact r.mono kt
    · rw [List.getElem?_set_ne c] at h2
      exact (D.ok j e2 k2 h1 h2).mono kt
def spSetX (CD CS CT : Addr) : Sp := fun vs H Q E => ∃ (p ta sp de dr d : Addr) (v : V) (pl : Plan) (ds : List Addr) (ct : List (List (Key × V))) (i : Nat) (e : Ent) (kvs : List (Key × V)) (k lab : Int) (cs : List (Option Int)), vs = [.ref p, .ref ta, v] ∧
  DbAt CD CS H p pl sp de dr ds ct ∧ pl[i]? = some e ∧ ct[i]? = some kvs ∧ ds[i]? = some d ∧ kvs.length ≤ 10000 ∧ H ta = some (.tup [.str e.1, .int k]) ∧ 1 ≤ k ∧ Td H v (rowD lab cs) ∧ GoodRow e.2.2.length lab cs ∧ (¬ (e.2.1 = true ∧ TakenAt H kvs k lab) → ∀ H', DbAt CD CS H' p pl sp de dr ds (ct.set i (putK kvs (Sum.inl k) v)) → Fr1 d H H' → H' d = some (.dK (putK kvs (Sum.inl k) v)) → Q .non H') ∧
  (e.2.1 = true ∧ TakenAt H kvs k lab → ∀ H' x, Same H H' → H x = none → H' x = some (.xd [("label", .int lab), ("table", .str e.1)]) → E (.ref CT) (some x) H')
theorem ok_Database___setitem__ {P : Program} {w : World} {K : PySem.W.Frag} {mg : Str → Option Value} {base : Heap} {CS CD XCarryError XTaken : Addr} (T : Txt K mg CS CD XCarryError XTaken) : MethX P w K mg base 5 CD "__setitem__" (spSetX CD CS XTaken) := by
  have c_Database_is_taken := ok_Database__is_taken (P := P) (w := w) (base := base) T
  have c_Schema_columns := ok_Schema_columns (P := P) (w := w) (base := base) T
  have c_Taken_init__ := ok_Taken_init (P := P) (w := w) (base := base) T
  have c_is_key := ok_is_key (P := P) (w := w) (base := base) T
  have c_is_row := ok_is_row (P := P) (w := w) (base := base) T
  refine T.d_Database___setitem__.okX T.c_Database.cl sc_Database___setitem__ (fun vs H Q E h => ?_) (fun f cdv A outer s H vs Q E hr h => ?_)
  · obtain ⟨p, ta, sp, de, dr, d, v, pl, ds, ct, i, e, kvs, k, lab, cs, rfl, _⟩ := h
    rfl
  · obtain ⟨p, ta, sp, de, dr, d, v, pl, ds, ct, i, e, kvs, k, lab, cs, rfl, D, hpi, hci, hdi, hkl, hta, hk, hv, g, q, qe⟩ := h
    obtain ⟨dx, hp⟩ := D.ob
    have hH := D.at_ i d kvs hdi hci
    have hem := List.mem_of_getElem? hpi
    have g3 := (D.sch.good.refs e hem).len
    obtain ⟨sdx, stv, skvs, s1, _⟩ := D.sch.ex
    refine ⟨_, (pss_cons (ps_asg (pv 1) (kPgT (K := K) (n := 2) rfl (pgs_cons (pg_name (i := 3) sc_Database___setitem__.nd rfl (by first | exact Or.inl rfl | exact Or.inr rfl)) (pgs_cons (pg_name (i := 4) sc_Database___setitem__.nd rfl (by first | exact Or.inl rfl | exact Or.inr rfl)) pgs_nil))))
      (pss_cons (ps_set (i := 5) sc_Database___setitem__.nd rfl (by first | exact Or.inl rfl | exact Or.inr rfl) (pe_callB call_lenX (by rfl) T.n_len PySem.boot_len (pa_cons (pe_methC (kFld (K := K) (pv 0) rfl) c_Schema_columns (hr.mono (by decide)) (pa_cons (pv 3) pa_nil)) pa_nil)))
      (pss_cons (ps_if (pt_not (pt_val (pe_callC c_is_key (hr.mono (by decide)) (pa_cons (pv 4) pa_nil)))) (pss_one ps_never) pss_nil)
      (pss_cons (ps_if (pt_not (pt_val (pe_callC c_is_row (hr.mono (by decide)) (pa_cons (pv 2) (pa_cons (pv 5) pa_nil))))) (pss_one ps_never) pss_nil)
      (pss_cons (ps_if (pt_val (pe_methC (pv 0) c_Database_is_taken (hr.mono (by decide)) (pa_cons (pv 3) (pa_cons (pv 4) (pa_cons (pe_ix (kIxT (K := K)) (pv 2) pe_int (fun _ _ => rfl)) pa_nil))))) (pss_one (ps_raiseE rfl c_Taken_init__ (hr.mono (by decide)) (takes_of rfl rfl rfl rfl) (pa_cons (pv 3) (pa_cons (pe_ix (kIxT (K := K)) (pv 2) pe_int (fun _ _ => rfl)) pa_nil)))) pss_nil)
      (pss_one (ps_dput (hu_of hr) (pe_dget (hu_of hr) (kFld (K := K) (pv 0) rfl) (pv 3) (fun _ _ => rfl)) (pv 4) (pv 2) rfl))))))), ?_⟩
    refine ⟨_, rfl, ta, _, rfl, SqT.of hta, rfl, _, _, rfl, _, _, rfl, rfl, ?_⟩
    refine ⟨_, rfl, p, CD, dx, _, _, rfl, hp, T.c_Database.cl, T.a_Database_schema, dFlds_s _ _, sp, sdx, _, rfl, s1, sFlds_no _ _ (by decide +kernel) (by decide +kernel), _, rfl, sp, pl, e, rfl, D.sch.at, hem, fun tc H1 _ htc e1 => ?_⟩
    refine ⟨tc, _, rfl, htc, ?_⟩
    refine ⟨_, rfl, k, rfl, true, congrArg V.bl (decide_eq_true hk), iteF ?_⟩
    refine ⟨_, rfl, _, rfl, v, e.2.2.length, lab, cs, by rw [List.length_map]; rfl, hv.kt_same e1, g, by omega, fun H2 e2 => ⟨true, rfl, iteF ?_⟩⟩
    have e12 := e1.trans e2
    have D2 := D.same e12
    obtain ⟨t, tcell, xs, rfl, ht, htcell, hx⟩ := rowD_inv hv
    refine ⟨_, rfl, p, dx, _, rfl, e12 p _ hp, dFlds_no _ _ (by decide +kernel) (by decide +kernel), _, rfl, _, rfl, _, rfl, t, _, _, _, rfl, rfl, SqT.of (e12 t _ ht), rfl, ?_⟩
    refine ⟨p, sp, de, dr, pl, ds, ct, i, e, kvs, k, lab, rfl, D2, hpi, hci, hkl, fun b H3 e3 hb1 hb2 => ?_⟩
    have e123 := e12.trans e3
    have back : TakenAt H2 kvs k lab → TakenAt H kvs k lab := by
      rintro ⟨z, hz, hne, cs2, hT⟩
      obtain ⟨k2, lab2, cs3, _, _, hT3, _⟩ := (D.ok i e kvs hpi hci).row z hz
      have : lab2 = lab := rowD_lab (hT3.kt_same e12) hT
      subst this
      exact ⟨z, hz, hne, cs3, hT3⟩
    cases b with
    | true =>
      refine ⟨true, rfl, iteT ?_⟩
      obtain ⟨hu, hT⟩ := hb1 rfl
      refine ⟨_, rfl, _, rfl, t, _, _, _, rfl, rfl, SqT.of (e123 t _ ht), rfl, errMk rfl (by decide) fun x hx => ?_⟩
      exact qe ⟨hu, back hT⟩ _ x (Same.upd e123 (e123.free hx)) (e123.free hx) upd_same
    | false =>
    refine ⟨false, rfl, iteF ?_⟩
    have hnt : ¬ (e.2.1 = true ∧ TakenAt H kvs k lab) := by
      rintro ⟨hu, z, hz, hne, cs2, hT⟩
      exact hb2 rfl hu ⟨z, hz, hne, cs2, hT.kt_same e12⟩
    have D3 := D.same e123
    have hg : DGet H3 dr (V.str e.1) (some (.ref d)) := by
      rw [← rowsK_get D.sch.good.nd hpi hdi]
      exact DGet.k (k := Sum.inr e.1) D3.rws
    refine ⟨_, rfl, _, rfl, p, CD, dx, _, _, rfl, e123 p _ hp, T.c_Database.cl, T.a_Database_rows, dFlds_r _ _, _, rfl, dr, _, rfl, hg, _, rfl, d, _, rfl, DPut.k (k := Sum.inl k) (e123 d _ hH) (sizeLt (by omega)), ?_⟩
    refine q hnt _ (D3.set hpi hci hdi ((D3.ok i e kvs hpi hci).put hk (hv.kt_same e123) g)) ?_ upd_same
    exact (Fr1.of e123).at
end My
namespace My
open PySem L2
def TabAt (pl : Plan) (ct : List (List (Key × V))) (w : Str) (kvs : List (Key × V)) : Prop := (∃ (i : Nat) (e : Ent), pl[i]? = some e ∧ e.1 = w ∧ ct[i]? = some kvs) ∨ (w ∉ pl.map (·.1) ∧ kvs = [])
def spHas (CD CS : Addr) : Sp := fun vs H Q _ => ∃ (p sp de dr : Addr) (pl : Plan) (ds : List Addr) (ct : List (List (Key × V))) (w : Str) (kvs : List (Key × V)) (k : Int), vs = [.ref p, .str w, .int k] ∧
  DbAt CD CS H p pl sp de dr ds ct ∧ TabAt pl ct w kvs ∧ Q (.bl (valV kvs (Sum.inl k)).isSome) H
theorem ok_Database__has {P : Program} {w : World} {K : PySem.W.Frag} {mg : Str → Option Value} {base : Heap} {CS CD XCarryError XTaken : Addr} (T : Txt K mg CS CD XCarryError XTaken) : MethOk P w K mg base 2 CD "_has" (spHas CD CS) := by
  have c_is_one_of := ok_is_one_of (P := P) (w := w) (base := base) T
  have c_is_whole := ok_is_whole (P := P) (w := w) (base := base) T
  refine T.d_Database__has.ok T.c_Database.cl sc_Database__has (fun vs H Q E h => ?_) (fun f cdv A outer s H vs Q E hr h => ?_)
  · obtain ⟨p, sp, de, dr, pl, ds, ct, w, kvs, k, rfl, _⟩ := h
    rfl
  · obtain ⟨p, sp, de, dr, pl, ds, ct, w, kvs, k, rfl, D, hw, q⟩ := h
    obtain ⟨dx, hp⟩ := D.ob
    refine ⟨_, (pss_one (ps_ret (pe_and (pe_callC c_is_one_of (hr.mono (by decide)) (pa_cons (pv 1) (pa_cons (kFld (K := K) (pv 0) rfl) pa_nil))) (pe_and (pe_callC c_is_whole (hr.mono (by decide)) (pa_cons (pv 2) pa_nil)) (pe_one (pe_cmp (pc_din (hu_of hr) (pv 2) (pe_dget (hu_of hr) (kFld (K := K) (pv 0) rfl) (pv 1) (fun _ _ => rfl))) rfl)))))), ?_⟩
    rcases hw with ⟨i, e, hpi, rfl, hci⟩ | ⟨hno, rfl⟩
    · have hil : i < ds.length := by
        have := (List.getElem?_eq_some_iff.mp hpi).1
        rw [D.dl]
        exact this
      have hdi : ds[i]? = some ds[i] := List.getElem?_eq_getElem hil
      have hH := D.at_ i _ kvs hdi hci
      generalize ds[i] = d at *
      have hg : DGet H dr (V.str e.1) (some (.ref d)) := by
        rw [← rowsK_get D.sch.good.nd hpi hdi]
        exact DGet.k (k := Sum.inr e.1) D.rws
      refine ⟨_, rfl, _, rfl, p, CD, dx, _, _, rfl, hp, T.c_Database.cl, T.a_Database_rows, dFlds_r _ _, _, _, rfl, .inr ⟨e.1, rfl, .inl ⟨dr, _, rfl, hg, true, rfl, iteT ?_⟩⟩⟩
      refine ⟨_, rfl, _, rfl, .inl ⟨k, rfl, true, rfl, iteT ?_⟩⟩
      exact ⟨_, rfl, _, rfl, p, CD, dx, _, _, rfl, hp, T.c_Database.cl, T.a_Database_rows, dFlds_r _ _, _, rfl, dr, _, rfl, hg, d, _, rfl, DGet.k (k := Sum.inl k) hH, q⟩
    · have hn : valV (rowsK pl ds) (Sum.inr w : Key) = none := valV_no (rowsK_keys D.dl) hno
      have hg : DGet H dr (V.str w) none := by
        rw [← hn]
        exact DGet.k (k := Sum.inr w) D.rws
      exact ⟨_, rfl, _, rfl, p, CD, dx, _, _, rfl, hp, T.c_Database.cl, T.a_Database_rows, dFlds_r _ _, _, _, rfl, .inr ⟨w, rfl, .inl ⟨dr, _, rfl, hg, false, rfl, iteF q⟩⟩⟩
end My
namespace My
open PySem L2
theorem DbAt.row {CD CS p sp de dr : Addr} {H : Hp} {pl : Plan} {ds : List Addr} {ct : List (List (Key × V))} (D : DbAt CD CS H p pl sp de dr ds ct) {i : Nat} {e : Ent} {kvs : List (Key × V)} (hp : pl[i]? = some e) (hc : ct[i]? = some kvs) :
    ∃ d, ds[i]? = some d ∧ H d = some (.dK kvs) ∧ DGet H dr (V.str e.1) (some (.ref d)) := by
  have hil : i < ds.length := by
    rw [D.dl]
    exact (List.getElem?_eq_some_iff.mp hp).1
  have hdi : ds[i]? = some ds[i] := List.getElem?_eq_getElem hil
  refine ⟨_, hdi, D.at_ i _ kvs hdi hc, ?_⟩
  rw [← rowsK_get D.sch.good.nd hp hdi]
  exact DGet.k (k := Sum.inr e.1) D.rws
def spGetRow (CD CS : Addr) : Sp := fun vs H Q _ => ∃ (p ta sp de dr : Addr) (pl : Plan) (ds : List Addr) (ct : List (List (Key × V))) (i : Nat) (e : Ent) (kvs : List (Key × V)) (k : Int) (v : V), vs = [.ref p, .ref ta] ∧
  DbAt CD CS H p pl sp de dr ds ct ∧ pl[i]? = some e ∧ ct[i]? = some kvs ∧ H ta = some (.tup [.str e.1, .int k]) ∧ valV kvs (Sum.inl k) = some v ∧ Q v H
theorem ok_Database___getitem__ {P : Program} {w : World} {K : PySem.W.Frag} {mg : Str → Option Value} {base : Heap} {CS CD XCarryError XTaken : Addr} (T : Txt K mg CS CD XCarryError XTaken) : MethOk P w K mg base 3 CD "__getitem__" (spGetRow CD CS) := by
  have c_Database_has := ok_Database__has (P := P) (w := w) (base := base) T
  refine T.d_Database___getitem__.ok T.c_Database.cl sc_Database___getitem__ (fun vs H Q E h => ?_) (fun f cdv A outer s H vs Q E hr h => ?_)
  · obtain ⟨p, ta, sp, de, dr, pl, ds, ct, i, e, kvs, k, v, rfl, _⟩ := h
    rfl
  · obtain ⟨p, ta, sp, de, dr, pl, ds, ct, i, e, kvs, k, v, rfl, D, hpi, hci, hta, hv, q⟩ := h
    obtain ⟨dx, hp⟩ := D.ob
    obtain ⟨d, hdi, hH, hg⟩ := D.row hpi hci
    refine ⟨_, (pss_cons (ps_asg (pv 1) (kPgT (K := K) (n := 2) rfl (pgs_cons (pg_name (i := 2) sc_Database___getitem__.nd rfl (by first | exact Or.inl rfl | exact Or.inr rfl)) (pgs_cons (pg_name (i := 3) sc_Database___getitem__.nd rfl (by first | exact Or.inl rfl | exact Or.inr rfl)) pgs_nil))))
      (pss_cons (ps_if (pt_not (pt_val (pe_methC (pv 0) c_Database_has (hr.mono (by decide)) (pa_cons (pv 2) (pa_cons (pv 3) pa_nil))))) (pss_one ps_never) pss_nil)
      (pss_one (ps_ret (pe_dget (hu_of hr) (pe_dget (hu_of hr) (kFld (K := K) (pv 0) rfl) (pv 2) (fun _ _ => rfl)) (pv 3) (fun _ _ => rfl)))))), ?_⟩
    refine ⟨_, rfl, ta, _, rfl, SqT.of hta, rfl, _, _, rfl, _, _, rfl, rfl, ?_⟩
    refine ⟨_, rfl, p, dx, _, rfl, hp, dFlds_no _ _ (by decide +kernel) (by decide +kernel), _, rfl, _, rfl, p, sp, de, dr, pl, ds, ct, e.1, kvs, k, rfl, D, .inl ⟨i, e, hpi, rfl, hci⟩, true, by rw [hv]; rfl, iteF ?_⟩
    refine ⟨_, rfl, p, CD, dx, _, _, rfl, hp, T.c_Database.cl, T.a_Database_rows, dFlds_r _ _, _, rfl, dr, _, rfl, hg, _, rfl, d, _, rfl, ?_, q⟩
    have h2 := DGet.k (k := Sum.inl k) hH
    rw [hv] at h2
    exact h2
end My
namespace My
open PySem L2
def spThere (CD CS : Addr) : Sp := fun vs H Q _ => ∃ (p ta sp de dr : Addr) (pl : Plan) (ds : List Addr) (ct : List (List (Key × V))) (w : Str) (kvs : List (Key × V)) (k : Int), vs = [.ref p, .ref ta] ∧
  DbAt CD CS H p pl sp de dr ds ct ∧ TabAt pl ct w kvs ∧ H ta = some (.tup [.str w, .int k]) ∧ Q (.bl (valV kvs (Sum.inl k)).isSome) H
theorem ok_Database___contains__ {P : Program} {w : World} {K : PySem.W.Frag} {mg : Str → Option Value} {base : Heap} {CS CD XCarryError XTaken : Addr} (T : Txt K mg CS CD XCarryError XTaken) : MethOk P w K mg base 3 CD "__contains__" (spThere CD CS) := by
  have c_Database_has := ok_Database__has (P := P) (w := w) (base := base) T
  refine T.d_Database___contains__.ok T.c_Database.cl sc_Database___contains__ (fun vs H Q E h => ?_) (fun f cdv A outer s H vs Q E hr h => ?_)
  · obtain ⟨p, ta, sp, de, dr, pl, ds, ct, w, kvs, k, rfl, _⟩ := h
    rfl
  · obtain ⟨p, ta, sp, de, dr, pl, ds, ct, w, kvs, k, rfl, D, hw, hta, q⟩ := h
    obtain ⟨dx, hp⟩ := D.ob
    refine ⟨_, (pss_one (ps_ret (pe_and (pe_callB (kIsi (K := K)) (by rfl) T.n_isinstance (by decide +kernel) (pa_cons (pv 1) (pa_cons (pe_bltn (v := .ty "tuple") (by rfl) T.n_tuple (by decide +kernel) rfl) pa_nil))) (pe_and (pe_cmpR op_eq (pe_callB (kLen (K := K)) (by rfl) T.n_len PySem.boot_len (pa_cons (pv 1) pa_nil)) pe_int (nomark _)) (pe_one (pe_methC (pv 0) c_Database_has (hr.mono (by decide)) (pa_cons (pe_ix (kIxT (K := K)) (pv 1) pe_int (fun _ _ => rfl)) (pa_cons (pe_ix (kIxT (K := K)) (pv 1) pe_int (fun _ _ => rfl)) pa_nil)))))))), ?_⟩
    refine ⟨_, rfl, _, _, _, _, true, rfl, ClsV.ty "tuple", TyX.base (TyOf.tup hta), kit_ty (by decide +kernel), true, rfl, iteT ?_⟩
    refine ⟨_, rfl, ta, _, rfl, .inr (SqT.of hta), rfl, true, rfl, iteT ?_⟩
    exact ⟨_, rfl, p, dx, _, rfl, hp, dFlds_no _ _ (by decide +kernel) (by decide +kernel), _, rfl, ta, _, _, _, rfl, rfl, SqT.of hta, rfl, _, rfl, ta, _, _, _, rfl, rfl, SqT.of hta, rfl, p, sp, de, dr, pl, ds, ct, w, kvs, k, rfl, D, hw, q⟩
end My
namespace My
open PySem L2
theorem RowsAt.drop {H : Hp} {kvs : List (Key × V)} {w : Nat} {k : Key} (r : RowsAt H kvs w) : RowsAt H (dropK kvs k) w := ⟨nd_dropK r.nd, fun q hq => r.row q (dropK_mem hq)⟩
def spDrop (CD CS : Addr) : Sp := fun vs H Q _ => ∃ (p sp de dr d : Addr) (pl : Plan) (ds : List Addr) (ct : List (List (Key × V))) (i : Nat) (e : Ent) (kvs : List (Key × V)) (k : Int), vs = [.ref p, .str e.1, .int k] ∧
  DbAt CD CS H p pl sp de dr ds ct ∧ pl[i]? = some e ∧ ct[i]? = some kvs ∧ ds[i]? = some d ∧ (valV kvs (Sum.inl k)).isSome = true ∧
  ∀ H', DbAt CD CS H' p pl sp de dr ds (ct.set i (dropK kvs (Sum.inl k))) → Fr1 d H H' → H' d = some (.dK (dropK kvs (Sum.inl k))) → Q .non H'
theorem ok_Database_drop {P : Program} {w : World} {K : PySem.W.Frag} {mg : Str → Option Value} {base : Heap} {CS CD XCarryError XTaken : Addr} (T : Txt K mg CS CD XCarryError XTaken) : MethOk P w K mg base 3 CD "drop" (spDrop CD CS) := by
  have c_Database_has := ok_Database__has (P := P) (w := w) (base := base) T
  refine T.d_Database_drop.ok T.c_Database.cl sc_Database_drop (fun vs H Q E h => ?_) (fun f cdv A outer s H vs Q E hr h => ?_)
  · obtain ⟨p, sp, de, dr, d, pl, ds, ct, i, e, kvs, k, rfl, _⟩ := h
    rfl
  · obtain ⟨p, sp, de, dr, d, pl, ds, ct, i, e, kvs, k, rfl, D, hpi, hci, hdi, hs, q⟩ := h
    obtain ⟨dx, hp⟩ := D.ob
    have hH := D.at_ i _ kvs hdi hci
    have hg : DGet H dr (V.str e.1) (some (.ref d)) := by
      rw [← rowsK_get D.sch.good.nd hpi hdi]
      exact DGet.k (k := Sum.inr e.1) D.rws
    refine ⟨_, (pss_cons (ps_if (pt_not (pt_val (pe_methC (pv 0) c_Database_has (hr.mono (by decide)) (pa_cons (pv 1) (pa_cons (pv 2) pa_nil))))) (pss_one ps_never) pss_nil)
      (pss_one (ps_ddel (pe_dget (hu_of hr) (kFld (K := K) (pv 0) rfl) (pv 1) (fun _ _ => rfl)) (pv 2)))), ?_⟩
    refine ⟨_, rfl, p, dx, _, rfl, hp, dFlds_no _ _ (by decide +kernel) (by decide +kernel), _, rfl, _, rfl, p, sp, de, dr, pl, ds, ct, e.1, kvs, k, rfl, D, .inl ⟨i, e, hpi, rfl, hci⟩, true, by rw [hs], iteF ?_⟩
    refine ⟨_, rfl, p, CD, dx, _, _, rfl, hp, T.c_Database.cl, T.a_Database_rows, dFlds_r _ _, _, rfl, dr, _, rfl, hg, _, rfl, d, kvs, Sum.inl k, rfl, hH, rfl, hs, ?_⟩
    exact q _ (D.set hpi hci hdi (D.ok i e kvs hpi hci).drop) ((Fr1.refl d H).at) upd_same
end My
namespace My
open PySem L2
def spHeldOf (CD CS : Addr) : Sp := fun vs H Q _ => ∃ (p sp de dr d : Addr) (pl : Plan) (ds : List Addr) (ct : List (List (Key × V))) (i : Nat) (e : Ent) (kvs : List (Key × V)), vs = [.ref p, .str e.1] ∧
  DbAt CD CS H p pl sp de dr ds ct ∧ pl[i]? = some e ∧ ct[i]? = some kvs ∧ ds[i]? = some d ∧ Q (.ref d) H
theorem ok_Database__held {P : Program} {w : World} {K : PySem.W.Frag} {mg : Str → Option Value} {base : Heap} {CS CD XCarryError XTaken : Addr} (T : Txt K mg CS CD XCarryError XTaken) : MethOk P w K mg base 2 CD "_held" (spHeldOf CD CS) := by
  have c_is_one_of := ok_is_one_of (P := P) (w := w) (base := base) T
  refine T.d_Database__held.ok T.c_Database.cl sc_Database__held (fun vs H Q E h => ?_) (fun f cdv A outer s H vs Q E hr h => ?_)
  · obtain ⟨p, sp, de, dr, d, pl, ds, ct, i, e, kvs, rfl, _⟩ := h
    rfl
  · obtain ⟨p, sp, de, dr, d, pl, ds, ct, i, e, kvs, rfl, D, hpi, hci, hdi, q⟩ := h
    obtain ⟨dx, hp⟩ := D.ob
    obtain ⟨d', hdi', hH, hg⟩ := D.row hpi hci
    rw [hdi] at hdi'
    cases hdi'
    refine ⟨_, (pss_cons (ps_if (pt_not (pt_val (pe_callC c_is_one_of (hr.mono (by decide)) (pa_cons (pv 1) (pa_cons (kFld (K := K) (pv 0) rfl) pa_nil))))) (pss_one ps_never) pss_nil)
      (pss_one (ps_ret (pe_dget (hu_of hr) (kFld (K := K) (pv 0) rfl) (pv 1) (fun _ _ => rfl))))), ?_⟩
    refine ⟨_, rfl, _, rfl, p, CD, dx, _, _, rfl, hp, T.c_Database.cl, T.a_Database_rows, dFlds_r _ _, _, _, rfl, .inr ⟨e.1, rfl, .inl ⟨dr, _, rfl, hg, true, rfl, iteF ?_⟩⟩⟩
    exact ⟨_, rfl, p, CD, dx, _, _, rfl, hp, T.c_Database.cl, T.a_Database_rows, dFlds_r _ _, _, rfl, dr, _, rfl, hg, q⟩
end My
namespace My
open PySem L2
theorem valV_some {kvs : List (Key × V)} {k : Key} (h : k ∈ kvs.map (·.1)) : ∃ v, valV kvs k = some v := by
  have h1 := valV_any k kvs
  obtain ⟨q, hq, rfl⟩ := List.mem_map.mp h
  have h2 : (kvs.any fun kv => decide (kv.1 = q.1)) = true := List.any_eq_true.mpr ⟨q, hq, decide_eq_true rfl⟩
  rw [h2] at h1
  exact Option.isSome_iff_exists.mp h1.symm
theorem valV_pair {kvs : List (Key × V)} {k : Key} {v : V} (h : valV kvs k = some v) : (k, v) ∈ kvs := by
  unfold valV at h
  obtain ⟨q, hq, rfl⟩ := Option.map_eq_some_iff.mp h
  have h2 : q.1 = k := of_decide_eq_true (List.find?_some (p := fun kv : Key × V => decide (kv.1 = k)) hq)
  rw [← h2]
  exact List.mem_of_find?_eq_some hq
theorem RowsAt.ints {H : Hp} {kvs : List (Key × V)} {w : Nat} (r : RowsAt H kvs w) : ∃ ks : List Int, kvs.map (·.1) = ks.map Sum.inl ∧ ks.length = kvs.length := by
  have h : ∀ q ∈ kvs, ∃ k : Int, q.1 = Sum.inl k := fun q hq => by
    obtain ⟨k, _, _, e, _⟩ := r.row q hq
    exact ⟨k, e⟩
  clear r
  induction kvs with
  | nil => exact ⟨[], rfl, rfl⟩
  | cons q t ih =>
    obtain ⟨ks, e, l⟩ := ih fun x hx => h x (List.mem_cons_of_mem _ hx)
    obtain ⟨k, ek⟩ := h q List.mem_cons_self
    exact ⟨k :: ks, by rw [List.map_cons, List.map_cons, e, ek], by simp [l]⟩
structure RowsList (H : Hp) (r : Addr) (kvs : List (Key × V)) (ys : List Int) : Prop where
  pm : (ys.map (Sum.inl : Int → Key)).Perm (kvs.map (·.1))
  so : ys.Pairwise (· ≤ ·)
  at_ : ∃ ts : List Addr, H r = some (.lst (ts.map V.ref)) ∧ ts.length = ys.length ∧ ∀ (i : Nat) (t : Addr) (y : Int), ts[i]? = some t → ys[i]? = some y → ∃ v, valV kvs (Sum.inl y) = some v ∧ H t = some (.tup [.int y, v])
def spRows (CD CS : Addr) : Sp := fun vs H Q _ => ∃ (p sp de dr : Addr) (pl : Plan) (ds : List Addr) (ct : List (List (Key × V))) (i : Nat) (e : Ent) (kvs : List (Key × V)), vs = [.ref p, .str e.1] ∧
  DbAt CD CS H p pl sp de dr ds ct ∧ pl[i]? = some e ∧ ct[i]? = some kvs ∧ kvs.length < 64 ∧ ∀ r ys H', H r = none → RowsList H' r kvs ys → Same H H' → Q (.ref r) H'
theorem ok_Database_rows {P : Program} {w : World} {K : PySem.W.Frag} {mg : Str → Option Value} {base : Heap} {CS CD XCarryError XTaken : Addr} (T : Txt K mg CS CD XCarryError XTaken) : MethOk P w K mg base 3 CD "rows" (spRows CD CS) := by
  have c_Database_held := ok_Database__held (P := P) (w := w) (base := base) T
  refine T.d_Database_rows.ok T.c_Database.cl sc_Database_rows (fun vs H Q E h => ?_) (fun f cdv A outer s H vs Q E hr h => ?_)
  · obtain ⟨p, sp, de, dr, pl, ds, ct, i, e, kvs, rfl, _⟩ := h
    rfl
  · obtain ⟨p, sp, de, dr, pl, ds, ct, i, e, kvs, rfl, D, hpi, hci, hkl, q⟩ := h
    obtain ⟨dx, hp⟩ := D.ob
    obtain ⟨d, hdi, hH, hg⟩ := D.row hpi hci
    obtain ⟨ks, hks, hksl⟩ := (D.ok i e kvs hpi hci).ints
    refine ⟨_, (pss_cons (ps_set (i := 2) sc_Database_rows.nd rfl (by first | exact Or.inl rfl | exact Or.inr rfl) (pe_methC (pv 0) c_Database_held (hr.mono (by decide)) (pa_cons (pv 1) pa_nil)))
      (pss_one (ps_ret (pe_lc (own := [("key", 3)]) rfl sc_Database_rows.nd (kPiL (K := K) (pe_callB (call_sortedDI rfl) (by rfl) T.n_sorted (by decide +kernel) (pa_cons (pv 2) pa_nil))) (blkOk_by (N := ["self", "table", "held", "key"]) (sc := defScope s_Database_rows) (own := [("key", 3)]) (by decide +kernel)) (fun _ _ _ _ _ => (pg_name (i := 3) sc_Database_rows.nd rfl (by first | exact Or.inl rfl | exact Or.inr rfl))) (fun _ _ _ _ _ => pts_nil) (fun _ _ _ _ _ => (pe_tup (pa_cons (pv 3) (pa_cons (pe_dget (hu_of hr) (pv 2) (pv 3) (fun _ _ => rfl)) pa_nil)))))))), ?_⟩
    refine ⟨_, rfl, p, dx, _, rfl, hp, dFlds_no _ _ (by decide +kernel) (by decide +kernel), _, rfl, p, sp, de, dr, d, pl, ds, ct, i, e, kvs, rfl, D, hpi, hci, hdi, ?_⟩
    refine ⟨_, rfl, d, kvs, ks, rfl, .inl hH, hks, by omega, fun ys l hpm hso hl => ?_⟩
    have hyl : ys.length = kvs.length := by rw [hpm.length_eq, hksl]
    have e0 := Same.upd (o := .lst (ys.map V.int)) (Same.refl H) hl
    have hll : upd H l (.lst (ys.map V.int)) l = some (.lst (ys.map V.int)) := upd_same
    generalize upd H l (.lst (ys.map V.int)) = H1 at *
    refine ⟨l, rfl, ⟨_, SqL.of hll⟩, fun D0 hD0 => lc_list (K := K) (a := l) (xs := ys.map V.int) (fun m Hi => m ≤ ys.length ∧ ∃ ts : List Addr, Hi D0 = some (.lst (ts.map V.ref)) ∧ ts.length = m ∧ (∀ (i : Nat) (t : Addr) (y : Int), ts[i]? = some t → ys[i]? = some y → ∃ v, valV kvs (Sum.inl y) = some v ∧ Hi t = some (.tup [.int y, v])) ∧ Same H1 Hi) ?_ ?_ ?_ ?_⟩
    · exact ⟨Nat.zero_le _, [], upd_same, rfl, fun i t y h => by simp at h, Same.upd (Same.refl _) hD0⟩
    · rintro m Hi _ ⟨_, _, _, _, _, e2⟩
      exact SqL.of (e2 _ _ hll)
    · rintro m x Hi hxm ⟨hm, ts, hDi, htl, hts, e2⟩
      rw [List.getElem?_map] at hxm
      obtain ⟨y, hym, rfl⟩ := Option.map_eq_some_iff.mp hxm
      have hml : m < ys.length := (List.getElem?_eq_some_iff.mp hym).1
      have hin : (Sum.inl y : Key) ∈ kvs.map (·.1) := by
        rw [hks]
        exact List.mem_map.mpr ⟨y, hpm.subset (List.mem_of_getElem? hym), rfl⟩
      obtain ⟨v, hv⟩ := valV_some hin
      have hgd : DGet Hi d (V.int y) (some v) := by
        rw [← hv]
        exact DGet.k (k := Sum.inl y) (e2 _ _ (e0 _ _ hH))
      refine ⟨rfl, tYes_if ?_⟩
      refine ⟨_, rfl, _, rfl, _, rfl, d, _, rfl, hgd, sizeL (by show 2 ≤ 100000; decide), fun t ht => ?_⟩
      have nDt : D0 ≠ t := ne_of_none hDi ht
      have hD3 : upd Hi t (.tup [.int y, v]) D0 = some (.lst (ts.map V.ref)) := by rw [upd_ne nDt]; exact hDi
      refine ⟨_, hD3, sizeLt (by rw [List.length_map]; omega), hml, ts ++ [t], by rw [upd_same, List.map_append]; rfl, by simp [htl], fun i t2 y2 h1 h2 => ?_, fun c o hc => ?_⟩
      · by_cases z : i < ts.length
        · rw [List.getElem?_append_left z] at h1
          obtain ⟨v2, a1, a2⟩ := hts i t2 y2 h1 h2
          refine ⟨v2, a1, ?_⟩
          rw [upd_ne (fun w => by rw [w, hDi] at a2; cases a2), upd_ne (ne_of_none a2 ht)]
          exact a2
        · have hi2 := (List.getElem?_eq_some_iff.mp h1).1
          rw [List.length_append] at hi2
          have hil : i = ts.length := by
            simp at hi2
            omega
          subst hil
          rw [List.getElem?_append_right (Nat.le_refl _), Nat.sub_self] at h1
          have h1 : t = t2 := Option.some.inj h1
          subst h1
          rw [htl, hym] at h2
          have h2 : y = y2 := Option.some.inj h2
          subst h2
          exact ⟨v, hv, by rw [upd_ne nDt.symm, upd_same]⟩
      · have h3 := e2 c o hc
        rw [upd_ne (ne_of_none hc hD0), upd_ne (ne_of_none h3 ht)]
        exact h3
    · rintro Hi ⟨_, ts, hDi, htl, hts, e2⟩
      rw [List.length_map] at htl
      refine q D0 ys Hi (e0.free hD0) ⟨?_, hso, ts, hDi, htl, hts⟩ (e0.trans e2)
      rw [hks]
      exact hpm.map _
end My
namespace My
open PySem L2
def spWholeL : Sp := fun vs H Q _ => ∃ i : Int, vs = [.int i] ∧ Q (.bl true) H
theorem ok_law_whole {P : Program} {w : World} {K : PySem.W.Frag} {mg : Str → Option Value} {base : Heap} {CS CD XCarryError XTaken : Addr} (T : Txt K mg CS CD XCarryError XTaken) : CallOk P w K mg base 1 "_law_whole" spWholeL := by
  refine T.d_law_whole.ok sc_law_whole (fun vs H Q E h => ?_) (fun f cdv A outer s H vs Q E hr h => ?_)
  · obtain ⟨v, rfl, _⟩ := h
    rfl
  · obtain ⟨i, rfl, q⟩ := h
    refine ⟨_, (pss_one (ps_ret (pe_and (pe_callB (kIsi (K := K)) (by rfl) T.n_isinstance (by decide +kernel) (pa_cons (pv 0) (pa_cons (pe_bltn (v := .ty "int") (by rfl) T.n_int (by decide +kernel) rfl) pa_nil))) (pe_one (pe_not (pe_callB (kIsi (K := K)) (by rfl) T.n_isinstance (by decide +kernel) (pa_cons (pv 0) (pa_cons (pe_bltn (v := .ty "bool") (by rfl) T.n_bool (by decide +kernel) rfl) pa_nil)))))))), ?_⟩
    refine ⟨_, rfl, _, _, _, _, true, rfl, ClsV.ty "int", TyX.base (TyOf.int i), kit_ty (by decide +kernel), true, rfl, iteT ?_⟩
    exact ⟨_, rfl, _, _, _, _, false, rfl, ClsV.ty "bool", TyX.base (TyOf.int i), kit_ty (by decide +kernel), false, rfl, q⟩
end My
namespace My
open PySem L2
theorem cellD_fine (c : Option Int) : Fine 1 (cellD c) := by
  cases c with
  | none => exact Fine.none
  | some i => exact Fine.int i
theorem rowD_fine (lab : Int) (cs : List (Option Int)) : Fine 3 (rowD lab cs) := Fine.tup (n := 2) fun d hd => by
  rcases List.mem_cons.mp hd with rfl | hd
  · exact (Fine.int _).up (by decide)
  · rw [List.mem_singleton.mp hd]
    exact Fine.tup (n := 1) fun d hd => by
      obtain ⟨c, _, rfl⟩ := List.mem_map.mp hd
      exact cellD_fine c
theorem RowsEq.takenL {H : Hp} {a b : List (Key × V)} {k lab : Int} (h : RowsEq H a b) (nd : (a.map (·.1)).Nodup) (t : TakenAt H a k lab) : TakenAt H b k lab := by
  obtain ⟨q, hq, hk, cs, hT⟩ := t
  obtain ⟨v', lab2, cs2, h1, h2, h3⟩ := h.row _ _ (vMem nd hq)
  have := rowD_lab hT h2
  subst this
  exact ⟨(q.1, v'), vPair h1, hk, cs2, h3⟩
theorem RowsEq.takenR {H : Hp} {a b : List (Key × V)} {k lab : Int} (h : RowsEq H a b) (nd : (a.map (·.1)).Nodup) (t : TakenAt H b k lab) : TakenAt H a k lab := by
  obtain ⟨q, hq, hk, cs, hT⟩ := t
  have hm : q.1 ∈ a.map (·.1) := by
    rw [← h.keys]
    exact List.mem_map.mpr ⟨q, hq, rfl⟩
  obtain ⟨v, hv⟩ := vSome hm
  obtain ⟨v', lab2, cs2, h1, h2, h3⟩ := h.row _ _ hv
  have ndb : (b.map (·.1)).Nodup := by rw [h.keys]; exact nd
  have h4 := vMem ndb hq
  rw [h1] at h4
  cases h4
  have := rowD_lab hT h3
  subst this
  exact ⟨(q.1, v), vPair hv, hk, cs2, h2⟩
theorem RowsEq.rows {H : Hp} {a b : List (Key × V)} {w : Nat} (h : RowsEq H a b) (r : RowsAt H a w) : RowsAt H b w := by
  refine ⟨by rw [h.keys]; exact r.nd, fun q hq => ?_⟩
  have hm : q.1 ∈ a.map (·.1) := by
    rw [← h.keys]
    exact List.mem_map.mpr ⟨q, hq, rfl⟩
  obtain ⟨v, hv⟩ := vSome hm
  obtain ⟨v', lab2, cs2, h1, h2, h3⟩ := h.row _ _ hv
  have ndb : (b.map (·.1)).Nodup := by rw [h.keys]; exact r.nd
  have h4 := vMem ndb hq
  rw [h1] at h4
  cases h4
  obtain ⟨k, lab, cs, ek, hk, hT, hg⟩ := r.row _ (vPair hv)
  have e1 := rowD_lab hT h2
  have e2 := rowD_cells2 hT h2
  subst e1
  subst e2
  exact ⟨k, lab, cs, ek, hk, h3, hg⟩
def spIsRow : Sp := fun vs H Q _ => ∃ (v v' : V) (lab : Int) (cs : List (Option Int)), vs = [v, v'] ∧ Td H v (rowD lab cs) ∧ Td H v' (rowD lab cs) ∧ cs.length ≤ 1000 ∧ Q (.bl true) H
theorem ok_law_is_row {P : Program} {w : World} {K : PySem.W.Frag} {mg : Str → Option Value} {base : Heap} {CS CD XCarryError XTaken : Addr} (T : Txt K mg CS CD XCarryError XTaken) : CallOk P w K mg base 2 "_law_is_row" spIsRow := by
  have c_law_whole := ok_law_whole (P := P) (w := w) (base := base) T
  refine T.d_law_is_row.ok sc_law_is_row (fun vs H Q E h => ?_) (fun f cdv A outer s H vs Q E hr h => ?_)
  · obtain ⟨v, v', lab, cs, rfl, _⟩ := h
    rfl
  · obtain ⟨v, v', lab, cs, rfl, hT, hT2, hcl, q⟩ := h
    obtain ⟨t2, tc2, xs2, rfl, ht2, htc2, hx2⟩ := rowD_inv hT2
    have hl2 : xs2.length = cs.length := by rw [hx2.length, List.length_map]
    obtain ⟨t, tc, xs, rfl, ht, htc, hx⟩ := rowD_inv hT
    have hl : xs.length = cs.length := by rw [hx.length, List.length_map]
    refine ⟨_, (pss_cons (ps_if (PW.pt (pw_or (pt_not (pt_val (pe_callB (kIsi (K := K)) (by rfl) T.n_isinstance (by decide +kernel) (pa_cons (pv 0) (pa_cons (pe_bltn (v := .ty "tuple") (by rfl) T.n_tuple (by decide +kernel) rfl) pa_nil))))) (pw_or (pt_cmpR op_ne (pe_callB (kLen (K := K)) (by rfl) T.n_len PySem.boot_len (pa_cons (pv 0) pa_nil)) pe_int (nomark _)) (pw_or1 (pt_not (pt_val (pe_callC c_law_whole (hr.mono (by decide)) (pa_cons (pe_ix (kIxT (K := K)) (pv 0) pe_int (fun _ _ => rfl)) pa_nil)))))))) (pss_one (ps_ret pe_bl)) pss_nil)
      (pss_cons (ps_if (PW.pt (pw_or (pt_not (pt_val (pe_callB (kIsi (K := K)) (by rfl) T.n_isinstance (by decide +kernel) (pa_cons (pe_ix (kIxT (K := K)) (pv 0) pe_int (fun _ _ => rfl)) (pa_cons (pe_bltn (v := .ty "tuple") (by rfl) T.n_tuple (by decide +kernel) rfl) pa_nil))))) (pw_or1 (pt_cmpR op_ne (pe_callB (kLen (K := K)) (by rfl) T.n_len PySem.boot_len (pa_cons (pe_ix (kIxT (K := K)) (pv 0) pe_int (fun _ _ => rfl)) pa_nil)) (pe_callB (kLen (K := K)) (by rfl) T.n_len PySem.boot_len (pa_cons (pe_ix (kIxT (K := K)) (pv 1) pe_int (fun _ _ => rfl)) pa_nil)) (nomark _))))) (pss_one (ps_ret pe_bl)) pss_nil)
      (pss_cons (ps_for PassesOwn.never rfl (kPiT (K := K) (pe_ix (kIxT (K := K)) (pv 0) pe_int (fun _ _ => rfl))) (pg_name (i := 2) sc_law_is_row.nd rfl (by first | exact Or.inl rfl | exact Or.inr rfl))
      (pss_one (ps_if (PW.pt (pw_and (pt_cmpR op_notN (pv 2) pe_non (nomark _)) (pw_and1 (pt_not (pt_val (pe_callC c_law_whole (hr.mono (by decide)) (pa_cons (pv 2) pa_nil))))))) (pss_one (ps_ret pe_bl)) pss_nil)))
      (pss_one (ps_ret (pe_cmpR (kEqD (K := K) hr.units) (pv 0) (pv 1) (nomark _))))))), ?_⟩
    refine ⟨_, rfl, _, _, _, _, true, rfl, ClsV.ty "tuple", TyX.base (TyOf.tup ht), kit_ty (by decide +kernel), _, rfl, iteF ?_⟩
    refine ⟨_, rfl, t, _, rfl, .inr (SqT.of ht), rfl, false, rfl, iteF ?_⟩
    refine ⟨_, rfl, t, _, _, _, rfl, rfl, SqT.of ht, rfl, lab, rfl, true, rfl, iteF ?_⟩
    refine ⟨_, rfl, t, _, _, _, rfl, rfl, SqT.of ht, rfl, _, _, _, _, true, rfl, ClsV.ty "tuple", TyX.base (TyOf.tup htc), kit_ty (by decide +kernel), _, rfl, iteF ?_⟩
    refine ⟨_, rfl, t, _, _, _, rfl, rfl, SqT.of ht, rfl, tc, _, rfl, .inr (SqT.of htc), _, rfl, t2, _, _, _, rfl, rfl, SqT.of ht2, rfl, tc2, _, rfl, .inr (SqT.of htc2), rfl, false, by simp [hl, hl2], iteF ?_⟩
    refine ⟨_, rfl, t, _, _, _, rfl, rfl, SqT.of ht, rfl, tc, rfl, ⟨_, SqT.of htc⟩, for_tup (K := K) (a := tc) (xs := xs) (fun i σ Hi => ∃ o2 : Option V, σ = [some (.ref t), some (.ref t2), o2] ∧ Hi = H) ?_ ?_ ?_ ?_⟩
    · exact ⟨_, rfl, rfl⟩
    · rintro i σ Hi _ ⟨_, _, rfl⟩
      exact SqT.of htc
    · rintro i x σ Hi hxi ⟨o2, rfl, rfl⟩
      obtain ⟨c, hc, hTd⟩ := hx.getM hxi
      obtain rfl := cellD_inv hTd
      cases c with
      | none => exact ⟨_, rfl, rfl, false, rfl, iteF (iteF ⟨_, rfl, rfl⟩)⟩
      | some y => exact ⟨_, rfl, rfl, true, rfl, iteT ⟨_, rfl, y, rfl, true, rfl, iteF ⟨_, rfl, rfl⟩⟩⟩
    · rintro σ Hi ⟨o2, rfl, rfl⟩
      have hd := Td.dp (K := K) hT
      have hd2 := Td.dp (K := K) hT2
      refine ⟨_, rfl, _, rfl, _, _, hd, hd2, (rowD_fine lab cs).sh (by decide), (rowD_fine lab cs).sh (by decide), ?_⟩
      rw [(rowD_fine lab cs).self]
      exact q
end My
namespace My
open PySem L2
def spAreRows : Sp := fun vs H Q _ => ∃ (r d : Addr) (kvs kb : List (Key × V)) (ys : List Int) (w : Nat), vs = [.ref r, .ref d] ∧ RowsList H r kvs ys ∧ H d = some (.dK kb) ∧ RowsEq H kvs kb ∧ RowsAt H kvs w ∧ w ≤ 1000 ∧ kvs.length < 64 ∧ ∀ H', Same H H' → Q (.bl true) H'
theorem ok_law_are_rows {P : Program} {w : World} {K : PySem.W.Frag} {mg : Str → Option Value} {base : Heap} {CS CD XCarryError XTaken : Addr} (T : Txt K mg CS CD XCarryError XTaken) : CallOk P w K mg base 3 "_law_are_rows" spAreRows := by
  have c_law_is_row := ok_law_is_row (P := P) (w := w) (base := base) T
  have c_law_whole := ok_law_whole (P := P) (w := w) (base := base) T
  refine T.d_law_are_rows.ok sc_law_are_rows (fun vs H Q E h => ?_) (fun f cdv A outer s H vs Q E hr h => ?_)
  · obtain ⟨r, d, kvs, kb, ys, w, rfl, _⟩ := h
    rfl
  · obtain ⟨r, d, kvs, kb, ys, w, rfl, R, hd, hEq, hr0, hw, hkl, q⟩ := h
    obtain ⟨ts, hrl, htl, hts⟩ := R.at_
    obtain ⟨ks, hks, hksl⟩ := hr0.ints
    have hyl : ys.length = kvs.length := by
      have := R.pm.length_eq
      rw [List.length_map, List.length_map] at this
      exact this
    refine ⟨_, (pss_cons (ps_if (PW.pt (pw_or (pt_not (pt_val (pe_callB (kIsi (K := K)) (by rfl) T.n_isinstance (by decide +kernel) (pa_cons (pv 0) (pa_cons (pe_bltn (v := .ty "list") (by rfl) T.n_list (by decide +kernel) rfl) pa_nil))))) (pw_or1 (pt_cmpR op_ne (pe_callB (kLen (K := K)) (by rfl) T.n_len PySem.boot_len (pa_cons (pv 0) pa_nil)) (pe_callB call_lenD (by rfl) T.n_len PySem.boot_len (pa_cons (pv 1) pa_nil)) (nomark _))))) (pss_one (ps_ret pe_bl)) pss_nil)
      (pss_cons (ps_set (i := 2) sc_law_are_rows.nd rfl (by first | exact Or.inl rfl | exact Or.inr rfl) pe_int)
      (pss_cons (ps_for PassesOwn.never rfl (kPiL (K := K) (pe_callB (call_sortedDI rfl) (by rfl) T.n_sorted (by decide +kernel) (pa_cons (pv 1) pa_nil))) (pg_name (i := 3) sc_law_are_rows.nd rfl (by first | exact Or.inl rfl | exact Or.inr rfl))
      (pss_cons (ps_set (i := 4) sc_law_are_rows.nd rfl (by first | exact Or.inl rfl | exact Or.inr rfl) (pe_ix (kIxL (K := K)) (pv 0) (pv 2) (fun _ _ => rfl)))
          (pss_cons (ps_set (i := 2) sc_law_are_rows.nd rfl (by first | exact Or.inl rfl | exact Or.inr rfl) (pe_op op_add (pv 2) pe_int))
          (pss_cons (ps_if (PW.pt (pw_or (pt_not (pt_val (pe_callB (kIsi (K := K)) (by rfl) T.n_isinstance (by decide +kernel) (pa_cons (pv 4) (pa_cons (pe_bltn (v := .ty "tuple") (by rfl) T.n_tuple (by decide +kernel) rfl) pa_nil))))) (pw_or (pt_cmpR op_ne (pe_callB (kLen (K := K)) (by rfl) T.n_len PySem.boot_len (pa_cons (pv 4) pa_nil)) pe_int (nomark _)) (pw_or1 (pt_not (pt_val (pe_callC c_law_whole (hr.mono (by decide)) (pa_cons (pe_ix (kIxT (K := K)) (pv 4) pe_int (fun _ _ => rfl)) pa_nil)))))))) (pss_one (ps_ret pe_bl)) pss_nil)
          (pss_one (ps_if (PW.pt (pw_or (pt_cmpR op_ne (pe_ix (kIxT (K := K)) (pv 4) pe_int (fun _ _ => rfl)) (pv 3) (nomark _)) (pw_or1 (pt_not (pt_val (pe_callC c_law_is_row (hr.mono (by decide)) (pa_cons (pe_ix (kIxT (K := K)) (pv 4) pe_int (fun _ _ => rfl)) (pa_cons (pe_dget (hu_of hr) (pv 1) (pv 3) (fun _ _ => rfl)) pa_nil)))))))) (pss_one (ps_ret pe_bl)) pss_nil))))))
      (pss_one (ps_ret pe_bl))))), ?_⟩
    refine ⟨_, rfl, _, _, _, _, true, rfl, ClsV.ty "list", TyX.base (TyOf.lst hrl), kit_ty (by decide +kernel), _, rfl, iteF ?_⟩
    refine ⟨_, rfl, r, _, rfl, .inl (SqL.of hrl), _, rfl, d, kb, rfl, hd, rfl, false, by rw [List.length_map, htl, hyl, hEq.len]; simp, iteF ?_⟩
    refine ⟨_, rfl, d, kb, ks, rfl, .inl hd, by rw [hEq.keys]; exact hks, by omega, fun zs l hpm hso hl => ?_⟩
    have hzy : zs = ys := by
      refine sorted_one (hpm.trans ?_) hso R.so
      have h1 := R.pm
      rw [hks] at h1
      have h2 := h1.map (fun k : Key => match k with | .inl i => i | .inr _ => 0)
      rw [List.map_map, List.map_map] at h2
      have e1 : ((fun k : Key => match k with | .inl i => i | .inr _ => 0) ∘ (Sum.inl : Int → Key)) = id := rfl
      rw [e1, List.map_id, List.map_id] at h2
      exact h2.symm
    subst hzy
    have e0 := Same.upd (o := .lst (zs.map V.int)) (Same.refl H) hl
    have hll : upd H l (.lst (zs.map V.int)) l = some (.lst (zs.map V.int)) := upd_same
    generalize upd H l (.lst (zs.map V.int)) = H1 at *
    refine ⟨l, rfl, ⟨_, SqL.of hll⟩, for_list (K := K) (a := l) (xs := zs.map V.int) (fun m σ Hi => ∃ o3 o4 : Option V, σ = [some (.ref r), some (.ref d), some (.int m), o3, o4] ∧ m ≤ zs.length ∧ Same H1 Hi) ?_ ?_ ?_ ?_⟩
    · exact ⟨none, none, rfl, Nat.zero_le _, Same.refl _⟩
    · rintro m σ Hi _ ⟨_, _, _, _, e⟩
      exact SqL.of (e _ _ hll)
    · rintro m x σ Hi hxm ⟨o3, o4, rfl, hm, e⟩
      rw [List.getElem?_map] at hxm
      obtain ⟨y, hym, rfl⟩ := Option.map_eq_some_iff.mp hxm
      have hml : m < zs.length := (List.getElem?_eq_some_iff.mp hym).1
      obtain ⟨t, htm⟩ : ∃ t, ts[m]? = some t := ⟨_, List.getElem?_eq_getElem (by omega)⟩
      obtain ⟨v, hv, hHt⟩ := hts m t y htm hym
      have e2 := e0.trans e
      obtain ⟨k2, lab, cs, ek, _, hTv, hg⟩ := hr0.row (Sum.inl y, v) (valV_pair hv)
      have hdi := e2 _ _ hd
      obtain ⟨v', lab2, cs2, hv', hTa, hTb⟩ := hEq.row _ _ hv
      have hgd : DGet Hi d (V.int y) (some v') := by
        rw [← hv']
        exact DGet.k (k := Sum.inl y) hdi
      refine ⟨_, rfl, _, rfl, r, _, _, _, rfl, rfl, SqL.of (e2 _ _ hrl), atI_nat (by rw [List.getElem?_map, htm]; rfl), ?_⟩
      refine ⟨_, rfl, _, _, rfl, rfl, ?_⟩
      have ht2 := e2 _ _ hHt
      refine ⟨_, rfl, _, _, _, _, true, rfl, ClsV.ty "tuple", TyX.base (TyOf.tup ht2), kit_ty (by decide +kernel), _, rfl, iteF ?_⟩
      refine ⟨_, rfl, t, _, rfl, .inr (SqT.of ht2), rfl, false, rfl, iteF ?_⟩
      refine ⟨_, rfl, t, _, _, _, rfl, rfl, SqT.of ht2, rfl, y, rfl, true, rfl, iteF ?_⟩
      refine ⟨_, rfl, t, _, _, _, rfl, rfl, SqT.of ht2, rfl, _, rfl, rfl, false, by simp, iteF ?_⟩
      refine ⟨_, rfl, t, _, _, _, rfl, rfl, SqT.of ht2, rfl, _, rfl, _, rfl, d, _, rfl, hgd, v, v', lab2, cs2, rfl, hTa.kt_same e2, hTb.kt_same e2, by rw [rowD_cells2 hTv hTa] at hg; rw [hg.len]; exact hw, true, rfl, iteF ?_⟩
      exact ⟨_, _, rfl, hml, e⟩
    · rintro σ Hi ⟨o3, o4, rfl, _, e⟩
      exact q _ (e0.trans e)
end My
namespace My
open PySem L2
def spLTaken : Sp := fun vs H Q _ => ∃ (d : Addr) (k lab : Int) (u : Bool) (kvs : List (Key × V)) (w : Nat), vs = [.ref d, .int k, .int lab, .bl u] ∧ H d = some (.dK kvs) ∧ RowsAt H kvs w ∧ kvs.length ≤ 10000 ∧
  ∀ b H', Same H H' → (b = true → u = true ∧ TakenAt H kvs k lab) → (b = false → u = true → ¬ TakenAt H kvs k lab) → Q (.bl b) H'
theorem ok_law_taken {P : Program} {w : World} {K : PySem.W.Frag} {mg : Str → Option Value} {base : Heap} {CS CD XCarryError XTaken : Addr} (T : Txt K mg CS CD XCarryError XTaken) : CallOk P w K mg base 1 "_law_taken" spLTaken := by
  refine T.d_law_taken.ok sc_law_taken (fun vs H Q E h => ?_) (fun f cdv A outer s H vs Q E hr h => ?_)
  · obtain ⟨d, k, lab, u, kvs, w, rfl, _⟩ := h
    rfl
  · obtain ⟨d, k, lab, u, kvs, w, rfl, hH, hrow, hkl, q⟩ := h
    refine ⟨_, (pss_one (ps_ret (pe_and (pv 3) (pe_one (pe_callB (kAny (K := K) rfl) (by rfl) T.n_any (by decide +kernel) (pa_cons (pe_lock (pe_lc (own := [("place", 4)]) rfl sc_law_taken.nd (pi_keys (pv 0)) (blkOk_by (N := ["rows", "key", "label", "unique", "place"]) (sc := defScope s_law_taken) (own := [("place", 4)]) (by decide +kernel)) (fun _ _ _ _ _ => (pg_name (i := 4) sc_law_taken.nd rfl (by first | exact Or.inl rfl | exact Or.inr rfl))) (fun _ _ _ _ _ => (pts_one (pt_cmpR op_ne (pv 4) (pv 1) (nomark _)))) (fun _ _ _ _ _ => (pe_cmpR op_eq (pe_ix (kIxT (K := K)) (pe_dget (hu_of hr) (pv 0) (pv 4) (fun _ _ => rfl)) pe_int (fun _ _ => rfl)) (pv 2) (nomark _))))) pa_nil)))))), ?_⟩
    refine ⟨_, rfl, u, rfl, ?_⟩
    cases u with
    | false => exact iteF (q false H (Same.refl H) (fun z => by cases z) (fun _ z => by cases z))
    | true =>
      refine iteT ?_
      refine ⟨d, .dK kvs, hH, trivial, fun od => ⟨_, rfl, d, od, rfl, .inl ⟨kvs, upd_same, fun L hL => lc_keys (o := od) (d := d) (kvs := kvs) (fun j Hj => ∃ bs : List Bool, Hj L = some (.lst (bs.map V.bl)) ∧ bs.length ≤ j ∧ (bs.any id = true → TakenAt H kvs k lab) ∧ (∀ t < j, ∀ z, kvs[t]? = some z → z.1 ≠ Sum.inl k → ∀ cs, Td H z.2 (rowD lab cs) → bs.any id = true) ∧ Same (upd H d (.frz od (.dK kvs))) Hj) ?_ ?_ ?_ ?_⟩⟩⟩
      · exact ⟨[], upd_same, Nat.zero_le _, (fun z => by cases z), fun t h => absurd h (Nat.not_lt_zero _), Same.upd (Same.refl _) hL⟩
      · rintro j Hj _ ⟨_, _, _, _, _, e2⟩
        exact e2 d _ upd_same
      · rintro j kk v Hj hkj ⟨bs, hl, hll, h1, h2, e2⟩
        have hjl : j < kvs.length := (List.getElem?_eq_some_iff.mp hkj).1
        have hm := List.mem_of_getElem? hkj
        obtain ⟨k2, lab2, cs2, rfl, _, hT, _⟩ := hrow.row _ hm
        refine ⟨rfl, _, rfl, _, rfl, rfl, !decide ((V.int k2) = V.int k), rfl, ?_⟩
        by_cases c : k2 = k
        · subst c
          rw [decide_eq_true rfl]
          refine iteF ⟨bs, hl, by omega, h1, fun t ht z hz hne cs hT2 => ?_, e2⟩
          rcases Nat.lt_succ_iff_lt_or_eq.mp ht with h | rfl
          · exact h2 t h z hz hne cs hT2
          · rw [hkj] at hz
            cases hz
            exact absurd rfl hne
        · have c' : ¬ (V.int k2 = V.int k) := fun z => c (V.int.inj z)
          rw [decide_eq_false c']
          refine iteT ?_
          obtain ⟨t, tc, xs, hve, ht, htc, hx⟩ := rowD_inv hT
          have hve : v = .ref t := hve
          subst hve
          have hgd : DGet Hj d (V.int k2) (some (.ref t)) := .inl ⟨kvs, Sum.inl k2, .inr ⟨od, e2 d _ upd_same⟩, rfl, (valV_at hrow.nd hkj).symm⟩
          have htj : Hj t = some (.tup [V.int lab2, .ref tc]) := e2 t _ (Same.locked hH t _ ht)
          refine ⟨_, rfl, _, rfl, d, _, rfl, hgd, t, _, _, _, rfl, rfl, SqT.of htj, rfl, _, rfl, rfl, ?_⟩
          refine ⟨_, hl, sizeLt (by rw [List.length_map]; omega), bs ++ [decide (V.int lab2 = V.int lab)], by rw [upd_same, List.map_append]; rfl, by simp; omega, fun ha => ?_, fun t2 ht2 z hz hne cs hT2 => ?_, Same.upd e2 hL⟩
          · rw [List.any_append, Bool.or_eq_true] at ha
            rcases ha with h | h
            · exact h1 h
            · have hd : V.int lab2 = V.int lab := by simpa using h
              have hd := V.int.inj hd
              subst hd
              exact ⟨_, hm, fun z => c (Sum.inl.inj z), cs2, hT⟩
          · rw [List.any_append, Bool.or_eq_true]
            rcases Nat.lt_succ_iff_lt_or_eq.mp ht2 with h | rfl
            · exact .inl (h2 t2 h z hz hne cs hT2)
            · rw [hkj] at hz
              cases hz
              rw [rowD_lab hT2 hT]
              right
              simp
      · rintro Hj ⟨bs, hl, hll, h1, h2, e2⟩
        have hdj : Hj d = some (.frz od (.dK kvs)) := e2 d _ upd_same
        have nLd : L ≠ d := fun z => by
          rw [z, hdj] at hl
          cases hl
        refine ⟨hdj, L, bs, rfl, SqL.of (by rw [upd_ne nLd]; exact hl), ?_⟩
        refine q _ _ (Same.unlock e2 hH) (fun z => ⟨rfl, h1 z⟩) (fun z _ => ?_)
        rintro ⟨w2, hw, hne, cs, hT⟩
        obtain ⟨t, ht, et⟩ := List.getElem_of_mem hw
        have := h2 t ht w2 (by rw [List.getElem?_eq_getElem ht, et]) hne cs hT
        rw [this] at z
        cases z
end My
namespace My
open PySem L2
def spLSet (CD CS : Addr) : Sp := fun vs H Q _ => ∃ (p sp de dr d : Addr) (v : V) (pl : Plan) (ds : List Addr) (ct : List (List (Key × V))) (i : Nat) (e : Ent) (kvs : List (Key × V)) (k lab : Int) (cs : List (Option Int)), vs = [.ref p, .str e.1, .int k, v] ∧
  DbAt CD CS H p pl sp de dr ds ct ∧ pl[i]? = some e ∧ ct[i]? = some kvs ∧ ds[i]? = some d ∧ kvs.length ≤ 10000 ∧ 1 ≤ k ∧ Td H v (rowD lab cs) ∧ GoodRow e.2.2.length lab cs ∧
  (¬ (e.2.1 = true ∧ TakenAt H kvs k lab) → ∀ H' L, H L = none → H' L = some (.lst []) → DbAt CD CS H' p pl sp de dr ds (ct.set i (putK kvs (Sum.inl k) v)) → Fr1 d H H' → H' d = some (.dK (putK kvs (Sum.inl k) v)) → Q (.ref L) H') ∧
  (e.2.1 = true ∧ TakenAt H kvs k lab → ∀ H' L, Same H H' → H L = none → H' L = some (.lst [.str e.1, .int lab]) → Q (.ref L) H')
theorem TakenAt.back {H H' : Hp} {kvs : List (Key × V)} {k lab : Int} {w : Nat} (R : RowsAt H kvs w) (e : Same H H') : TakenAt H' kvs k lab → TakenAt H kvs k lab := by
  rintro ⟨z, hz, hne, cs2, hT⟩
  obtain ⟨k2, lab2, cs3, _, _, hT3, _⟩ := R.row z hz
  have : lab2 = lab := rowD_lab (hT3.kt_same e) hT
  subst this
  exact ⟨z, hz, hne, cs3, hT3⟩
theorem TakenAt.same {H H' : Hp} {kvs : List (Key × V)} {k lab : Int} (e : Same H H') : TakenAt H kvs k lab → TakenAt H' kvs k lab := by
  rintro ⟨z, hz, hne, cs2, hT⟩
  exact ⟨z, hz, hne, cs2, hT.kt_same e⟩
theorem ok_law_set {P : Program} {w : World} {K : PySem.W.Frag} {mg : Str → Option Value} {base : Heap} {CS CD XCarryError XTaken : Addr} (T : Txt K mg CS CD XCarryError XTaken) : CallOk P w K mg base 6 "_law_set" (spLSet CD CS) := by
  have c_Database_setitem__ := ok_Database___setitem__ (P := P) (w := w) (base := base) T
  refine T.d_law_set.ok sc_law_set (fun vs H Q E h => ?_) (fun f cdv A outer s H vs Q E hr h => ?_)
  · obtain ⟨p, sp, de, dr, d, v, pl, ds, ct, i, e, kvs, k, lab, cs, rfl, _⟩ := h
    rfl
  · obtain ⟨p, sp, de, dr, d, v, pl, ds, ct, i, e, kvs, k, lab, cs, rfl, D, hpi, hci, hdi, hkl, hk, hv, g, q1, q2⟩ := h
    obtain ⟨dx, hp⟩ := D.ob
    refine ⟨_, (pss_cons (ps_set (i := 4) sc_law_set.nd rfl (by first | exact Or.inl rfl | exact Or.inr rfl) (pe_lst pa_nil))
      (pss_cons (ps_try_as (i := 5) rfl rfl sc_law_set.nd rfl rfl ⟨rfl, by decide, .inl T.e_Taken.mg⟩ takes0 (fun W pn xe tk _ => (pss_one (ps_asg (pv 3) (pg_subX (pv 0) (pe_tup (pa_cons (pv 1) (pa_cons (pv 2) pa_nil))) c_Database_setitem__ (hr.mono (by decide)) T.q_Database tk)))) (fun a oe cls d pn hz hf => (pss_one (ps_set (i := 4) sc_law_set.nd rfl (by first | exact Or.inl rfl | exact Or.inr rfl) (pe_lst (pa_cons (pe_xf T.e_Taken.xf (T.e_Taken.no _ (by simp)) hz hf (pv 5)) (pa_cons (pe_xf T.e_Taken.xf (T.e_Taken.no _ (by simp)) hz hf (pv 5)) pa_nil)))))))
      (pss_one (ps_ret (pv 4))))), ?_⟩
    refine ⟨sizeL (by show 0 ≤ 100000; decide), fun L hL => ?_⟩
    have t1 := Same.upd (o := .lst []) (Same.refl H) hL
    have hLL : upd H L (.lst []) L = some (.lst []) := upd_same
    generalize upd H L (.lst []) = H1 at *
    refine ⟨_, rfl, _, rfl, _, rfl, _, rfl, sizeL (by show 2 ≤ 100000; decide), fun ta hta => ?_⟩
    have t2 := Same.upd (o := .tup [.str e.1, .int k]) (Same.refl H1) hta
    have hta2 : upd H1 ta (.tup [.str e.1, .int k]) ta = some (.tup [.str e.1, .int k]) := upd_same
    generalize upd H1 ta (.tup [.str e.1, .int k]) = H2 at *
    have t12 := t1.trans t2
    have R := D.ok i e kvs hpi hci
    have hdH := D.at_ i d kvs hdi hci
    refine ⟨p, dx, _, rfl, t12 _ _ hp, p, ta, sp, de, dr, d, v, pl, ds, ct, i, e, kvs, k, lab, cs, rfl, D.same t12, hpi, hci, hdi, hkl, hta2, hk, hv.kt_same t12, g, fun hn H3 D3 f3 h3 => ?_, fun ht H3 x e3 hx h3 => ?_⟩
    · refine ⟨_, rfl, q1 (fun z => hn ⟨z.1, z.2.same t12⟩) _ L hL (f3 _ _ (fun z => ?_) (t2 _ _ hLL)) D3 ((Fr1.of t12).trans f3) h3⟩
      rw [z, hdH] at hL
      cases hL
    · refine ⟨true, T.e_Taken.exm T.s_Taken_Taken, fun _ a ha => ?_, fun z => Bool.noConfusion z⟩
      refine ⟨_, rfl, rfl, rfl, x, _, _, rfl, h3, xdS (by decide +kernel) xd1, _, rfl, rfl, rfl, x, _, _, rfl, h3, xd1, sizeL (by show 2 ≤ 100000; decide), fun M hM => ?_⟩
      have t123 := t12.trans e3
      exact ⟨_, rfl, q2 ⟨ht.1, ht.2.back R t12⟩ _ M (Same.upd t123 (t123.free hM)) (t123.free hM) upd_same⟩
end My
namespace My
open PySem L2
def mkPl (ws : List Str) (bs : List Bool) : Plan := (ws.zip bs).map fun x => (x.1, x.2, [])
theorem mkPl_names {ws : List Str} {bs : List Bool} (h : ws.length = bs.length) : (mkPl ws bs).map (·.1) = ws := by
  unfold mkPl
  rw [List.map_map]
  show (ws.zip bs).map (fun x => x.1) = ws
  exact List.map_fst_zip (by omega)
theorem mkPl_len {ws : List Str} {bs : List Bool} (h : ws.length = bs.length) : (mkPl ws bs).length = ws.length := by
  unfold mkPl
  rw [List.length_map, List.length_zip]
  omega
theorem mkPl_good {ws : List Str} {bs : List Bool} (h : ws.length = bs.length) (nd : ws.Nodup) (nm : ∀ w ∈ ws, Nm w) (lo : 1 ≤ ws.length) (hi : ws.length ≤ 5) : Good (mkPl ws bs) := by
  refine ⟨by rw [mkPl_len h]; exact lo, by rw [mkPl_len h]; exact hi, fun e he => ?_, by rw [mkPl_names h]; exact nd, fun e he => ?_⟩
  · have : e.1 ∈ (mkPl ws bs).map (·.1) := List.mem_map.mpr ⟨e, he, rfl⟩
    rw [mkPl_names h] at this
    exact nm _ this
  · obtain ⟨x, _, rfl⟩ := List.mem_map.mp he
    exact ⟨Nat.zero_le _, by simp, by simp, List.nodup_nil⟩
theorem mkPl_refs {ws : List Str} {bs : List Bool} : ∀ e ∈ mkPl ws bs, e.2.2 = [] := by
  intro e he
  obtain ⟨x, _, rfl⟩ := List.mem_map.mp he
  rfl
theorem mkPl_snoc {ws : List Str} {bs : List Bool} {w : Str} {b : Bool} (h : ws.length = bs.length) : mkPl (ws ++ [w]) (bs ++ [b]) = mkPl ws bs ++ [(w, b, [])] := by
  unfold mkPl
  rw [List.zip_append h, List.map_append]
  rfl
theorem ent_td {H : Hp} {t t0 : Addr} {w : Str} {b : Bool} (h0 : H t0 = some (.tup [])) (h : H t = some (.tup [.str w, .bl b, .ref t0])) : Td H (.ref t) (entD (w, b, [])) := .tup h (.cons (.str _) (.cons (.bl _) (.cons (.tup h0 .nil) .nil)))
def spLPlan : Sp := fun vs H Q _ => ∃ (a : Addr) (n : Nat), vs = [.ref a] ∧ StAt H a (n + 200) ∧
  ∀ (p : Addr) (es : List V) (pl : Plan) (H' : Hp), H p = none → H' p = some (.lst es) → TdAll H' es (pl.map entD) → Good pl → (∀ e ∈ pl, e.2.2 = []) → Fr1 a H H' → Q (.ref p) H'
theorem ok_law_plan {P : Program} {w : World} {K : PySem.W.Frag} {mg : Str → Option Value} {base : Heap} {CS CD XCarryError XTaken : Addr} (T : Txt K mg CS CD XCarryError XTaken) : CallOk P w K mg base 4 "_law_plan" spLPlan := by
  have c_law_take := ok_law_take (P := P) (w := w) (base := base) T
  have c_law_words := ok_law_words (P := P) (w := w) (base := base) T
  refine T.d_law_plan.ok sc_law_plan (fun vs H Q E h => ?_) (fun f cdv A outer s H vs Q E hr h => ?_)
  · obtain ⟨a, n, rfl, _⟩ := h
    rfl
  · obtain ⟨a, n, rfl, hS, q⟩ := h
    refine ⟨_, (pss_cons (ps_set (i := 1) sc_law_plan.nd rfl (by first | exact Or.inl rfl | exact Or.inr rfl) (pe_callC c_law_words (hr.mono (by decide)) (pa_cons (pv 0) (pa_cons (pe_op op_add pe_int (pe_callC c_law_take (hr.mono (by decide)) (pa_cons (pv 0) (pa_cons pe_int pa_nil)))) pa_nil))))
      (pss_cons (ps_set (i := 2) sc_law_plan.nd rfl (by first | exact Or.inl rfl | exact Or.inr rfl) (pe_callC c_law_take (hr.mono (by decide)) (pa_cons (pv 0) (pa_cons pe_int pa_nil))))
      (pss_cons (ps_set (i := 3) sc_law_plan.nd rfl (by first | exact Or.inl rfl | exact Or.inr rfl) (pe_lst (pa_cons (pe_tup (pa_cons (pe_ix (kIxL (K := K)) (pv 1) pe_int (fun _ _ => rfl)) (pa_cons (pe_cmpR op_eq (pv 2) pe_int (nomark _)) (pa_cons (pe_tup pa_nil) pa_nil)))) (pa_cons (pe_tup (pa_cons (pe_ix (kIxL (K := K)) (pv 1) pe_int (fun _ _ => rfl)) (pa_cons (pe_cmpR op_eq (pv 2) pe_int (nomark _)) (pa_cons (pe_tup pa_nil) pa_nil)))) pa_nil))))
      (pss_one (ps_ret (pe_op op_cat (pv 3) (pe_lc (own := [("name", 4)]) rfl sc_law_plan.nd (kPiL (K := K) (pe_slice sl_list (pv 1) (po_some pe_int) po_none)) (blkOk_by (N := ["state", "names", "turn", "plan", "name"]) (sc := defScope s_law_plan) (own := [("name", 4)]) (by decide +kernel)) (fun _ _ _ _ _ => (pg_name (i := 4) sc_law_plan.nd rfl (by first | exact Or.inl rfl | exact Or.inr rfl))) (fun _ _ _ _ _ => pts_nil) (fun _ _ _ _ _ => (pe_tup (pa_cons (pv 4) (pa_cons (pe_cmpR op_eq (pe_callC c_law_take (hr.mono (by decide)) (pa_cons (pv 0) (pa_cons pe_int pa_nil))) pe_int (nomark _)) (pa_cons (pe_tup pa_nil) pa_nil)))))))))))), ?_⟩
    refine ⟨_, rfl, _, rfl, a, 3, n + 199, rfl, by decide, by decide, hS, fun d H1 d0 d1 hS1 e1 => ⟨_, _, rfl, rfl, ?_⟩⟩
    refine ⟨a, _, (2 + d).toNat, n + 100, rfl, by omega, by omega, hS1.mono (by omega), fun pw ws H2 hpw hwl hnd hnm hpa hS2 e2 => ?_⟩
    have nwa : pw ≠ a := fun z => by
      obtain ⟨xs, hx⟩ := hS1.lst
      rw [z, hx] at hpw
      cases hpw
    obtain ⟨w0, w1, wr, rfl⟩ : ∃ w0 w1 wr, ws = w0 :: w1 :: wr := by
      match ws, hwl with
      | [], h => simp at h; omega
      | [_], h => simp at h; omega
      | w0 :: w1 :: wr, _ => exact ⟨w0, w1, wr, rfl⟩
    refine ⟨_, rfl, a, 2, n + 90, rfl, by decide, by decide, hS2.mono (by omega), fun t H3 t0 t1 hS3 e3 => ?_⟩
    have hp3 := e3 _ _ nwa hpa
    have f3 : Fr1 a H H3 := (e1.trans e2).trans e3
    refine ⟨_, rfl, pw, _, _, _, rfl, rfl, SqL.of hp3, atI_nat (j := 0) (v := V.str w0) rfl, _, rfl, rfl, sizeL (by show 0 ≤ 100000; decide), fun u0 hu0 => ⟨sizeL (by show 3 ≤ 100000; decide), fun x0 hx0 => ?_⟩⟩
    have m1 := Same.upd (o := .tup []) (Same.refl H3) hu0
    have m2 := Same.upd (o := .tup [.str w0, .bl (decide (V.int t = V.int 0)), .ref u0]) m1 (m1.free hx0)
    have hu01 : upd H3 u0 (.tup []) u0 = some (.tup []) := upd_same
    have nx0 : u0 ≠ x0 := ne_of_none hu01 hx0
    have k0 : Td (upd (upd H3 u0 (.tup [])) x0 (.tup [.str w0, .bl (decide (V.int t = V.int 0)), .ref u0])) (.ref x0) (entD (w0, decide (V.int t = V.int 0), [])) := ent_td (by rw [upd_ne nx0]; exact hu01) upd_same
    generalize upd (upd H3 u0 (.tup [])) x0 (.tup [.str w0, .bl (decide (V.int t = V.int 0)), .ref u0]) = H4 at *
    clear hu0 hx0 hu01 m1
    refine ⟨_, rfl, pw, _, _, _, rfl, rfl, SqL.of (m2 _ _ hp3), atI_nat (j := 1) (v := V.str w1) rfl, _, rfl, rfl, sizeL (by show 0 ≤ 100000; decide), fun u1 hu1 => ⟨sizeL (by show 3 ≤ 100000; decide), fun x1 hx1 => ?_⟩⟩
    have m3 := Same.upd (o := .tup []) (Same.refl H4) hu1
    have m4 := Same.upd (o := .tup [.str w1, .bl (decide (V.int t = V.int 1)), .ref u1]) m3 (m3.free hx1)
    have hu11 : upd H4 u1 (.tup []) u1 = some (.tup []) := upd_same
    have nx1 : u1 ≠ x1 := ne_of_none hu11 hx1
    have k1 : Td (upd (upd H4 u1 (.tup [])) x1 (.tup [.str w1, .bl (decide (V.int t = V.int 1)), .ref u1])) (.ref x1) (entD (w1, decide (V.int t = V.int 1), [])) := ent_td (by rw [upd_ne nx1]; exact hu11) upd_same
    have k0 := k0.kt_same m4
    generalize upd (upd H4 u1 (.tup [])) x1 (.tup [.str w1, .bl (decide (V.int t = V.int 1)), .ref u1]) = H5 at *
    clear hu1 hx1 hu11 m3
    generalize decide (V.int t = V.int 0) = b0 at *
    generalize decide (V.int t = V.int 1) = b1 at *
    refine ⟨sizeL (by show 2 ≤ 100000; decide), fun P hP => ?_⟩
    have m5 := Same.upd (o := .lst [.ref x0, .ref x1]) (m2.trans m4) ((m2.trans m4).free hP)
    have hPP : upd H5 P (.lst [.ref x0, .ref x1]) P = some (.lst [.ref x0, .ref x1]) := upd_same
    have m5b := Same.upd (o := .lst [.ref x0, .ref x1]) (Same.refl H5) hP
    have k0 := k0.kt_same m5b
    have k1 := k1.kt_same m5b
    generalize upd H5 P (.lst [.ref x0, .ref x1]) = H6 at *
    clear m5b m2 m4 hP
    have hp6 := m5 _ _ hp3
    have hS6 := hS3.same m5
    have f6 : Fr1 a H H6 := f3.trans (Fr1.of m5)
    refine ⟨_, rfl, _, rfl, _, rfl, pw, _, rfl, SqL.of hp6, fun sq hsq => ?_⟩
    rw [show (2 : Int) = ((2 : Nat) : Int) from rfl, cut_drop _ 2 (by simp)]
    have hcut : ((w0 :: w1 :: wr).map V.str).drop 2 = wr.map V.str := rfl
    rw [hcut]
    have m7 := Same.upd (o := .lst (wr.map V.str)) (Same.refl H6) hsq
    have hsq7 : upd H6 sq (.lst (wr.map V.str)) sq = some (.lst (wr.map V.str)) := upd_same
    have f7 : Fr1 a H (upd H6 sq (.lst (wr.map V.str))) := f6.new hS6 hsq
    generalize upd H6 sq (.lst (wr.map V.str)) = H7 at *
    have hS7 := hS6.same m7
    have k0 := k0.kt_same m7
    have k1 := k1.kt_same m7
    have hP7 := m7 _ _ hPP
    have nsa : sq ≠ a := (hS6.ne hsq).symm
    have hwr : wr.length ≤ 2 := by simp at hwl; omega
    refine ⟨sq, rfl, ⟨_, SqL.of hsq7⟩, fun D hD => lc_list (K := K) (a := sq) (xs := wr.map V.str) (fun i Hi => i ≤ wr.length ∧ ∃ (acc : List V) (bs : List Bool), Hi D = some (.lst acc) ∧ bs.length = i ∧ acc.length = i ∧ TdAll Hi acc ((mkPl (wr.take i) bs).map entD) ∧ StAt Hi a (n + (wr.length - i)) ∧ Fr1 a H7 Hi) ?_ ?_ ?_ ?_⟩
    · exact ⟨Nat.zero_le _, [], [], upd_same, rfl, rfl, .nil, (hS7.mono (by omega)).upd (hS7.ne hD), (Fr1.refl _ _).new hS7 hD⟩
    · rintro i Hi _ ⟨_, _, _, _, _, _, _, _, f⟩
      exact SqL.of (f _ _ nsa hsq7)
    · rintro i x Hi hxi ⟨hi, acc, bs, hDi, hbl, hal, hacc, hSi, fi⟩
      rw [List.getElem?_map] at hxi
      obtain ⟨w, hw, rfl⟩ := Option.map_eq_some_iff.mp hxi
      have hil : i < wr.length := (List.getElem?_eq_some_iff.mp hw).1
      have nDa : D ≠ a := (hS7.ne hD).symm
      refine ⟨rfl, tYes_if ?_⟩
      refine ⟨_, rfl, _, rfl, a, 2, n + (wr.length - (i + 1)), rfl, by decide, by decide, hSi.mono (by omega), fun d2 Hj _ _ hSj ej => ⟨rfl, sizeL (by show 0 ≤ 100000; decide), fun u hu => ⟨sizeL (by show 3 ≤ 100000; decide), fun y hy => ?_⟩⟩⟩
      have hDj := ej _ _ nDa hDi
      have haccj := hacc.mono (hSi.kt ej)
      have r1 := Same.upd (o := .tup []) (Same.refl Hj) hu
      have r2 := Same.upd (o := .tup [.str w, .bl (decide (V.int d2 = V.int 0)), .ref u]) r1 (r1.free hy)
      have hu1 : upd Hj u (.tup []) u = some (.tup []) := upd_same
      have nuy : u ≠ y := ne_of_none hu1 hy
      have ky : Td (upd (upd Hj u (.tup [])) y (.tup [.str w, .bl (decide (V.int d2 = V.int 0)), .ref u])) (.ref y) (entD (w, decide (V.int d2 = V.int 0), [])) := ent_td (by rw [upd_ne nuy]; exact hu1) upd_same
      have fj : Fr1 a H7 (upd (upd Hj u (.tup [])) y (.tup [.str w, .bl (decide (V.int d2 = V.int 0)), .ref u])) := ((fi.trans ej).new hSj hu).new (hSj.same r1) hy
      generalize upd (upd Hj u (.tup [])) y (.tup [.str w, .bl (decide (V.int d2 = V.int 0)), .ref u]) = Hk at *
      generalize decide (V.int d2 = V.int 0) = b at *
      have hDk := r2 _ _ hDj
      have hSk := hSj.same r2
      have ktD : KT Hk (upd Hk D (.lst (acc ++ [.ref y]))) := (KT.refl Hk).updL hDk
      refine ⟨acc, hDk, sizeLt (by omega), hil, acc ++ [.ref y], bs ++ [b], upd_same, by simp [hbl], by simp [hal], ?_, hSk.upd nDa.symm, fun c o nc hc => ?_⟩
      · have hwt : wr.take (i + 1) = wr.take i ++ [w] := by rw [List.take_succ_eq_append_getElem hil, (List.getElem?_eq_some_iff.mp hw).2]
        rw [hwt, mkPl_snoc (by rw [List.length_take, hbl]; omega), List.map_append]
        exact ((haccj.mono (KT.of r2)).mono ktD).snoc (ky.mono ktD)
      · rw [upd_ne (ne_of_none hc hD)]
        exact fj c o nc hc
    · rintro Hi ⟨_, acc, bs, hDi, hbl, hal, hacc, hSi, fi⟩
      rw [List.length_map] at hbl hal hacc
      have nPa : P ≠ a := fun z => by
        obtain ⟨xs, hx⟩ := hS7.lst
        have := hP7
        obtain ⟨x, y, k, h1, _, _⟩ := hS7
        rw [z, h1] at this
        cases this
      have hPi := fi _ _ nPa hP7
      have kt7 := hS7.kt fi
      refine ⟨P, D, _, _, rfl, rfl, hPi, hDi, sizeL (by simp [hal]; omega), fun R hR => ?_⟩
      have fR : Fr1 a H Hi := f7.trans fi
      have ktR : KT Hi (upd Hi R (.lst ([.ref x0, .ref x1] ++ acc))) := KT.of (Same.upd (Same.refl Hi) hR)
      have e1 : mkPl (w0 :: w1 :: wr) (b0 :: b1 :: bs) = (w0, b0, []) :: (w1, b1, []) :: mkPl wr bs := rfl
      have hlen : (w0 :: w1 :: wr).length = (b0 :: b1 :: bs).length := by simp [hbl]
      rw [List.take_length] at hacc
      refine q R _ (mkPl (w0 :: w1 :: wr) (b0 :: b1 :: bs)) _ (fR.free (hSi.ne hR).symm hR) upd_same ?_ (mkPl_good hlen hnd hnm (by simp) (by simp; omega)) mkPl_refs (fR.new hSi hR)
      rw [e1]
      exact TdAll.mono ktR (.cons (k0.mono kt7) (.cons (k1.mono kt7) hacc))
end My
namespace My
open PySem L2
def spLNew : Sp := fun vs H Q _ => ∃ (p : Addr) (es : List V) (pl : Plan), vs = [.ref p] ∧ H p = some (.lst es) ∧ TdAll H es (pl.map entD) ∧ Good pl ∧
  ∀ (A : Addr) (hs : List Addr) (H' : Hp), H A = none → (∀ d ∈ hs, H d = none) → HeldAt H' A pl hs (nils pl) → Same H H' → Q (.ref A) H'
theorem ok_law_new {P : Program} {w : World} {K : PySem.W.Frag} {mg : Str → Option Value} {base : Heap} {CS CD XCarryError XTaken : Addr} (T : Txt K mg CS CD XCarryError XTaken) : CallOk P w K mg base 1 "_law_new" spLNew := by
  skip
  refine T.d_law_new.ok sc_law_new (fun vs H Q E h => ?_) (fun f cdv A outer s H vs Q E hr h => ?_)
  · obtain ⟨p, es, pl, rfl, _⟩ := h
    rfl
  · obtain ⟨p, es, pl, rfl, hp, hx, g, q⟩ := h
    refine ⟨_, (pss_cons (ps_set (i := 1) sc_law_new.nd rfl (by first | exact Or.inl rfl | exact Or.inr rfl) pe_dnewK)
      (pss_cons (ps_for PassesOwn.never rfl (kPiL (K := K) (pv 0)) (pg_name (i := 2) sc_law_new.nd rfl (by first | exact Or.inl rfl | exact Or.inr rfl))
      (pss_one (ps_dput (hu_of hr) (pv 1) (pe_ix (kIxT (K := K)) (pv 2) pe_int (fun _ _ => rfl)) pe_dnewK rfl)))
      (pss_one (ps_ret (pv 1))))), ?_⟩
    intro A hA
    have hA1 : upd H A (.dK []) A = some (.dK []) := upd_same
    have t1 := Same.upd (o := .dK []) (Same.refl H) hA
    generalize upd H A (.dK []) = H1 at *
    have hlx : es.length = pl.length := by rw [hx.length, List.length_map]
    have hp1 := t1 _ _ hp
    have hx1 := hx.mono (KT.of t1)
    have npA : p ≠ A := ne_of_none hp hA
    have ktF : ∀ {j : Nat} {hs : List Addr} {Hj : Hp}, Fill H1 A pl j hs Hj → KT H1 Hj := fun F c ys hc => F.fr c _ (ne_of hc hA1 (by intro z; cases z)) hc
    refine ⟨_, rfl, p, rfl, ⟨_, SqL.of hp1⟩, for_list (K := K) (a := p) (xs := es) (fun j σ Hj => ∃ (o2 : Option V) (hs : List Addr), σ = [some (.ref p), some (.ref A), o2] ∧ Fill H1 A pl j hs Hj) ?_ ?_ ?_ ?_⟩
    · exact ⟨_, [], rfl, Fill.start _ hA1⟩
    · rintro j σ Hj _ ⟨_, _, _, F⟩
      exact SqL.of (F.fr p _ npA hp1)
    · rintro j y σ Hj hyj ⟨o2, h9, rfl, F⟩
      obtain ⟨en, hen, hTd⟩ := hx1.getM hyj
      obtain ⟨tn, tr, rs, rfl, htn, htr, hrs⟩ := entD_inv hTd
      have htn2 := ktF F _ _ htn
      intro d hd
      obtain ⟨b1, b2, b3⟩ := F.next g.nd hen hd
      have hjp := b3.le
      have hp5 := g.hi
      refine ⟨_, rfl, _, rfl, tn, _, _, _, rfl, rfl, SqT.of (by rw [upd_ne (ne_of_none htn2 hd)]; exact htn2), rfl, A, _, rfl, DPut.k (k := Sum.inr en.1) b1 (sizeLt (by omega)), ?_⟩
      exact ⟨_, _, rfl, b3⟩
    · rintro σ Hj ⟨o2, h9, rfl, F⟩
      refine ⟨_, rfl, q A h9 Hj hA (fun d hd => t1.free (F.ds d hd).1) (F.held hlx) fun c o hc => F.fr c o (ne_of_none hc hA) (t1 c o hc)⟩
end My
namespace My
open PySem L2
def spLaw (K : PySem.W.Frag) : Sp := fun vs H Q _ => ∃ (a : Addr) (ns : List Int), vs = [.ref a] ∧ SqL K H a (ns.map V.int) ∧ ns.length ≤ 63 ∧ ∀ H', Q (.bl true) H'
theorem len_law {K : PySem.W.Frag} : ∀ vs H Q E, spLaw K vs H Q E → vs.length = ["script"].length := by
  rintro vs H Q E ⟨a, ns, rfl, _⟩
  rfl
theorem cut_to40 (ns : List Int) : (cutV (ns.map V.int) (some 2) (some 42)).length ≤ 40 := by
  show (((ns.map V.int).drop _).take _).length ≤ 40
  rw [List.length_take]
  have h1 : HT.sIx (ns.map V.int).length 0 (some 2) = min 2 (ns.map V.int).length := HT.sIx_nat _ _ 2
  have h2 : HT.sIx (ns.map V.int).length (ns.map V.int).length (some 42) = min 42 (ns.map V.int).length := HT.sIx_nat _ _ 42
  rw [h1, h2]
  omega
theorem cut_ints (ns : List Int) (lo hi : Option Int) : ∀ v ∈ cutV (ns.map V.int) lo hi, ∃ z, v = V.int z := fun v hv => by
  have := List.mem_of_mem_drop (List.mem_of_mem_take hv)
  obtain ⟨z, _, e⟩ := List.mem_map.mp this
  exact ⟨z, e.symm⟩
theorem body_law {P : Program} {w : World} {K : PySem.W.Frag} {mg : Str → Option Value} {base : Heap} {CS CD XCarryError XTaken : Addr} (T : Txt K mg CS CD XCarryError XTaken) : BodyOk P w K mg base 9 ["script", "plan", "schema", "bases", "helds", "pool", "keys", "labels", "cell", "at", "deed", "name", "unique", "references", "key", "label", "base", "rows", "found"] "law" s_law (spLaw K) := by
  have c_Database := ok_Database_init (P := P) (w := w) (base := base) T
  have c_Database_contains__ := ok_Database___contains__ (P := P) (w := w) (base := base) T
  have c_Database_drop := ok_Database_drop (P := P) (w := w) (base := base) T
  have c_Database_rows := ok_Database_rows (P := P) (w := w) (base := base) T
  have c_Schema := ok_Schema_init (P := P) (w := w) (base := base) T
  have c_law_are_rows := ok_law_are_rows (P := P) (w := w) (base := base) T
  have c_law_at := ok_law_at (P := P) (w := w) (base := base) T
  have c_law_begin := ok_law_begin (P := P) (w := w) (base := base) T
  have c_law_keys := ok_law_keys (P := P) (w := w) (base := base) T
  have c_law_labels := ok_law_labels (P := P) (w := w) (base := base) T
  have c_law_new := ok_law_new (P := P) (w := w) (base := base) T
  have c_law_plan := ok_law_plan (P := P) (w := w) (base := base) T
  have c_law_set := ok_law_set (P := P) (w := w) (base := base) T
  have c_law_take := ok_law_take (P := P) (w := w) (base := base) T
  have c_law_taken := ok_law_taken (P := P) (w := w) (base := base) T
  have c_law_whole := ok_law_whole (P := P) (w := w) (base := base) T
  intro f cdv A outer s H vs Q E hr h
  · obtain ⟨a, ns, rfl, hs, hl, q⟩ := h
    refine ⟨_, (pss_cons (ps_set (i := 1) sc_law.nd rfl (by first | exact Or.inl rfl | exact Or.inr rfl) (pe_callC c_law_plan (hr.mono (by decide)) (pa_cons (pe_callC c_law_begin (hr.mono (by decide)) (pa_cons (pe_callC c_law_at (hr.mono (by decide)) (pa_cons (pv 0) (pa_cons pe_int pa_nil))) pa_nil)) pa_nil)))
      (pss_cons (ps_set (i := 2) sc_law.nd rfl (by first | exact Or.inl rfl | exact Or.inr rfl) (pe_makeC c_Schema (hr.mono (by decide)) (pa_cons (pe_callTy (kTup (K := K)) (by rfl) T.n_tuple (by decide +kernel) (pa_cons (pv 1) pa_nil)) pa_nil)))
      (pss_cons (ps_set (i := 3) sc_law.nd rfl (by first | exact Or.inl rfl | exact Or.inr rfl) (pe_lst (pa_cons (pe_makeC c_Database (hr.mono (by decide)) (pa_cons (pv 2) pa_nil)) (pa_cons (pe_makeC c_Database (hr.mono (by decide)) (pa_cons (pv 2) pa_nil)) pa_nil))))
      (pss_cons (ps_set (i := 4) sc_law.nd rfl (by first | exact Or.inl rfl | exact Or.inr rfl) (pe_lst (pa_cons (pe_callC c_law_new (hr.mono (by decide)) (pa_cons (pv 1) pa_nil)) (pa_cons (pe_callC c_law_new (hr.mono (by decide)) (pa_cons (pv 1) pa_nil)) pa_nil))))
      (pss_cons (ps_set (i := 5) sc_law.nd rfl (by first | exact Or.inl rfl | exact Or.inr rfl) (pe_callC c_law_begin (hr.mono (by decide)) (pa_cons (pe_callC c_law_at (hr.mono (by decide)) (pa_cons (pv 0) (pa_cons pe_int pa_nil))) pa_nil)))
      (pss_cons (ps_set (i := 6) sc_law.nd rfl (by first | exact Or.inl rfl | exact Or.inr rfl) (pe_callC c_law_keys (hr.mono (by decide)) (pa_cons (pv 5) (pa_cons (pe_op op_add pe_int (pe_callC c_law_take (hr.mono (by decide)) (pa_cons (pv 5) (pa_cons pe_int pa_nil)))) pa_nil))))
      (pss_cons (ps_set (i := 7) sc_law.nd rfl (by first | exact Or.inl rfl | exact Or.inr rfl) (pe_callC c_law_labels (hr.mono (by decide)) (pa_cons (pv 5) (pa_cons (pe_op op_add pe_int (pe_callC c_law_take (hr.mono (by decide)) (pa_cons (pv 5) (pa_cons pe_int pa_nil)))) pa_nil))))
      (pss_cons (ps_for PassesOwn.never rfl (kPiL (K := K) (pe_op op_cat (pe_slice sl_list (pv 0) (po_some pe_int) (po_some pe_int)) (pe_lst (pa_cons (pe_op op_fdivW (pe_callC c_law_at (hr.mono (by decide)) (pa_cons (pv 0) (pa_cons pe_int pa_nil))) pe_int) pa_nil)))) (pg_name (i := 8) sc_law.nd rfl (by first | exact Or.inl rfl | exact Or.inr rfl))
      (pss_cons (ps_set (i := 10) sc_law.nd rfl (by first | exact Or.inl rfl | exact Or.inr rfl) (pe_callC c_law_begin (hr.mono (by decide)) (pa_cons (pv 8) pa_nil)))
          (pss_cons (ps_set (i := 9) sc_law.nd rfl (by first | exact Or.inl rfl | exact Or.inr rfl) (pe_callC c_law_take (hr.mono (by decide)) (pa_cons (pv 10) (pa_cons pe_int pa_nil))))
          (pss_cons (ps_asg (pe_ix (kIxL (K := K)) (pv 1) (pe_callC c_law_take (hr.mono (by decide)) (pa_cons (pv 10) (pa_cons (pe_callB (kLen (K := K)) (by rfl) T.n_len PySem.boot_len (pa_cons (pv 1) pa_nil)) pa_nil))) (fun _ _ => rfl)) (kPgT (K := K) (n := 3) rfl (pgs_cons (pg_name (i := 11) sc_law.nd rfl (by first | exact Or.inl rfl | exact Or.inr rfl)) (pgs_cons (pg_name (i := 12) sc_law.nd rfl (by first | exact Or.inl rfl | exact Or.inr rfl)) (pgs_cons (pg_name (i := 13) sc_law.nd rfl (by first | exact Or.inl rfl | exact Or.inr rfl)) pgs_nil)))))
          (pss_cons (ps_set (i := 14) sc_law.nd rfl (by first | exact Or.inl rfl | exact Or.inr rfl) (pe_ix (kIxL (K := K)) (pv 6) (pe_callC c_law_take (hr.mono (by decide)) (pa_cons (pv 10) (pa_cons (pe_callB (kLen (K := K)) (by rfl) T.n_len PySem.boot_len (pa_cons (pv 6) pa_nil)) pa_nil))) (fun _ _ => rfl)))
          (pss_cons (ps_set (i := 15) sc_law.nd rfl (by first | exact Or.inl rfl | exact Or.inr rfl) (pe_ix (kIxL (K := K)) (pv 7) (pe_callC c_law_take (hr.mono (by decide)) (pa_cons (pv 10) (pa_cons (pe_callB (kLen (K := K)) (by rfl) T.n_len PySem.boot_len (pa_cons (pv 7) pa_nil)) pa_nil))) (fun _ _ => rfl)))
          (pss_cons (ps_set (i := 16) sc_law.nd rfl (by first | exact Or.inl rfl | exact Or.inr rfl) (pe_ix (kIxL (K := K)) (pv 3) (pv 9) (fun _ _ => rfl)))
          (pss_cons (ps_set (i := 17) sc_law.nd rfl (by first | exact Or.inl rfl | exact Or.inr rfl) (pe_dget (hu_of hr) (pe_ix (kIxL (K := K)) (pv 4) (pv 9) (fun _ _ => rfl)) (pv 11) (fun _ _ => rfl)))
          (Evl.pss_cut (ps_if (PW.pt (pw_and (pt_cmp (pc_din (hu_of hr) (pv 14) (pv 17)) rfl) (pw_and1 (pt_cmpR op_eq (pe_callC c_law_take (hr.mono (by decide)) (pa_cons (pv 10) (pa_cons pe_int pa_nil))) pe_int (nomark _))))) (pss_cons (ps_expr (pe_methC (pv 16) c_Database_drop (hr.mono (by decide)) (pa_cons (pv 11) (pa_cons (pv 14) pa_nil))))
        (pss_one (ps_expr (pe_dpop1 (pv 17) (pv 14) ⟨rfl, rfl, rfl, rfl⟩)))) (pss_one (ps_if (pt_val (pe_callC c_law_taken (hr.mono (by decide)) (pa_cons (pv 17) (pa_cons (pv 14) (pa_cons (pv 15) (pa_cons (pv 12) pa_nil)))))) (pss_cons (ps_set (i := 18) sc_law.nd rfl (by first | exact Or.inl rfl | exact Or.inr rfl) (pe_callC c_law_set (hr.mono (by decide)) (pa_cons (pv 16) (pa_cons (pv 11) (pa_cons (pv 14) (pa_cons (pe_tup (pa_cons (pv 15) (pa_cons (pe_tup pa_nil) pa_nil))) pa_nil))))))
        (pss_one (ps_if (PW.pt (pw_or (pt_cmpR (kNeD (K := K) hr.units) (pv 18) (pe_lst (pa_cons (pv 11) (pa_cons (pv 15) pa_nil))) (nomark _)) (pw_or1 (pt_not (pt_val (pe_callC c_law_whole (hr.mono (by decide)) (pa_cons (pe_ix (kIxL (K := K)) (pv 18) pe_int (fun _ _ => rfl)) pa_nil))))))) (pss_one (ps_ret pe_bl)) pss_nil))) (pss_one (ps_if (pt_cmpR (kNeD (K := K) hr.units) (pe_callC c_law_set (hr.mono (by decide)) (pa_cons (pv 16) (pa_cons (pv 11) (pa_cons (pv 14) (pa_cons (pe_tup (pa_cons (pv 15) (pa_cons (pe_tup pa_nil) pa_nil))) pa_nil))))) (pe_lst pa_nil) (nomark _)) (pss_one (ps_ret pe_bl)) (pss_one (ps_dput (hu_of hr) (pv 17) (pv 14) (pe_tup (pa_cons (pv 15) (pa_cons (pe_tup pa_nil) pa_nil))) rfl)))))))
          (pss_one (ps_if (pt_cmpR op_ne (pe_cmp (pc_din (hu_of hr) (pv 14) (pv 17)) rfl) (pe_cmpR (op_inOwn c_Database_contains__ (hr.mono (by decide))) (pe_tup (pa_cons (pv 11) (pa_cons (pv 14) pa_nil))) (pv 16) rfl) (nomark _)) (pss_one (ps_ret pe_bl)) pss_nil)))))))))))
      (pss_cons (ps_for PassesOwn.never rfl (pi_range1 (by rfl) T.n_range (pa_cons pe_int pa_nil)) (pg_name (i := 9) sc_law.nd rfl (by first | exact Or.inl rfl | exact Or.inr rfl))
      (pss_one (ps_for PassesOwn.never rfl (kPiL (K := K) (pv 1)) (kPgT (K := K) (n := 3) rfl (pgs_cons (pg_name (i := 11) sc_law.nd rfl (by first | exact Or.inl rfl | exact Or.inr rfl)) (pgs_cons (pg_name (i := 12) sc_law.nd rfl (by first | exact Or.inl rfl | exact Or.inr rfl)) (pgs_cons (pg_name (i := 13) sc_law.nd rfl (by first | exact Or.inl rfl | exact Or.inr rfl)) pgs_nil))))
      (pss_one (ps_if (pt_not (pt_val (pe_callC c_law_are_rows (hr.mono (by decide)) (pa_cons (pe_methC (pe_ix (kIxL (K := K)) (pv 3) (pv 9) (fun _ _ => rfl)) c_Database_rows (hr.mono (by decide)) (pa_cons (pv 11) pa_nil)) (pa_cons (pe_dget (hu_of hr) (pe_ix (kIxL (K := K)) (pv 4) (pv 9) (fun _ _ => rfl)) (pv 11) (fun _ _ => rfl)) pa_nil))))) (pss_one (ps_ret pe_bl)) pss_nil)))))
      (pss_one (ps_ret pe_bl))))))))))), ?_⟩
    refine ⟨_, rfl, a, ns, 0, rfl, hs, fun z0 => ⟨z0, rfl, fun st H1 hst e1 hS1 => ⟨st, 900000, rfl, hS1.mono (by decide), fun P es pl H2 hP hPe hx g hrefs f2 => ?_⟩⟩⟩
    have s2 : Same H H2 := Same.fr1 e1 f2 hst
    refine ⟨_, rfl, P, es, rfl, .inl ⟨SqL.of hPe, fun tp htp => ?_⟩⟩
    have t3 := Same.upd (o := .tup es) (Same.refl H2) htp
    have hTp : Td (upd H2 tp (.tup es)) (.ref tp) (planD pl) := .tup upd_same (hx.mono (KT.of t3))
    generalize upd H2 tp (.tup es) = H3 at *
    have s3 := s2.trans t3
    have hPe3 := t3 _ _ hPe
    have hx3 := hx.mono (KT.of t3)
    intro sx xdx nx ndx nex
    refine ⟨sx, xdx, .ref tp, pl, rfl, hTp.mono (KT.upd ((KT.refl H3).upd ndx) nx), g, upd_same, fun H4 de S4 hde e4 => ⟨rfl, ?_⟩⟩
    have t4 : Same H3 H4 := Same.made' nx ndx e4
    have s4 := s3.trans t4
    have hPe4 := t4 _ _ hPe3
    have hx4 := hx3.mono (KT.of t4)
    refine ⟨_, rfl, fun p0 pdx0 np0 npdx0 nep0 => ?_⟩
    have t4b : Same H4 (upd (upd H4 pdx0 (.own p0)) p0 (.ins CD pdx0 [])) := Same.upd (Same.upd (Same.refl H4) npdx0) np0
    refine ⟨p0, pdx0, sx, pl, rfl, S4.at.same t4b, upd_same, fun H5 sp0 de0 dr0 ds0 D0 hf0 e5 => ⟨rfl, ?_⟩⟩
    have t5 : Same H4 H5 := Same.made' np0 npdx0 e5
    have fr0 : ∀ c ∈ foot p0 sp0 de0 dr0 ds0, H4 c = none := fun c hc => by
      rcases List.mem_cons.mp hc with rfl | hc
      · exact np0
      · exact t4b.free (hf0 c hc)
    have B1 : Bases 1 CD CS H5 (fun _ => pl) (addS (fun _ => ⟨0, 0, 0, 0, [], 0, []⟩) 0 ⟨p0, sp0, de0, dr0, ds0, 0, []⟩) := (Bases.zero (CD := CD) (CS := CS) (H := H4)).add (PL := fun _ => pl) (s := ⟨p0, sp0, de0, dr0, ds0, 0, []⟩) t5 D0 fr0
    have S5 := S4.at.same t5
    refine ⟨_, rfl, fun p1 pdx1 np1 npdx1 nep1 => ?_⟩
    have t5b : Same H5 (upd (upd H5 pdx1 (.own p1)) p1 (.ins CD pdx1 [])) := Same.upd (Same.upd (Same.refl H5) npdx1) np1
    refine ⟨p1, pdx1, sx, pl, rfl, S5.same t5b, upd_same, fun H6 sp1 de1 dr1 ds1 D1 hf1 e6 => ⟨rfl, sizeL (by show 2 ≤ 100000; decide), fun D hD => ?_⟩⟩
    have t6 : Same H5 H6 := Same.made' np1 npdx1 e6
    have fr1 : ∀ c ∈ foot p1 sp1 de1 dr1 ds1, H5 c = none := fun c hc => by
      rcases List.mem_cons.mp hc with rfl | hc
      · exact np1
      · exact t5b.free (hf1 c hc)
    have B2 := B1.add (s := ⟨p1, sp1, de1, dr1, ds1, 0, []⟩) t6 D1 fr1
    have t7 := Same.upd (o := .lst [.ref p0, .ref p1]) (Same.refl H6) hD
    have hDD : upd H6 D (.lst [.ref p0, .ref p1]) D = some (.lst [.ref p0, .ref p1]) := upd_same
    have B2 := B2.same t7
    generalize upd H6 D (.lst [.ref p0, .ref p1]) = H7 at *
    have s7 : Same H4 H7 := (t5.trans t6).trans t7
    have hPe7 := s7 _ _ hPe4
    have hx7 := hx4.mono (KT.of s7)
    refine ⟨_, rfl, P, es, pl, rfl, hPe7, hx7, g, fun A0 l0 H8 hA0 hl0 HA0 e8 => ?_⟩
    have Q1 := (Hn.zero (G := H7) (H := H7) (PL := fun _ => pl) (A := fun _ => 0) (hs := fun _ => [])).add (Same.refl H7) HA0 (fun d hd => by
      rcases List.mem_cons.mp hd with rfl | h
      · exact hA0
      · exact hl0 d h) e8
    refine ⟨_, rfl, P, es, pl, rfl, e8 _ _ hPe7, hx7.mono (KT.of e8), g, fun A1 l1 H9 hA1 hl1 HA1 e9 => ⟨sizeL (by show 2 ≤ 100000; decide), fun HL hHL => ?_⟩⟩
    have Q2 := Q1.add e8 (i := 0 + 1) HA1 (fun d hd => by
      rcases List.mem_cons.mp hd with rfl | h
      · exact hA1
      · exact hl1 d h) e9
    have t10 := Same.upd (o := .lst [.ref A0, .ref A1]) (Same.refl H9) hHL
    have hHLL : upd H9 HL (.lst [.ref A0, .ref A1]) HL = some (.lst [.ref A0, .ref A1]) := upd_same
    have Q2 := Q2.same t10
    generalize upd H9 HL (.lst [.ref A0, .ref A1]) = Hc at *
    have s7c : Same H7 Hc := (e8.trans e9).trans t10
    obtain ⟨W0, Ap, hdf⟩ := sides2_of B2 s7c Q2
    have hDc : Hc D = some (.lst [.ref (sides (addS (addS (fun _ => ⟨0, 0, 0, 0, [], 0, []⟩) 0 ⟨p0, sp0, de0, dr0, ds0, 0, []⟩) (0 + 1) ⟨p1, sp1, de1, dr1, ds1, 0, []⟩) (addF (addF (fun _ => 0) 0 A0) (0 + 1) A1) (addF (addF (fun _ => []) 0 l0) (0 + 1) l1) 0).p, .ref (sides (addS (addS (fun _ => ⟨0, 0, 0, 0, [], 0, []⟩) 0 ⟨p0, sp0, de0, dr0, ds0, 0, []⟩) (0 + 1) ⟨p1, sp1, de1, dr1, ds1, 0, []⟩) (addF (addF (fun _ => 0) 0 A0) (0 + 1) A1) (addF (addF (fun _ => []) 0 l0) (0 + 1) l1) 1).p]) := s7c _ _ hDD
    have hHLc : Hc HL = some (.lst [.ref (sides (addS (addS (fun _ => ⟨0, 0, 0, 0, [], 0, []⟩) 0 ⟨p0, sp0, de0, dr0, ds0, 0, []⟩) (0 + 1) ⟨p1, sp1, de1, dr1, ds1, 0, []⟩) (addF (addF (fun _ => 0) 0 A0) (0 + 1) A1) (addF (addF (fun _ => []) 0 l0) (0 + 1) l1) 0).dh, .ref (sides (addS (addS (fun _ => ⟨0, 0, 0, 0, [], 0, []⟩) 0 ⟨p0, sp0, de0, dr0, ds0, 0, []⟩) (0 + 1) ⟨p1, sp1, de1, dr1, ds1, 0, []⟩) (addF (addF (fun _ => 0) 0 A0) (0 + 1) A1) (addF (addF (fun _ => []) 0 l0) (0 + 1) l1) 1).dh]) := hHLL
    generalize sides (addS (addS (fun _ => ⟨0, 0, 0, 0, [], 0, []⟩) 0 ⟨p0, sp0, de0, dr0, ds0, 0, []⟩) (0 + 1) ⟨p1, sp1, de1, dr1, ds1, 0, []⟩) (addF (addF (fun _ => 0) 0 A0) (0 + 1) A1) (addF (addF (fun _ => []) 0 l0) (0 + 1) l1) = SS at *
    have W0 : Many2 2 CD CS Hc (fun _ => pl) SS (fun _ => nils pl) (fun _ => nils pl) 0 := W0
    have Ap : ApartN 2 SS := Ap
    have sc : Same H Hc := (s4.trans s7).trans s7c
    have hPc := s7c _ _ hPe7
    have hxc := hx7.mono (KT.of s7c)
    clear Q2 Q1 B2 B1 hdf HA0 HA1 hA0 hA1 hl0 hl1 hHL hHLL hDD hD D0 D1 hf0 hf1 fr0 fr1 S5 S4 hPe hPe3 hPe4 hPe7 hx hx3 hx4 hx7 hTp hP nx ndx nex np0 npdx0 nep0 np1 npdx1 nep1 e4 e5 e6 t4b t5b
    refine ⟨_, rfl, a, ns, 1, rfl, sc.seq hs, fun z1 => ⟨z1, rfl, fun pp G1 hpp g1 hT1 => ?_⟩⟩
    refine ⟨_, rfl, _, rfl, pp, 4, 900000, rfl, by decide, by decide, hT1.mono (by decide), fun c5 G2 c50 c51 hT2 g2 => ⟨_, _, rfl, rfl, ?_⟩⟩
    refine ⟨pp, _, (3 + c5).toNat, 800000, rfl, by omega, by omega, hT2.mono (by omega), fun kp ks G3 hkp hkl hkw hk3 hT3 g3 => ?_⟩
    have npk : kp ≠ pp := fun z => by
      obtain ⟨xs, hx⟩ := hT2.lst
      rw [z, hx] at hkp
      cases hkp
    refine ⟨_, rfl, _, rfl, pp, 3, 700000, rfl, by decide, by decide, hT3.mono (by decide), fun c6 G4 c60 c61 hT4 g4 => ⟨_, _, rfl, rfl, ?_⟩⟩
    refine ⟨pp, _, (2 + c6).toNat, 0, rfl, by omega, by omega, hT4.mono (by omega), fun lp ls G5 hlp hll hlw hl5 hT5 g5 => ?_⟩
    have w5 : Same Hc G5 := Same.fr1 (Same.fr1 (Same.fr1 (Same.fr1 g1 g2 hpp) g3 hpp) g4 hpp) g5 hpp
    have hk5 := g5 _ _ npk (g4 _ _ npk hk3)
    have all5 : Same H G5 := sc.trans w5
    refine ⟨_, rfl, _, rfl, _, rfl, a, _, rfl, all5.seq hs, fun q1 hq1 => ?_⟩
    have t1 := Same.upd (o := .lst (cutV (ns.map V.int) (some 2) (some 42))) (Same.refl G5) hq1
    refine ⟨_, rfl, a, ns, 0, rfl, (all5.trans t1).seq hs, fun z3 => ⟨_, _, rfl, rfl, wide_div (by decide) (show (7 : Int).natAbs < 2 ^ 200 by decide) (by decide) (by decide), sizeL (by show 1 ≤ 100000; decide), fun q2 hq2 => ?_⟩⟩
    have n21 : q1 ≠ q2 := fun z => by
      rw [← z, upd_same] at hq2
      cases hq2
    have hcl := cut_to40 ns
    have hci := cut_ints ns (some 2) (some 42)
    refine ⟨q1, q2, _, _, rfl, rfl, by rw [upd_ne n21]; exact upd_same, upd_same, sizeL (by rw [List.length_cons, List.length_nil]; omega), fun L hL => ?_⟩
    generalize hxs : cutV (ns.map V.int) (some 2) (some 42) ++ [V.int (z3 / 7)] = xs
    have hxl : xs.length ≤ 41 := by
      rw [← hxs, List.length_append]
      show _ + 1 ≤ 41
      omega
    have hxi : ∀ v ∈ xs, ∃ z, v = V.int z := fun v hv => by
      rw [← hxs] at hv
      rcases List.mem_append.mp hv with h | h
      · exact hci v h
      · exact ⟨_, List.mem_singleton.mp h⟩
    have t2 := Same.upd (o := .lst [V.int (z3 / 7)]) t1 (t1.free hq2)
    have t3 := Same.upd (o := .lst xs) t2 (t2.free hL)
    have hL1 : upd (upd (upd G5 q1 (.lst (cutV (ns.map V.int) (some 2) (some 42)))) q2 (.lst [V.int (z3 / 7)])) L (.lst xs) L = some (.lst xs) := upd_same
    generalize upd (upd (upd G5 q1 (.lst (cutV (ns.map V.int) (some 2) (some 42)))) q2 (.lst [V.int (z3 / 7)])) L (.lst xs) = G6 at *
    have w6 : Same Hc G6 := w5.trans t3
    have W6 := W0.same w6
    have hx6 := hxc.mono (KT.of w6)
    have hHL6 := w6 _ _ hHLc
    have hP6 := w6 _ _ hPc
    have hD6 := w6 _ _ hDc
    have hk6 := t3 _ _ hk5
    have hl6 := t3 _ _ hl5
    clear hcl hci hL hq1 hq2 t1 t2
    have hlx : es.length = pl.length := by rw [hxc.length, List.length_map]
    have hlo := g.lo
    have hhi := g.hi
    refine ⟨L, rfl, ⟨_, SqL.of hL1⟩, for_list (K := K) (a := L) (xs := xs) (fun i σ Hi => ∃ (o8 o9 o10 o11 o12 o13 o14 o15 o16 o17 o18 : Option V) (C Ch : Nat → List (List (Key × V))), σ = [some (.ref a), some (.ref P), some (.ref sx), some (.ref D), some (.ref HL), some (.ref pp), some (.ref kp), some (.ref lp), o8, o9, o10, o11, o12, o13, o14, o15, o16, o17, o18] ∧
      i ≤ xs.length ∧ Hi L = some (.lst xs) ∧ Hi kp = some (.lst (ks.map V.int)) ∧ Hi lp = some (.lst (ls.map V.int)) ∧ Hi P = some (.lst es) ∧ Hi D = some (.lst [.ref (SS 0).p, .ref (SS 1).p]) ∧ Hi HL = some (.lst [.ref (SS 0).dh, .ref (SS 1).dh]) ∧ TdAll Hi es (pl.map entD) ∧ Many2 2 CD CS Hi (fun _ => pl) SS C Ch i) ?_ ?_ ?_ ?_⟩
    · exact ⟨_, _, _, _, _, _, _, _, _, _, _, _, _, rfl, Nat.zero_le _, hL1, hk6, hl6, hP6, hD6, hHL6, hx6, W6⟩
    · rintro i σ Hi _ ⟨_, _, _, _, _, _, _, _, _, _, _, _, _, _, _, h, _⟩
      exact SqL.of h
    · rintro i v σ Hi hiv ⟨o8, o9, o10, o11, o12, o13, o14, o15, o16, o17, o18, C, Ch, rfl, hi, hLi, hki, hli, hPi, hDi, hHLi, hxI, Wi⟩
      obtain ⟨z, rfl⟩ := hxi v (List.mem_of_getElem? hiv)
      have hil : i < xs.length := (List.getElem?_eq_some_iff.mp hiv).1
      refine ⟨_, rfl, z, rfl, fun dd G1 hdd g1 hT1 => ?_⟩
      refine ⟨_, rfl, dd, 2, 999990, rfl, by decide, by decide, hT1.mono (by decide), fun k' G2 k0 k1 hT2 g2 => ?_⟩
      obtain ⟨k, rfl⟩ : ∃ k : Nat, k' = (k : Int) := ⟨k'.toNat, by omega⟩
      have hk : k < 2 := by omega
      have w2 : Same Hi G2 := Same.fr1 g1 g2 hdd
      refine ⟨_, rfl, _, rfl, _, rfl, P, _, rfl, .inl (SqL.of (w2 _ _ hPi)), dd, _, 999980, rfl, by omega, by omega, hT2.mono (by decide), fun j' G3 j0 j1 hT3 g3 => ?_⟩
      obtain ⟨j, rfl⟩ : ∃ j : Nat, j' = (j : Int) := ⟨j'.toNat, by omega⟩
      have hj : j < es.length := by omega
      have w3 : Same Hi G3 := Same.fr1 w2 g3 hdd
      have hxj := List.getElem?_eq_getElem hj
      obtain ⟨en, hen, hTd⟩ := (hxI.mono (KT.of w3)).getM hxj
      obtain ⟨tn, tr, rs, etn, htn, htr, hrs⟩ := entD_inv hTd
      rw [etn] at hxj
      have hem := List.mem_of_getElem? hen
      have hre := hrefs en hem
      refine ⟨P, _, _, _, rfl, rfl, SqL.of (w3 _ _ hPi), atI_nat hxj, tn, _, rfl, SqT.of htn, rfl, _, _, rfl, _, _, rfl, _, _, rfl, rfl, ?_⟩
      refine ⟨_, rfl, _, rfl, _, rfl, kp, _, rfl, .inl (SqL.of (w3 _ _ hki)), dd, _, 999970, rfl, by rw [List.length_map]; omega, by rw [List.length_map]; omega, hT3.mono (by decide), fun y' G4 y0 y1 hT4 g4 => ?_⟩
      obtain ⟨y, rfl⟩ : ∃ y : Nat, y' = (y : Int) := ⟨y'.toNat, by omega⟩
      have hy : y < ks.length := by rw [List.length_map] at y1; omega
      have w4 : Same Hi G4 := Same.fr1 w3 g4 hdd
      refine ⟨kp, _, _, .int ks[y], rfl, rfl, SqL.of (w4 _ _ hki), atI_nat (by rw [List.getElem?_map, List.getElem?_eq_getElem hy]; rfl), ?_⟩
      have hkey := hkw ks[y] (List.getElem_mem hy)
      generalize ks[y] = key at *
      refine ⟨_, rfl, _, rfl, _, rfl, lp, _, rfl, .inl (SqL.of (w4 _ _ hli)), dd, _, 999960, rfl, by rw [List.length_map]; omega, by rw [List.length_map]; omega, hT4.mono (by decide), fun x' G5 x0 x1 hT5 g5 => ?_⟩
      obtain ⟨x, rfl⟩ : ∃ x : Nat, x' = (x : Int) := ⟨x'.toNat, by omega⟩
      have hxx : x < ls.length := by rw [List.length_map] at x1; omega
      have w5 : Same Hi G5 := Same.fr1 w4 g5 hdd
      refine ⟨lp, _, _, .int ls[x], rfl, rfl, SqL.of (w5 _ _ hli), atI_nat (by rw [List.getElem?_map, List.getElem?_eq_getElem hxx]; rfl), ?_⟩
      have hlab := hlw ls[x] (List.getElem_mem hxx)
      generalize ls[x] = lab at *
      have X5 := Wi.same w5
      have SX := X5.sd k hk
      have hjp : j < pl.length := by omega
      obtain ⟨d, hd⟩ : ∃ d, (SS k).ds[j]? = some d := ⟨_, List.getElem?_eq_getElem (by rw [SX.db.dl]; exact hjp)⟩
      obtain ⟨d2, hd2⟩ : ∃ d, (SS k).hs[j]? = some d := ⟨_, List.getElem?_eq_getElem (by rw [SX.hd.dl]; exact hjp)⟩
      obtain ⟨ka, hka⟩ : ∃ kvs, (C k)[j]? = some kvs := ⟨_, List.getElem?_eq_getElem (by rw [SX.db.cl]; exact hjp)⟩
      obtain ⟨kb, hkb⟩ : ∃ kvs, (Ch k)[j]? = some kvs := ⟨_, List.getElem?_eq_getElem (by rw [SX.hd.cl]; exact hjp)⟩
      have hHd2 := SX.hd.at_ j d2 kb hd2 hkb
      have hgr : DGet G5 (SS k).dh (V.str en.1) (some (.ref d2)) := by
        rw [← rowsK_get g.nd hen hd2]
        exact DGet.k (k := Sum.inr en.1) SX.hd.rws
      have yk := X5.ln k hk ka (List.mem_of_getElem? hka)
      refine ⟨_, rfl, _, rfl, D, _, _, _, rfl, rfl, SqL.of (w5 _ _ hDi), atI_nat (two_at (fun k => V.ref (SS k).p) hk), ?_⟩
      refine ⟨_, rfl, _, rfl, HL, _, _, _, rfl, rfl, SqL.of (w5 _ _ hHLi), atI_nat (two_at (fun k => V.ref (SS k).dh) hk), _, rfl, (SS k).dh, _, rfl, hgr, ?_⟩
      refine ⟨fun σ' H' => ∃ (p18 : Option V) (C' Ch' : Nat → List (List (Key × V))), σ' = [some (.ref a), some (.ref P), some (.ref sx), some (.ref D), some (.ref HL), some (.ref pp), some (.ref kp), some (.ref lp), some (.int z), some (.int k), some (.ref dd), some (.str en.1), some (.bl en.2.1), some (.ref tr), some (.int key), some (.int lab), some (.ref (SS k).p), some (.ref d2), p18] ∧
        H' L = some (.lst xs) ∧ H' kp = some (.lst (ks.map V.int)) ∧ H' lp = some (.lst (ls.map V.int)) ∧ H' P = some (.lst es) ∧ H' D = some (.lst [.ref (SS 0).p, .ref (SS 1).p]) ∧ H' HL = some (.lst [.ref (SS 0).dh, .ref (SS 1).dh]) ∧ TdAll H' es (pl.map entD) ∧ Many2 2 CD CS H' (fun _ => pl) SS C' Ch' (i + 1), ?_, ?_⟩
      · have hg2 : DGet G5 d2 (V.int key) (valV kb (Sum.inl key)) := DGet.k (k := Sum.inl key) hHd2
        have hEq := SX.eq j ka kb hka hkb
        have hRa := SX.db.ok j en ka hen hka
        refine ⟨_, rfl, _, rfl, d2, _, rfl, hg2, _, rfl, ?_⟩
        rcases hv : valV kb (Sum.inl key) with _ | v
        rotate_left
        · refine iteT ?_
          refine ⟨_, rfl, dd, 4, 999950, rfl, by decide, by decide, hT5.mono (by decide), fun d4 G7 _ _ hT7 g7 => ⟨rfl, _, rfl, ite2 (fun _ => ?_) (fun _ => ?_)⟩⟩
          · -- base.drop(name, key); rows.pop(key)
            have w7 : Same Hi G7 := Same.fr1 w5 g7 hdd
            have X7 := Wi.same w7
            have SX7 := X7.sd k hk
            obtain ⟨dxb, hpb⟩ := SX7.db.ob
            refine ⟨_, rfl, (SS k).p, dxb, _, rfl, hpb, dFlds_no _ _ (by decide +kernel) (by decide +kernel), _, rfl, _, rfl, (SS k).p, (SS k).sp, (SS k).de, (SS k).dr, d, pl, (SS k).ds, C k, j, en, ka, key, rfl, SX7.db, hen, hka, hd, by rw [← hEq.some, hv]; rfl, fun G8 D8 f8 _ => ?_⟩
            have h82 : G8 d2 = some (.dK kb) := f8 d2 _ (fun w => (List.nodup_append.mp SX7.nd).2.2 d (List.mem_of_getElem? hd) d2 (List.mem_of_getElem? hd2) w.symm) (SX7.hd.at_ j d2 kb hd2 hkb)
            refine ⟨_, rfl, d2, rfl, .inl ⟨_, .inl h82⟩, _, rfl, kb, Sum.inl key, v, h82, rfl, hv, ?_⟩
            have kt78 : KT G7 G8 := fun c ys hc => f8 c _ (ne_of hc (SX7.db.at_ j d ka hd hka) (by intro z; cases z)) hc
            have kt89 : KT G8 (upd G8 d2 (.dK (dropK kb (Sum.inl key)))) := fun c ys hc => by
              rw [upd_ne (ne_of hc h82 (by intro z; cases z))]
              exact hc
            obtain ⟨ff, kt9, ls9, TT⟩ := Many2.step (ka := dropK ka (Sum.inl key)) (kb := dropK kb (Sum.inl key)) (X7.up (Nat.le_succ i)) Ap hk hd hd2 D8 f8 (Nat.le_trans (dropK_le _ _) (Nat.le_trans yk (Nat.le_succ i))) (((SX7.eq j ka kb hka hkb).mono (kt78.trans kt89)).drop)
            have lsA : ∀ (c : Addr) (xs : List V), Hi c = some (.lst xs) → upd G8 d2 (.dK (dropK kb (Sum.inl key))) c = some (.lst xs) := fun c xs h => ls9 _ _ (w7 _ _ h)
            exact ⟨_, _, _, rfl, lsA _ _ hLi, lsA _ _ hki, lsA _ _ hli, lsA _ _ hPi, lsA _ _ hDi, lsA _ _ hHLi, hxI.mono ((KT.of w7).trans kt9), TT⟩
          · have w7 : Same Hi G7 := Same.fr1 w5 g7 hdd
            clear hg2 hT5
            have X7 := Wi.same w7
            have SX7 := X7.sd k hk
            have hEq7 := SX7.eq j ka kb hka hkb
            have hRa7 := SX7.db.ok j en ka hen hka
            have hRb7 := hEq7.rows hRa7
            have h72 := SX7.hd.at_ j d2 kb hd2 hkb
            have hlb := hEq7.len
            refine ⟨_, rfl, _, rfl, _, rfl, _, rfl, d2, key, lab, en.2.1, kb, _, rfl, h72, hRb7, by omega, fun b G8 e8 hb1 hb0 => ⟨b, rfl, ?_⟩⟩
            have w8 := w7.trans e8
            have X8 := X7.same e8
            refine ite2 (fun hb => ?_) (fun hb => ?_)
            · obtain ⟨hu, hTk⟩ := hb1 hb
              have hTa : TakenAt G7 ka key lab := hEq7.takenR hRa7.nd hTk
              refine ⟨_, rfl, _, rfl, _, rfl, _, rfl, sizeL (by show 0 ≤ 100000; decide), fun u hu0 => ⟨sizeL (by show 2 ≤ 100000; decide), fun r hr => ?_⟩⟩
              have v1 := Same.upd (o := .tup []) (Same.refl G8) hu0
              have v2 := Same.upd (o := .tup [.int lab, .ref u]) v1 (v1.free hr)
              have hu1 : upd G8 u (.tup []) u = some (.tup []) := upd_same
              have hTr : Td (upd (upd G8 u (.tup [])) r (.tup [.int lab, .ref u])) (.ref r) (rowD lab []) := .tup upd_same (.cons (.int _) (.cons (.tup (by rw [upd_ne (ne_of_none hu1 hr)]; exact hu1) .nil) .nil))
              generalize upd (upd G8 u (.tup [])) r (.tup [.int lab, .ref u]) = G9 at *
              have X9 := X8.same v2
              have SX9 := X9.sd k hk
              refine ⟨(SS k).p, (SS k).sp, (SS k).de, (SS k).dr, d, .ref r, pl, (SS k).ds, C k, j, en, ka, key, lab, [], rfl, SX9.db, hen, hka, hd, by omega, hkey.1, hTr, ⟨hlab.1, by have := hlab.2; omega, by rw [hre]; rfl, by simp⟩, fun hn => absurd ⟨hu, (hTa.same e8).same v2⟩ hn, fun _ H9 F e9 hF hFF => ?_⟩
              refine ⟨_, rfl, _, rfl, _, rfl, sizeL (by show 2 ≤ 100000; decide), fun F2 hF2 => ?_⟩
              have v3 := Same.upd (o := .lst [.str en.1, .int lab]) (Same.refl H9) hF2
              have hfn : Fine 2 (.list [.str en.1, .int lab]) := Fine.lst (n := 1) fun d hd => by
                rcases List.mem_cons.mp hd with rfl | hd
                · exact (g.nm en hem).fine
                · rw [List.mem_singleton.mp hd]
                  exact Fine.int _
              refine ⟨.list [.str en.1, .int lab], .list [.str en.1, .int lab], Dp.lst (SqL.of (v3 _ _ hFF)) (.cons (.str _) (.cons (.int _) .nil)), Dp.lst (SqL.of upd_same) (.cons (.str _) (.cons (.int _) .nil)), hfn.sh (by decide), hfn.sh (by decide), false, by rw [hfn.self]; rfl, iteF ?_⟩
              refine ⟨_, rfl, F, _, _, _, rfl, rfl, SqL.of (v3 _ _ hFF), atI_nat (j := 1) (v := V.int lab) rfl, lab, rfl, true, rfl, iteF ?_⟩
              have wF := ((w8.trans v2).trans e9).trans v3
              exact ⟨_, C, Ch, rfl, wF _ _ hLi, wF _ _ hki, wF _ _ hli, wF _ _ hPi, wF _ _ hDi, wF _ _ hHLi, hxI.mono (KT.of wF), (Wi.same wF).up (Nat.le_succ i)⟩
            · have hbf : b = false := by cases b <;> simp_all
              refine ⟨_, rfl, _, rfl, _, rfl, _, rfl, sizeL (by show 0 ≤ 100000; decide), fun u hu0 => ⟨sizeL (by show 2 ≤ 100000; decide), fun r hr => ?_⟩⟩
              have v1 := Same.upd (o := .tup []) (Same.refl G8) hu0
              have v2 := Same.upd (o := .tup [.int lab, .ref u]) v1 (v1.free hr)
              have hu1 : upd G8 u (.tup []) u = some (.tup []) := upd_same
              have hTr : Td (upd (upd G8 u (.tup [])) r (.tup [.int lab, .ref u])) (.ref r) (rowD lab []) := .tup upd_same (.cons (.int _) (.cons (.tup (by rw [upd_ne (ne_of_none hu1 hr)]; exact hu1) .nil) .nil))
              generalize upd (upd G8 u (.tup [])) r (.tup [.int lab, .ref u]) = G9 at *
              have X9 := X8.same v2
              have SX9 := X9.sd k hk
              have w9 := w8.trans v2
              refine ⟨(SS k).p, (SS k).sp, (SS k).de, (SS k).dr, d, .ref r, pl, (SS k).ds, C k, j, en, ka, key, lab, [], rfl, SX9.db, hen, hka, hd, by omega, hkey.1, hTr, ⟨hlab.1, by have := hlab.2; omega, by rw [hre]; rfl, by simp⟩, fun _ H9 F hF hFF D9 f9 h9 => ?_, fun ht => absurd (hEq7.takenL hRa7.nd (ht.2.back hRa7 (e8.trans v2))) (hb0 hbf ht.1)⟩
              refine ⟨sizeL (by show 0 ≤ 100000; decide), fun F2 hF2 => ?_⟩
              have v3 := Same.upd (o := .lst []) (Same.refl H9) hF2
              have hfn : Fine 2 (.list []) := Fine.lst (n := 1) (by simp)
              refine ⟨.list [], .list [], Dp.lst (SqL.of (v3 _ _ hFF)) .nil, Dp.lst (SqL.of upd_same) .nil, hfn.sh (by decide), hfn.sh (by decide), false, by rw [hfn.self]; rfl, iteF ?_⟩
              refine ⟨_, rfl, sizeL (by show 0 ≤ 100000; decide), fun u2 hu2 => ⟨sizeL (by show 2 ≤ 100000; decide), fun r2 hr2 => ?_⟩⟩
              have v4 := Same.upd (o := .tup []) v3 (v3.free hu2)
              have v5 := Same.upd (o := .tup [.int lab, .ref u2]) v4 (v4.free hr2)
              have hu21 : upd (upd H9 F2 (.lst [])) u2 (.tup []) u2 = some (.tup []) := upd_same
              have hTr2 : Td (upd (upd (upd H9 F2 (.lst [])) u2 (.tup [])) r2 (.tup [.int lab, .ref u2])) (.ref r2) (rowD lab []) := .tup upd_same (.cons (.int _) (.cons (.tup (by rw [upd_ne (ne_of_none hu21 hr2)]; exact hu21) .nil) .nil))
              generalize upd (upd (upd H9 F2 (.lst [])) u2 (.tup [])) r2 (.tup [.int lab, .ref u2]) = H10 at *
              have D10 := D9.same v5
              have f10 : Fr1 d G9 H10 := f9.trans (Fr1.of v5)
              have h9d2 := SX9.hd.at_ j d2 kb hd2 hkb
              have h102 : H10 d2 = some (.dK kb) := f10 d2 _ (fun w => (List.nodup_append.mp SX9.nd).2.2 d (List.mem_of_getElem? hd) d2 (List.mem_of_getElem? hd2) w.symm) h9d2
              refine ⟨_, rfl, _, rfl, d2, _, rfl, DPut.k (k := Sum.inl key) h102 (sizeLt (by omega)), ?_⟩
              have kt90 : KT G9 H10 := fun c ys hc => f10 c _ (ne_of hc (SX9.db.at_ j d ka hd hka) (by intro z; cases z)) hc
              have kt01 : KT H10 (upd H10 d2 (.dK (putK kb (Sum.inl key) (.ref r2)))) := fun c ys hc => by
                rw [upd_ne (ne_of hc h102 (by intro z; cases z))]
                exact hc
              obtain ⟨ff, kt9, ls9, TT⟩ := Many2.step (ka := putK ka (Sum.inl key) (.ref r)) (kb := putK kb (Sum.inl key) (.ref r2)) (X9.up (Nat.le_succ i)) Ap hk hd hd2 D10 f10 (Nat.le_trans (putK_len _ _ _) (Nat.succ_le_succ yk)) (((SX9.eq j ka kb hka hkb).mono (kt90.trans kt01)).put (hTr.mono (kt90.trans kt01)) (hTr2.mono kt01))
              have lsA : ∀ (c : Addr) (xs : List V), Hi c = some (.lst xs) → upd H10 d2 (.dK (putK kb (Sum.inl key) (.ref r2))) c = some (.lst xs) := fun c xs h => ls9 _ _ (w9 _ _ h)
              exact ⟨_, _, _, rfl, lsA _ _ hLi, lsA _ _ hki, lsA _ _ hli, lsA _ _ hPi, lsA _ _ hDi, lsA _ _ hHLi, hxI.mono ((KT.of w9).trans kt9), TT⟩
        · refine iteF ?_
          obtain ⟨G7, rfl⟩ : ∃ G, G = G5 := ⟨_, rfl⟩
          have w7 := w5
          have hT7 := hT5
          clear hg2 hT5
          have X7 := Wi.same w7
          have SX7 := X7.sd k hk
          have hEq7 := SX7.eq j ka kb hka hkb
          have hRa7 := SX7.db.ok j en ka hen hka
          have hRb7 := hEq7.rows hRa7
          have h72 := SX7.hd.at_ j d2 kb hd2 hkb
          have hlb := hEq7.len
          refine ⟨_, rfl, _, rfl, _, rfl, _, rfl, d2, key, lab, en.2.1, kb, _, rfl, h72, hRb7, by omega, fun b G8 e8 hb1 hb0 => ⟨b, rfl, ?_⟩⟩
          have w8 := w7.trans e8
          have X8 := X7.same e8
          refine ite2 (fun hb => ?_) (fun hb => ?_)
          · obtain ⟨hu, hTk⟩ := hb1 hb
            have hTa : TakenAt G7 ka key lab := hEq7.takenR hRa7.nd hTk
            refine ⟨_, rfl, _, rfl, _, rfl, _, rfl, sizeL (by show 0 ≤ 100000; decide), fun u hu0 => ⟨sizeL (by show 2 ≤ 100000; decide), fun r hr => ?_⟩⟩
            have v1 := Same.upd (o := .tup []) (Same.refl G8) hu0
            have v2 := Same.upd (o := .tup [.int lab, .ref u]) v1 (v1.free hr)
            have hu1 : upd G8 u (.tup []) u = some (.tup []) := upd_same
            have hTr : Td (upd (upd G8 u (.tup [])) r (.tup [.int lab, .ref u])) (.ref r) (rowD lab []) := .tup upd_same (.cons (.int _) (.cons (.tup (by rw [upd_ne (ne_of_none hu1 hr)]; exact hu1) .nil) .nil))
            generalize upd (upd G8 u (.tup [])) r (.tup [.int lab, .ref u]) = G9 at *
            have X9 := X8.same v2
            have SX9 := X9.sd k hk
            refine ⟨(SS k).p, (SS k).sp, (SS k).de, (SS k).dr, d, .ref r, pl, (SS k).ds, C k, j, en, ka, key, lab, [], rfl, SX9.db, hen, hka, hd, by omega, hkey.1, hTr, ⟨hlab.1, by have := hlab.2; omega, by rw [hre]; rfl, by simp⟩, fun hn => absurd ⟨hu, (hTa.same e8).same v2⟩ hn, fun _ H9 F e9 hF hFF => ?_⟩
            refine ⟨_, rfl, _, rfl, _, rfl, sizeL (by show 2 ≤ 100000; decide), fun F2 hF2 => ?_⟩
            have v3 := Same.upd (o := .lst [.str en.1, .int lab]) (Same.refl H9) hF2
            have hfn : Fine 2 (.list [.str en.1, .int lab]) := Fine.lst (n := 1) fun d hd => by
              rcases List.mem_cons.mp hd with rfl | hd
              · exact (g.nm en hem).fine
              · rw [List.mem_singleton.mp hd]
                exact Fine.int _
            refine ⟨.list [.str en.1, .int lab], .list [.str en.1, .int lab], Dp.lst (SqL.of (v3 _ _ hFF)) (.cons (.str _) (.cons (.int _) .nil)), Dp.lst (SqL.of upd_same) (.cons (.str _) (.cons (.int _) .nil)), hfn.sh (by decide), hfn.sh (by decide), false, by rw [hfn.self]; rfl, iteF ?_⟩
            refine ⟨_, rfl, F, _, _, _, rfl, rfl, SqL.of (v3 _ _ hFF), atI_nat (j := 1) (v := V.int lab) rfl, lab, rfl, true, rfl, iteF ?_⟩
            have wF := ((w8.trans v2).trans e9).trans v3
            exact ⟨_, C, Ch, rfl, wF _ _ hLi, wF _ _ hki, wF _ _ hli, wF _ _ hPi, wF _ _ hDi, wF _ _ hHLi, hxI.mono (KT.of wF), (Wi.same wF).up (Nat.le_succ i)⟩
          · have hbf : b = false := by cases b <;> simp_all
            refine ⟨_, rfl, _, rfl, _, rfl, _, rfl, sizeL (by show 0 ≤ 100000; decide), fun u hu0 => ⟨sizeL (by show 2 ≤ 100000; decide), fun r hr => ?_⟩⟩
            have v1 := Same.upd (o := .tup []) (Same.refl G8) hu0
            have v2 := Same.upd (o := .tup [.int lab, .ref u]) v1 (v1.free hr)
            have hu1 : upd G8 u (.tup []) u = some (.tup []) := upd_same
            have hTr : Td (upd (upd G8 u (.tup [])) r (.tup [.int lab, .ref u])) (.ref r) (rowD lab []) := .tup upd_same (.cons (.int _) (.cons (.tup (by rw [upd_ne (ne_of_none hu1 hr)]; exact hu1) .nil) .nil))
            generalize upd (upd G8 u (.tup [])) r (.tup [.int lab, .ref u]) = G9 at *
            have X9 := X8.same v2
            have SX9 := X9.sd k hk
            have w9 := w8.trans v2
            refine ⟨(SS k).p, (SS k).sp, (SS k).de, (SS k).dr, d, .ref r, pl, (SS k).ds, C k, j, en, ka, key, lab, [], rfl, SX9.db, hen, hka, hd, by omega, hkey.1, hTr, ⟨hlab.1, by have := hlab.2; omega, by rw [hre]; rfl, by simp⟩, fun _ H9 F hF hFF D9 f9 h9 => ?_, fun ht => absurd (hEq7.takenL hRa7.nd (ht.2.back hRa7 (e8.trans v2))) (hb0 hbf ht.1)⟩
            refine ⟨sizeL (by show 0 ≤ 100000; decide), fun F2 hF2 => ?_⟩
            have v3 := Same.upd (o := .lst []) (Same.refl H9) hF2
            have hfn : Fine 2 (.list []) := Fine.lst (n := 1) (by simp)
            refine ⟨.list [], .list [], Dp.lst (SqL.of (v3 _ _ hFF)) .nil, Dp.lst (SqL.of upd_same) .nil, hfn.sh (by decide), hfn.sh (by decide), false, by rw [hfn.self]; rfl, iteF ?_⟩
            refine ⟨_, rfl, sizeL (by show 0 ≤ 100000; decide), fun u2 hu2 => ⟨sizeL (by show 2 ≤ 100000; decide), fun r2 hr2 => ?_⟩⟩
            have v4 := Same.upd (o := .tup []) v3 (v3.free hu2)
            have v5 := Same.upd (o := .tup [.int lab, .ref u2]) v4 (v4.free hr2)
            have hu21 : upd (upd H9 F2 (.lst [])) u2 (.tup []) u2 = some (.tup []) := upd_same
            have hTr2 : Td (upd (upd (upd H9 F2 (.lst [])) u2 (.tup [])) r2 (.tup [.int lab, .ref u2])) (.ref r2) (rowD lab []) := .tup upd_same (.cons (.int _) (.cons (.tup (by rw [upd_ne (ne_of_none hu21 hr2)]; exact hu21) .nil) .nil))
            generalize upd (upd (upd H9 F2 (.lst [])) u2 (.tup [])) r2 (.tup [.int lab, .ref u2]) = H10 at *
            have D10 := D9.same v5
            have f10 : Fr1 d G9 H10 := f9.trans (Fr1.of v5)
            have h9d2 := SX9.hd.at_ j d2 kb hd2 hkb
            have h102 : H10 d2 = some (.dK kb) := f10 d2 _ (fun w => (List.nodup_append.mp SX9.nd).2.2 d (List.mem_of_getElem? hd) d2 (List.mem_of_getElem? hd2) w.symm) h9d2
            refine ⟨_, rfl, _, rfl, d2, _, rfl, DPut.k (k := Sum.inl key) h102 (sizeLt (by omega)), ?_⟩
            have kt90 : KT G9 H10 := fun c ys hc => f10 c _ (ne_of hc (SX9.db.at_ j d ka hd hka) (by intro z; cases z)) hc
            have kt01 : KT H10 (upd H10 d2 (.dK (putK kb (Sum.inl key) (.ref r2)))) := fun c ys hc => by
              rw [upd_ne (ne_of hc h102 (by intro z; cases z))]
              exact hc
            obtain ⟨ff, kt9, ls9, TT⟩ := Many2.step (ka := putK ka (Sum.inl key) (.ref r)) (kb := putK kb (Sum.inl key) (.ref r2)) (X9.up (Nat.le_succ i)) Ap hk hd hd2 D10 f10 (Nat.le_trans (putK_len _ _ _) (Nat.succ_le_succ yk)) (((SX9.eq j ka kb hka hkb).mono (kt90.trans kt01)).put (hTr.mono (kt90.trans kt01)) (hTr2.mono kt01))
            have lsA : ∀ (c : Addr) (xs : List V), Hi c = some (.lst xs) → upd H10 d2 (.dK (putK kb (Sum.inl key) (.ref r2))) c = some (.lst xs) := fun c xs h => ls9 _ _ (w9 _ _ h)
            exact ⟨_, _, _, rfl, lsA _ _ hLi, lsA _ _ hki, lsA _ _ hli, lsA _ _ hPi, lsA _ _ hDi, lsA _ _ hHLi, hxI.mono ((KT.of w9).trans kt9), TT⟩
      · rintro σ' Ga ⟨p18, C', Ch', rfl, hLa, hka', hla, hPa, hDa, hHLa, hxA, Xa⟩
        clear X5 SX hHd2 hgr yk hka hkb ka kb
        have SX := Xa.sd k hk
        obtain ⟨dxb, hpb⟩ := SX.db.ob
        obtain ⟨ka, hka⟩ : ∃ kvs, (C' k)[j]? = some kvs := ⟨_, List.getElem?_eq_getElem (by rw [SX.db.cl]; exact hjp)⟩
        obtain ⟨kb, hkb⟩ : ∃ kvs, (Ch' k)[j]? = some kvs := ⟨_, List.getElem?_eq_getElem (by rw [SX.hd.cl]; exact hjp)⟩
        have hd2a := SX.hd.at_ j d2 kb hd2 hkb
        refine ⟨_, rfl, _, rfl, d2, _, rfl, DGet.k (k := Sum.inl key) hd2a, _, rfl, _, rfl, sizeL (by show 2 ≤ 100000; decide), fun tq htq => ?_⟩
        have u1 := Same.upd (o := .tup [.str en.1, .int key]) (Same.refl Ga) htq
        refine ⟨_, rfl, (SS k).p, dxb, _, rfl, u1 _ _ hpb, (SS k).p, tq, (SS k).sp, (SS k).de, (SS k).dr, pl, (SS k).ds, C' k, en.1, ka, key, rfl, SX.db.same u1, .inl ⟨j, en, hen, rfl, hka⟩, upd_same, _, rfl, rfl, false, by rw [(SX.eq j ka kb hka hkb).some]; simp, iteF ?_⟩
        exact ⟨_, _, _, _, _, _, _, _, _, _, _, C', Ch', rfl, hil, u1 _ _ hLa, u1 _ _ hka', u1 _ _ hla, u1 _ _ hPa, u1 _ _ hDa, u1 _ _ hHLa, hxA.mono (KT.of u1), Xa.same u1⟩
    · rintro σ Hi ⟨o8, o9, o10, o11, o12, o13, o14, o15, o16, o17, o18, C, Ch, rfl, hi, hLi, hki, hli, hPi, hDi, hHLi, hxI, Wi⟩
      have hl64 : ∀ k, k < 2 → ∀ kvs ∈ C k, kvs.length < 64 := fun k hk kvs h => Nat.lt_of_le_of_lt (Nat.le_trans (Wi.ln k hk kvs h) hxl) (by decide)
      refine ⟨2, rfl, by decide, by decide, for_range (lo := 0) (n := 2) (fun k σ Hk => ∃ (o8 o9 o10 o11 o12 o13 o14 o15 o16 o17 o18 : Option V), σ = [some (.ref a), some (.ref P), some (.ref sx), some (.ref D), some (.ref HL), some (.ref pp), some (.ref kp), some (.ref lp), o8, o9, o10, o11, o12, o13, o14, o15, o16, o17, o18] ∧ Same Hi Hk) ?_ ?_ ?_⟩
      · exact ⟨_, _, _, _, _, _, _, _, _, _, _, rfl, Same.refl _⟩
      · rintro k σ Hk hk ⟨o8, o9, o10, o11, o12, o13, o14, o15, o16, o17, o18, rfl, ek⟩
        refine ⟨_, rfl, P, rfl, ⟨_, SqL.of (ek _ _ hPi)⟩, for_list (K := K) (a := P) (xs := es) (fun j σ Hj => ∃ (o8 o10 o11 o12 o13 o14 o15 o16 o17 o18 : Option V), σ = [some (.ref a), some (.ref P), some (.ref sx), some (.ref D), some (.ref HL), some (.ref pp), some (.ref kp), some (.ref lp), o8, some (.int (0 + k)), o10, o11, o12, o13, o14, o15, o16, o17, o18] ∧ Same Hi Hj) ?_ ?_ ?_ ?_⟩
        · exact ⟨_, _, _, _, _, _, _, _, _, _, rfl, ek⟩
        · rintro j σ Hj _ ⟨_, _, _, _, _, _, _, _, _, _, _, e⟩
          exact SqL.of (e _ _ hPi)
        · rintro j y σ Hj hyj ⟨o8, o10, o11, o12, o13, o14, o15, o16, o17, o18, rfl, ej⟩
          obtain ⟨en, hen, hTd⟩ := (hxI.mono (KT.of ej)).getM hyj
          obtain ⟨tn, tr, rs, rfl, htn, htr, hrs⟩ := entD_inv hTd
          have SX := (Wi.same ej).sd k hk
          obtain ⟨dxb, hpb⟩ := SX.db.ob
          have hjp : j < pl.length := (List.getElem?_eq_some_iff.mp hen).1
          obtain ⟨d2, hd2⟩ : ∃ d, (SS k).hs[j]? = some d := ⟨_, List.getElem?_eq_getElem (by rw [SX.hd.dl]; exact hjp)⟩
          obtain ⟨ka, hka⟩ : ∃ kvs, (C k)[j]? = some kvs := ⟨_, List.getElem?_eq_getElem (by rw [SX.db.cl]; exact hjp)⟩
          obtain ⟨kb, hkb⟩ : ∃ kvs, (Ch k)[j]? = some kvs := ⟨_, List.getElem?_eq_getElem (by rw [SX.hd.cl]; exact hjp)⟩
          have hk64 := hl64 k hk ka (List.mem_of_getElem? hka)
          have hai : ∀ (f : Nat → V), atI [f 0, f 1] (0 + (k : Int)) = some (f k) := fun f => by
            rw [Int.zero_add]
            exact atI_nat (two_at f hk)
          refine ⟨tn, _, rfl, SqT.of htn, rfl, _, _, rfl, _, _, rfl, _, _, rfl, rfl, ?_⟩
          refine ⟨_, rfl, _, rfl, D, _, _, _, rfl, rfl, SqL.of (ej _ _ hDi), hai (fun k => .ref (SS k).p), (SS k).p, dxb, _, rfl, hpb, dFlds_no _ _ (by decide +kernel) (by decide +kernel), _, rfl, (SS k).p, (SS k).sp, (SS k).de, (SS k).dr, pl, (SS k).ds, C k, j, en, ka, rfl, SX.db, hen, hka, hk64, fun r ys H2 hr0 RL e2 => ?_⟩
          have hgr : DGet H2 (SS k).dh (V.str en.1) (some (.ref d2)) := by
            rw [← rowsK_get g.nd hen hd2]
            exact DGet.k (k := Sum.inr en.1) (e2 _ _ SX.hd.rws)
          refine ⟨_, rfl, _, rfl, HL, _, _, _, rfl, rfl, SqL.of (e2 _ _ (ej _ _ hHLi)), hai (fun k => .ref (SS k).dh), _, rfl, (SS k).dh, _, rfl, hgr, r, d2, ka, kb, ys, _, rfl, RL, e2 _ _ (SX.hd.at_ j d2 kb hd2 hkb), (SX.eq j ka kb hka hkb).mono (KT.of e2), (SX.db.ok j en ka hen hka).mono (KT.of e2), Nat.le_trans (g.refs en (List.mem_of_getElem? hen)).len (by decide), hk64, fun H3 e3 => ⟨true, rfl, iteF ?_⟩⟩
          exact ⟨_, _, _, _, _, _, _, _, _, _, rfl, (ej.trans e2).trans e3⟩
        · rintro σ Hj ⟨o8, o10, o11, o12, o13, o14, o15, o16, o17, o18, rfl, ej⟩
          exact ⟨_, _, _, _, _, _, _, _, _, _, _, rfl, ej⟩
      · rintro σ Hk ⟨o8, o9, o10, o11, o12, o13, o14, o15, o16, o17, o18, rfl, ek⟩
        exact q _
end My
namespace My
open PySem L2
theorem fin {l : PySem.W.OpenLaw} {w : World} {K : PySem.W.Frag} {mg : Str → Option Value} {fa : Addr} {CS CD XCarryError XTaken : Addr} (T : Txt K mg CS CD XCarryError XTaken) (hfa : mg "law" = some (.ref fa)) :
    ∃ fd : FuncData, (∀ (s : Shared) (v : Value), BindsTo s fd ⟨[v], []⟩ [("script", v)]) ∧ ∀ base : Heap, K.In base → base.Ns mainGlobals mg → FnOk l.prog w K mg base CX0 10 fa fd ["script"] (spLaw K) := by
  obtain ⟨f, fd, F, hm, hb⟩ := T.d_law.ex
  obtain rfl : fa = f := Value.ref.inj (Option.some.inj (hfa.symm.trans hm))
  refine ⟨fd, fun s v => ?_, fun base _ _ => F.ok sc_law len_law fun cdv A outer s H vs Q E hr h => body_law T fa cdv A outer s H vs Q E hr h⟩
  obtain ⟨oc, od, kV, doc, pm, an, cdv, ct, osl, rfl, _⟩ := F.ex
  exact .of_eq rfl
theorem walk {l : PySem.W.OpenLaw} {q : Program} {loose : List Str} {XP : (Str → Option Value) → Heap → Prop} {YP : World → Heap → Prop} {d : DefRec} {K : Params → PySem.W.Frag} (hn : l.most = some 63) (hdf : d.params.defaults = [])
    (hY : ∀ (w : World) (h : Heap), YP w h → (K w.params).In h)
    (F : ∀ (w : World) (mg : Str → Option Value) (fa : Addr) (h : Heap), (K w.params).In h → h.Ns mainGlobals mg → mg d.name = some (.ref fa) →
      ∃ fd : FuncData, (∀ (s : Shared) (u : Value), BindsTo s fd ⟨[u], []⟩ [("script", u)]) ∧ ∀ base : Heap, (K w.params).In base → base.Ns mainGlobals mg → FnOk l.prog w (K w.params) mg base CX0 10 fa fd ["script"] (spLaw (K w.params))) :
    PySem.W.WalkO q loose XP YP l.row.toRowW d [] (fun f vs => PySem.call f vs) :=
  L2.walk_of (n := 63) (k := 10) (x := "script") (CX := fun _ => CX0) (sp := fun w => spLaw (K w.params)) hn (by decide) hdf ⟨rfl, by decide, by decide⟩ hY F (fun _ _ a ns hl _ hS => ⟨a, ns, rfl, hS, hl, fun _ => rfl⟩) fun _ _ _ _ _ z => z
end My
open PySem PySem.W PyProof.Rows
set_option maxRecDepth 100000 in
set_option maxHeartbeats 0 in
theorem PySem.Challenge.cw_carrykeys_k06_labels_taken_holds : PySem.Challenge.rw_carrykeys_k06_labels_taken.Holds := by
  w_on; o_law; k_head; (case hw => w_witness2)
  k_fill
  refine My.walk (l := PySem.Challenge.rw_carrykeys_k06_labels_taken) rfl rfl (fun w h Y => PySem.W.kIn_of Y) ?F
  case F =>
    intro w mg fa h KX G hmg
    refine' My.fin (My.Txt.mk (My.classAt KX G ?h1 ?h2 ?h3 ?h4 ?h5 ?h6 ?h7)
      (My.noAttr ?h8)
      (My.noAttr ?h9)
      (My.classAt KX G ?h10 ?h11 ?h12 ?h13 ?h14 ?h15 ?h16)
      (My.noAttr ?h17)
      (My.noAttr ?h18)
      (My.baseAt KX G ?h19 ?h20 ?h21 ?h22 ?h23)
      (My.errAt KX G ?h24 ?h25 ?h26 ?h27 ?h28 ?h29 ?h30 ?h31 ?h32 ?h33 (My.noC ?h35 (My.noC ?h34 My.no0)))
      ?h36
      ?h37
      ?h38
      (My.methAt (fun _ _ _ _ _ _ us hl => match us, hl with | [_, _], _ => rfl) ?h39 ?h40 ?h41 ?h42 ?h43)
      (My.methAt (fun _ _ _ _ _ _ us hl => match us, hl with | [_, _, _], _ => rfl) ?h44 ?h45 ?h46 ?h47 ?h48)
      (My.defAt KX G (fun _ _ _ _ _ _ us hl => match us, hl with | [_, _], _ => rfl) ?h49 ?h50 ?h51 ?h52)
      (My.defAt KX G (fun _ _ _ _ _ _ us hl => match us, hl with | [_], _ => rfl) ?h53 ?h54 ?h55 ?h56)
      (My.defAt KX G (fun _ _ _ _ _ _ us hl => match us, hl with | [_, _], _ => rfl) ?h57 ?h58 ?h59 ?h60)
      (My.defAt KX G (fun _ _ _ _ _ _ us hl => match us, hl with | [_], _ => rfl) ?h61 ?h62 ?h63 ?h64)
      (My.defAt KX G (fun _ _ _ _ _ _ us hl => match us, hl with | [_, _], _ => rfl) ?h65 ?h66 ?h67 ?h68)
      (My.defAt KX G (fun _ _ _ _ _ _ us hl => match us, hl with | [_, _], _ => rfl) ?h69 ?h70 ?h71 ?h72)
      (My.defAt KX G (fun _ _ _ _ _ _ us hl => match us, hl with | [_, _], _ => rfl) ?h73 ?h74 ?h75 ?h76)
      (My.defAt KX G (fun _ _ _ _ _ _ us hl => match us, hl with | [_], _ => rfl) ?h77 ?h78 ?h79 ?h80)
      (My.defAt KX G (fun _ _ _ _ _ _ us hl => match us, hl with | [_, _], _ => rfl) ?h81 ?h82 ?h83 ?h84)
      (My.defAt KX G (fun _ _ _ _ _ _ us hl => match us, hl with | [_], _ => rfl) ?h85 ?h86 ?h87 ?h88)
      (My.defAt KX G (fun _ _ _ _ _ _ us hl => match us, hl with | [_], _ => rfl) ?h89 ?h90 ?h91 ?h92)
      (My.defAt KX G (fun _ _ _ _ _ _ us hl => match us, hl with | [_], _ => rfl) ?h93 ?h94 ?h95 ?h96)
      (My.defAt KX G (fun _ _ _ _ _ _ us hl => match us, hl with | [_], _ => rfl) ?h97 ?h98 ?h99 ?h100)
      (My.defAt KX G (fun _ _ _ _ _ _ us hl => match us, hl with | [_], _ => rfl) ?h101 ?h102 ?h103 ?h104)
      (My.defAt KX G (fun _ _ _ _ _ _ us hl => match us, hl with | [_], _ => rfl) ?h105 ?h106 ?h107 ?h108)
      (My.defAt KX G (fun _ _ _ _ _ _ us hl => match us, hl with | [_], _ => rfl) ?h109 ?h110 ?h111 ?h112)
      (My.defAt KX G (fun _ _ _ _ _ _ us hl => match us, hl with | [_], _ => rfl) ?h113 ?h114 ?h115 ?h116)
      (My.defAt KX G (fun _ _ _ _ _ _ us hl => match us, hl with | [_], _ => rfl) ?h117 ?h118 ?h119 ?h120)
      (My.defAt KX G (fun _ _ _ _ _ _ us hl => match us, hl with | [_], _ => rfl) ?h121 ?h122 ?h123 ?h124)
      (My.defAt KX G (fun _ _ _ _ _ _ us hl => match us, hl with | [_, _], _ => rfl) ?h125 ?h126 ?h127 ?h128)
      (My.methAt (fun _ _ _ _ _ _ us hl => match us, hl with | [_, _], _ => rfl) ?h129 ?h130 ?h131 ?h132 ?h133)
      (My.methAt (fun _ _ _ _ _ _ us hl => match us, hl with | [_], _ => rfl) ?h134 ?h135 ?h136 ?h137 ?h138)
      (My.methAt (fun _ _ _ _ _ _ us hl => match us, hl with | [_, _], _ => rfl) ?h139 ?h140 ?h141 ?h142 ?h143)
      (My.methAt (fun _ _ _ _ _ _ us hl => match us, hl with | [_, _], _ => rfl) ?h144 ?h145 ?h146 ?h147 ?h148)
      (My.methAt (fun _ _ _ _ _ _ us hl => match us, hl with | [_, _], _ => rfl) ?h149 ?h150 ?h151 ?h152 ?h153)
      (My.methAt (fun _ _ _ _ _ _ us hl => match us, hl with | [_, _], _ => rfl) ?h154 ?h155 ?h156 ?h157 ?h158)
      (My.methAt (fun _ _ _ _ _ _ us hl => match us, hl with | [_, _, _, _], _ => rfl) ?h159 ?h160 ?h161 ?h162 ?h163)
      (My.methAt (fun _ _ _ _ _ _ us hl => match us, hl with | [_, _, _], _ => rfl) ?h164 ?h165 ?h166 ?h167 ?h168)
      (My.methAt (fun _ _ _ _ _ _ us hl => match us, hl with | [_, _, _], _ => rfl) ?h169 ?h170 ?h171 ?h172 ?h173)
      (My.methAt (fun _ _ _ _ _ _ us hl => match us, hl with | [_, _], _ => rfl) ?h174 ?h175 ?h176 ?h177 ?h178)
      (My.methAt (fun _ _ _ _ _ _ us hl => match us, hl with | [_, _], _ => rfl) ?h179 ?h180 ?h181 ?h182 ?h183)
      (My.methAt (fun _ _ _ _ _ _ us hl => match us, hl with | [_, _, _], _ => rfl) ?h184 ?h185 ?h186 ?h187 ?h188)
      (My.methAt (fun _ _ _ _ _ _ us hl => match us, hl with | [_, _], _ => rfl) ?h189 ?h190 ?h191 ?h192 ?h193)
      (My.methAt (fun _ _ _ _ _ _ us hl => match us, hl with | [_, _], _ => rfl) ?h194 ?h195 ?h196 ?h197 ?h198)
      (My.defAt KX G (fun _ _ _ _ _ _ us hl => match us, hl with | [_], _ => rfl) ?h199 ?h200 ?h201 ?h202)
      (My.defAt KX G (fun _ _ _ _ _ _ us hl => match us, hl with | [_, _], _ => rfl) ?h203 ?h204 ?h205 ?h206)
      (My.defAt KX G (fun _ _ _ _ _ _ us hl => match us, hl with | [_, _], _ => rfl) ?h207 ?h208 ?h209 ?h210)
      (My.defAt KX G (fun _ _ _ _ _ _ us hl => match us, hl with | [_, _, _, _], _ => rfl) ?h211 ?h212 ?h213 ?h214)
      (My.defAt KX G (fun _ _ _ _ _ _ us hl => match us, hl with | [_, _, _, _], _ => rfl) ?h215 ?h216 ?h217 ?h218)
      (My.defAt KX G (fun _ _ _ _ _ _ us hl => match us, hl with | [_], _ => rfl) ?h219 ?h220 ?h221 ?h222)
      (My.defAt KX G (fun _ _ _ _ _ _ us hl => match us, hl with | [_], _ => rfl) ?h223 ?h224 ?h225 ?h226)
      (My.defAt KX G (fun _ _ _ _ _ _ us hl => match us, hl with | [_], _ => rfl) ?h227 ?h228 ?h229 ?h230)
      (My.constAt KX G ?h231 ?rLETTERS)
      (My.constAt KX G ?h232 ?rLONGEST_NAME)
      (My.constAt KX G ?h233 ?rMOST_TABLES)
      (My.constAt KX G ?h234 ?rMOST_REFERENCES)
      (My.constAt KX G ?h235 ?rLABELS_END)
      (PySem.W.mg_none_of KX G ?h236)
      (PySem.W.mg_none_of KX G ?h237)
      (PySem.W.mg_none_of KX G ?h238)
      (PySem.W.mg_none_of KX G ?h239)
      (PySem.W.mg_none_of KX G ?h240)
      (PySem.W.mg_none_of KX G ?h241)
      (PySem.W.mg_none_of KX G ?h242)
      (PySem.W.mg_none_of KX G ?h243)
      (PySem.W.mg_none_of KX G ?h244)
      (PySem.W.mg_none_of KX G ?h245)
      (PySem.W.mg_none_of KX G ?h246)
      (PySem.W.mg_none_of KX G ?h247)
      (PySem.W.mg_none_of KX G ?h248)
      (PySem.W.mg_none_of KX G ?h249)
      (PySem.W.mg_none_of KX G ?h250)) hmg
    (case h1 => k_is)
    (case h2 => k_is)
    (case h3 => k_is)
    (case h4 => k_is)
    (case h5 => k_is)
    (case h6 => k_is)
    (case h7 => k_is)
    (case h8 => k_is)
    (case h9 => k_is)
    (case h10 => k_is)
    (case h11 => k_is)
    (case h12 => k_is)
    (case h13 => k_is)
    (case h14 => k_is)
    (case h15 => k_is)
    (case h16 => k_is)
    (case h17 => k_is)
    (case h18 => k_is)
    (case h19 => k_is)
    (case h20 => k_is)
    (case h21 => k_is)
    (case h22 => k_is)
    (case h23 => k_is)
    (case h24 => k_is)
    (case h25 => k_is)
    (case h26 => decide +kernel)
    (case h27 => k_is)
    (case h28 => k_is)
    (case h29 => k_is)
    (case h30 => k_is)
    (case h31 => k_is)
    (case h32 => k_is)
    (case h33 => k_is)
    (case h34 => k_is)
    (case h35 => k_is)
    (case h36 => first | rfl | k_is)
    (case h37 => k_is)
    (case h38 => k_is)
    (case h39 => k_is)
    (case h40 => k_is)
    (case h41 => k_is)
    (case h42 => k_is)
    (case h43 => k_is)
    (case h44 => k_is)
    (case h45 => k_is)
    (case h46 => k_is)
    (case h47 => k_is)
    (case h48 => k_is)
    (case h49 => k_is)
    (case h50 => k_is)
    (case h51 => k_is)
    (case h52 => k_is)
    (case h53 => k_is)
    (case h54 => k_is)
    (case h55 => k_is)
    (case h56 => k_is)
    (case h57 => k_is)
    (case h58 => k_is)
    (case h59 => k_is)
    (case h60 => k_is)
    (case h61 => k_is)
    (case h62 => k_is)
    (case h63 => k_is)
    (case h64 => k_is)
    (case h65 => k_is)
    (case h66 => k_is)
    (case h67 => k_is)
    (case h68 => k_is)
    (case h69 => k_is)
    (case h70 => k_is)
    (case h71 => k_is)
    (case h72 => k_is)
    (case h73 => k_is)
    (case h74 => k_is)
    (case h75 => k_is)
    (case h76 => k_is)
    (case h77 => k_is)
    (case h78 => k_is)
    (case h79 => k_is)
    (case h80 => k_is)
    (case h81 => k_is)
    (case h82 => k_is)
    (case h83 => k_is)
    (case h84 => k_is)
    (case h85 => k_is)
    (case h86 => k_is)
    (case h87 => k_is)
    (case h88 => k_is)
    (case h89 => k_is)
    (case h90 => k_is)
    (case h91 => k_is)
    (case h92 => k_is)
    (case h93 => k_is)
    (case h94 => k_is)
    (case h95 => k_is)
    (case h96 => k_is)
    (case h97 => k_is)
    (case h98 => k_is)
    (case h99 => k_is)
    (case h100 => k_is)
    (case h101 => k_is)
    (case h102 => k_is)
    (case h103 => k_is)
    (case h104 => k_is)
    (case h105 => k_is)
    (case h106 => k_is)
    (case h107 => k_is)
    (case h108 => k_is)
    (case h109 => k_is)
    (case h110 => k_is)
    (case h111 => k_is)
    (case h112 => k_is)
    (case h113 => k_is)
    (case h114 => k_is)
    (case h115 => k_is)
    (case h116 => k_is)
    (case h117 => k_is)
    (case h118 => k_is)
    (case h119 => k_is)
    (case h120 => k_is)
    (case h121 => k_is)
    (case h122 => k_is)
    (case h123 => k_is)
    (case h124 => k_is)
    (case h125 => k_is)
    (case h126 => k_is)
    (case h127 => k_is)
    (case h128 => k_is)
    (case h129 => k_is)
    (case h130 => k_is)
    (case h131 => k_is)
    (case h132 => k_is)
    (case h133 => k_is)
    (case h134 => k_is)
    (case h135 => k_is)
    (case h136 => k_is)
    (case h137 => k_is)
    (case h138 => k_is)
    (case h139 => k_is)
    (case h140 => k_is)
    (case h141 => k_is)
    (case h142 => k_is)
    (case h143 => k_is)
    (case h144 => k_is)
    (case h145 => k_is)
    (case h146 => k_is)
    (case h147 => k_is)
    (case h148 => k_is)
    (case h149 => k_is)
    (case h150 => k_is)
    (case h151 => k_is)
    (case h152 => k_is)
    (case h153 => k_is)
    (case h154 => k_is)
    (case h155 => k_is)
    (case h156 => k_is)
    (case h157 => k_is)
    (case h158 => k_is)
    (case h159 => k_is)
    (case h160 => k_is)
    (case h161 => k_is)
    (case h162 => k_is)
    (case h163 => k_is)
    (case h164 => k_is)
    (case h165 => k_is)
    (case h166 => k_is)
    (case h167 => k_is)
    (case h168 => k_is)
    (case h169 => k_is)
    (case h170 => k_is)
    (case h171 => k_is)
    (case h172 => k_is)
    (case h173 => k_is)
    (case h174 => k_is)
    (case h175 => k_is)
    (case h176 => k_is)
    (case h177 => k_is)
    (case h178 => k_is)
    (case h179 => k_is)
    (case h180 => k_is)
    (case h181 => k_is)
    (case h182 => k_is)
    (case h183 => k_is)
    (case h184 => k_is)
    (case h185 => k_is)
    (case h186 => k_is)
    (case h187 => k_is)
    (case h188 => k_is)
    (case h189 => k_is)
    (case h190 => k_is)
    (case h191 => k_is)
    (case h192 => k_is)
    (case h193 => k_is)
    (case h194 => k_is)
    (case h195 => k_is)
    (case h196 => k_is)
    (case h197 => k_is)
    (case h198 => k_is)
    (case h199 => k_is)
    (case h200 => k_is)
    (case h201 => k_is)
    (case h202 => k_is)
    (case h203 => k_is)
    (case h204 => k_is)
    (case h205 => k_is)
    (case h206 => k_is)
    (case h207 => k_is)
    (case h208 => k_is)
    (case h209 => k_is)
    (case h210 => k_is)
    (case h211 => k_is)
    (case h212 => k_is)
    (case h213 => k_is)
    (case h214 => k_is)
    (case h215 => k_is)
    (case h216 => k_is)
    (case h217 => k_is)
    (case h218 => k_is)
    (case h219 => k_is)
    (case h220 => k_is)
    (case h221 => k_is)
    (case h222 => k_is)
    (case h223 => k_is)
    (case h224 => k_is)
    (case h225 => k_is)
    (case h226 => k_is)
    (case h227 => k_is)
    (case h228 => k_is)
    (case h229 => k_is)
    (case h230 => k_is)
    (case h231 => k_is)
    (case rLETTERS => exact ⟨_, rfl⟩)
    (case h232 => k_is)
    (case rLONGEST_NAME => exact ⟨_, rfl⟩)
    (case h233 => k_is)
    (case rMOST_TABLES => exact ⟨_, rfl⟩)
    (case h234 => k_is)
    (case rMOST_REFERENCES => exact ⟨_, rfl⟩)
    (case h235 => k_is)
    (case rLABELS_END => exact ⟨_, rfl⟩)
    (case h236 => k_is)
    (case h237 => k_is)
    (case h238 => k_is)
    (case h239 => k_is)
    (case h240 => k_is)
    (case h241 => k_is)
    (case h242 => k_is)
    (case h243 => k_is)
    (case h244 => k_is)
    (case h245 => k_is)
    (case h246 => k_is)
    (case h247 => k_is)
    (case h248 => k_is)
    (case h249 => k_is)
    (case h250 => k_is)
