import PyProof.Rows.All
import Wide.All
import OpenK.AllK
import Wide.FinOn
import HandS.ForMost
import HandS.Strs
import HandS.DictComp
import HandS.IsInst
import HandS.Style
import HandS.Wide
import HandS.MakeKw
import HandS.MakeKwOnly
import HandS.Evl
import KE.KOpsOwn
import HandS.More
import HandS.ExcInit
import HandS.ExcOwn
import HandS.ExcField
import HandS.ClsMeth
import HandS.TryMany
import HandS.WordsExc
import HandS.ExcIs
import KE.DataMinMax
import KE.KDictSum
import HandS.SortKw
import PySem.Challenge.RW_carrykeys_k08_next_keys
set_option Elab.async false
set_option linter.all false
set_option maxRecDepth 100000
set_option maxHeartbeats 4000000

namespace My
open PySem PySem.Spec PyProof.Rows

def addOnce (l : List Str) (x : Str) : List Str := if l.any (· == x) then l else l ++ [x]
def onces (xs : List Str) : List Str := xs.foldl addOnce []
theorem onces_snoc (xs : List Str) (x : Str) : onces (xs ++ [x]) = addOnce (onces xs) x := by
  unfold onces
  rw [List.foldl_append]
  rfl
theorem addOnce_any (l : List Str) (x k : Str) : (addOnce l x).any (· == k) = (l.any (· == k) || decide (k = x)) := by
  unfold addOnce
  by_cases h : l.any (· == x) = true
  · rw [if_pos h]
    by_cases e : k = x
    · rw [e, h]; simp
    · simp [e]
  · rw [if_neg h, List.any_append]
    by_cases e : k = x
    · rw [e]; simp
    · have hb : (x == k) = false := by
        rw [beq_eq_false_iff_ne]
        exact fun q => e q.symm
      simp [hb, e]
theorem addOnce_len (l : List Str) (x : Str) : (addOnce l x).length = if l.any (· == x) then l.length else l.length + 1 := by
  unfold addOnce; split <;> simp
theorem onces_take (xs : List Str) (i : Nat) (h : i < xs.length) : onces (xs.take (i + 1)) = addOnce (onces (xs.take i)) xs[i] := by
  rw [List.take_succ_eq_append_getElem h, onces_snoc]
theorem onces_le (xs : List Str) : ∀ n, (onces (xs.take n)).length ≤ n
  | 0 => by simp [onces]
  | n + 1 => by
    by_cases h : n < xs.length
    · rw [onces_take xs n h, addOnce_len]
      have := onces_le xs n
      split <;> omega
    · rw [List.take_of_length_le (by omega)]
      have := onces_le xs n
      rw [List.take_of_length_le (by omega)] at this
      omega
theorem onces_nodup : ∀ (xs : List Str), xs.Nodup → onces xs = xs := by
  intro xs h
  have : ∀ n, n ≤ xs.length → onces (xs.take n) = xs.take n := by
    intro n
    induction n with
    | zero => intro _; simp [onces]
    | succ n ih =>
      intro hn
      have hlt : n < xs.length := by omega
      rw [onces_take xs n hlt, ih (by omega), List.take_succ_eq_append_getElem hlt]
      unfold addOnce
      rw [if_neg]
      intro q
      obtain ⟨y, hy, ey⟩ := List.any_eq_true.mp q
      have ey : y = xs[n] := beq_iff_eq.mp ey
      subst ey
      obtain ⟨j, hj, ej⟩ := List.getElem_of_mem hy
      rw [List.getElem_take] at ej
      have hjn : j < n := by
        rw [List.length_take] at hj; omega
      have := (List.getElem_inj h).mp ej
      omega
  have := this xs.length (Nat.le_refl _)
  rwa [List.take_length] at this
theorem onces_lt : ∀ (xs : List Str), ¬ xs.Nodup → (onces xs).length < xs.length := by
  intro xs
  have key : ∀ n, n ≤ xs.length → ((onces (xs.take n)).length = n → (xs.take n).Nodup ∧ onces (xs.take n) = xs.take n) := by
    intro n
    induction n with
    | zero => intro _ _; simp [onces]
    | succ n ih =>
      intro hn he
      have hlt : n < xs.length := by omega
      rw [onces_take xs n hlt, addOnce_len] at he
      have hle := onces_le xs n
      by_cases ha : (onces (xs.take n)).any (· == xs[n]) = true
      · rw [if_pos ha] at he; omega
      · rw [if_neg ha] at he
        obtain ⟨h1, h2⟩ := ih (by omega) (by omega)
        rw [onces_take xs n hlt, List.take_succ_eq_append_getElem hlt]
        unfold addOnce
        rw [if_neg ha, h2]
        refine ⟨L2.nd_snoc h1 fun m => ha ?_, rfl⟩
        rw [h2]
        exact List.any_eq_true.mpr ⟨_, m, beq_self_eq_true _⟩
  intro h
  have h1 := onces_le xs xs.length
  rw [List.take_length] at h1
  by_cases e : (onces xs).length = xs.length
  · have := (key xs.length (Nat.le_refl _) (by rw [List.take_length]; exact e)).1
    rw [List.take_length] at this
    exact absurd this h
  · omega

section
variable {prog : Program} {w : World} {A : Around} {R : Result → Shared → Prop} {It : Addr} {fp wr : List Addr} {G : Array GenState → Array GenState → Prop} {n : Nat} {Pv : Nat → Value → Prop} {Stn : Nat → Shared → Prop}
theorem fills (W : WalksS prog w A.in1 It fp wr G n Pv Stn) (D : Addr) (hD : D ∉ fp) (xs : List Str) (hl : xs.length = n) (hb : n + 1 < scanBound)
    (hv : ∀ i v, Pv i v → ∃ t, v = .str (xs.getD i Str.empty) t) :
    ∀ (k i : Nat) (s0 : Shared), n - i = k → i ≤ n → Stn i s0 →
      s0.heap.SetOf (PySem.strKind prog w) D (fun y => (onces (xs.take i)).any (· == y)) (onces (xs.take i)).length →
      (∀ s9, Moved (D :: wr) G s0 s9 → s9.heap.SetOf (PySem.strKind prog w) D (fun y => (onces xs).any (· == y)) (onces xs).length → R (.ok (.ret .none)) s9) →
      codeAny (model prog w) A (.builtin "set.update.loop" ⟨[.ref D, .ref It], []⟩) R s0 := by
  have hDw : D ∉ wr := fun q => hD (W.sub _ q)
  have hin : ∀ b ∈ wr, b ∈ D :: wr := fun b q => List.mem_cons_of_mem _ q
  intro k
  induction k with
  | zero =>
    intro i s0 hk hi hst hS hR
    obtain rfl : i = n := by omega
    refine codeAny_builtin (R := R) PyProof.Rows.F.entry_set_update_loop ?_
    rw [Around.under_plainId (PyProof.Rows.F.plain_set_update_loop) _]
    show wpAny _ A.in1 (pyNext (.ref It) >>= _) _ _ s0
    refine wpAny_bind (W.done s0 _ _ hst fun s9 hm => ?_)
    show wpAny _ A.in1 (ret Value.none) _ _ s9
    refine wpAny_pure (hR s9 (hm.mono hin) ?_)
    obtain ⟨o, es, ep, t, ho, more⟩ := hS
    rw [List.take_of_length_le (by omega)] at more
    exact ⟨o, es, ep, t, hm.heap D _ hDw ho, more⟩
  | succ k ih =>
    intro i s0 hk hi hst hS hR
    have hlt : i < n := by omega
    have hx : i < xs.length := by omega
    refine codeAny_builtin (R := R) PyProof.Rows.F.entry_set_update_loop ?_
    rw [Around.under_plainId (PyProof.Rows.F.plain_set_update_loop) _]
    show wpAny _ A.in1 (pyNext (.ref It) >>= _) _ _ s0
    refine wpAny_bind (W.item i s0 _ _ hlt hst fun v s9 hP hst9 hm => ?_)
    obtain ⟨t, rfl⟩ := hv i v hP
    have ex : xs.getD i Str.empty = xs[i] := by
      rw [List.getD_eq_getElem?_getD, List.getElem?_eq_getElem hx]
      rfl
    rw [ex]
    have hS9 : s9.heap.SetOf (PySem.strKind prog w) D (fun y => (onces (xs.take i)).any (· == y)) (onces (xs.take i)).length := by
      obtain ⟨o, es, ep, tb, ho, more⟩ := hS
      exact ⟨o, es, ep, tb, hm.heap D _ hDw ho, more⟩
    show wpAny _ A.in1 (holding [Value.str (xs[i]) t] (setAdd D (.str (xs[i]) t)) >>= _) _ _ s9
    refine wpAny_bind (wpAny_holding ?_)
    unfold setAdd
    refine wpAny_holding ?_
    refine wpAny_bind ((PySem.strKind prog w).pyHash (k := xs[i]) (strKind_is _ _ _ _) ?_)
    have room : (onces (xs.take i)).length + 1 < scanBound := by
      have := onces_le xs i
      omega
    refine wpAny_setAddHashed_of (knd := PySem.strKind prog w) (s := { s9 with toks := s9.toks + 1 }) (strKind_is _ _ _ _) rfl hS9 room fun h9 sb hS2 => ?_
    have hSn : h9.SetOf (PySem.strKind prog w) D (fun y => (onces (xs.take (i + 1))).any (· == y)) (onces (xs.take (i + 1))).length :=
      SetOf_congr hS2 (fun y => by rw [onces_take xs i hx, addOnce_any]) (by rw [onces_take xs i hx, addOnce_len])
    refine wpAny_pure ⟨plainId_quiet (PyProof.Rows.F.plain_set_update_loop) _, ih (i + 1) _ (by omega) hlt (W.frame _ s9 _ _ hst9 (Nat.le_succ _) fun b q o e => ?_) hSn fun z hmz hSz => ?_⟩
    · rw [sb.2 b (fun r : b = D => hD (by rw [← r]; exact q))]
      exact e
    · refine hR z (Moved.trans W.gtrans ((hm.mono hin).then_heap (Nat.le_succ _) fun b o q e => ?_) hmz) hSz
      rw [sb.2 b (fun r : b = D => q (by rw [r]; exact List.mem_cons_self))]
      exact e
end
section
variable {prog : Program} {w : World} {A : Around} {E : Value → Shared → Prop} {s : Shared}
abbrev emptySet (led : Bool) : Obj := { cls := .type "set", dict := none, data := .set #[] 0 (.fresh 0 0 led) }
theorem made_set {l : Addr} {its : Array Value} {xs : List Str} {Q : Value → Shared → Prop}
    (calm : A.handled = none) (hl : s.heap.IsList l its) (hi : StrsAre its.toList xs) (hb : its.size + 1 < scanBound) (hn : xs.length = its.size)
    (h : ∀ (h9 : Heap) (tk : Nat), h9.SetOf (PySem.strKind prog w) s.heap.objs.size (fun y => (onces xs).any (· == y)) (onces xs).length →
      (∀ b o, b < s.heap.objs.size → s.heap.get? b = some o → h9.get? b = some o) → Q (.ref s.heap.objs.size) { s with heap := h9, toks := tk }) :
    wpAny (model prog w) A (call (.type "set") [.ref l]) Q E s := by
  obtain ⟨c, tl, hmro⟩ := (PySem.F.called_set).mro
  have made := (PySem.F.called_set).made
  have sub := (PySem.F.called_set).sub
  refine wpAny_call (codeAny_of_tree ?_)
  show wpAny _ _ (callAny (.type "set") _) _ _ _
  refine wpAny_pure ⟨Code.quiet_builtin _ (by decide +kernel), (codeAny_builtin PySem.F.entry_type_call ?_)⟩
  rw [Around.under_plain (weight_type_call_type "set" [.ref l] []) (by rfl)]
  have n1 := (PySem.F.called_set).notType
  have n2 := (PySem.F.called_set).canCreate
  have n3 := PySem.F.typeCall_set_1 (.ref l)
  repeat (any_goals (first | assumption | wp_step))
  refine codeAny_mono (code_set_new_1 (.ref l) (E := E) (Q₁ := fun ob s1 => ∃ led : Bool, ob = .ref s.heap.objs.size ∧ s1 = { s with heap := s.heap.push (emptySet led) }) fun led => ⟨led, rfl, rfl⟩) fun r s1 hr => ?_
  cases r with
  | error e => exact hr
  | ok fl =>
    cases fl with
    | ret ob =>
      obtain ⟨led, rfl, rfl⟩ := hr
      have hS : (s.heap.push (emptySet led)).get? s.heap.objs.size = some (emptySet led) := Heap.get?_push_size _ rfl
      have hT : Shared.TypeIs { s with heap := s.heap.push (emptySet led) } (.ref s.heap.objs.size) "set" := ⟨_, hS, rfl⟩
      have q1 := (PySem.F.called_set).init.lookup
      have q2 := (PySem.F.called_set).init.bind (.ref s.heap.objs.size)
      repeat (any_goals (first | assumption | wp_step))
      refine codeAny_mono (codeAny_call_builtin (R := wants (fun r s2 => r = .none ∧ ∃ h9 tk, s2 = { s with heap := h9, toks := tk } ∧
          h9.SetOf (PySem.strKind prog w) s.heap.objs.size (fun y => (onces xs).any (· == y)) (onces xs).length ∧
          (∀ b o, b < s.heap.objs.size → s.heap.get? b = some o → h9.get? b = some o)) E) (PySem.F.called_set).init.plain (PySem.F.entry_set_init) (check_set_init_1 hT ?_)) fun r2 s2 hr2 => ?_
      · obtain ⟨ol, hol, hcl, nl, hdl⟩ := hl
        obtain ⟨ocls, odict, odata, oslots⟩ := ol
        simp only at hcl hdl
        subst hcl
        subst hdl
        have hol2 : (s.heap.push (emptySet led)).get? l = some { cls := .type "list", dict := odict, data := .seq its nl, slots := oslots } := Heap.get?_push_of_some _ hol
        have u1 := PySem.F.sub_list_set
        have u2 := PySem.F.sub_list_frozenset
        have u3 : (Value.type "list" == Value.type "dict") = false := by decide
        have hl1 : (s.heap.push (emptySet led)).IsList l its := ⟨_, hol2, rfl, nl, rfl⟩
        unfold Builtin.«set.__init__» noKeywords Builtin.Frozenset.updateFrom
        generalize hPI : pyIter = PI
        wp_walk
        subst hPI
        refine wpAny_pyIter_list hl1 ?_
        refine wpAny_bind (wpAny_runValue ?_)
        have hlt : l < s.heap.objs.size := Heap.lt_size hol
        have calm3 : A.in1.in1.in1.handled = none := by simp [calm]
        have ne1 : l ≠ (s.heap.push (emptySet led)).objs.size := by
          rw [Heap.size_push]
          exact Nat.ne_of_lt (Nat.lt_succ_of_lt hlt)
        have ne2 : s.heap.objs.size ∉ [(s.heap.push (emptySet led)).objs.size, l] := by
          rw [Heap.size_push]
          simp only [List.mem_cons, List.mem_singleton, List.not_mem_nil, or_false, not_or]
          exact ⟨Nat.ne_of_lt (Nat.lt_succ_self _), Nat.ne_of_gt hlt⟩
        have hv : ∀ (i : Nat) (v : Value), its[i]? = some v → ∃ t, v = .str (xs.getD i Str.empty) t := fun i v e => SS.strs_at hi i v (by rw [Array.getElem?_toList]; exact e)
        refine fills ((Walks.list calm3 _ l ne1 its).toS) s.heap.objs.size ne2 xs hn hb hv (its.size - 0) 0 _ (by omega) (Nat.zero_le _)
          ⟨⟨_, Heap.get?_push_size _ rfl, rfl, rfl⟩, (hl1.push _)⟩ ?h0 ?h1
        case h0 =>
          have hg : ((s.heap.push (emptySet led)).push { cls := .type "list_iterator", data := .fields #[.ref l, .int 0 0] }).get? s.heap.objs.size = some (emptySet led) := Heap.get?_push_of_some _ hS
          exact SetOf_congr ((setObjOf_fresh (knd := PySem.strKind prog w) led).setOf hg (by unfold scanBound; omega)) (fun _ => rfl) rfl
        case h1 =>
          intro z hm hSz
          obtain ⟨h9, g9, d9, tk9, os9⟩ := z
          obtain rfl : g9 = s.gens := hm.gens
          obtain rfl : d9 = s.drawn := hm.drawn
          obtain rfl : os9 = s.os := hm.os
          show wpAny _ _ _ _ _ _
          refine wpAny_pure ?_
          show wpAny _ _ (ret Value.none) _ _ _
          refine wpAny_pure ⟨rfl, h9, tk9, rfl, hSz, fun b o hb e => ?_⟩
          have m1 : b ≠ s.heap.objs.size := Nat.ne_of_lt hb
          have m2 : b ≠ (s.heap.push (emptySet led)).objs.size := by
            rw [Heap.size_push]
            exact Nat.ne_of_lt (Nat.lt_succ_of_lt hb)
          exact hm.heap b o (by simp only [List.mem_cons, List.mem_singleton, List.not_mem_nil, or_false, not_or]; exact ⟨m1, m2⟩) (Heap.get?_push_of_some _ (Heap.get?_push_of_some _ e))
      · cases r2 with
        | error e => exact hr2
        | ok fl2 =>
          cases fl2 with
          | ret r =>
            obtain ⟨rfl, h9, tk, rfl, hSz, hkz⟩ := hr2
            repeat (any_goals (first | assumption | wp_step))
            exact h _ _ hSz hkz
          | _ => exact hr2.elim
    | _ => exact hr.elim
end
section
open L2
def tLenSetS (K : PySem.W.Frag) (ta : TE) : TE := fun σ H Q => ta σ H fun x H1 => ∃ (l : Addr) (xs : List Str), x = .ref l ∧ SqL K H1 l (xs.map V.str) ∧ xs.length ≤ 1000 ∧ Q (.int ((onces xs).length : Nat)) H1
theorem pe_lenSetS {X : Cx} {a : Expr} {ta : TE} {p p2 q pos : Pos} (hm : X.mg "len" = none) (hm2 : X.mg "set" = none) (ha : PE X a ta) (hg : Gl X "len" := by rfl) (hg2 : Gl X "set" := by rfl) (hc : X.calm = true := by rfl)
    (na : starEach [a] X.env = (false, eval a X.env) :: starEach [] X.env := by rfl) : PE X (.Call (.Name "len" p) [.Call (.Name "set" p2) [a] [] q] [] pos) (tLenSetS X.K ta) := by
  refine ⟨fun pins s σ H Q I h => Call_ (ld_blt I hg hm boot_len ?_)⟩
  refine callWith_builtin1 (args_cons (Call_ (ld_blt I hg2 hm2 boot_set ?_)) rfl) rfl rfl
  refine callWith_type1 (args_cons (thn (ha.run pins s σ H _ I h) fun v s1 ⟨x, H1, I1, r1, q1⟩ => args_nil ?_) na) na rfl
  obtain ⟨l, xs, rfl, hq, hz, q1⟩ := q1
  cases r1
  obtain ⟨its, r, pl, _⟩ := I1.list hq
  have hlen : its.toArray.size = xs.length := by rw [List.size_toArray, ← r.length, List.length_map]
  refine made_set (I1.ok.hd hc) pl.isList (by simpa using strsAre_of r) (by rw [hlen]; unfold scanBound; omega) hlen.symm fun h9 tk hS hk => args_nil ?_
  obtain ⟨o, es, ep, t, ho, hex, hd, _, _, _, hf, hn⟩ := hS
  have I2 : Inv X pins σ H1 { s1 with heap := h9, toks := tk } := I1.kept fun b o e => hk b o (Heap.lt_size e) e
  have hle := onces_le xs xs.length
  rw [List.take_length] at hle
  exact call_len_set ho hex hd hf (by rw [hn]; omega) ⟨.int ((onces xs).length : Nat), H1, I2.tok _, ⟨_, by rw [hn]⟩, q1⟩
end
end My
namespace My
open PySem PySem.Spec PyProof.Rows L2

structure DefAt (K : PySem.W.Frag) (mg : Str → Option Value) (x : Str) (st : Stmt) (ps : List Str) : Prop where
  ex : ∃ f fd, Fun K x x st f fd ∧ mg x = some (.ref f) ∧ Binds K fd ps []
structure MethAt (K : PySem.W.Frag) (C : Addr) (m q : Str) (st : Stmt) (ps : List Str) : Prop where
  ex : ∃ f fd, Fun K m q st f fd ∧ Meth K C m f ∧ Binds K fd ps []
structure ClassAt (K : PySem.W.Frag) (mg : Str → Option Value) (C : Addr) (x : Str) : Prop where
  mg : mg x = some (.ref C)
  cl : Cls K C
  makes : PySem.W.makesIn K C = true
  kp : PySem.W.keepIn K (.ref C) = true
structure CallOk (P : Program) (w : World) (K : PySem.W.Frag) (mg : Str → Option Value) (base : Heap) (k : Nat) (x : Str) (sp : Sp) : Prop where
  ex : ∃ f fd ps, FnOk P w K mg base CX0 k f fd ps sp ∧ mg x = some (.ref f) ∧ PySem.W.keepIn K (.ref f) = true ∧ Binds K fd ps []
structure MethOk (P : Program) (w : World) (K : PySem.W.Frag) (mg : Str → Option Value) (base : Heap) (k : Nat) (C : Addr) (m : Str) (sp : Sp) : Prop where
  ex : ∃ f fd ps, FnOk P w K mg base CX0 k f fd ps sp ∧ Meth K C m f ∧ Binds K fd ps [] ∧ Cls K C
structure MakeOk (P : Program) (w : World) (K : PySem.W.Frag) (mg : Str → Option Value) (base : Heap) (k : Nat) (C : Addr) (x : Str) (sp : Sp) : Prop where
  ex : ∃ f fd ps, FnOk P w K mg base CX0 k f fd ps sp ∧ Mk K C f ∧ Binds K fd ps [] ∧ mg x = some (.ref C)
section
variable {P : Program} {w : World} {K : PySem.W.Frag} {mg : Str → Option Value} {base : Heap} {k : Nat} {x m q : Str} {C : Addr} {sp : Sp} {N ps : List Str} {st : Stmt}
def BodyOk (P : Program) (w : World) (K : PySem.W.Frag) (mg : Str → Option Value) (base : Heap) (k : Nat) (N : List Str) (q : Str) (st : Stmt) (sp : Sp) : Prop :=
  ∀ (f : Addr) (cdv : Value) (A : Around) (outer : List Env) (s : Shared) (H : Hp) (vs : List V) (Q : VK) (E : XK), Room k (A.deeper (envOfC q (defScope st) s.heap.objs.size f cdv)) → sp vs H Q E →
    ∃ t, PSs (cxOf CX0 P w K mg base N q (defScope st) f cdv A outer s H E).nox (defBody st) t ∧ t { nx := fun _ H' => Q .non H', rt := Q } (start N vs) H
theorem DefAt.ok (D : DefAt K mg x st ps) (S : FnScope N ps (defScope st)) (len : ∀ vs H Q E, sp vs H Q E → vs.length = ps.length) (b : BodyOk P w K mg base k N x st sp) : CallOk P w K mg base (k + 1) x sp := by
  obtain ⟨f, fd, F, hm, hb⟩ := D.ex
  exact ⟨f, fd, ps, F.ok S len (fun cdv A outer s H vs Q E hr h => b f cdv A outer s H vs Q E hr h), hm, F.kp, hb⟩
theorem MethAt.ok (D : MethAt K C m q st ps) (c : Cls K C) (S : FnScope N ps (defScope st)) (len : ∀ vs H Q E, sp vs H Q E → vs.length = ps.length) (b : BodyOk P w K mg base k N q st sp) : MethOk P w K mg base (k + 1) C m sp := by
  obtain ⟨f, fd, F, hm, hb⟩ := D.ex
  exact ⟨f, fd, ps, F.ok S len (fun cdv A outer s H vs Q E hr h => b f cdv A outer s H vs Q E hr h), hm, hb, c⟩
theorem MethAt.make (D : MethAt K C "__init__" q st ps) (c : ClassAt K mg C x) (S : FnScope N ps (defScope st)) (len : ∀ vs H Q E, sp vs H Q E → vs.length = ps.length) (b : BodyOk P w K mg base k N q st sp) : MakeOk P w K mg base (k + 1) C x sp := by
  obtain ⟨f, fd, F, hm, hb⟩ := D.ex
  exact ⟨f, fd, ps, F.ok S len (fun cdv A outer s H vs Q E hr h => b f cdv A outer s H vs Q E hr h), ⟨c.makes, hm.at_, hm.fn, c.kp⟩, hb, c.mg⟩
end
structure MakeKOk (P : Program) (w : World) (K : PySem.W.Frag) (mg : Str → Option Value) (base : Heap) (k : Nat) (C : Addr) (x : Str) (n : Nat) (ks : List Str) (gV : List V → List V → List V) (sp : Sp) : Prop where
  ex : ∃ f fd ps g, FnOk P w K mg base CX0 k f fd ps sp ∧ Mk K C f ∧ KBn K fd ps (n + 1) ks g gV ∧ mg x = some (.ref C)
section
variable {P : Program} {w : World} {K : PySem.W.Frag} {mg : Str → Option Value} {base : Heap} {k n : Nat} {x m q : Str} {C : Addr} {sp : Sp} {N ps ks : List Str} {st : Stmt}
theorem MethAt.makeK (D : MethAt K C "__init__" q st ps) (c : ClassAt K mg C x) (S : FnScope N ps (defScope st)) (len : ∀ vs H Q E, sp vs H Q E → vs.length = ps.length) (b : BodyOk P w K mg base k N q st sp)
    (g : {α : Type} → List α → List α → List α) (hrel : ∀ {vs zs : List V} {us ws : List Value}, Vals vs us → Vals zs ws → Vals (g vs zs) (g us ws))
    (h : ∀ (kV doc pm : Value) (an : Option Addr) (cdv ct : Value) (us ws : List Value), us.length = n + 1 → ws.length = ks.length → bindArgs (PySem.W.fnOf "__init__" q (defArgs st) (defBody st) (defScope st) .none kV doc pm an cdv ct) ⟨us, ks.zip ws⟩ = pure (ps.zip (g us ws))) :
    MakeKOk P w K mg base (k + 1) C x n ks (fun vs zs => g vs zs) sp := by
  obtain ⟨f, fd, F, hm, hb⟩ := D.ex
  refine ⟨f, fd, ps, fun us ws => g us ws, F.ok S len (fun cdv A outer s H vs Q E hr h => b f cdv A outer s H vs Q E hr h), ⟨c.makes, hm.at_, hm.fn, c.kp⟩, ?_, c.mg⟩
  obtain ⟨oc, od, kV, doc, pm, an, cdv, ct, osl, rfl, lk, hcd⟩ := F.ex
  exact ⟨fun s us ws _ l1 l2 => .of_eq (h kV doc pm an cdv ct us ws l1 l2), fun r1 r2 => hrel r1 r2⟩
end
section
variable {X : Cx} {k : Nat} {x m : Str} {C : Addr} {sp : Sp} {p pos apos : Pos} {e o : Expr} {es : List Expr} {t tk : TA} {ta : TE} {kws : List Keyword} {ks : List Str} {gV : List V → List V → List V}
theorem pe_makeKC (G : MakeKOk X.prog X.w X.K X.mg X.base k C x 0 ks gV sp) (hr : Room (k + 1) X.A) (hkw : PK X kws tk) (hg : Gl X x := by rfl)
    (hall : (backToKw pos (keywordEach kws X.env)).all (·.1.isSome) = true := by rfl) (hks : (backToKw pos (keywordEach kws X.env)).filterMap (·.1) = ks := by rfl) (hdb : (x == ("__debug__" : Str)) = false := by decide)
    (hpl : ((backTo pos (starEach [] X.env)).any (·.1) || (backToKw pos (keywordEach kws X.env)).any (·.1.isNone)) = false := by rfl) : PE X (.Call (.Name x p) [] kws pos) (tMakeK C 0 ks.length sp gV E0 tNil tk) := by
  obtain ⟨f, fd, ps, g, F, hM, hb, hm⟩ := G.ex
  exact pe_makeK0 hM F hr hg hm hb pass0 hkw hall hks hdb hpl
theorem pe_callC (G : CallOk X.prog X.w X.K X.mg X.base k x sp) (hr : Room k X.A) (ha : PA X (e :: es) t) (hg : Gl X x := by rfl) (hdb : (x == ("__debug__" : Str)) = false := by decide)
    (he : starEach (e :: es) X.env = (false, eval e X.env) :: starEach es X.env := by rfl) (hpl : (backTo pos (starEach es X.env)).any (·.1) = false := by rfl) : PE X (.Call (.Name x p) (e :: es) [] pos) (tCall sp [] E0 t) := by
  obtain ⟨f, fd, ps, F, hm, hk, hb⟩ := G.ex
  exact pe_call F hr hg hm hk hb .nil pass0 ha hdb he hpl
theorem pe_makeC (G : MakeOk X.prog X.w X.K X.mg X.base k C x sp) (hr : Room (k + 1) X.A) (ha : PA X (e :: es) t) (hg : Gl X x := by rfl) (hdb : (x == ("__debug__" : Str)) = false := by decide)
    (he : starEach (e :: es) X.env = (false, eval e X.env) :: starEach es X.env := by rfl) (hpl : (backTo pos (starEach es X.env)).any (·.1) = false := by rfl) : PE X (.Call (.Name x p) (e :: es) [] pos) (tMake C sp [] E0 t) := by
  obtain ⟨f, fd, ps, F, hM, hb, hm⟩ := G.ex
  exact pe_make hM F hr hg hm hb .nil pass0 ha hdb he hpl
theorem pe_methC {pl : Sem Bool} (he : PE X o ta) (G : MethOk X.prog X.w X.K X.mg X.base k C m sp) (hr : Room k X.A) (ha : PA X (e :: es) t)
    (hst : starEach (e :: es) X.env = (false, eval e X.env) :: starEach es X.env := by rfl) (hpl : (backTo pos (starEach es X.env)).any (·.1) = false := by rfl)
    (ht : eval (.Call (.Attribute o m apos) (e :: es) [] pos) X.env = (do
      let ov ← eval o X.env
      standAt apos.atName
      let (f, first) ← holding [ov] (getMethod ov m pl)
      callWith pos f first (backTo pos (starEach (e :: es) X.env)) (backToKw pos (keywordEach [] X.env))) := by rfl) :
    PE X (.Call (.Attribute o m apos) (e :: es) [] pos) (tMeth C m sp [] E0 ta t) := by
  obtain ⟨f, fd, ps, F, hm, hb, c⟩ := G.ex
  exact pe_meth he c hm F hr hb .nil pass0 ha hst hpl ht
theorem pe_methC0 {pl : Sem Bool} (he : PE X o ta) (G : MethOk X.prog X.w X.K X.mg X.base k C m sp) (hr : Room k X.A)
    (ht : eval (.Call (.Attribute o m apos) [] [] pos) X.env = (do
      let ov ← eval o X.env
      standAt apos.atName
      let (f, first) ← holding [ov] (getMethod ov m pl)
      callWith pos f first (backTo pos (starEach [] X.env)) (backToKw pos (keywordEach [] X.env))) := by rfl) :
    PE X (.Call (.Attribute o m apos) [] [] pos) (tMeth C m sp [] E0 ta tNil) := by
  obtain ⟨f, fd, ps, F, hm, hb, c⟩ := G.ex
  exact pe_meth0 he c hm F hr hb .nil pass0 ht
theorem pe_globV {v : V} (h : ∃ u, X.mg x = some u ∧ RelV v u) (hg : Gl X x := by rfl) (hd : (x == ("__debug__" : Str)) = false := by decide) : PE X (.Name x pos) (tC v) := by
  obtain ⟨u, hm, r⟩ := h
  exact pe_glob hg hm r hd
end

section
variable {K : PySem.W.Frag} {h : Heap} {mg : Str → Option Value} {C f : Addr} {x m q : Str} {st : Stmt} {ps : List Str} {oc : Value} {od an : Option Addr} {osl : Array (Option Value)} {kV doc pm cdv ct : Value}
theorem defAt (X : K.In h) (G : h.Ns mainGlobals mg) (b : ∀ (kV doc pm : Value) (an : Option Addr) (cdv ct : Value) (us : List Value), us.length = ps.length → bindArgs (PySem.W.fnOf x x (defArgs st) (defBody st) (defScope st) .none kV doc pm an cdv ct) ⟨us, []⟩ = pure (ps.zip us))
    (a : PySem.W.nsIn K mainGlobals x = some (some (.ref f))) (l : K.lookup f = some ⟨oc, od, .func (PySem.W.fnOf x x (defArgs st) (defBody st) (defScope st) .none kV doc pm an cdv ct), osl⟩)
    (c : PySem.W.codeIn K cdv x = true) (k : PySem.W.keepIn K (.ref f) = true) : DefAt K mg x st ps :=
  ⟨f, _, fun_mk (st := st) l c k, PySem.W.mg_of X G a, (fun_mk (st := st) l c k).binds b⟩
theorem methAt (b : ∀ (kV doc pm : Value) (an : Option Addr) (cdv ct : Value) (us : List Value), us.length = ps.length → bindArgs (PySem.W.fnOf m q (defArgs st) (defBody st) (defScope st) .none kV doc pm an cdv ct) ⟨us, []⟩ = pure (ps.zip us))
    (a : PySem.W.findIn K (.ref C) m = some (some (.ref f))) (i : PySem.W.isFn K (.ref f) = true) (l : K.lookup f = some ⟨oc, od, .func (PySem.W.fnOf m q (defArgs st) (defBody st) (defScope st) .none kV doc pm an cdv ct), osl⟩)
    (c : PySem.W.codeIn K cdv q = true) (k : PySem.W.keepIn K (.ref f) = true) : MethAt K C m q st ps :=
  ⟨f, _, fun_mk (st := st) l c k, ⟨a, i, k⟩, (fun_mk (st := st) l c k).binds b⟩
theorem classAt (X : K.In h) (G : h.Ns mainGlobals mg) (a : PySem.W.nsIn K mainGlobals x = some (some (.ref C))) (pg : PySem.W.plainGet K C Str.empty = true) (hd : PySem.W.hasDictIn K C = true) (po : PySem.W.plainOver K C = true)
    (sa : PySem.W.findIn K (.ref C) "__setattr__" = some (some (.builtin "object.__setattr__"))) (mk : PySem.W.makesIn K C = true) (kc : PySem.W.keepIn K (.ref C) = true) : ClassAt K mg C x :=
  ⟨PySem.W.mg_of X G a, ⟨pg, hd, po, sa⟩, mk, kc⟩
theorem noAttr (a : PySem.W.findIn K (.ref C) x = some none) : NoAttr K C x := a
theorem constAt (X : K.In h) (G : h.Ns mainGlobals mg) {v : V} {u : Value} (a : PySem.W.nsIn K mainGlobals x = some (some u)) (r : RelV v u) : ∃ u, mg x = some u ∧ RelV v u := ⟨u, PySem.W.mg_of X G a, r⟩
end
section
variable {X : Cx} {K : PySem.W.Frag}
def rTupOf (K : PySem.W.Frag) : List V → Hp → VK → Prop := fun xs H Q => ∃ p ys, xs = [.ref p] ∧ ((SqL K H p ys ∧ ∀ l, H l = none → Q (.ref l) (upd H l (.tup ys))) ∨ (SqT K H p ys ∧ Q (.ref p) H))
def rListOf (K : PySem.W.Frag) : List V → Hp → VK → Prop := fun xs H Q => ∃ p ys, xs = [.ref p] ∧ (SqL K H p ys ∨ SqT K H p ys) ∧ ∀ l, H l = none → Q (.ref l) (upd H l (.lst ys))
def rLenOf (K : PySem.W.Frag) : List V → Hp → VK → Prop := fun xs H Q => ∃ p ys, xs = [.ref p] ∧ (SqL K H p ys ∨ SqT K H p ys) ∧ Q (.int ys.length) H
theorem kIxL (h : X.K = K := by rfl) : IxR X (rIxL K) := by subst h; exact ix_list
theorem kIxT (h : X.K = K := by rfl) : IxR X (rIxT K) := by subst h; exact ix_tup
theorem kIn (h : X.K = K := by rfl) : OpR X (compareOp .In) (rIn K false) := by subst h; exact op_in_seq
theorem kNotIn (h : X.K = K := by rfl) : OpR X (compareOp .NotIn) (rIn K true) := by subst h; exact op_notIn_seq
theorem kEqD (hu : X.A.units + 64 < cLine) (h : X.K = K := by rfl) : OpR X (compareOp .Eq) (rEqD K) := by subst h; exact op_eqD hu
theorem kNeD (hu : X.A.units + 64 < cLine) (h : X.K = K := by rfl) : OpR X (compareOp .NotEq) (rNeD K) := by subst h; exact op_neD hu
theorem kLen (h : X.K = K := by rfl) : CallR X (.builtin "len") (rLenOf K) := by subst h; exact call_len_seq
theorem kAll (hc : X.calm = true) (h : X.K = K := by rfl) : CallR X (.builtin "all") (rAll K) := by subst h; exact cr_all hc
theorem kAny (hc : X.calm = true) (h : X.K = K := by rfl) : CallR X (.builtin "any") (rAny K) := by subst h; exact cr_any hc
theorem kSum (hc : X.calm = true) (h : X.K = K := by rfl) : CallR X (.builtin "sum") (rSum K) := by subst h; exact cr_sum hc
theorem kMax (hc : X.calm = true) (h : X.K = K := by rfl) : CallR X (.builtin "max") (rMax K) := by subst h; exact cr_max hc
theorem kIsi (h : X.K = K := by rfl) : CallR X (.builtin "isinstance") (rIsi K) := by subst h; exact call_isi
theorem kTup (h : X.K = K := by rfl) : CallR X (.type "tuple") (rTupOf K) := by subst h; exact call_tuple_of
theorem kList (h : X.K = K := by rfl) : CallR X (.type "list") (rListOf K) := by subst h; exact call_list_of
theorem kFld {e : Expr} {f : Str} {pos : Pos} {ta : TE} (he : PE X e ta) (hb : attributeBase e f X.env (eval e X.env) = eval e X.env) (h : X.K = K := by rfl) : PE X (.Attribute e f pos) (tFld K ta f) := by subst h; exact pe_fld he hb
theorem kPiL {tg l : Expr} {tl : TE} (hl : PE X l tl) (h : X.K = K := by rfl) : PI X tg l (iList K tl) := by subst h; exact pi_list hl
theorem kPiT {tg l : Expr} {tl : TE} (hl : PE X l tl) (h : X.K = K := by rfl) : PI X tg l (iTup K tl) := by subst h; exact pi_tup hl
theorem kPgT {es : List Expr} {k : Nat} {t : TGs} {n : Nat} {pos : Pos} (hc : X.calm = true) (hp : PGs X es t) (h : X.K = K := by rfl)
    (hn : (assignEach es X.env).length = n := by rfl) (hst : (assignEach es X.env).findIdx? (·.1) = none := by rfl) : PG X (.Tuple es k pos) (gTup K n t) := by subst h; exact pg_tup hc hp hn hst
end
def Fr1 (a : Addr) (H H' : Hp) : Prop := ∀ c o, c ≠ a → H c = some o → H' c = some o
theorem Fr1.refl (a : Addr) (H : Hp) : Fr1 a H H := fun _ _ _ h => h
theorem Fr1.trans {a : Addr} {H H1 H2 : Hp} (e : Fr1 a H H1) (f : Fr1 a H1 H2) : Fr1 a H H2 := fun c o n h => f c o n (e c o n h)
theorem Fr1.of {a : Addr} {H H' : Hp} (e : Same H H') : Fr1 a H H' := fun c o _ h => e c o h
theorem Fr1.upd {a p : Addr} {H H' : Hp} {o : HO} (e : Fr1 a H H') (h : H p = none) : Fr1 a H (upd H' p o) := fun c u n hc => by
  rw [upd_ne (ne_of_none hc h)]
  exact e c u n hc
theorem Fr1.at {a : Addr} {H H' : Hp} {o : HO} (e : Fr1 a H H') : Fr1 a H (L2.upd H' a o) := fun c u n hc => by
  rw [upd_ne n]
  exact e c u n hc
theorem Fr1.free {a p : Addr} {H H' : Hp} (e : Fr1 a H H') (n : p ≠ a) (h : H' p = none) : H p = none := by
  cases q : H p with
  | none => rfl
  | some o =>
    rw [e p o n q] at h
    cases h
theorem Same.upd {p : Addr} {H H' : Hp} {o : HO} (e : Same H H') (h : H p = none) : Same H (L2.upd H' p o) := fun c u hc => by
  rw [upd_ne (ne_of_none hc h)]
  exact e c u hc
theorem Same.fr1 {a : Addr} {H H1 H2 : Hp} (e : Same H H1) (f : Fr1 a H1 H2) (h : H a = none) : Same H H2 := fun c o hc => f c o (ne_of_none hc h) (e c o hc)
theorem Same.made' {H H' : Hp} {x dx C : Addr} (nx : H x = none) (nd : H dx = none) (e : Fr1 x (L2.upd (L2.upd H dx (.own x)) x (.ins C dx [])) H') : Same H H' := fun c o hc => by
  refine e c o (ne_of_none hc nx) ?_
  rw [upd_ne (ne_of_none hc nx), upd_ne (ne_of_none hc nd)]
  exact hc
theorem Same.none {p : Addr} {H H' : Hp} (e : Same H H') (h : H' p = none) : H p = none := e.free h
theorem Same.upd' {p : Addr} {H H' : Hp} {o : HO} (e : Same H H') (h : H p = Option.none) : Same H (L2.upd H' p o) := Same.upd e h
def KT (H H' : Hp) : Prop := ∀ a xs, H a = some (.tup xs) → H' a = some (.tup xs)
theorem KT.refl (H : Hp) : KT H H := fun _ _ h => h
theorem KT.trans {H H1 H2 : Hp} (e : KT H H1) (f : KT H1 H2) : KT H H2 := fun a xs h => f a xs (e a xs h)
theorem KT.of {H H' : Hp} (e : Same H H') : KT H H' := fun a xs h => e a _ h
theorem Fr1.kt {a : Addr} {H H' : Hp} {xs : List V} (e : Fr1 a H H') (h : H a = some (.lst xs)) : KT H H' := fun c ys hc => e c _ (ne_of hc h (by intro z; cases z)) hc
theorem KT.upd {p : Addr} {H H' : Hp} {o : HO} (e : KT H H') (h : H p = none) : KT H (L2.upd H' p o) := fun c xs hc => by
  rw [upd_ne (ne_of_none hc h)]
  exact e c xs hc
theorem KT.updL {p : Addr} {H H' : Hp} {ys : List V} {o : HO} (e : KT H H') (h : H' p = some (.lst ys)) : KT H (L2.upd H' p o) := fun c xs hc => by
  have q := e c xs hc
  rw [upd_ne (ne_of q h (by intro z; cases z))]
  exact q

mutual
inductive Td (H : Hp) : V → PyData → Prop
  | non : Td H .non .none
  | bl (b : Bool) : Td H (.bl b) (.bool b)
  | int (i : Int) : Td H (.int i) (.int i)
  | str (x : Str) : Td H (.str x) (.str x)
  | tup {a : Addr} {xs : List V} {ds : List PyData} : H a = some (.tup xs) → TdAll H xs ds → Td H (.ref a) (.tuple ds)
inductive TdAll (H : Hp) : List V → List PyData → Prop
  | nil : TdAll H [] []
  | cons {v : V} {vs : List V} {d : PyData} {ds : List PyData} : Td H v d → TdAll H vs ds → TdAll H (v :: vs) (d :: ds)
end
section
variable {H H' : Hp} {K : PySem.W.Frag}
mutual
theorem Td.mono (e : KT H H') : ∀ {v : V} {d : PyData}, Td H v d → Td H' v d
  | _, _, .non => .non
  | _, _, .bl b => .bl b
  | _, _, .int i => .int i
  | _, _, .str x => .str x
  | _, _, .tup h r => .tup (e _ _ h) (TdAll.mono e r)
theorem TdAll.mono (e : KT H H') : ∀ {vs : List V} {ds : List PyData}, TdAll H vs ds → TdAll H' vs ds
  | _, _, .nil => .nil
  | _, _, .cons h r => .cons (Td.mono e h) (TdAll.mono e r)
end
mutual
theorem Td.dp : ∀ {v : V} {d : PyData}, Td H v d → Dp K H v d
  | _, _, .non => .non
  | _, _, .bl b => .bl b
  | _, _, .int i => .int i
  | _, _, .str x => .str x
  | _, _, .tup h r => .tup (SqT.of h) (TdAll.dp r)
theorem TdAll.dp : ∀ {vs : List V} {ds : List PyData}, TdAll H vs ds → DpAll K H vs ds
  | _, _, .nil => .nil
  | _, _, .cons h r => .cons (Td.dp h) (TdAll.dp r)
end
theorem TdAll.length : ∀ {vs : List V} {ds : List PyData}, TdAll H vs ds → vs.length = ds.length
  | _, _, .nil => rfl
  | _, _, .cons _ r => by rw [List.length_cons, List.length_cons, TdAll.length r]
theorem TdAll.get : ∀ {vs : List V} {ds : List PyData} {i : Nat} {v : V}, TdAll H vs ds → vs[i]? = some v → ∃ d, ds[i]? = some d ∧ Td H v d
  | _, _, i, _, .nil, h => by simp at h
  | _, _, 0, _, .cons h _, e => ⟨_, rfl, by
      have e : _ = _ := Option.some.inj e
      rw [← e]
      exact h⟩
  | _, _, i + 1, _, .cons _ r, e => TdAll.get (i := i) r e
theorem TdAll.get' : ∀ {vs : List V} {ds : List PyData} {i : Nat} {d : PyData}, TdAll H vs ds → ds[i]? = some d → ∃ v, vs[i]? = some v ∧ Td H v d
  | _, _, i, _, .nil, h => by simp at h
  | _, _, 0, _, .cons h _, e => ⟨_, rfl, by
      have e : _ = _ := Option.some.inj e
      rw [← e]
      exact h⟩
  | _, _, i + 1, _, .cons _ r, e => TdAll.get' (i := i) r e
theorem TdAll.append : ∀ {vs us : List V} {ds es : List PyData}, TdAll H vs ds → TdAll H us es → TdAll H (vs ++ us) (ds ++ es)
  | _, _, _, _, .nil, r => r
  | _, _, _, _, .cons h t, r => .cons h (TdAll.append t r)
theorem TdAll.snoc {vs : List V} {ds : List PyData} {v : V} {d : PyData} (r : TdAll H vs ds) (h : Td H v d) : TdAll H (vs ++ [v]) (ds ++ [d]) := r.append (.cons h .nil)
theorem TdAll.strs : ∀ (ws : List Str), TdAll H (ws.map V.str) (ws.map PyData.str)
  | [] => .nil
  | w :: ws => .cons (.str w) (TdAll.strs ws)
theorem Td.str_inv {v : V} {x : Str} (h : Td H v (.str x)) : v = .str x := by cases h; rfl
theorem Td.bl_inv {v : V} {b : Bool} (h : Td H v (.bool b)) : v = .bl b := by cases h; rfl
theorem Td.int_inv {v : V} {i : Int} (h : Td H v (.int i)) : v = .int i := by cases h; rfl
theorem Td.tup_inv {v : V} {ds : List PyData} (h : Td H v (.tuple ds)) : ∃ a xs, v = .ref a ∧ H a = some (.tup xs) ∧ TdAll H xs ds := by
  cases h with
  | tup h r => exact ⟨_, _, rfl, h, r⟩
theorem TdAll.strs_inv : ∀ {vs : List V} {ws : List Str}, TdAll H vs (ws.map PyData.str) → vs = ws.map V.str
  | _, [], h => by cases h; rfl
  | _, w :: ws, h => by
    cases h with
    | cons h r => rw [List.map_cons, ← TdAll.strs_inv r, Td.str_inv h]
theorem Td.kt_same {v : V} {d : PyData} (e : Same H H') (h : Td H v d) : Td H' v d := h.mono (KT.of e)
end

def StAt (H : Hp) (a : Addr) (n : Nat) : Prop := ∃ x y k : Int, H a = some (.lst [.int x, .int y, .int k]) ∧ 0 ≤ k ∧ k + n ≤ 1000000
theorem StAt.mono {H : Hp} {a : Addr} {n m : Nat} (h : StAt H a m) (l : n ≤ m) : StAt H a n := by
  obtain ⟨x, y, k, h1, h2, h3⟩ := h
  exact ⟨x, y, k, h1, h2, by omega⟩
theorem StAt.lst {H : Hp} {a : Addr} {n : Nat} (h : StAt H a n) : ∃ xs, H a = some (.lst xs) := by
  obtain ⟨x, y, k, h1, _⟩ := h
  exact ⟨_, h1⟩
theorem StAt.kt {H H' : Hp} {a : Addr} {n : Nat} (h : StAt H a n) (e : Fr1 a H H') : KT H H' := by
  obtain ⟨xs, hx⟩ := h.lst
  exact e.kt hx
theorem StAt.same {H H' : Hp} {a : Addr} {n : Nat} (h : StAt H a n) (e : Same H H') : StAt H' a n := by
  obtain ⟨x, y, k, h1, h2, h3⟩ := h
  exact ⟨x, y, k, e _ _ h1, h2, h3⟩
theorem StAt.fr {H H' : Hp} {a b : Addr} {n : Nat} (h : StAt H a n) (e : Fr1 b H H') (ne : a ≠ b) : StAt H' a n := by
  obtain ⟨x, y, k, h1, h2, h3⟩ := h
  exact ⟨x, y, k, e _ _ ne h1, h2, h3⟩
theorem StAt.upd {H : Hp} {a p : Addr} {n : Nat} {o : HO} (h : StAt H a n) (ne : a ≠ p) : StAt (upd H p o) a n := by
  obtain ⟨x, y, k, h1, h2, h3⟩ := h
  exact ⟨x, y, k, by rw [upd_ne ne]; exact h1, h2, h3⟩
theorem StAt.ne {H : Hp} {a p : Addr} {n : Nat} (h : StAt H a n) (e : H p = none) : a ≠ p := by
  obtain ⟨x, y, k, h1, _⟩ := h
  exact ne_of_none h1 e

structure Nm (w : Str) : Prop where
  lo : 1 ≤ w.length
  hi : w.length ≤ 8
  az : ∀ c ∈ w.cps.toList, 97 ≤ c ∧ c ≤ 122
def abc : Str := "abcdefghijklmnopqrstuvwxyz"
theorem abc_list : abc.cps.toList = (List.range 26).map (97 + ·) := by decide +kernel
theorem abc_len : abc.length = 26 := by decide +kernel
theorem abc_mem (c : Nat) : c ∈ abc.cps.toList ↔ 97 ≤ c ∧ c ≤ 122 := by
  rw [abc_list, List.mem_map]
  constructor
  · rintro ⟨i, hi, rfl⟩
    rw [List.mem_range] at hi
    omega
  · rintro ⟨h1, h2⟩
    exact ⟨c - 97, List.mem_range.mpr (by omega), by omega⟩
theorem abc_at (i : Nat) (h : i < 26) : abc.cps.toList[i]? = some (97 + i) := by
  rw [abc_list, List.getElem?_map, List.getElem?_range h]
  rfl
theorem Nm.sign {c : Nat} (h : 97 ≤ c ∧ c ≤ 122) : Nm ⟨#[c]⟩ := by
  refine ⟨(by show 1 ≤ 1; decide), (by show 1 ≤ 8; decide), fun d hd => ?_⟩
  have : d = c := by simpa using hd
  rw [this]
  exact h
theorem sizeL {n : Nat} (h : n ≤ 100000) : n ≤ sizeLine := Nat.le_trans h (by decide)
theorem sizeLt {n : Nat} (h : n < 100000) : n < sizeLine := Nat.lt_of_lt_of_le h (by decide)
section
variable {X : Cx}
theorem ps_setDc {i : Nat} {y : Str} {py : Pos} {kx vx tg iter : Expr} {ifs : List Expr} {scope : Scope} {own : List (Str × Nat)} {pos spos : Pos} {wi : TI} {g : TG} {tt : TT} {tk tv : TE} (hc : X.calm = true) (hN : X.N.Nodup) (hy : X.N[i]? = some y) (hyl : X.env.scope.names.lookup y = some .local)
    (hsw : swapsWith (.DictComp kx vx [⟨tg, iter, ifs, 0⟩] scope pos) (some (.Name y py)) spos.line X.env = pure true) (hi : PI X tg iter wi) (ok : BlkOk X.N X.env.scope scope own)
    (hg : ∀ (s : Shared) (H : Hp) (C : Addr) (cl : List (Str × Addr)) (fp : List Addr), PG (X.blk s H scope (compEnvC scope cl C X.env) fp) tg g)
    (ht : ∀ (s : Shared) (H : Hp) (C : Addr) (cl : List (Str × Addr)) (fp : List Addr), PTs (X.blk s H scope (compEnvC scope cl C X.env) fp) ifs tt)
    (hk : ∀ (s : Shared) (H : Hp) (C : Addr) (cl : List (Str × Addr)) (fp : List Addr), PE (X.blk s H scope (compEnvC scope cl C X.env) fp) kx tk)
    (he : ∀ (s : Shared) (H : Hp) (C : Addr) (cl : List (Str × Addr)) (fp : List Addr), PE (X.blk s H scope (compEnvC scope cl C X.env) fp) vx tv) (hs : ∀ x, foldedSetIterable iter X.env x = pure x := by intro _; rfl) :
    PS X (.Assign [.Name y py] (.DictComp kx vx [⟨tg, iter, ifs, 0⟩] scope pos) spos) (tAsg (tDc wi g tt tk tv (own.map (·.2))) (gName i)) := by
  refine ⟨fun pins s0 σ H0 Dn I0 h0 => ?_⟩
  rw [(exec_Assign_Name_used _ _ _ _ hsw :)]; refine wpAny_bind (wpAny_standAt <| wpAny_bind ?_)
  show wpAny _ X.A (do let _ ← comprehension (.DictComp kx vx [⟨tg, iter, ifs, 0⟩] scope pos) scope X.env (firstIterPos [⟨tg, iter, ifs, 0⟩] pos) newDict false (eval iter X.env) (some (assign (.Name y py) X.env))) _ _ s0
  have h0 : tDc wi g tt tk tv (own.map (·.2)) σ H0 (fun x H1 => gName i x σ H1 Dn.nx) := h0
  refine wpAny_bind (thn (dc_core (Qf := fun _ s9 => SP X pins Dn .next s9) hc hN I0 hi ok hg ht hk he hs h0 fun L C s9 m H9 I9 q hn ff => ?_) fun _ s9 hq => wpAny_pure (wpAny_pure hq))
  show wpAny _ _ (assign (.Name y py) X.env (.ref L)) _ _ s9
  refine wpAny_assign_Name (store_ok2 (v := V.ref L) I9 hN hy (.inl hyl) rfl (fun s8 I8 ⟨a, sb, ha⟩ => ?_) (.inr hyl)); obtain ⟨z0, z1, z2, z3, z4, z5⟩ := ff
  have ca : C ≠ a := ha.elim (fun z => by rw [z]; exact z1) fun z e => z4 y a z e.symm
  refine ⟨m, hn.sameBut sb ca, fun h8 sb8 => ⟨_, H9, I8.turned (t' := s8.toks) (fun b o hb e => (sb8.2 b hb).trans e) z0 z1 z3 z4 z5, q⟩⟩
theorem swd_true {kx vx : Expr} {gs : List Comprehension} {scope : Scope} {pos py : Pos} {y : Str} {l : Nat} {env : Env} (hk : env.scope.kind = .function) (hy : env.scope.names.lookup y = some .local) (hl : (py.line == pos.line) = true)
    (ha : (scope.names.any fun (n, k) => n == y && (k == .local || k == .cell)) = false) : swapsWith (.DictComp kx vx gs scope pos) (some (.Name y py)) l env = pure true := by
  have kl : env.kindOf y = some .local := hy
  have kb : env.blockKind = .function := by unfold Env.blockKind; rw [hk] <;> rfl
  unfold swapsWith; simp only [kb, kl, ha, Expr.pos, hl] <;> rfl
end
end My
namespace My
open PySem L2
theorem tYes_if {σ : L2.St} {H : Hp} {A B : Hp → Prop} (h : A H) : tYes σ H (fun b H3 => if b = true then A H3 else B H3) := by
  show (if true = true then A H else B H)
  rw [if_pos rfl]
  exact h
abbrev cd (w : Str) : List Nat := w.cps.toList
theorem cd_len (w : Str) : w.length = (cd w).length := by
  show w.cps.size = w.cps.toList.length
  rw [Array.length_toList]
theorem cd_ext {v w : Str} (h : cd v = cd w) : v = w := by
  cases v
  cases w
  congr
  exact Array.ext' h
theorem cd_app (v w : Str) : cd (v ++ w) = cd v ++ cd w := by
  show (v.cps ++ w.cps).toList = _
  rw [Array.toList_append]
theorem cd_sign (c : Nat) : cd ⟨#[c]⟩ = [c] := rfl
theorem Nm.of {w : Str} {cs : List Nat} (e : cd w = cs) (h1 : 1 ≤ cs.length) (h8 : cs.length ≤ 8) (az : ∀ c ∈ cs, 97 ≤ c ∧ c ≤ 122) : Nm w := by
  subst e
  exact ⟨by rw [cd_len]; exact h1, by rw [cd_len]; exact h8, az⟩
theorem Nm.l1 {w : Str} (h : Nm w) : 1 ≤ (cd w).length := by
  rw [← cd_len]
  exact h.lo
theorem Nm.l8 {w : Str} (h : Nm w) : (cd w).length ≤ 8 := by
  rw [← cd_len]
  exact h.hi
theorem joinL_signs : ∀ cs : List Nat, TL.joinL [] (cs.map fun c => [c]) = cs
  | [] => rfl
  | [c] => rfl
  | c :: d :: r => by
    show [c] ++ ([] ++ TL.joinL [] ((d :: r).map fun c => [c])) = _
    rw [joinL_signs (d :: r)]
    rfl
theorem cd_join (cs : List Nat) : cd (Txt.join (Str.ofString "") (cs.map fun c => (⟨#[c]⟩ : Str))) = cs := by
  rw [TL.join_eq]
  have h := TL.tl_join (Str.ofString "") (cs.map fun c => (⟨#[c]⟩ : Str))
  have e : (cs.map fun c => (⟨#[c]⟩ : Str)).map TL.tl = cs.map fun c => [c] := by
    rw [List.map_map]
    rfl
  rw [e] at h
  have h2 : TL.tl (Str.ofString "") = [] := by decide +kernel
  rw [h2, joinL_signs] at h
  exact h
theorem cut_to (z : Str) (i : Nat) (h : i ≤ z.length) : cd (cutS z none (some (i : Int))) = (cd z).take i := by
  show ((z.cps.toList.drop (HT.sIx z.length 0 none)).take (HT.sIx z.length z.length (some (i : Int)) - HT.sIx z.length 0 none)).toArray.toList = _
  rw [HT.sIx_none, HT.sIx_nat, List.toList_toArray, List.drop_zero, Nat.min_eq_left h]
  rfl
theorem cut_from (z : Str) (i : Nat) : cd (cutS z (some (i : Int)) none) = (cd z).drop i := by
  show ((z.cps.toList.drop (HT.sIx z.length 0 (some (i : Int)))).take (HT.sIx z.length z.length none - HT.sIx z.length 0 (some (i : Int)))).toArray.toList = _
  rw [HT.sIx_none, HT.sIx_nat, List.toList_toArray]
  have e : z.length = z.cps.toList.length := cd_len z
  rcases Nat.le_total i z.length with l | l
  · rw [Nat.min_eq_left l, List.take_of_length_le]
    rw [List.length_drop, ← e]
    exact Nat.le_refl _
  · rw [Nat.min_eq_right l, List.drop_eq_nil_of_le (by rw [← e]; exact Nat.le_refl _), List.take_nil]
    exact (List.drop_eq_nil_of_le (by rw [← e]; exact l)).symm
theorem Nm.bent {w v : Str} {i c : Nat} (h : Nm w) (hi : i < (cd w).length) (hc : 97 ≤ c ∧ c ≤ 122) (e : cd v = (cd w).take i ++ [c] ++ (cd w).drop (i + 1)) : Nm v := by
  have l8 := h.l8
  refine Nm.of e ?_ ?_ fun d hd => ?_
  · simp only [List.length_append, List.length_take, List.length_drop, List.length_singleton]
    omega
  · simp only [List.length_append, List.length_take, List.length_drop, List.length_singleton]
    omega
  · rcases List.mem_append.mp hd with m | m
    · rcases List.mem_append.mp m with m | m
      · exact h.az d (List.mem_of_mem_take m)
      · rw [List.mem_singleton.mp m]
        exact hc
    · exact h.az d (List.mem_of_mem_drop m)
theorem Nm.more {w v : Str} {c : Nat} (h : Nm w) (l : (cd w).length < 8) (hc : 97 ≤ c ∧ c ≤ 122) (e : cd v = cd w ++ [c]) : Nm v := by
  refine Nm.of e ?_ ?_ fun d hd => ?_
  · simp only [List.length_append, List.length_singleton]
    omega
  · simp only [List.length_append, List.length_singleton]
    omega
  · rcases List.mem_append.mp hd with m | m
    · exact h.az d m
    · rw [List.mem_singleton.mp m]
      exact hc
theorem Nm.less {w v : Str} {i : Nat} (h : Nm w) (hi : i < (cd w).length) (l : 1 < (cd w).length) (e : cd v = (cd w).take i ++ (cd w).drop (i + 1)) : Nm v := by
  have l8 := h.l8
  refine Nm.of e ?_ ?_ fun d hd => ?_
  · simp only [List.length_append, List.length_take, List.length_drop]
    omega
  · simp only [List.length_append, List.length_take, List.length_drop]
    omega
  · rcases List.mem_append.mp hd with m | m
    · exact h.az d (List.mem_of_mem_take m)
    · exact h.az d (List.mem_of_mem_drop m)
theorem pigeon : ∀ (l m : List Str), l.Nodup → (∀ x ∈ l, x ∈ m) → l.length ≤ m.length
  | [], _, _, _ => Nat.zero_le _
  | x :: r, m, h, s => by
    obtain ⟨h1, h2⟩ := List.nodup_cons.mp h
    have hm := s x List.mem_cons_self
    have := pigeon r (m.erase x) h2 fun y hy => (List.mem_erase_of_ne (fun e => h1 (by rw [← e]; exact hy))).mpr (s y (List.mem_cons_of_mem _ hy))
    have e := List.length_erase_of_mem hm
    have p := List.length_pos_of_mem hm
    rw [List.length_cons]
    omega
section
variable {g : TG} {tt : TT} {te : TE} {vs : List Nat} {σ : L2.St} {H1 : Hp} {D : Addr} {Qd : Hp → Prop} {x : Str}
theorem lc_str (Pv : Nat → Hp → Prop) (h0 : Pv 0 (upd H1 D (.lst [])))
    (hs : ∀ i c Hi, x.cps[i]? = some c → Pv i Hi → g (.str ⟨#[c]⟩) (wipe σ vs) Hi fun σ2 H2 => wipe σ2 vs = wipe σ vs ∧ tt σ2 H2 fun b H3 =>
      if b = true then te σ2 H3 fun y H4 => ∃ acc, H4 D = some (.lst acc) ∧ acc.length < sizeLine ∧ Pv (i + 1) (upd H4 D (.lst (acc ++ [y]))) else Pv (i + 1) H3)
    (hd : ∀ Hi, Pv x.cps.size Hi → Qd Hi) :
    ∃ W : Nat → Nat → Hp → Prop, (∃ m, W 0 m (upd H1 D (.lst []))) ∧ ∀ i m Hi, W i m Hi →
      ((Its x).stop i Hi ∧ Qd Hi) ∨ ((Its x).go i Hi ∧ ∃ Nx : Hp → Prop, (∀ H', Nx H' → ∃ m', m' < m ∧ W (i + 1) m' H') ∧ ∀ v H', (Its x).yld i Hi v H' → g v (wipe σ vs) H' fun σ2 H2 => wipe σ2 vs = wipe σ vs ∧ tt σ2 H2 fun b H3 =>
        if b = true then te σ2 H3 fun y H4 => ∃ acc, H4 D = some (.lst acc) ∧ acc.length < sizeLine ∧ Nx (upd H4 D (.lst (acc ++ [y]))) else Nx H3) := by
  refine ⟨fun i m Hi => m = x.cps.size - i ∧ i ≤ x.cps.size ∧ Pv i Hi, ⟨_, rfl, Nat.zero_le _, h0⟩, ?_⟩
  rintro i m Hi ⟨em, hi, p⟩
  by_cases l : i < x.cps.size
  · refine Or.inr ⟨l, Pv (i + 1), fun H' p' => ⟨_, by omega, rfl, l, p'⟩, ?_⟩
    rintro v H' ⟨eh, c, hc, rfl⟩
    rw [eh]
    exact hs i c Hi hc p
  · obtain rfl : i = x.cps.size := by omega
    exact Or.inl ⟨Nat.le_refl _, hd Hi p⟩
end
theorem free_letter (ws : List Str) (h : ws.length < 26) : ∃ j, j < 26 ∧ (⟨#[97 + j]⟩ : Str) ∉ ws := by
  by_cases g : ∀ j, j < 26 → (⟨#[97 + j]⟩ : Str) ∈ ws
  · exfalso
    have nd : ((List.range 26).map fun j => (⟨#[97 + j]⟩ : Str)).Nodup := by decide +kernel
    have sub : ∀ x ∈ ((List.range 26).map fun j => (⟨#[97 + j]⟩ : Str)), x ∈ ws := by
      intro x hx
      obtain ⟨j, hj, rfl⟩ := List.mem_map.mp hx
      exact g j (List.mem_range.mp hj)
    have l := pigeon _ _ nd sub
    rw [List.length_map, List.length_range] at l
    omega
  · simp only [Classical.not_forall] at g
    obtain ⟨j, hj, hn⟩ := g
    exact ⟨j, hj, hn⟩
theorem flat_strs (ws : List Str) : (ws.map V.str).all flatV = true := by
  induction ws with
  | nil => rfl
  | cons w r ih =>
    rw [List.map_cons, List.all_cons, ih]
    rfl
theorem inV_strs (x : Str) : ∀ ws : List Str, inV (.str x) (ws.map V.str) = decide (x ∈ ws)
  | [] => by
    rw [List.map_nil]
    simp [inV]
  | w :: r => by
    have ih := inV_strs x r
    unfold inV at ih ⊢
    rw [List.map_cons, List.any_cons, ih]
    by_cases e : w = x
    · subst e
      simp [eqV]
    · have e' : ¬ x = w := fun q => e q.symm
      simp [eqV, e, e']
end My
namespace My
open PySem L2
def Fine (n : Nat) (d : PyData) : Prop := d.canLay0 = true ∧ d.depth ≤ n
theorem Fine.sh {n : Nat} {d : PyData} (h : Fine n d) (l : n ≤ 64) : SeqAt.shaped d = true := by
  show (d.canLay0 && decide (d.depth ≤ 64)) = true
  rw [h.1, decide_eq_true (Nat.le_trans h.2 l)]
  rfl
theorem Fine.self {n : Nat} {d : PyData} (h : Fine n d) : PyData.eqv d d = true := PySem.SeqAt.eqv_refl d h.1
theorem Fine.up {n m : Nat} {d : PyData} (h : Fine n d) (l : n ≤ m) : Fine m d := ⟨h.1, Nat.le_trans h.2 l⟩
theorem canAll : ∀ {ds : List PyData}, (∀ d ∈ ds, d.canLay0 = true) → PyData.canLayAll0 ds = true
  | [], _ => by simp only [PyData.canLayAll0]
  | d :: r, h => by
    simp only [PyData.canLayAll0]
    rw [h d List.mem_cons_self, canAll fun x hx => h x (List.mem_cons_of_mem _ hx)]
    rfl
theorem depAll : ∀ {ds : List PyData} {n : Nat}, (∀ d ∈ ds, d.depth ≤ n) → PyData.depthAll ds ≤ n
  | [], n, _ => by simp [PyData.depthAll]
  | d :: r, n, h => by
    simp only [PyData.depthAll]
    have h1 := h d List.mem_cons_self
    have h2 := depAll (ds := r) fun x hx => h x (List.mem_cons_of_mem _ hx)
    omega
theorem Fine.tup {n : Nat} {ds : List PyData} (h : ∀ d ∈ ds, Fine n d) : Fine (n + 1) (.tuple ds) := by
  refine ⟨?_, ?_⟩
  · simp only [PyData.canLay0]
    exact canAll fun d hd => (h d hd).1
  · simp only [PyData.depth]
    have := depAll fun d hd => (h d hd).2
    omega
theorem Fine.lst {n : Nat} {ds : List PyData} (h : ∀ d ∈ ds, Fine n d) : Fine (n + 1) (.list ds) := by
  refine ⟨?_, ?_⟩
  · simp only [PyData.canLay0]
    exact canAll fun d hd => (h d hd).1
  · simp only [PyData.depth]
    have := depAll fun d hd => (h d hd).2
    omega
theorem Fine.int (i : Int) : Fine 1 (.int i) := ⟨by simp only [PyData.canLay0], by simp only [PyData.depth]; omega⟩
theorem Fine.bool (b : Bool) : Fine 1 (.bool b) := ⟨by simp only [PyData.canLay0], by simp only [PyData.depth]; omega⟩
theorem Fine.none : Fine 1 .none := ⟨by simp only [PyData.canLay0], by simp only [PyData.depth]; omega⟩
theorem Fine.str {x : Str} (h : ∀ c ∈ cd x, c < 0x110000) : Fine 1 (.str x) := by
  refine ⟨?_, by simp only [PyData.depth]; omega⟩
  simp only [PyData.canLay0]
  show x.cps.all (· < 0x110000) = true
  rw [← Array.all_toList, List.all_eq_true]
  intro c hc
  exact decide_eq_true (h c hc)
theorem Nm.fine {x : Str} (h : Nm x) : Fine 1 (.str x) := Fine.str fun c hc => by
  have := h.az c hc
  omega
theorem fine_strs {ws : List Str} (h : ∀ w ∈ ws, Nm w) : ∀ d ∈ ws.map PyData.str, Fine 1 d := by
  intro d hd
  obtain ⟨w, hw, rfl⟩ := List.mem_map.mp hd
  exact (h w hw).fine
theorem eqv_lists_nil (ds : List PyData) : PyData.eqv (.list ds) (.list []) = ds.isEmpty := by
  cases ds <;> simp [PyData.eqv, PyData.eqvAll]
theorem eqv_tups_nil (ds : List PyData) : PyData.eqv (.tuple ds) (.tuple []) = ds.isEmpty := by
  cases ds <;> simp [PyData.eqv, PyData.eqvAll]

abbrev Ref := Str × Str
abbrev Ent := Str × Bool × List Ref
abbrev Plan := List Ent
def refD (r : Ref) : PyData := .tuple [.str r.1, .str r.2]
def refsD (rs : List Ref) : PyData := .tuple (rs.map refD)
def entD (e : Ent) : PyData := .tuple [.str e.1, .bool e.2.1, refsD e.2.2]
def planD (p : Plan) : PyData := .tuple (p.map entD)
structure GoodRefs (names : List Str) (rs : List Ref) : Prop where
  len : rs.length ≤ 3
  nm : ∀ r ∈ rs, Nm r.1
  to : ∀ r ∈ rs, r.2 ∈ names
  nd : (rs.map (·.1)).Nodup
structure Good (p : Plan) : Prop where
  lo : 1 ≤ p.length
  hi : p.length ≤ 5
  nm : ∀ e ∈ p, Nm e.1
  nd : (p.map (·.1)).Nodup
  refs : ∀ e ∈ p, GoodRefs (p.map (·.1)) e.2.2
theorem Good.names {p : Plan} (g : Good p) : ∀ w ∈ p.map (·.1), Nm w := by
  intro w hw
  obtain ⟨e, he, rfl⟩ := List.mem_map.mp hw
  exact g.nm e he
theorem Good.toNm {p : Plan} (g : Good p) {e : Ent} (he : e ∈ p) {r : Ref} (hr : r ∈ e.2.2) : Nm r.2 := g.names _ ((g.refs e he).to r hr)
theorem refD_fine {r : Ref} (h1 : Nm r.1) (h2 : Nm r.2) : Fine 2 (refD r) := Fine.tup (n := 1) fun d hd => by
  rcases List.mem_cons.mp hd with rfl | hd
  · exact h1.fine
  · rw [List.mem_singleton.mp hd]
    exact h2.fine
theorem Good.refsD_fine {p : Plan} (g : Good p) {e : Ent} (he : e ∈ p) : Fine 3 (refsD e.2.2) := Fine.tup (n := 2) fun d hd => by
  obtain ⟨r, hr, rfl⟩ := List.mem_map.mp hd
  exact refD_fine ((g.refs e he).nm r hr) (g.toNm he hr)
theorem Good.entD_fine {p : Plan} (g : Good p) {e : Ent} (he : e ∈ p) : Fine 4 (entD e) := Fine.tup (n := 3) fun d hd => by
  rcases List.mem_cons.mp hd with rfl | hd
  · exact (g.nm e he).fine.up (by decide)
  · rcases List.mem_cons.mp hd with rfl | hd
    · exact (Fine.bool _).up (by decide)
    · rw [List.mem_singleton.mp hd]
      exact g.refsD_fine he
theorem Good.fine {p : Plan} (g : Good p) : Fine 5 (planD p) := Fine.tup (n := 4) fun d hd => by
  obtain ⟨e, he, rfl⟩ := List.mem_map.mp hd
  exact g.entD_fine he
end My
namespace My
open PySem PySem.Spec PyProof.Rows L2
def rInG (K : PySem.W.Frag) : R2 := fun x y H Q => (∃ a o, y = .ref a ∧ DGet H a x o ∧ Q (.bl o.isSome) H) ∨ rIn K false x y H Q
theorem kInG {X : Cx} {K : PySem.W.Frag} (hu : X.A.units + 1 < cLine) (h : X.K = K := by rfl) : OpR X (compareOp .In) (rInG K) := by
  subst h
  intro pins s σ H x y v u Q I rx ry hq
  rcases hq with ⟨a, o, rfl, g, q⟩ | hq
  · obtain rfl : u = Value.ref a := ry
    exact d_in hu I g rx fun s3 I3 => ⟨.bl o.isSome, H, I3, rfl, q⟩
  · exact op_in_seq pins s σ H x y v u Q I rx ry hq
section
variable {K : PySem.W.Frag} {g g1 : TG} {tt tt1 : TT} {te : TE} {vs vs1 : List Nat} {σ σ2 : L2.St} {wi1 : TI}
def In2 (J : It) (g1 : TG) (tt1 : TT) (te : TE) (vs1 : List Nat) (σ2 : L2.St) (D : Addr) (Nx : Hp → Prop) (H4 : Hp) : Prop := ∃ W1 : Nat → Nat → Hp → Prop, (∃ m, W1 0 m H4) ∧ ∀ j k H, W1 j k H →
  (J.stop j H ∧ Nx H) ∨ (J.go j H ∧ ∃ Nx1 : Hp → Prop, (∀ H', Nx1 H' → ∃ k', k' < k ∧ W1 (j + 1) k' H') ∧ ∀ x H', J.yld j H x H' → g1 x (wipe σ2 vs1) H' fun σ3 H5 => wipe σ3 vs1 = wipe σ2 vs1 ∧ tt1 σ3 H5 fun b H6 =>
    if b = true then te σ3 H6 fun y H7 => ∃ acc, H7 D = some (.lst acc) ∧ acc.length < sizeLine ∧ Nx1 (upd H7 D (.lst (acc ++ [y]))) else Nx1 H6)
theorem in2_tup {a : Addr} {xs : List V} {D : Addr} {Nx : Hp → Prop} {H4 : Hp} (Pv : Nat → Hp → Prop) (h0 : Pv 0 H4) (hl : ∀ j Hj, j ≤ xs.length → Pv j Hj → SqT K Hj a xs)
    (hs : ∀ j x Hj, xs[j]? = some x → Pv j Hj → g1 x (wipe σ2 vs1) Hj fun σ3 H5 => wipe σ3 vs1 = wipe σ2 vs1 ∧ tt1 σ3 H5 fun b H6 =>
      if b = true then te σ3 H6 fun y H7 => ∃ acc, H7 D = some (.lst acc) ∧ acc.length < sizeLine ∧ Pv (j + 1) (upd H7 D (.lst (acc ++ [y]))) else Pv (j + 1) H6)
    (hd : ∀ Hj, Pv xs.length Hj → Nx Hj) : In2 (Itt K a) g1 tt1 te vs1 σ2 D Nx H4 := by
  refine ⟨fun j m Hj => m = xs.length - j ∧ j ≤ xs.length ∧ Pv j Hj, ⟨_, rfl, Nat.zero_le _, h0⟩, ?_⟩
  rintro j m Hj ⟨em, hj, p⟩
  have q := hl j Hj hj p
  by_cases l : j < xs.length
  · refine Or.inr ⟨⟨xs, xs[j], q, by simp [l]⟩, Pv (j + 1), fun H' p' => ⟨_, by omega, rfl, l, p'⟩, ?_⟩
    rintro x H' ⟨eh, hx⟩
    rw [eh]
    exact hs j x Hj (hx xs q) p
  · obtain rfl : j = xs.length := by omega
    exact Or.inl ⟨⟨xs, q, Nat.le_refl _⟩, hd Hj p⟩
theorem lc2_tup {a : Addr} {xs : List V} {D : Addr} {Qd : Hp → Prop} {H1 : Hp} (Pv : Nat → Hp → Prop) (h0 : Pv 0 (upd H1 D (.lst []))) (hl : ∀ i Hi, i ≤ xs.length → Pv i Hi → SqT K Hi a xs)
    (hs : ∀ i x Hi, xs[i]? = some x → Pv i Hi → g x (wipe σ vs) Hi fun σ2 H2 => wipe σ2 vs = wipe σ vs ∧ tt σ2 H2 fun b H3 =>
      if b = true then wi1 σ2 H3 fun J1 H4 => In2 J1 g1 tt1 te vs1 σ2 D (Pv (i + 1)) H4 else Pv (i + 1) H3)
    (hd : ∀ Hi, Pv xs.length Hi → Qd Hi) :
    ∃ W : Nat → Nat → Hp → Prop, (∃ m, W 0 m (upd H1 D (.lst []))) ∧ ∀ i m H, W i m H →
      ((Itt K a).stop i H ∧ Qd H) ∨ ((Itt K a).go i H ∧ ∃ Nx : Hp → Prop, (∀ H', Nx H' → ∃ m', m' < m ∧ W (i + 1) m' H') ∧ ∀ x H', (Itt K a).yld i H x H' → g x (wipe σ vs) H' fun σ2 H2 => wipe σ2 vs = wipe σ vs ∧ tt σ2 H2 fun b H3 =>
        if b = true then wi1 σ2 H3 fun J1 H4 => In2 J1 g1 tt1 te vs1 σ2 D Nx H4 else Nx H3) := by
  refine ⟨fun i m Hi => m = xs.length - i ∧ i ≤ xs.length ∧ Pv i Hi, ⟨_, rfl, Nat.zero_le _, h0⟩, ?_⟩
  rintro i m Hi ⟨em, hi, p⟩
  have q := hl i Hi hi p
  by_cases l : i < xs.length
  · refine Or.inr ⟨⟨xs, xs[i], q, by simp [l]⟩, Pv (i + 1), fun H' p' => ⟨_, by omega, rfl, l, p'⟩, ?_⟩
    rintro x H' ⟨eh, hx⟩
    rw [eh]
    exact hs i x Hi (hx xs q) p
  · obtain rfl : i = xs.length := by omega
    exact Or.inl ⟨⟨xs, q, Nat.le_refl _⟩, hd Hi p⟩
end
theorem entD_inv {H : Hp} {v : V} {e : Ent} (h : Td H v (entD e)) : ∃ t tr rs, v = .ref t ∧ H t = some (.tup [.str e.1, .bl e.2.1, .ref tr]) ∧ H tr = some (.tup rs) ∧ TdAll H rs (e.2.2.map refD) := by
  obtain ⟨t, xs, rfl, ht, hx⟩ := h.tup_inv
  cases hx with
  | cons h1 hx =>
    cases hx with
    | cons h2 hx =>
      cases hx with
      | cons h3 hx =>
        cases hx
        obtain ⟨tr, rs, rfl, hr, hrs⟩ := h3.tup_inv
        rw [h1.str_inv, h2.bl_inv] at ht
        exact ⟨t, tr, rs, rfl, ht, hr, hrs⟩
theorem refD_inv {H : Hp} {v : V} {r : Ref} (h : Td H v (refD r)) : ∃ t, v = .ref t ∧ H t = some (.tup [.str r.1, .str r.2]) := by
  obtain ⟨t, xs, rfl, ht, hx⟩ := h.tup_inv
  cases hx with
  | cons h1 hx =>
    cases hx with
    | cons h2 hx =>
      cases hx
      rw [h1.str_inv, h2.str_inv] at ht
      exact ⟨t, rfl, ht⟩
theorem TdAll.getM {α : Type} {H : Hp} {vs : List V} {l : List α} {f : α → PyData} {i : Nat} {v : V} (h : TdAll H vs (l.map f)) (e : vs[i]? = some v) : ∃ x, l[i]? = some x ∧ Td H v (f x) := by
  obtain ⟨d, hd, ht⟩ := h.get e
  rw [List.getElem?_map] at hd
  obtain ⟨x, hx, rfl⟩ := Option.map_eq_some_iff.mp hd
  exact ⟨x, hx, ht⟩
theorem TdAll.getM' {α : Type} {H : Hp} {vs : List V} {l : List α} {f : α → PyData} {i : Nat} {x : α} (h : TdAll H vs (l.map f)) (e : l[i]? = some x) : ∃ v, vs[i]? = some v ∧ Td H v (f x) := by
  refine h.get' (i := i) ?_
  rw [List.getElem?_map, e]
  rfl
theorem all_true (n : Nat) : (List.replicate n true).all id = true := by
  induction n with
  | zero => rfl
  | succ n ih =>
    rw [List.replicate_succ, List.all_cons, ih]
    rfl
theorem rep_bl (n : Nat) : List.replicate n (V.bl true) = (List.replicate n true).map V.bl := by rw [List.map_replicate]
theorem rep_snoc {α : Type} (n : Nat) (x : α) : List.replicate n x ++ [x] = List.replicate (n + 1) x := (List.replicate_succ' (n := n) (a := x)).symm
end My
namespace My
open PySem L2
def sFlds (tv : V) (de : Addr) : List (Str × V) := putF "_entries" (.ref de) (putF "_tables" tv [])
theorem s_ne1 : ¬ (("_entries" : Str) = "_tables") := by decide +kernel
theorem s_ne2 : ¬ (("_tables" : Str) = "_entries") := by decide +kernel
theorem sFlds_t (tv : V) (de : Addr) : (sFlds tv de).lookup ("_tables" : Str) = some tv := by
  unfold sFlds
  rw [lookup_putF, if_neg s_ne2, lookup_putF, if_pos rfl]
theorem sFlds_e (tv : V) (de : Addr) : (sFlds tv de).lookup ("_entries" : Str) = some (.ref de) := by
  unfold sFlds
  rw [lookup_putF, if_pos rfl]
theorem sFlds_no (tv : V) (de : Addr) {m : Str} (h1 : ¬ m = "_entries") (h2 : ¬ m = "_tables") : (sFlds tv de).lookup m = none := by
  unfold sFlds
  rw [lookup_putF, if_neg h1, lookup_putF, if_neg h2]
  rfl
structure EntsAt (H : Hp) (kvs : List (Key × V)) (pl : Plan) : Prop where
  keys : kvs.map (·.1) = pl.map fun e => (Sum.inr e.1 : Key)
  vals : TdAll H (kvs.map (·.2)) (pl.map entD)
structure SchAt (C : Addr) (H : Hp) (p : Addr) (pl : Plan) : Prop where
  good : Good pl
  ex : ∃ dx tv de kvs, H p = some (.ins C dx (sFlds tv de)) ∧ Td H tv (planD pl) ∧ H de = some (.dK kvs) ∧ EntsAt H kvs pl
theorem SchAt.fr {C p a : Addr} {H H' : Hp} {pl : Plan} {xs : List V} (S : SchAt C H p pl) (e : Fr1 a H H') (ha : H a = some (.lst xs)) : SchAt C H' p pl := by
  obtain ⟨dx, tv, de, kvs, h1, h2, h3, h4⟩ := S.ex
  have kt := e.kt ha
  exact ⟨S.good, dx, tv, de, kvs, e p _ (ne_of h1 ha (by intro z; cases z)) h1, h2.mono kt, e de _ (ne_of h3 ha (by intro z; cases z)) h3, h4.keys, h4.vals.mono kt⟩
theorem SchAt.same {C p : Addr} {H H' : Hp} {pl : Plan} (S : SchAt C H p pl) (e : Same H H') : SchAt C H' p pl := by
  obtain ⟨dx, tv, de, kvs, h1, h2, h3, h4⟩ := S.ex
  exact ⟨S.good, dx, tv, de, kvs, e p _ h1, h2.kt_same e, e de _ h3, h4.keys, h4.vals.mono (KT.of e)⟩
theorem SchAt.ins {C p : Addr} {H : Hp} {pl : Plan} (S : SchAt C H p pl) : ∃ dx fs, H p = some (.ins C dx fs) := by
  obtain ⟨dx, tv, de, kvs, h1, _⟩ := S.ex
  exact ⟨_, _, h1⟩
theorem valV_mem {kvs : List (Key × V)} {pl : Plan} (hk : kvs.map (·.1) = pl.map fun e => (Sum.inr e.1 : Key)) (nd : (pl.map (·.1)).Nodup) : ∀ {H : Hp}, TdAll H (kvs.map (·.2)) (pl.map entD) → ∀ e ∈ pl, ∃ v, valV kvs (Sum.inr e.1) = some v ∧ Td H v (entD e) := by
  induction kvs generalizing pl with
  | nil =>
    intro H _ e he
    cases pl with
    | nil => cases he
    | cons _ _ => simp at hk
  | cons q r ih =>
    intro H ht e he
    cases pl with
    | nil => cases he
    | cons e0 pr =>
      rw [List.map_cons, List.map_cons] at hk ht
      have hk1 : q.1 = Sum.inr e0.1 := (List.cons.inj hk).1
      have hk2 := (List.cons.inj hk).2
      rw [List.map_cons] at nd
      obtain ⟨nd1, nd2⟩ := List.nodup_cons.mp nd
      cases ht with
      | cons h1 h2 =>
        by_cases c : e.1 = e0.1
        · have ee : e = e0 := by
            rcases List.mem_cons.mp he with h | h
            · exact h
            · exact absurd (List.mem_map.mpr ⟨e, h, c⟩) nd1
          subst ee
          refine ⟨q.2, ?_, h1⟩
          unfold valV
          simp [hk1]
        · rcases List.mem_cons.mp he with h | h
          · exact absurd (by rw [h]) c
          · obtain ⟨v, hv, hT⟩ := ih hk2 nd2 h2 e h
            refine ⟨v, ?_, hT⟩
            rw [← hv]
            unfold valV
            have : ¬ q.1 = Sum.inr e.1 := by
              rw [hk1]
              intro z
              exact c (Sum.inr.inj z).symm
            simp [this]
theorem valV_no {kvs : List (Key × V)} {pl : Plan} (hk : kvs.map (·.1) = pl.map fun e => (Sum.inr e.1 : Key)) {w : Str} (h : w ∉ pl.map (·.1)) : valV kvs (Sum.inr w) = none := by
  cases c : valV kvs (Sum.inr w : Key) with
  | none => rfl
  | some v =>
    have := valV_in c
    rw [hk] at this
    obtain ⟨e, he, ee⟩ := List.mem_map.mp this
    exact absurd (List.mem_map.mpr ⟨e, he, Sum.inr.inj ee⟩) h
theorem EntsAt.get {H : Hp} {kvs : List (Key × V)} {pl : Plan} (h : EntsAt H kvs pl) (g : Good pl) {e : Ent} (he : e ∈ pl) : ∃ v, valV kvs (Sum.inr e.1) = some v ∧ Td H v (entD e) := valV_mem h.keys g.nd h.vals e he
end My
namespace My
open PySem PySem.Spec PyProof.Rows L2
section
variable {X : Cx} {k : Nat} {C : Addr} {sp : Sp}
def rInOwn (C : Addr) (sp : Sp) : R2 := fun x y H Q => ∃ a dx fs, y = .ref a ∧ H a = some (.ins C dx fs) ∧ sp [.ref a, x] H (fun v H2 => ∃ b, v = .bl b ∧ Q (.bl b) H2) E0
theorem op_inOwn (G : MethOk X.prog X.w X.K X.mg X.base k C "__contains__" sp) (hr : Room k X.A) : OpR X (compareOp .In) (rInOwn C sp) := by
  obtain ⟨f, fd, ps, F, hm, hb, c⟩ := G.ex
  intro pins s σ H x y v u Q I rx ry h
  obtain ⟨a, dx, fs, rfl, ha, h⟩ := h
  obtain rfl : u = Value.ref a := ry
  obtain ⟨m, fr⟩ := I.fr
  obtain ⟨mA, O, _⟩ := ins_get I.hok ha
  obtain ⟨od, J, _⟩ := O.look
  refine PySem.W.in_K fr I.ok.mod.kin J hm.at_ hm.fn (thn (run_fn (us := [.ref a, v]) (vs := [.ref a, x]) F hr hb .nil pass0 I (.cons rfl (.cons rx .nil)) h) fun r s1 ⟨z, H1, I1, r1, b, ez, q⟩ => ?_)
  subst ez
  cases r1
  exact wpAny_truthy_bool ⟨.bl b, H1, I1, rfl, q⟩
def rSetOwn (C : Addr) (sp : Sp) : V → V → V → Hp → (Hp → Prop) → Prop := fun o i v H Q => ∃ a dx fs, o = .ref a ∧ H a = some (.ins C dx fs) ∧ sp [.ref a, i, v] H (fun _ H2 => Q H2) E0
theorem set_own (G : MethOk X.prog X.w X.K X.mg X.base k C "__setitem__" sp) (hr : Room k X.A) (hq : PySem.W.noSeq X.K C = true) : PSet X (rSetOwn C sp) := by
  obtain ⟨f, fd, ps, F, hm, hb, c⟩ := G.ex
  intro pins s σ H o i v ov iv u Q I ro ri rv h
  obtain ⟨a, dx, fs, rfl, ha, h⟩ := h
  obtain rfl : ov = Value.ref a := ro
  obtain ⟨m, fr⟩ := I.fr
  obtain ⟨mA, O, _⟩ := ins_get I.hok ha
  obtain ⟨od, J, _⟩ := O.look
  exact PySem.W.ksp_setItem fr I.ok.mod.kin J hq hm.at_ hm.fn (thn (run_fn (us := [.ref a, iv, u]) (vs := [.ref a, i, v]) F hr hb .nil pass0 I (.cons rfl (.cons ri (.cons rv .nil))) h) fun r s1 ⟨z, H1, I1, r1, q⟩ => ⟨H1, I1, q⟩)
def rGetOwn (C : Addr) (sp : Sp) : R2 := fun x y H Q => ∃ a dx fs, x = .ref a ∧ H a = some (.ins C dx fs) ∧ sp [.ref a, y] H Q E0
theorem kDict {K : PySem.W.Frag} (h : X.K = K := by rfl) : CallR X (.type "dict") (fun xs H Q => ∃ (a : Addr) (kvs : List (Key × V)), xs = [.ref a] ∧ Rd H a (.dK kvs) ∧ ∀ p, H p = none → Q (.ref p) (upd H p (.dK kvs))) := by
  subst h
  exact call_dictD
end
def TupX (a : Addr) (ws : List Str) : HO := .ext fun h => ws.length ≤ sizeLine ∧ ∃ its : List Value, Vals (ws.map V.str) its ∧ h.get? a = some ({ cls := .type "tuple", data := .seq its.toArray } : Obj)
section
variable {X : Cx} {pins : List (Addr × Obj)} {σ : L2.St} {H : Hp} {s : Shared}
theorem tupX_at {a : Addr} {ws : List Str} (I : Inv X pins σ H s) (h : H a = some (TupX a ws)) : ws.length ≤ sizeLine ∧ ∃ its : List Value, Vals (ws.map V.str) its ∧ s.heap.get? a = some ({ cls := .type "tuple", data := .seq its.toArray } : Obj) := (I.hok a _ h).1
def rTupX (K : PySem.W.Frag) : List V → Hp → VK → Prop := fun xs H Q => ∃ (p : Addr) (ws : List Str), xs = [.ref p] ∧ SqL K H p (ws.map V.str) ∧ ∀ l, H l = none → Q (.ref l) (upd H l (TupX l ws))
theorem kTupX {K : PySem.W.Frag} (hK : X.K = K := by rfl) : CallR X (.type "tuple") (rTupX K) := by
  subst hK
  intro pins s0 σ H0 xs us Q I0 r0 h0
  obtain ⟨p, ws, rfl, hq, q⟩ := h0
  obtain ⟨u, rfl, rx⟩ := vals1 r0
  cases rx
  obtain ⟨its, ri, pl, hz⟩ := I0.list hq
  have hn := ri.length
  rw [List.length_map] at hn hz
  refine call_tuple_list pl.isList (fun h9 kp => ?_) (by simp only [List.size_toArray]; omega)
  have I1 : Inv X pins σ H0 { s0 with heap := h9 } := I0.kept (t' := s0.toks) kp
  have hget : (h9.push ({ cls := .type "tuple", data := .seq its.toArray } : Obj)).get? h9.objs.size = some ({ cls := .type "tuple", data := .seq its.toArray } : Obj) := Heap.get?_push_size _ rfl
  have I2 : Inv X pins σ (upd H0 h9.objs.size (TupX h9.objs.size ws)) { s0 with heap := h9.push { cls := .type "tuple", data := .seq its.toArray } } :=
    I1.laid (t' := s0.toks) (fun b o e => Heap.get?_push_of_some _ e) (Nat.le_refl _) ⟨⟨hz, its, ri, hget⟩, ⟨_, hget⟩, fun h1 h2 ⟨z1, z2, z3, z4⟩ k => ⟨z1, z2, z3, k _ z4⟩⟩
  exact ⟨.ref h9.objs.size, _, I2, rfl, q _ (I1.hok.fresh (Nat.le_refl _))⟩
theorem call_lenX : CallR X (.builtin "len") (fun xs H Q => ∃ (p : Addr) (ws : List Str), xs = [.ref p] ∧ H p = some (TupX p ws) ∧ Q (.int ws.length) H) := by
  intro pins s0 σ H0 xs us Q I0 r0 h0
  obtain ⟨p, ws, rfl, hq, q⟩ := h0
  obtain ⟨u, rfl, rx⟩ := vals1 r0
  cases rx
  have l63 := line63
  obtain ⟨hz, its, ri, hg⟩ := tupX_at I0 hq
  have hn := ri.length
  rw [List.length_map] at hn
  exact len_tuple ⟨_, hg, rfl, _, rfl⟩ (by simp only [List.size_toArray]; omega) ⟨.int ws.length, H0, I0.tok _, ⟨s0.toks + 1, by rw [List.size_toArray, hn]⟩, q⟩
def tIdxX (to : TE) (t : TA) : TE := fun σ H Q => to σ H fun x H1 => ∃ (p : Addr) (ws : List Str), x = .ref p ∧ H1 p = some (TupX p ws) ∧ t σ H1 fun vs H2 => H2 p = some (TupX p ws) ∧ ∃ (z : Str) (j : Nat), vs = [.str z] ∧ ws[j]? = some z ∧ (∀ m, m < j → ws[m]? ≠ some z) ∧ Q (.int (j : Nat)) H2
theorem pe_idxX {o e : Expr} {to : TE} {t : TA} {apos cpos : Pos} (ho : PE X o to) (ha : PA X [e] t) (hbase : attributeBase o "index" X.env (eval o X.env) = eval o X.env := by rfl)
    (hfew : ((backTo cpos (starEach [e] X.env)).all (fun x => !x.1) && (backToKw cpos (keywordEach [] X.env)).all (fun x => x.1.isSome)
      && decide ([e].length + ([] : List Keyword).length + (if ([] : List Keyword).isEmpty then 0 else 1) < 30)) = true := by rfl)
    (hline : (apos.endLine == cpos.line) = true := by rfl) (hs : starEach [e] X.env = (false, eval e X.env) :: starEach [] X.env := by rfl) (hplain : (backTo cpos (starEach [] X.env)).any (·.1) = false := by rfl) :
    PE X (.Call (.Attribute o "index" apos) [e] [] cpos) (tIdxX to t) := by
  refine ⟨fun pins s0 σ H0 Q I0 h0 => ?_⟩
  refine wpAny_Call_method_late hbase hfew hline rfl (thn (ho.run pins s0 σ H0 _ I0 h0) fun v s1 ⟨x, H1, I1, r1, p, ws, ex, hX, q1⟩ => ?_)
  subst ex
  cases r1
  obtain ⟨hz, its, ri, hg⟩ := tupX_at I1 hX
  refine ⟨"tuple", "tuple.index", PySem.F.plainAttrs_tuple, PySem.F.slot_tuple_index, PySem.F.type_tuple_index, ⟨_, hg, rfl⟩, fun a ea => ?_, ?_⟩
  · cases ea
    exact ⟨_, hg, rfl⟩
  have hA := ha.run cpos pins s1 σ H1 _ I1 q1
  rw [hs] at hA ⊢
  refine Calls.callWith_builtin (by show (false || (backTo cpos (starEach [] X.env)).any (·.1)) = false; rw [hplain]; rfl) (Calls.evalArgs_plain ?_)
  refine thn hA fun us s2 ⟨vs, H2, I2, r2, hX2, z, j, ev, hj, hno, q⟩ => ?_
  subst ev
  obtain ⟨u, rfl, tk, rfl⟩ := vals1 r2
  obtain ⟨_, its2, rj, hg2⟩ := tupX_at I2 hX2
  have hl : its2.toArray.size = ws.length := by rw [List.size_toArray, ← rj.length, List.length_map]
  have hjs : j < its2.toArray.size := by rw [hl]; exact (List.getElem?_eq_some_iff.mp hj).1
  have each : ∀ (m : Nat) (hm : m < its2.toArray.size), ∃ y t', ws[m]? = some y ∧ its2.toArray[m] = Value.str y t' := fun m hm => by
    have hmw : m < ws.length := by rw [← hl]; exact hm
    obtain ⟨w, hw, t', ew⟩ := rj.get (i := m) (x := .str ws[m]) (by simp [hmw])
    refine ⟨ws[m], t', List.getElem?_eq_getElem hmw, ?_⟩
    rw [← ew, ← (List.getElem?_eq_some_iff.mp hw).2]
    simp
  refine call_meets PySem.F.slot_tuple_index ⟨_, hg2, rfl⟩ PySem.F.entry_tuple_index (PySem.F.args_tuple_index_2 _ _) (TI.tuple_indexAt p its2.toArray 0 none #[] (.str z tk) (eqU (.str z)) j hjs ?_ ?_)
    ⟨hg2, fun w hw => mem_eqAt (x := .str z) ⟨tk, rfl⟩ rfl rj (flat_strs ws) w (by simpa using hw), ⟨.int (j : Nat), H2, I2.tok _, ⟨_, rfl⟩, q⟩⟩
  · obtain ⟨y, t', h1, h2⟩ := each j hjs
    rw [hj] at h1
    cases h1
    rw [h2]
    exact beq_self_eq_true z
  · intro m hm hmj
    obtain ⟨y, t', h1, h2⟩ := each m hm
    rw [h2]
    exact beq_eq_false_iff_ne.mpr fun e => hno m hmj (e ▸ h1)
end
def FrF (F : List Addr) (H H' : Hp) : Prop := ∀ c o, c ∉ F → H c = some o → H' c = some o
theorem FrF.refl (F : List Addr) (H : Hp) : FrF F H H := fun _ _ _ h => h
theorem FrF.trans {F : List Addr} {H H1 H2 : Hp} (e : FrF F H H1) (f : FrF F H1 H2) : FrF F H H2 := fun c o n h => f c o n (e c o n h)
theorem FrF.of {F : List Addr} {H H' : Hp} (e : Same H H') : FrF F H H' := fun c o _ h => e c o h
theorem FrF.same {F : List Addr} {H H1 H2 : Hp} (e : Same H H1) (f : FrF F H1 H2) (n : ∀ c ∈ F, H c = none) : Same H H2 := fun c o h => f c o (fun m => by
  rw [n c m] at h
  cases h) (e c o h)
theorem FrF.at {F : List Addr} {H H' : Hp} {a : Addr} {o : HO} (e : FrF F H H') (m : a ∈ F) : FrF F H (upd H' a o) := fun c u n h => by
  rw [upd_ne (fun z => n (by rw [z]; exact m))]
  exact e c u n h
structure Kept (F : List Addr) (H H' : Hp) : Prop where
  ob : ∀ c ∈ F, ∀ o, H c = some o → H' c = some o
  kt : KT H H'
theorem Kept.of {F : List Addr} {H H' : Hp} (e : Same H H') : Kept F H H' := ⟨fun c _ o h => e c o h, KT.of e⟩
theorem FrF.kept {F G : List Addr} {H H' : Hp} (e : FrF F H H') (d : ∀ c ∈ G, c ∉ F) (n : ∀ c ∈ F, ∀ xs, H c ≠ some (.tup xs)) : Kept G H H' :=
  ⟨fun c m o h => e c o (d c m) h, fun c xs h => e c _ (fun m => n c m xs h) h⟩
theorem Same.unlock {d : Addr} {od : Obj} {u : HO} {H H' : Hp} (e : Same (L2.upd H d (.frz od u)) H') (h : H d = some u) : Same H (L2.upd H' d u) := fun c o hc => by
  by_cases z : c = d
  · rw [z, upd_same]
    rw [z, h] at hc
    exact hc
  · rw [upd_ne z]
    exact e c o (by rw [upd_ne z]; exact hc)
theorem Same.locked {d : Addr} {od : Obj} {kvs : List (Key × V)} {H : Hp} (h : H d = some (.dK kvs)) : KT H (L2.upd H d (.frz od (.dK kvs))) := fun c xs hc => by
  rw [upd_ne (ne_of hc h (by intro z; cases z))]
  exact hc
section
variable {g : TG} {tt : TT} {te tk tv : TE} {tb : TS} {vs : List Nat} {σ : L2.St} {H1 : Hp} {D d : Addr} {Qd : Hp → Prop} {o : Obj} {kvs : List (Key × V)} {Dn : Ends}
theorem lc_keys (Pv : Nat → Hp → Prop) (h0 : Pv 0 (upd H1 D (.lst []))) (hl : ∀ i Hi, i ≤ kvs.length → Pv i Hi → Hi d = some (.frz o (.dK kvs)))
    (hs : ∀ i k v Hi, kvs[i]? = some (k, v) → Pv i Hi → g (kV k) (wipe σ vs) Hi fun σ2 H2 => wipe σ2 vs = wipe σ vs ∧ tt σ2 H2 fun b H3 =>
      if b = true then te σ2 H3 fun y H4 => ∃ acc, H4 D = some (.lst acc) ∧ acc.length < sizeLine ∧ Pv (i + 1) (upd H4 D (.lst (acc ++ [y]))) else Pv (i + 1) H3)
    (hd : ∀ Hi, Pv kvs.length Hi → Qd Hi) :
    ∃ W : Nat → Nat → Hp → Prop, (∃ m, W 0 m (upd H1 D (.lst []))) ∧ ∀ i m Hi, W i m Hi →
      ((Itk d o kvs).stop i Hi ∧ Qd Hi) ∨ ((Itk d o kvs).go i Hi ∧ ∃ Nx : Hp → Prop, (∀ H', Nx H' → ∃ m', m' < m ∧ W (i + 1) m' H') ∧ ∀ v H', (Itk d o kvs).yld i Hi v H' → g v (wipe σ vs) H' fun σ2 H2 => wipe σ2 vs = wipe σ vs ∧ tt σ2 H2 fun b H3 =>
        if b = true then te σ2 H3 fun y H4 => ∃ acc, H4 D = some (.lst acc) ∧ acc.length < sizeLine ∧ Nx (upd H4 D (.lst (acc ++ [y]))) else Nx H3) := by
  refine ⟨fun i m Hi => m = kvs.length - i ∧ i ≤ kvs.length ∧ Pv i Hi, ⟨_, rfl, Nat.zero_le _, h0⟩, ?_⟩
  rintro i m Hi ⟨em, hi, p⟩
  have q := hl i Hi hi p
  by_cases l : i < kvs.length
  · refine Or.inr ⟨⟨q, l⟩, Pv (i + 1), fun H' p' => ⟨_, by omega, rfl, l, p'⟩, ?_⟩
    rintro x H' ⟨eh, k, v, hk, rfl⟩
    rw [eh]
    exact hs i k v Hi hk p
  · obtain rfl : i = kvs.length := by omega
    exact Or.inl ⟨⟨q, Nat.le_refl _⟩, hd Hi p⟩
theorem lc_vals (Pv : Nat → Hp → Prop) (h0 : Pv 0 (upd H1 D (.lst []))) (hl : ∀ i Hi, i ≤ kvs.length → Pv i Hi → Hi d = some (.frz o (.dK kvs)))
    (hs : ∀ i k v Hi, kvs[i]? = some (k, v) → Pv i Hi → g v (wipe σ vs) Hi fun σ2 H2 => wipe σ2 vs = wipe σ vs ∧ tt σ2 H2 fun b H3 =>
      if b = true then te σ2 H3 fun y H4 => ∃ acc, H4 D = some (.lst acc) ∧ acc.length < sizeLine ∧ Pv (i + 1) (upd H4 D (.lst (acc ++ [y]))) else Pv (i + 1) H3)
    (hd : ∀ Hi, Pv kvs.length Hi → Qd Hi) :
    ∃ W : Nat → Nat → Hp → Prop, (∃ m, W 0 m (upd H1 D (.lst []))) ∧ ∀ i m Hi, W i m Hi →
      ((Itd d o kvs).stop i Hi ∧ Qd Hi) ∨ ((Itd d o kvs).go i Hi ∧ ∃ Nx : Hp → Prop, (∀ H', Nx H' → ∃ m', m' < m ∧ W (i + 1) m' H') ∧ ∀ v H', (Itd d o kvs).yld i Hi v H' → g v (wipe σ vs) H' fun σ2 H2 => wipe σ2 vs = wipe σ vs ∧ tt σ2 H2 fun b H3 =>
        if b = true then te σ2 H3 fun y H4 => ∃ acc, H4 D = some (.lst acc) ∧ acc.length < sizeLine ∧ Nx (upd H4 D (.lst (acc ++ [y]))) else Nx H3) := by
  refine ⟨fun i m Hi => m = kvs.length - i ∧ i ≤ kvs.length ∧ Pv i Hi, ⟨_, rfl, Nat.zero_le _, h0⟩, ?_⟩
  rintro i m Hi ⟨em, hi, p⟩
  have q := hl i Hi hi p
  by_cases l : i < kvs.length
  · refine Or.inr ⟨⟨q, l⟩, Pv (i + 1), fun H' p' => ⟨_, by omega, rfl, l, p'⟩, ?_⟩
    rintro x H' ⟨eh, k, hk⟩
    rw [eh]
    exact hs i k x Hi hk p
  · obtain rfl : i = kvs.length := by omega
    exact Or.inl ⟨⟨q, Nat.le_refl _⟩, hd Hi p⟩
theorem dc_keys (Pv : Nat → Hp → Prop) (h0 : Pv 0 (upd H1 D (.dK []))) (hl : ∀ i Hi, i ≤ kvs.length → Pv i Hi → Hi d = some (.frz o (.dK kvs)))
    (hs : ∀ i k v Hi, kvs[i]? = some (k, v) → Pv i Hi → g (kV k) (wipe σ vs) Hi fun σ2 H2 => wipe σ2 vs = wipe σ vs ∧ tt σ2 H2 fun b H3 =>
      if b = true then tk σ2 H3 fun y H4 => tv σ2 H4 fun z H5 => ∃ kvs k, y = kV k ∧ H5 D = some (.dK kvs) ∧ kvs.length < sizeLine ∧ Pv (i + 1) (upd H5 D (.dK (putK kvs k z))) else Pv (i + 1) H3)
    (hd : ∀ Hi, Pv kvs.length Hi → Qd Hi) :
    ∃ W : Nat → Nat → Hp → Prop, (∃ m, W 0 m (upd H1 D (.dK []))) ∧ ∀ i m Hi, W i m Hi →
      ((Itk d o kvs).stop i Hi ∧ Qd Hi) ∨ ((Itk d o kvs).go i Hi ∧ ∃ Nx : Hp → Prop, (∀ H', Nx H' → ∃ m', m' < m ∧ W (i + 1) m' H') ∧ ∀ v H', (Itk d o kvs).yld i Hi v H' → g v (wipe σ vs) H' fun σ2 H2 => wipe σ2 vs = wipe σ vs ∧ tt σ2 H2 fun b H3 =>
        if b = true then tk σ2 H3 fun y H4 => tv σ2 H4 fun z H5 => ∃ kvs k, y = kV k ∧ H5 D = some (.dK kvs) ∧ kvs.length < sizeLine ∧ Nx (upd H5 D (.dK (putK kvs k z))) else Nx H3) := by
  refine ⟨fun i m Hi => m = kvs.length - i ∧ i ≤ kvs.length ∧ Pv i Hi, ⟨_, rfl, Nat.zero_le _, h0⟩, ?_⟩
  rintro i m Hi ⟨em, hi, p⟩
  have q := hl i Hi hi p
  by_cases l : i < kvs.length
  · refine Or.inr ⟨⟨q, l⟩, Pv (i + 1), fun H' p' => ⟨_, by omega, rfl, l, p'⟩, ?_⟩
    rintro x H' ⟨eh, k, v, hk, rfl⟩
    rw [eh]
    exact hs i k v Hi hk p
  · obtain rfl : i = kvs.length := by omega
    exact Or.inl ⟨⟨q, Nat.le_refl _⟩, hd Hi p⟩
theorem for_vals (Pv : Nat → L2.St → Hp → Prop) (h0 : Pv 0 σ H1) (hl : ∀ i σ' Hi, i ≤ kvs.length → Pv i σ' Hi → Hi d = some (.frz o (.dK kvs)))
    (hs : ∀ i k v σ' Hi, kvs[i]? = some (k, v) → Pv i σ' Hi → g v σ' Hi fun σ2 H2 => tb { Dn with nx := Pv (i + 1), ct := Pv (i + 1), bk := Dn.nx } σ2 H2) (hd : ∀ σ' Hi, Pv kvs.length σ' Hi → Dn.nx σ' Hi) :
    ∃ W : Nat → Nat → L2.St → Hp → Prop, (∃ m, W 0 m σ H1) ∧ ∀ i m σ' Hi, W i m σ' Hi →
      ((Itd d o kvs).stop i Hi ∧ Dn.nx σ' Hi) ∨ ((Itd d o kvs).go i Hi ∧ ∃ N : L2.St → Hp → Prop, (∀ σ2 H', N σ2 H' → ∃ m', m' < m ∧ W (i + 1) m' σ2 H') ∧ ∀ x H', (Itd d o kvs).yld i Hi x H' → g x σ' H' fun σ2 H2 => tb { Dn with nx := N, ct := N, bk := Dn.nx } σ2 H2) := by
  refine ⟨fun i m σ' Hi => m = kvs.length - i ∧ i ≤ kvs.length ∧ Pv i σ' Hi, ⟨_, rfl, Nat.zero_le _, h0⟩, ?_⟩
  rintro i m σ' Hi ⟨em, hi, p⟩
  have q := hl i σ' Hi hi p
  by_cases l : i < kvs.length
  · refine Or.inr ⟨⟨q, l⟩, Pv (i + 1), fun σ2 H' p' => ⟨_, by omega, rfl, l, p'⟩, ?_⟩
    rintro x H' ⟨eh, k, hk⟩
    rw [eh]
    exact hs i k x σ' Hi hk p
  · obtain rfl : i = kvs.length := by omega
    exact Or.inl ⟨⟨q, Nat.le_refl _⟩, hd σ' Hi p⟩
end
theorem valV_at {kvs : List (Key × V)} (nd : (kvs.map (·.1)).Nodup) {i : Nat} {k : Key} {v : V} (h : kvs[i]? = some (k, v)) : valV kvs k = some v := by
  induction kvs generalizing i with
  | nil => simp at h
  | cons q r ih =>
    rw [List.map_cons] at nd
    obtain ⟨n1, n2⟩ := List.nodup_cons.mp nd
    cases i with
    | zero =>
      have h : q = (k, v) := Option.some.inj h
      subst h
      exact valV_pos rfl
    | succ i =>
      have hm : (k, v) ∈ r := List.mem_of_getElem? (i := i) h
      have : ¬ q.1 = k := fun z => n1 (by rw [z]; exact List.mem_map.mpr ⟨_, hm, rfl⟩)
      rw [valV_neg this]
      exact ih n2 (i := i) h
end My
namespace My
open PySem L2
structure SchE (C : Addr) (H : Hp) (p : Addr) (pl : Plan) (de : Addr) : Prop where
  good : Good pl
  ex : ∃ dx tv kvs, H p = some (.ins C dx (sFlds tv de)) ∧ Td H tv (planD pl) ∧ H de = some (.dK kvs) ∧ EntsAt H kvs pl
theorem SchE.at {C p de : Addr} {H : Hp} {pl : Plan} (S : SchE C H p pl de) : SchAt C H p pl := by
  obtain ⟨dx, tv, kvs, h1, h2, h3, h4⟩ := S.ex
  exact ⟨S.good, dx, tv, de, kvs, h1, h2, h3, h4⟩
theorem SchE.keep {C p de : Addr} {H H' : Hp} {pl : Plan} (S : SchE C H p pl de) (kt : KT H H') (k1 : ∀ o, H p = some o → H' p = some o) (k2 : ∀ o, H de = some o → H' de = some o) : SchE C H' p pl de := by
  obtain ⟨dx, tv, kvs, h1, h2, h3, h4⟩ := S.ex
  exact ⟨S.good, dx, tv, kvs, k1 _ h1, h2.mono kt, k2 _ h3, h4.keys, h4.vals.mono kt⟩
def cellD : Option Int → PyData
  | none => .none
  | some i => .int i
def rowD (lab : Int) (cs : List (Option Int)) : PyData := .tuple [.int lab, .tuple (cs.map cellD)]
structure GoodRow (w : Nat) (lab : Int) (cs : List (Option Int)) : Prop where
  lo : 0 ≤ lab
  hi : lab < 1000000000000000000000000000000
  len : cs.length = w
  key : ∀ x, some x ∈ cs → 1 ≤ x
structure RowsAt (H : Hp) (kvs : List (Key × V)) (w : Nat) : Prop where
  nd : (kvs.map (·.1)).Nodup
  row : ∀ q ∈ kvs, ∃ (k lab : Int) (cs : List (Option Int)), q.1 = Sum.inl k ∧ 1 ≤ k ∧ Td H q.2 (rowD lab cs) ∧ GoodRow w lab cs
theorem RowsAt.mono {H H' : Hp} {kvs : List (Key × V)} {w : Nat} (r : RowsAt H kvs w) (kt : KT H H') : RowsAt H' kvs w := ⟨r.nd, fun q hq => by
  obtain ⟨k, lab, cs, h1, h2, h3, h4⟩ := r.row q hq
  exact ⟨k, lab, cs, h1, h2, h3.mono kt, h4⟩⟩
theorem RowsAt.nil (H : Hp) (w : Nat) : RowsAt H [] w := ⟨List.nodup_nil, by simp⟩
theorem rowD_inv {H : Hp} {v : V} {lab : Int} {cs : List (Option Int)} (h : Td H v (rowD lab cs)) : ∃ t tc xs, v = .ref t ∧ H t = some (.tup [.int lab, .ref tc]) ∧ H tc = some (.tup xs) ∧ TdAll H xs (cs.map cellD) := by
  obtain ⟨t, xs, rfl, ht, hx⟩ := h.tup_inv
  cases hx with
  | cons h1 hx =>
    cases hx with
    | cons h2 hx =>
      cases hx
      obtain ⟨tc, ys, rfl, hc, hy⟩ := h2.tup_inv
      rw [h1.int_inv] at ht
      exact ⟨t, tc, ys, rfl, ht, hc, hy⟩
def cellV : Option Int → V
  | none => .non
  | some i => .int i
theorem cellD_inv {H : Hp} {v : V} {c : Option Int} (h : Td H v (cellD c)) : v = cellV c := by
  cases c with
  | none =>
    cases h
    rfl
  | some i =>
    cases h
    rfl
theorem cellD_of {H : Hp} (c : Option Int) : Td H (cellV c) (cellD c) := by
  cases c with
  | none => exact .non
  | some i => exact .int i
def dFlds (sp dr : Addr) : List (Str × V) := putF "_rows" (.ref dr) (putF "_schema" (.ref sp) [])
theorem d_ne1 : ¬ (("_rows" : Str) = "_schema") := by decide +kernel
theorem d_ne2 : ¬ (("_schema" : Str) = "_rows") := by decide +kernel
theorem dFlds_s (sp dr : Addr) : (dFlds sp dr).lookup ("_schema" : Str) = some (.ref sp) := by
  unfold dFlds
  rw [lookup_putF, if_neg d_ne2, lookup_putF, if_pos rfl]
theorem dFlds_r (sp dr : Addr) : (dFlds sp dr).lookup ("_rows" : Str) = some (.ref dr) := by
  unfold dFlds
  rw [lookup_putF, if_pos rfl]
theorem dFlds_no (sp dr : Addr) {m : Str} (h1 : ¬ m = "_rows") (h2 : ¬ m = "_schema") : (dFlds sp dr).lookup m = none := by
  unfold dFlds
  rw [lookup_putF, if_neg h1, lookup_putF, if_neg h2]
  rfl
theorem dFlds_eq (sp dr : Addr) : dFlds sp dr = ([("_schema", V.ref sp), ("_rows", V.ref dr)] : List (Str × V)) := by
  show (if ("_schema" : Str) = "_rows" then [(("_schema" : Str), V.ref dr)] else (("_schema" : Str), V.ref sp) :: putF "_rows" (V.ref dr) []) = _
  rw [if_neg d_ne2]
  rfl
theorem dFlds_put (sp dr dr' : Addr) : putF "_rows" (.ref dr') (dFlds sp dr) = dFlds sp dr' := by
  rw [dFlds_eq, dFlds_eq]
  show (if ("_schema" : Str) = "_rows" then _ else (("_schema" : Str), V.ref sp) :: (if ("_rows" : Str) = "_rows" then [(("_rows" : Str), V.ref dr')] else _)) = _
  rw [if_neg d_ne2, if_pos rfl]
def rowsK (pl : Plan) (ds : List Addr) : List (Key × V) := (pl.map fun e => (Sum.inr e.1 : Key)).zip (ds.map V.ref)
theorem rowsK_keys {pl : Plan} {ds : List Addr} (h : ds.length = pl.length) : (rowsK pl ds).map (·.1) = pl.map fun e => (Sum.inr e.1 : Key) := by
  unfold rowsK
  rw [List.map_fst_zip]
  rw [List.length_map, List.length_map]
  omega
theorem rowsK_get : ∀ {pl : Plan} {ds : List Addr} {i : Nat} {e : Ent} {d : Addr}, (pl.map (·.1)).Nodup → pl[i]? = some e → ds[i]? = some d → valV (rowsK pl ds) (Sum.inr e.1) = some (.ref d)
  | [], _, _, _, _, _, h, _ => by simp at h
  | _ :: _, [], _, _, _, _, _, h => by simp at h
  | e0 :: pr, d0 :: dr, 0, e, d, _, h1, h2 => by
    have h1 : e0 = e := Option.some.inj h1
    have h2 : d0 = d := Option.some.inj h2
    subst h1
    subst h2
    exact valV_pos rfl
  | e0 :: pr, d0 :: dr, i + 1, e, d, nd, h1, h2 => by
    rw [List.map_cons] at nd
    obtain ⟨n1, n2⟩ := List.nodup_cons.mp nd
    have hm : e ∈ pr := List.mem_of_getElem? (i := i) h1
    have : ¬ (Sum.inr e0.1 : Key) = Sum.inr e.1 := fun z => n1 (by rw [Sum.inr.inj z]; exact List.mem_map.mpr ⟨e, hm, rfl⟩)
    show valV ((Sum.inr e0.1, V.ref d0) :: rowsK pr dr) _ = _
    rw [valV_neg this]
    exact rowsK_get (i := i) n2 h1 h2
structure DbAt (CD CS : Addr) (H : Hp) (p : Addr) (pl : Plan) (sp de dr : Addr) (ds : List Addr) (ct : List (List (Key × V))) : Prop where
  sch : SchE CS H sp pl de
  ob : ∃ dx, H p = some (.ins CD dx (dFlds sp dr))
  rws : H dr = some (.dK (rowsK pl ds))
  dl : ds.length = pl.length
  cl : ct.length = pl.length
  nd : ds.Nodup
  apart : dr ∉ ds ∧ de ∉ ds
  at_ : ∀ (i : Nat) (d : Addr) (kvs : List (Key × V)), ds[i]? = some d → ct[i]? = some kvs → H d = some (.dK kvs)
  ok : ∀ (i : Nat) (e : Ent) (kvs : List (Key × V)), pl[i]? = some e → ct[i]? = some kvs → RowsAt H kvs e.2.2.length
def foot (p sp de dr : Addr) (ds : List Addr) : List Addr := p :: sp :: de :: dr :: ds
theorem DbAt.keep {CD CS p sp de dr : Addr} {H H' : Hp} {pl : Plan} {ds : List Addr} {ct : List (List (Key × V))} (D : DbAt CD CS H p pl sp de dr ds ct) (k : Kept (foot p sp de dr ds) H H') : DbAt CD CS H' p pl sp de dr ds ct := by
  obtain ⟨dx, hp⟩ := D.ob
  have f : ∀ c, c ∈ foot p sp de dr ds → ∀ o, H c = some o → H' c = some o := k.ob
  refine ⟨D.sch.keep k.kt (f sp (by simp [foot])) (f de (by simp [foot])), ⟨dx, f p (by simp [foot]) _ hp⟩, f dr (by simp [foot]) _ D.rws, D.dl, D.cl, D.nd, D.apart, fun i d kvs h1 h2 => f d ?_ _ (D.at_ i d kvs h1 h2), fun i e kvs h1 h2 => (D.ok i e kvs h1 h2).mono k.kt⟩
  have := List.mem_of_getElem? h1
  simp [foot, this]
theorem DbAt.same {CD CS p sp de dr : Addr} {H H' : Hp} {pl : Plan} {ds : List Addr} {ct : List (List (Key × V))} (D : DbAt CD CS H p pl sp de dr ds ct) (e : Same H H') : DbAt CD CS H' p pl sp de dr ds ct := D.keep (Kept.of e)
end My
namespace My
open PySem L2
theorem rowsK_at : ∀ {pl : Plan} {ds : List Addr} {i : Nat} {k : Key} {v : V}, (rowsK pl ds)[i]? = some (k, v) → ∃ e d, pl[i]? = some e ∧ ds[i]? = some d ∧ k = Sum.inr e.1 ∧ v = .ref d
  | [], _, i, _, _, h => by
    unfold rowsK at h
    simp at h
  | _ :: _, [], i, _, _, h => by
    unfold rowsK at h
    simp at h
  | e0 :: pr, d0 :: dr, 0, k, v, h => by
    have h : ((Sum.inr e0.1 : Key), V.ref d0) = (k, v) := Option.some.inj h
    exact ⟨e0, d0, rfl, rfl, (congrArg Prod.fst h).symm, (congrArg Prod.snd h).symm⟩
  | e0 :: pr, d0 :: dr, i + 1, k, v, h => rowsK_at (i := i) (pl := pr) (ds := dr) h
theorem rowsK_len {pl : Plan} {ds : List Addr} (h : ds.length = pl.length) : (rowsK pl ds).length = pl.length := by
  unfold rowsK
  rw [List.length_zip, List.length_map, List.length_map]
  omega
theorem cells_td {H : Hp} : ∀ cs : List (Option Int), TdAll H (cs.map cellV) (cs.map cellD)
  | [] => .nil
  | c :: r => .cons (cellD_of c) (cells_td r)
structure HeldAt (H : Hp) (dh : Addr) (pl : Plan) (hs : List Addr) (ct : List (List (Key × V))) : Prop where
  rws : H dh = some (.dK (rowsK pl hs))
  dl : hs.length = pl.length
  cl : ct.length = pl.length
  nd : hs.Nodup
  apart : dh ∉ hs
  at_ : ∀ (i : Nat) (d : Addr) (kvs : List (Key × V)), hs[i]? = some d → ct[i]? = some kvs → H d = some (.dK kvs)
theorem HeldAt.keep {H H' : Hp} {dh : Addr} {pl : Plan} {hs : List Addr} {ct : List (List (Key × V))} (D : HeldAt H dh pl hs ct) (k : Kept (dh :: hs) H H') : HeldAt H' dh pl hs ct :=
  ⟨k.ob dh (by simp) _ D.rws, D.dl, D.cl, D.nd, D.apart, fun i d kvs h1 h2 => k.ob d (by simp [List.mem_of_getElem? h1]) _ (D.at_ i d kvs h1 h2)⟩
theorem HeldAt.same {H H' : Hp} {dh : Addr} {pl : Plan} {hs : List Addr} {ct : List (List (Key × V))} (D : HeldAt H dh pl hs ct) (e : Same H H') : HeldAt H' dh pl hs ct := D.keep (Kept.of e)
theorem ix_nd {ds : List Addr} (nd : ds.Nodup) {i j : Nat} {d : Addr} (h1 : ds[i]? = some d) (h2 : ds[j]? = some d) : i = j := by
  obtain ⟨l1, g1⟩ := List.getElem?_eq_some_iff.mp h1
  obtain ⟨l2, g2⟩ := List.getElem?_eq_some_iff.mp h2
  exact (List.getElem_inj nd).mp (g1.trans g2.symm)
theorem HeldAt.set {H : Hp} {dh d : Addr} {pl : Plan} {hs : List Addr} {ct : List (List (Key × V))} {i : Nat} {kvs : List (Key × V)} (D : HeldAt H dh pl hs ct) (hd : hs[i]? = some d) (kvs' : List (Key × V)) : HeldAt (upd H d (.dK kvs')) dh pl hs (ct.set i kvs') := by
  have n1 : dh ≠ d := fun z => D.apart (by rw [z]; exact List.mem_of_getElem? hd)
  refine ⟨by rw [upd_ne n1]; exact D.rws, D.dl, by rw [List.length_set]; exact D.cl, D.nd, D.apart, fun j d2 k2 h1 h2 => ?_⟩
  by_cases c : i = j
  · subst c
    rw [hd] at h1
    cases h1
    have hil : i < ct.length := by
      have := (List.getElem?_eq_some_iff.mp h2).1
      rw [List.length_set] at this
      exact this
    rw [List.getElem?_set_self hil] at h2
    cases h2
    exact upd_same
  · rw [List.getElem?_set_ne c] at h2
    have nd : d2 ≠ d := fun z => by
      subst z
      exact c (ix_nd D.nd hd h1)
    rw [upd_ne nd]
    exact D.at_ j d2 k2 h1 h2
structure Side where
  (p sp de dr : Addr)
  ds : List Addr
  dh : Addr
  hs : List Addr
def Side.fix (s : Side) : List Addr := [s.p, s.sp, s.de, s.dr, s.dh]
def Side.dicts (s : Side) : List Addr := s.ds ++ s.hs
structure SideAt (CD CS : Addr) (H : Hp) (pl : Plan) (s : Side) (ct : List (List (Key × V))) : Prop where
  db : DbAt CD CS H s.p pl s.sp s.de s.dr s.ds ct
  hd : HeldAt H s.dh pl s.hs ct
  nd : s.dicts.Nodup
  ap : ∀ d ∈ s.dicts, d ∉ s.fix
theorem SideAt.same {CD CS : Addr} {H H' : Hp} {pl : Plan} {s : Side} {ct : List (List (Key × V))} (S : SideAt CD CS H pl s ct) (e : Same H H') : SideAt CD CS H' pl s ct := ⟨S.db.same e, S.hd.same e, S.nd, S.ap⟩
theorem SideAt.frf {CD CS : Addr} {H H' : Hp} {pl : Plan} {s : Side} {ct : List (List (Key × V))} {F : List Addr} (S : SideAt CD CS H pl s ct) (e : FrF F H H') (nF : ∀ c ∈ F, ∀ xs, H c ≠ some (.tup xs)) (ap : ∀ c ∈ F, c ∉ s.fix ∧ c ∉ s.dicts) : SideAt CD CS H' pl s ct := by
  have k : ∀ G : List Addr, (∀ c ∈ G, c ∈ s.fix ∨ c ∈ s.dicts) → Kept G H H' := fun G hG => e.kept (fun c hc hF => by
    obtain ⟨a1, a2⟩ := ap c hF
    rcases hG c hc with h | h
    · exact a1 h
    · exact a2 h) nF
  refine ⟨S.db.keep (k _ fun c hc => ?_), S.hd.keep (k _ fun c hc => ?_), S.nd, S.ap⟩
  · simp only [foot, List.mem_cons] at hc
    simp only [Side.fix, Side.dicts, List.mem_cons, List.mem_append]
    rcases hc with h | h | h | h | h <;> simp [h]
  · simp only [List.mem_cons] at hc
    simp only [Side.fix, Side.dicts, List.mem_cons, List.mem_append]
    rcases hc with h | h <;> simp [h]
theorem SideAt.step {CD CS : Addr} {H H1 : Hp} {pl : Plan} {s : Side} {ct : List (List (Key × V))} {i : Nat} {d d2 : Addr} {kvs' : List (Key × V)} (S : SideAt CD CS H pl s ct) (hd : s.ds[i]? = some d) (hd2 : s.hs[i]? = some d2)
    (D1 : DbAt CD CS H1 s.p pl s.sp s.de s.dr s.ds (ct.set i kvs')) (e : Fr1 d H H1) : SideAt CD CS (upd H1 d2 (.dK kvs')) pl s (ct.set i kvs') := by
  have hdm : d ∈ s.ds := List.mem_of_getElem? hd
  have hdm2 : d2 ∈ s.hs := List.mem_of_getElem? hd2
  have dj := (List.nodup_append.mp S.nd).2.2
  have hi2 : i < ct.length := by rw [S.hd.cl, ← S.hd.dl]; exact (List.getElem?_eq_some_iff.mp hd2).1
  have h2 : H d2 = some (.dK ct[i]) := S.hd.at_ i d2 _ hd2 (List.getElem?_eq_getElem hi2)
  have hd0 : H d = some (.dK ct[i]) := S.db.at_ i d _ hd (List.getElem?_eq_getElem hi2)
  have n12 : d2 ≠ d := fun z => dj d hdm d2 hdm2 z.symm
  have h2' : H1 d2 = some (.dK ct[i]) := e d2 _ n12 h2
  have ap1 := S.ap d (List.mem_append.mpr (.inl hdm))
  have ap2 := S.ap d2 (List.mem_append.mpr (.inr hdm2))
  have kH : HeldAt H1 s.dh pl s.hs ct := S.hd.keep ⟨fun c hc o ho => e c o (fun z => by
    subst z
    rcases List.mem_cons.mp hc with h | h
    · exact ap1 (by simp [Side.fix, h])
    · exact dj c hdm c h rfl) ho, fun c xs hc => e c _ (ne_of hc hd0 (by intro z; cases z)) hc⟩
  refine ⟨D1.keep ⟨fun c hc o ho => ?_, fun c xs hc => ?_⟩, kH.set (kvs := kvs') hd2 kvs', S.nd, S.ap⟩
  · have : c ≠ d2 := fun z => by
      subst z
      simp only [foot, List.mem_cons] at hc
      rcases hc with h | h | h | h | h
      · exact ap2 (by simp [Side.fix, h])
      · exact ap2 (by simp [Side.fix, h])
      · exact ap2 (by simp [Side.fix, h])
      · exact ap2 (by simp [Side.fix, h])
      · exact dj c h c hdm2 rfl
    rw [upd_ne this]
    exact ho
  · rw [upd_ne (ne_of hc h2' (by intro z; cases z))]
    exact hc
end My
namespace My
open PySem L2
theorem putK_len (kvs : List (Key × V)) (k : Key) (v : V) : (putK kvs k v).length ≤ kvs.length + 1 := by
  unfold putK
  split
  · rw [List.length_map]
    omega
  · rw [List.length_append]
    exact Nat.le_refl _
theorem two_at {α : Type} (f : Nat → α) {k : Nat} (h : k < 2) : [f 0, f 1][k]? = some (f k) := by
  match k, h with
  | 0, _ => rfl
  | 1, _ => rfl
def Young (H : Hp) (ct : List (List (Key × V))) (m : Nat) : Prop := ∀ kvs ∈ ct, kvs.length ≤ m ∧ ∀ q ∈ kvs, ∃ lab cs, Td H q.2 (rowD lab cs) ∧ lab ≤ m
theorem Young.kt {H H' : Hp} {ct : List (List (Key × V))} {m : Nat} (y : Young H ct m) (kt : KT H H') : Young H' ct m := fun kvs hk => ⟨(y kvs hk).1, fun q hq => by
  obtain ⟨lab, cs, h1, h2⟩ := (y kvs hk).2 q hq
  exact ⟨lab, cs, h1.mono kt, h2⟩⟩
theorem Young.up {H : Hp} {ct : List (List (Key × V))} {m n : Nat} (y : Young H ct m) (l : m ≤ n) : Young H ct n := fun kvs hk => ⟨Nat.le_trans (y kvs hk).1 l, fun q hq => by
  obtain ⟨lab, cs, h1, h2⟩ := (y kvs hk).2 q hq
  exact ⟨lab, cs, h1, by omega⟩⟩
theorem Young.set {H : Hp} {ct : List (List (Key × V))} {m i : Nat} {kvs' : List (Key × V)} (y : Young H ct m) (h1 : kvs'.length ≤ m) (h2 : ∀ q ∈ kvs', ∃ lab cs, Td H q.2 (rowD lab cs) ∧ lab ≤ m) : Young H (ct.set i kvs') m := fun kvs hk => by
  rcases List.mem_or_eq_of_mem_set hk with h | rfl
  · exact y kvs h
  · exact ⟨h1, h2⟩
structure Two (CD CS : Addr) (H : Hp) (pl : Plan) (vp : V) (B HL : Addr) (S : Nat → Side) (C : Nat → List (List (Key × V))) (m : Nat) : Prop where
  pln : Td H vp (planD pl)
  bs : H B = some (.lst [.ref (S 0).p, .ref (S 1).p])
  hl : H HL = some (.lst [.ref (S 0).dh, .ref (S 1).dh])
  sd : ∀ k, k < 2 → SideAt CD CS H pl (S k) (C k)
  yg : ∀ k, k < 2 → Young H (C k) m
def Apart (S : Nat → Side) : Prop := ∀ k j, k < 2 → j < 2 → k ≠ j → ∀ c ∈ (S k).dicts, c ∉ (S j).fix ∧ c ∉ (S j).dicts
theorem Two.same {CD CS B HL : Addr} {H H' : Hp} {pl : Plan} {vp : V} {S : Nat → Side} {C : Nat → List (List (Key × V))} {m : Nat} (W : Two CD CS H pl vp B HL S C m) (e : Same H H') : Two CD CS H' pl vp B HL S C m :=
  ⟨W.pln.kt_same e, e _ _ W.bs, e _ _ W.hl, fun k hk => (W.sd k hk).same e, fun k hk => (W.yg k hk).kt (KT.of e)⟩
theorem Two.up {CD CS B HL : Addr} {H : Hp} {pl : Plan} {vp : V} {S : Nat → Side} {C : Nat → List (List (Key × V))} {m n : Nat} (W : Two CD CS H pl vp B HL S C m) (l : m ≤ n) : Two CD CS H pl vp B HL S C n :=
  ⟨W.pln, W.bs, W.hl, W.sd, fun k hk => (W.yg k hk).up l⟩
theorem SideAt.dict {CD CS : Addr} {H : Hp} {pl : Plan} {s : Side} {ct : List (List (Key × V))} (S : SideAt CD CS H pl s ct) {c : Addr} (hc : c ∈ s.dicts) : ∃ kvs, H c = some (.dK kvs) := by
  rcases List.mem_append.mp hc with h | h
  · obtain ⟨i, hi, ei⟩ := List.getElem_of_mem h
    have hi2 : i < ct.length := by rw [S.db.cl, ← S.db.dl]; exact hi
    exact ⟨_, S.db.at_ i c _ (by rw [List.getElem?_eq_getElem hi, ei]) (List.getElem?_eq_getElem hi2)⟩
  · obtain ⟨i, hi, ei⟩ := List.getElem_of_mem h
    have hi2 : i < ct.length := by rw [S.hd.cl, ← S.hd.dl]; exact hi
    exact ⟨_, S.hd.at_ i c _ (by rw [List.getElem?_eq_getElem hi, ei]) (List.getElem?_eq_getElem hi2)⟩
theorem Two.step {CD CS B HL : Addr} {H H1 : Hp} {pl : Plan} {vp : V} {S : Nat → Side} {C : Nat → List (List (Key × V))} {m k i : Nat} {d d2 : Addr} {kvs' : List (Key × V)} (W : Two CD CS H pl vp B HL S C m) (A : Apart S) (hk : k < 2) (hd : (S k).ds[i]? = some d) (hd2 : (S k).hs[i]? = some d2)
    (D1 : DbAt CD CS H1 (S k).p pl (S k).sp (S k).de (S k).dr (S k).ds ((C k).set i kvs')) (e : Fr1 d H H1) (l : kvs'.length ≤ m) (y : ∀ q ∈ kvs', ∃ lab cs, Td H q.2 (rowD lab cs) ∧ lab ≤ m) :
    FrF [d, d2] H (upd H1 d2 (.dK kvs')) ∧ Two CD CS (upd H1 d2 (.dK kvs')) pl vp B HL S (fun j => if j = k then (C k).set i kvs' else C j) m := by
  have hdm : d ∈ (S k).dicts := List.mem_append.mpr (.inl (List.mem_of_getElem? hd))
  have hdm2 : d2 ∈ (S k).dicts := List.mem_append.mpr (.inr (List.mem_of_getElem? hd2))
  obtain ⟨u1, hu1⟩ := (W.sd k hk).dict hdm
  obtain ⟨u2, hu2⟩ := (W.sd k hk).dict hdm2
  have f : FrF [d, d2] H (upd H1 d2 (.dK kvs')) := fun c o hc ho => by
    simp only [List.mem_cons, List.not_mem_nil, or_false, not_or] at hc
    rw [upd_ne hc.2]
    exact e c o hc.1 ho
  have nt : ∀ c ∈ [d, d2], ∀ xs, H c ≠ some (.tup xs) := fun c hc xs z => by
    simp only [List.mem_cons, List.not_mem_nil, or_false] at hc
    rcases hc with rfl | rfl
    · rw [hu1] at z
      cases z
    · rw [hu2] at z
      cases z
  have kt : KT H (upd H1 d2 (.dK kvs')) := (f.kept (G := []) (fun c hc => by cases hc) nt).kt
  have ls : ∀ (c : Addr) (xs : List V), H c = some (.lst xs) → upd H1 d2 (.dK kvs') c = some (.lst xs) := fun c xs h => f c _ (fun z => by
    simp only [List.mem_cons, List.not_mem_nil, or_false] at z
    rcases z with rfl | rfl
    · rw [hu1] at h
      cases h
    · rw [hu2] at h
      cases h) h
  refine ⟨f, W.pln.mono kt, ls _ _ W.bs, ls _ _ W.hl, fun j hj => ?_, fun j hj => ?_⟩
  · show SideAt CD CS _ pl (S j) (if j = k then _ else _)
    split
    · rename_i z
      subst z
      exact (W.sd j hj).step hd hd2 D1 e
    · rename_i z
      refine (W.sd j hj).frf f nt fun c hc => ?_
      simp only [List.mem_cons, List.not_mem_nil, or_false] at hc
      rcases hc with rfl | rfl
      · exact A k j hk hj (fun w => z w.symm) _ hdm
      · exact A k j hk hj (fun w => z w.symm) _ hdm2
  · show Young _ (if j = k then _ else _) m
    split
    · rename_i z
      subst z
      exact ((W.yg j hj).set l y).kt kt
    · exact (W.yg j hj).kt kt
end My
namespace My
open PySem L2
theorem DbAt.live {CD CS p sp de dr : Addr} {H : Hp} {pl : Plan} {ds : List Addr} {ct : List (List (Key × V))} (D : DbAt CD CS H p pl sp de dr ds ct) : ∀ c ∈ foot p sp de dr ds, H c ≠ none := by
  obtain ⟨dx, hp⟩ := D.ob
  obtain ⟨sdx, stv, skvs, s1, _, s3, _⟩ := D.sch.ex
  intro c hc z
  simp only [foot, List.mem_cons] at hc
  rcases hc with rfl | rfl | rfl | rfl | h
  · rw [hp] at z
    cases z
  · rw [s1] at z
    cases z
  · rw [s3] at z
    cases z
  · rw [D.rws] at z
    cases z
  · obtain ⟨i, hi, ei⟩ := List.getElem_of_mem h
    have hi2 : i < ct.length := by rw [D.cl, ← D.dl]; exact hi
    rw [D.at_ i c _ (by rw [List.getElem?_eq_getElem hi, ei]) (List.getElem?_eq_getElem hi2)] at z
    cases z
theorem SideAt.of {CD CS p sp de dr dh : Addr} {H G : Hp} {pl : Plan} {ds hs : List Addr} {ct : List (List (Key × V))} (D : DbAt CD CS H p pl sp de dr ds ct) (Hd : HeldAt H dh pl hs ct) (L : ∀ c ∈ foot p sp de dr ds, G c ≠ none) (n1 : G dh = none) (n2 : ∀ d ∈ hs, G d = none) :
    SideAt CD CS H pl ⟨p, sp, de, dr, ds, dh, hs⟩ ct := by
  obtain ⟨dx, hp⟩ := D.ob
  obtain ⟨sdx, stv, skvs, s1, _⟩ := D.sch.ex
  have inF : ∀ c ∈ ds, c ∈ foot p sp de dr ds := fun c hc => by simp [foot, hc]
  refine ⟨D, Hd, List.nodup_append.mpr ⟨D.nd, Hd.nd, fun x hx y hy e => ?_⟩, fun d hd => ?_⟩
  · subst e
    exact L x (inF x hx) (n2 x hy)
  · intro m
    simp only [Side.fix, List.mem_cons, List.not_mem_nil, or_false] at m
    rcases List.mem_append.mp hd with h | h
    · have hdk : ∃ u, H d = some (.dK u) := by
        obtain ⟨i, hi, ei⟩ := List.getElem_of_mem h
        have hi2 : i < ct.length := by rw [D.cl, ← D.dl]; exact hi
        exact ⟨_, D.at_ i d _ (by rw [List.getElem?_eq_getElem hi, ei]) (List.getElem?_eq_getElem hi2)⟩
      obtain ⟨u, hu⟩ := hdk
      rcases m with rfl | rfl | rfl | rfl | rfl
      · rw [hp] at hu
        cases hu
      · rw [s1] at hu
        cases hu
      · exact D.apart.2 h
      · exact D.apart.1 h
      · exact L _ (inF _ h) n1
    · rcases m with rfl | rfl | rfl | rfl | rfl
      · exact L _ (by simp [foot]) (n2 _ h)
      · exact L _ (by simp [foot]) (n2 _ h)
      · exact L _ (by simp [foot]) (n2 _ h)
      · exact L _ (by simp [foot]) (n2 _ h)
      · exact Hd.apart h
end My
namespace My
open PySem L2
theorem SideAt.fr1 {CD CS a : Addr} {H H' : Hp} {pl : Plan} {s : Side} {ct : List (List (Key × V))} {xs : List V} (S : SideAt CD CS H pl s ct) (h : H a = some (.lst xs)) (e : Fr1 a H H') : SideAt CD CS H' pl s ct := by
  refine S.frf (F := [a]) (fun c o hc ho => e c o (fun z => hc (by simp [z])) ho) (fun c hc ys z => ?_) fun c hc => ?_
  · rw [List.mem_singleton.mp hc, h] at z
    cases z
  · rw [List.mem_singleton.mp hc]
    refine ⟨fun m => ?_, fun m => ?_⟩
    · obtain ⟨dx, hp⟩ := S.db.ob
      obtain ⟨sdx, stv, skvs, s1, _, s3, _⟩ := S.db.sch.ex
      simp only [Side.fix, List.mem_cons, List.not_mem_nil, or_false] at m
      rcases m with rfl | rfl | rfl | rfl | rfl
      · rw [hp] at h
        cases h
      · rw [s1] at h
        cases h
      · rw [s3] at h
        cases h
      · rw [S.db.rws] at h
        cases h
      · rw [S.hd.rws] at h
        cases h
    · obtain ⟨u, hu⟩ := S.dict m
      rw [hu] at h
      cases h
theorem Two.fr1 {CD CS B HL a : Addr} {H H' : Hp} {pl : Plan} {vp : V} {S : Nat → Side} {C : Nat → List (List (Key × V))} {m : Nat} {xs : List V} (W : Two CD CS H pl vp B HL S C m) (h : H a = some (.lst xs)) (e : Fr1 a H H') (n1 : B ≠ a) (n2 : HL ≠ a) : Two CD CS H' pl vp B HL S C m :=
  ⟨W.pln.mono (e.kt h), e _ _ n1 W.bs, e _ _ n2 W.hl, fun k hk => (W.sd k hk).fr1 h e, fun k hk => (W.yg k hk).kt (e.kt h)⟩
end My
namespace My
open PySem PySem.Spec PyProof.Rows L2
section
variable {X : Cx} {k : Nat} {C : Addr} {sp : Sp} {m q : Str} {st : Stmt} {ps : List Str}
theorem run_fn1 {f : Addr} {fd : FuncData} {ps : List Str} {pins : List (Addr × Obj)} {σ : L2.St} {H : Hp} {s : Shared} {Q : VK} {us : List Value} {vs : List V} (F : FnOk X.prog X.w X.K X.mg X.base CX0 k f fd ps sp) (hr : Room (k + 1) X.A) (hb : Binds X.K fd ps [])
    (I : Inv X pins σ H s) (r : Vals vs us) (h : sp vs H Q E0) : wpAny (model X.prog X.w) X.A.in1 (call (.ref f) us) (EP X pins σ Q) X.xe s := by
  have hl : us.length = ps.length := by rw [← r.length]; exact F.len _ _ _ _ h
  have hbt := hb s us I.kIn (by simpa using hl)
  rw [List.append_nil] at hbt
  refine wpAny_call (codeAny_mono (F.run X.A.in1 X.stack s H ⟨us, []⟩ us vs Q E0 hr.in1 I.env0.in1 hbt r h) fun r s' hq => ?_)
  cases r with
  | error e => exact pass0 pins σ H s e s' I hq
  | ok fl =>
    cases fl with
    | ret u => exact I.after hq
    | next => exact False.elim hq
    | brk => exact False.elim hq
    | cont => exact False.elim hq
theorem MethAt.fnIn (D : MethAt X.K C m q st ps) {f : Addr} (hm : Meth X.K C m f) : PySem.W.fnIn X.K f = true := by
  obtain ⟨f', fd, F, hm', hb⟩ := D.ex
  have : f' = f := by
    have h1 := hm.at_
    rw [hm'.at_] at h1
    exact Value.ref.inj (Option.some.inj (Option.some.inj h1))
  subst this
  obtain ⟨oc, od, kV, doc, pm, an, cdv, ct, osl, rfl, lk, hcd⟩ := F.ex
  unfold PySem.W.fnIn
  rw [lk]
theorem pe_ixOwn {a b : Expr} {ta tb : TE} {pos : Pos} (ha : PE X a ta) (hb : PE X b tb) (G : MethOk X.prog X.w X.K X.mg X.base k C "__getitem__" sp) (D : MethAt X.K C "__getitem__" q st ps) (hr : Room (k + 1) X.A)
    (hs : ∀ o i, subscripted b true o i = runValue (.builtin "lifetime.subscript" ⟨[o, i], []⟩) := by intro _ _; rfl) : PE X (.Subscript a b pos) (tOp (rGetOwn C sp) ta tb) := by
  obtain ⟨f, fd, ps2, F, hm, hbd, c⟩ := G.ex
  refine ⟨fun pins s σ H Q I h => ?_⟩
  refine Subscript_ (binT ha hb I h fun v u s2 x y H2 I2 rx ry q => ?_)
  obtain ⟨p, dx, fs, rfl, hp, q⟩ := q
  obtain rfl : v = Value.ref p := rx
  obtain ⟨m, fr⟩ := I2.fr
  obtain ⟨mA, O, _⟩ := ins_get I2.hok hp
  obtain ⟨od, J, _⟩ := O.look
  exact PySem.W.sub_K fr I2.ok.mod.kin J hm.at_ (D.fnIn hm) hm.fn (run_fn1 (us := [.ref p, u]) (vs := [.ref p, y]) F hr hbd I2 (.cons rfl (.cons ry .nil)) q) (hs _ _)
def rLenOwn (C : Addr) (sp : Sp) : List V → Hp → VK → Prop := fun xs H Q => ∃ p dx fs, xs = [.ref p] ∧ H p = some (.ins C dx fs) ∧ sp [.ref p] H (fun v H2 => ∃ n : Int, v = .int n ∧ 0 ≤ n ∧ n < 2 ^ 63 ∧ Q (.int n) H2) E0
theorem call_lenOwn (G : MethOk X.prog X.w X.K X.mg X.base k C "__len__" sp) (hr : Room (k + 1) X.A) : CallR X (.builtin "len") (rLenOwn C sp) := by
  obtain ⟨f, fd, ps2, F, hm, hbd, c⟩ := G.ex
  intro pins s0 σ H0 xs us Q I0 r0 h0
  obtain ⟨p, dx, fs, rfl, hp, h0⟩ := h0
  obtain ⟨u, rfl, rx⟩ := vals1 r0
  obtain rfl : u = Value.ref p := rx
  obtain ⟨m, fr⟩ := I0.fr
  obtain ⟨mA, O, _⟩ := ins_get I0.hok hp
  obtain ⟨od, J, _⟩ := O.look
  refine PySem.W.len_K fr I0.ok.mod.kin J hm.at_ hm.fn (thn (run_fn1 (us := [.ref p]) (vs := [.ref p]) F hr hbd I0 (.cons rfl .nil) h0) fun v s1 ⟨z, H1, I1, r1, n, ez, n0, n1, q⟩ => ?_)
  subst ez
  obtain ⟨t, rfl⟩ := r1
  exact ⟨⟨n0, n1⟩, ⟨.int n, H1, I1.tok _, ⟨_, rfl⟩, q⟩⟩
end
end My
namespace My
open PySem L2
def lockN : Nat → TE → TE
  | 0, t => t
  | n + 1, t => tLockE (lockN n t)
def tLocks (t : TE) : TE := fun σ H Q => ∃ n, lockN n t σ H Q
theorem pe_locks {X : Cx} {e : Expr} {t : TE} (h : PE X e t) : PE X e (tLocks t) := by
  have go : ∀ n, PE X e (lockN n t) := fun n => by
    induction n with
    | zero => exact h
    | succ n ih => exact pe_lock ih
  exact ⟨fun pins s σ H Q I ⟨n, hn⟩ => (go n).run pins s σ H Q I hn⟩
theorem lockN_of {t : TE} {σ : L2.St} : ∀ (L : List (Addr × List (Key × V))) (H : Hp) (Q : VK), (L.map (·.1)).Nodup → (∀ p ∈ L, H p.1 = some (.dK p.2)) →
    (∀ (G : Hp) (R : VK), (∀ p ∈ L, ∃ od, G p.1 = some (.frz od (.dK p.2))) → (∀ c, c ∉ L.map (·.1) → G c = H c) →
      (∀ v H', (∀ p ∈ L, H' p.1 = G p.1) → (∀ H'', (∀ p ∈ L, H'' p.1 = some (.dK p.2)) → (∀ c, c ∉ L.map (·.1) → H'' c = H' c) → Q v H'') → R v H') → t σ G R) → lockN L.length t σ H Q
  | [], H, Q, _, _, h => h H Q (by simp) (fun _ _ => rfl) fun v H' _ k => k H' (by simp) fun _ _ => rfl
  | (d, kvs) :: L, H, Q, nd, hd, h => by
    rw [List.map_cons] at nd
    obtain ⟨n1, n2⟩ := List.nodup_cons.mp nd
    have ne : ∀ p ∈ L, p.1 ≠ d := fun p hp z => n1 (by rw [← z]; exact List.mem_map.mpr ⟨p, hp, rfl⟩)
    refine ⟨d, .dK kvs, hd _ List.mem_cons_self, trivial, fun od => lockN_of L _ _ n2 (fun p hp => by rw [upd_ne (ne p hp)]; exact hd p (List.mem_cons_of_mem _ hp)) fun G R hG hGc hR => ?_⟩
    have hGd : G d = some (.frz od (.dK kvs)) := by rw [hGc d n1, upd_same]
    refine h G R (fun p hp => ?_) (fun c hc => ?_) fun v H' e k => hR v H' (fun p hp => e p (List.mem_cons_of_mem _ hp)) fun H'' r1 r2 => ⟨?_, k _ (fun p hp => ?_) fun c hc => ?_⟩
    · rcases List.mem_cons.mp hp with rfl | hp
      · exact ⟨od, hGd⟩
      · exact hG p hp
    · rw [List.map_cons, List.mem_cons, not_or] at hc
      rw [hGc c hc.2, upd_ne hc.1]
    · rw [r2 d n1, e (d, kvs) List.mem_cons_self, hGd]
    · rcases List.mem_cons.mp hp with rfl | hp
      · exact upd_same
      · rw [upd_ne (ne p hp)]
        exact r1 p hp
    · rw [List.map_cons, List.mem_cons, not_or] at hc
      rw [upd_ne hc.1]
      exact r2 c hc.2
section
variable {g g1 : TG} {tt tt1 : TT} {te : TE} {vs vs1 : List Nat} {σ σ2 : L2.St} {wi1 : TI}
theorem in2_keys {d : Addr} {o : Obj} {kvs : List (Key × V)} {D : Addr} {Nx : Hp → Prop} {H4 : Hp} (Pv : Nat → Hp → Prop) (h0 : Pv 0 H4) (hl : ∀ j Hj, j ≤ kvs.length → Pv j Hj → Hj d = some (.frz o (.dK kvs)))
    (hs : ∀ j k v Hj, kvs[j]? = some (k, v) → Pv j Hj → g1 (kV k) (wipe σ2 vs1) Hj fun σ3 H5 => wipe σ3 vs1 = wipe σ2 vs1 ∧ tt1 σ3 H5 fun b H6 =>
      if b = true then te σ3 H6 fun y H7 => ∃ acc, H7 D = some (.lst acc) ∧ acc.length < sizeLine ∧ Pv (j + 1) (upd H7 D (.lst (acc ++ [y]))) else Pv (j + 1) H6)
    (hd : ∀ Hj, Pv kvs.length Hj → Nx Hj) : In2 (Itk d o kvs) g1 tt1 te vs1 σ2 D Nx H4 := by
  refine ⟨fun j m Hj => m = kvs.length - j ∧ j ≤ kvs.length ∧ Pv j Hj, ⟨_, rfl, Nat.zero_le _, h0⟩, ?_⟩
  rintro j m Hj ⟨em, hj, p⟩
  have q := hl j Hj hj p
  by_cases l : j < kvs.length
  · refine Or.inr ⟨⟨q, l⟩, Pv (j + 1), fun H' p' => ⟨_, by omega, rfl, l, p'⟩, ?_⟩
    rintro x H' ⟨eh, k, v, hk, rfl⟩
    rw [eh]
    exact hs j k v Hj hk p
  · obtain rfl : j = kvs.length := by omega
    exact Or.inl ⟨⟨q, Nat.le_refl _⟩, hd Hj p⟩
theorem lc2_keys {d : Addr} {o : Obj} {kvs : List (Key × V)} {D : Addr} {Qd : Hp → Prop} {H1 : Hp} (Pv : Nat → Hp → Prop) (h0 : Pv 0 (upd H1 D (.lst []))) (hl : ∀ i Hi, i ≤ kvs.length → Pv i Hi → Hi d = some (.frz o (.dK kvs)))
    (hs : ∀ i k v Hi, kvs[i]? = some (k, v) → Pv i Hi → g (kV k) (wipe σ vs) Hi fun σ2 H2 => wipe σ2 vs = wipe σ vs ∧ tt σ2 H2 fun b H3 =>
      if b = true then wi1 σ2 H3 fun J1 H4 => In2 J1 g1 tt1 te vs1 σ2 D (Pv (i + 1)) H4 else Pv (i + 1) H3)
    (hd : ∀ Hi, Pv kvs.length Hi → Qd Hi) :
    ∃ W : Nat → Nat → Hp → Prop, (∃ m, W 0 m (upd H1 D (.lst []))) ∧ ∀ i m H, W i m H →
      ((Itk d o kvs).stop i H ∧ Qd H) ∨ ((Itk d o kvs).go i H ∧ ∃ Nx : Hp → Prop, (∀ H', Nx H' → ∃ m', m' < m ∧ W (i + 1) m' H') ∧ ∀ x H', (Itk d o kvs).yld i H x H' → g x (wipe σ vs) H' fun σ2 H2 => wipe σ2 vs = wipe σ vs ∧ tt σ2 H2 fun b H3 =>
        if b = true then wi1 σ2 H3 fun J1 H4 => In2 J1 g1 tt1 te vs1 σ2 D Nx H4 else Nx H3) := by
  refine ⟨fun i m Hi => m = kvs.length - i ∧ i ≤ kvs.length ∧ Pv i Hi, ⟨_, rfl, Nat.zero_le _, h0⟩, ?_⟩
  rintro i m Hi ⟨em, hi, p⟩
  have q := hl i Hi hi p
  by_cases l : i < kvs.length
  · refine Or.inr ⟨⟨q, l⟩, Pv (i + 1), fun H' p' => ⟨_, by omega, rfl, l, p'⟩, ?_⟩
    rintro x H' ⟨eh, k, v, hk, rfl⟩
    rw [eh]
    exact hs i k v Hi hk p
  · obtain rfl : i = kvs.length := by omega
    exact Or.inl ⟨⟨q, Nat.le_refl _⟩, hd Hi p⟩
end
theorem sorted_one : ∀ {l m : List Int}, l.Perm m → l.Pairwise (· ≤ ·) → m.Pairwise (· ≤ ·) → l = m
  | [], m, p, _, _ => p.nil_eq
  | x :: l, [], p, _, _ => absurd p.length_eq (by simp)
  | x :: l, y :: m, p, hl, hm => by
    rw [List.pairwise_cons] at hl hm
    have h1 : x ≤ y := by
      rcases List.mem_cons.mp (p.symm.subset List.mem_cons_self) with h | h
      · omega
      · exact hl.1 y h
    have h2 : y ≤ x := by
      rcases List.mem_cons.mp (p.subset List.mem_cons_self) with h | h
      · omega
      · exact hm.1 x h
    have e : x = y := by omega
    subst e
    rw [sorted_one ((List.perm_cons x).mp p) hl.2 hm.2]
end My
namespace My
open PySem L2
structure Many (n : Nat) (CD CS : Addr) (H : Hp) (PL : Nat → Plan) (S : Nat → Side) (C : Nat → List (List (Key × V))) (m : Nat) : Prop where
  sd : ∀ k, k < n → SideAt CD CS H (PL k) (S k) (C k)
  ln : ∀ k, k < n → ∀ kvs ∈ C k, kvs.length ≤ m
def ApartN (n : Nat) (S : Nat → Side) : Prop := ∀ k j, k < n → j < n → k ≠ j → ∀ c ∈ (S k).dicts, c ∉ (S j).fix ∧ c ∉ (S j).dicts
section
variable {n : Nat} {CD CS : Addr} {H H' : Hp} {PL : Nat → Plan} {S : Nat → Side} {C : Nat → List (List (Key × V))} {m : Nat}
theorem Many.same (W : Many n CD CS H PL S C m) (e : Same H H') : Many n CD CS H' PL S C m := ⟨fun k hk => (W.sd k hk).same e, W.ln⟩
theorem Many.up {m' : Nat} (W : Many n CD CS H PL S C m) (l : m ≤ m') : Many n CD CS H PL S C m' := ⟨W.sd, fun k hk kvs h => Nat.le_trans (W.ln k hk kvs h) l⟩
theorem Many.fr1 {a : Addr} {xs : List V} (W : Many n CD CS H PL S C m) (h : H a = some (.lst xs)) (e : Fr1 a H H') : Many n CD CS H' PL S C m := ⟨fun k hk => (W.sd k hk).fr1 h e, W.ln⟩
theorem Many.step {H1 : Hp} {k i : Nat} {d d2 : Addr} {kvs' : List (Key × V)} (W : Many n CD CS H PL S C m) (A : ApartN n S) (hk : k < n) (hd : (S k).ds[i]? = some d) (hd2 : (S k).hs[i]? = some d2)
    (D1 : DbAt CD CS H1 (S k).p (PL k) (S k).sp (S k).de (S k).dr (S k).ds ((C k).set i kvs')) (e : Fr1 d H H1) (l : kvs'.length ≤ m) :
    FrF [d, d2] H (upd H1 d2 (.dK kvs')) ∧ KT H (upd H1 d2 (.dK kvs')) ∧ (∀ (c : Addr) (xs : List V), H c = some (.lst xs) → upd H1 d2 (.dK kvs') c = some (.lst xs)) ∧ Many n CD CS (upd H1 d2 (.dK kvs')) PL S (fun j => if j = k then (C k).set i kvs' else C j) m := by
  have hdm : d ∈ (S k).dicts := List.mem_append.mpr (.inl (List.mem_of_getElem? hd))
  have hdm2 : d2 ∈ (S k).dicts := List.mem_append.mpr (.inr (List.mem_of_getElem? hd2))
  obtain ⟨u1, hu1⟩ := (W.sd k hk).dict hdm
  obtain ⟨u2, hu2⟩ := (W.sd k hk).dict hdm2
  have f : FrF [d, d2] H (upd H1 d2 (.dK kvs')) := fun c o hc ho => by
    simp only [List.mem_cons, List.not_mem_nil, or_false, not_or] at hc
    rw [upd_ne hc.2]
    exact e c o hc.1 ho
  have nt : ∀ c ∈ [d, d2], ∀ xs, H c ≠ some (.tup xs) := fun c hc xs z => by
    simp only [List.mem_cons, List.not_mem_nil, or_false] at hc
    rcases hc with rfl | rfl
    · rw [hu1] at z
      cases z
    · rw [hu2] at z
      cases z
  have kt : KT H (upd H1 d2 (.dK kvs')) := (f.kept (G := []) (fun c hc => by cases hc) nt).kt
  have ls : ∀ (c : Addr) (xs : List V), H c = some (.lst xs) → upd H1 d2 (.dK kvs') c = some (.lst xs) := fun c xs h => f c _ (fun z => by
    simp only [List.mem_cons, List.not_mem_nil, or_false] at z
    rcases z with rfl | rfl
    · rw [hu1] at h
      cases h
    · rw [hu2] at h
      cases h) h
  refine ⟨f, kt, ls, fun j hj => ?_, fun j hj => ?_⟩
  · show SideAt CD CS _ (PL j) (S j) (if j = k then _ else _)
    split
    · rename_i z
      subst z
      exact (W.sd j hj).step hd hd2 D1 e
    · rename_i z
      refine (W.sd j hj).frf f nt fun c hc => ?_
      simp only [List.mem_cons, List.not_mem_nil, or_false] at hc
      rcases hc with rfl | rfl
      · exact A k j hk hj (fun w => z w.symm) _ hdm
      · exact A k j hk hj (fun w => z w.symm) _ hdm2
  · show ∀ kvs ∈ (if j = k then _ else _), _
    split
    · rename_i z
      subst z
      intro kvs hv
      rcases List.mem_or_eq_of_mem_set hv with h | rfl
      · exact W.ln j hj kvs h
      · exact l
    · exact W.ln j hj
end
def nils (pl : Plan) : List (List (Key × V)) := pl.map fun _ => []
theorem nils_at {pl : Plan} {i : Nat} {kvs : List (Key × V)} (h : (nils pl)[i]? = some kvs) : kvs = [] := by
  unfold nils at h
  rw [List.getElem?_map] at h
  obtain ⟨_, _, e⟩ := Option.map_eq_some_iff.mp h
  exact e.symm
theorem nils_mem {pl : Plan} {kvs : List (Key × V)} (h : kvs ∈ nils pl) : kvs = [] := by
  obtain ⟨_, _, rfl⟩ := List.mem_map.mp h
  rfl
structure Fill (H0 : Hp) (A : Addr) (pl : Plan) (j : Nat) (hs : List Addr) (H : Hp) : Prop where
  le : j ≤ pl.length
  hl : hs.length = j
  nd : hs.Nodup
  ds : ∀ d ∈ hs, H0 d = none ∧ d ≠ A ∧ H d = some (.dK [])
  at_ : H A = some (.dK (rowsK (pl.take j) hs))
  fr : Fr1 A H0 H
theorem Fill.start {H0 : Hp} {A : Addr} (pl : Plan) (h : H0 A = some (.dK [])) : Fill H0 A pl 0 [] H0 := ⟨Nat.zero_le _, rfl, List.nodup_nil, by simp, h, Fr1.refl _ _⟩
theorem Fill.no {H0 H : Hp} {A : Addr} {pl : Plan} {j : Nat} {hs : List Addr} (F : Fill H0 A pl j hs H) (nd : (pl.map (·.1)).Nodup) {en : Ent} (hen : pl[j]? = some en) : valV (rowsK (pl.take j) hs) (Sum.inr en.1 : Key) = none := by
  have hjp : j < pl.length := (List.getElem?_eq_some_iff.mp hen).1
  refine valV_no (rowsK_keys (by rw [List.length_take, F.hl]; omega)) fun hm => ?_
  obtain ⟨e2, he2, ee⟩ := List.mem_map.mp hm
  obtain ⟨m, hm2, em⟩ := List.getElem_of_mem he2
  rw [List.getElem_take] at em
  have hmj : m < j := by
    rw [List.length_take] at hm2
    omega
  obtain ⟨l2, g2⟩ := List.getElem?_eq_some_iff.mp hen
  have a1 : (pl.map (·.1))[m]'(by rw [List.length_map]; omega) = (pl.map (·.1))[j]'(by rw [List.length_map]; omega) := by
    rw [List.getElem_map, List.getElem_map, g2, em, ee]
  have := (List.getElem_inj nd).mp a1
  omega
theorem Fill.next {H0 H : Hp} {A d : Addr} {pl : Plan} {j : Nat} {hs : List Addr} (F : Fill H0 A pl j hs H) (nd : (pl.map (·.1)).Nodup) {en : Ent} (hen : pl[j]? = some en) (hd : H d = none) :
    upd H d (.dK []) A = some (.dK (rowsK (pl.take j) hs)) ∧ (rowsK (pl.take j) hs).length ≤ j ∧ Fill H0 A pl (j + 1) (hs ++ [d]) (upd (upd H d (.dK [])) A (.dK (putK (rowsK (pl.take j) hs) (Sum.inr en.1) (.ref d)))) := by
  have hjp : j < pl.length := (List.getElem?_eq_some_iff.mp hen).1
  have hen2 : pl[j] = en := (List.getElem?_eq_some_iff.mp hen).2
  have ndA : d ≠ A := fun z => by
    rw [z, F.at_] at hd
    cases hd
  have hdi : H0 d = none := F.fr.free ndA hd
  have hno := F.no nd hen
  have hl := F.hl
  refine ⟨by rw [upd_ne ndA.symm]; exact F.at_, ?_, hjp, by simp [F.hl], nd_snoc F.nd fun m => ?_, fun c hc => ?_, ?_, ?_⟩
  · unfold rowsK
    rw [List.length_zip, List.length_map, List.length_map, List.length_take]
    omega
  · have := (F.ds d m).2.2
    rw [hd] at this
    cases this
  · rcases List.mem_append.mp hc with m | m
    · obtain ⟨a1, a2, a3⟩ := F.ds c m
      exact ⟨a1, a2, by rw [upd_ne a2, upd_ne (fun z => by rw [z, hd] at a3; cases a3)]; exact a3⟩
    · rw [List.mem_singleton.mp m]
      exact ⟨hdi, ndA, by rw [upd_ne ndA, upd_same]⟩
  · rw [upd_same, putK_new _ hno]
    refine congrArg (fun l => some (HO.dK l)) ?_
    unfold rowsK
    rw [List.take_succ_eq_append_getElem hjp, List.map_append, List.map_append, List.zip_append (by rw [List.length_map, List.length_map, List.length_take]; omega), hen2]
    rfl
  · exact (F.fr.upd hdi).at
theorem Fill.held {H0 H : Hp} {A : Addr} {pl : Plan} {j : Nat} {hs : List Addr} (F : Fill H0 A pl j hs H) (h : j = pl.length) : HeldAt H A pl hs (nils pl) := by
  subst h
  refine ⟨by have := F.at_; rw [List.take_length] at this; exact this, F.hl, by unfold nils; rw [List.length_map], F.nd, fun m => (F.ds A m).2.1 rfl, fun j d kvs h1 h2 => ?_⟩
  rw [nils_at h2]
  exact (F.ds d (List.mem_of_getElem? h1)).2.2
end My
namespace My
open PySem L2
def ft (s : Side) : List Addr := foot s.p s.sp s.de s.dr s.ds
theorem pair_fn {α : Type} (x y : α) : ∃ f : Nat → α, f 0 = x ∧ f 1 = y := ⟨fun k => match k with | 0 => x | _ => y, rfl, rfl⟩
section
variable {CD CS : Addr} {G H H' Hb : Hp} {PL : Nat → Plan} {S : Nat → Side} {i n : Nat} {A : Nat → Addr} {hs : Nat → List Addr}
theorem DbAt.fr1 {p sp de dr a : Addr} {pl : Plan} {ds : List Addr} {ct : List (List (Key × V))} {xs : List V} (D : DbAt CD CS H p pl sp de dr ds ct) (h : H a = some (.lst xs)) (e : Fr1 a H H') : DbAt CD CS H' p pl sp de dr ds ct := by
  refine D.keep ⟨fun c hc o ho => e c o (fun z => ?_) ho, e.kt h⟩
  subst z
  obtain ⟨dx, hp⟩ := D.ob
  obtain ⟨sdx, stv, skvs, s1, _, s3, _⟩ := D.sch.ex
  simp only [foot, List.mem_cons] at hc
  rcases hc with rfl | rfl | rfl | rfl | hc
  · rw [hp] at h
    cases h
  · rw [s1] at h
    cases h
  · rw [s3] at h
    cases h
  · rw [D.rws] at h
    cases h
  · obtain ⟨j, hj, ej⟩ := List.getElem_of_mem hc
    have hj2 : j < ct.length := by rw [D.cl, ← D.dl]; exact hj
    rw [D.at_ j c _ (by rw [List.getElem?_eq_getElem hj, ej]) (List.getElem?_eq_getElem hj2)] at h
    cases h
structure Bases (i : Nat) (CD CS : Addr) (H : Hp) (PL : Nat → Plan) (S : Nat → Side) : Prop where
  db : ∀ k, k < i → DbAt CD CS H (S k).p (PL k) (S k).sp (S k).de (S k).dr (S k).ds (nils (PL k))
  ap : ∀ k j, k < i → j < i → k ≠ j → ∀ c ∈ ft (S k), c ∉ ft (S j)
theorem Bases.zero : Bases 0 CD CS H PL S := ⟨fun k h => absurd h (Nat.not_lt_zero _), fun k j h => absurd h (Nat.not_lt_zero _)⟩
theorem Bases.same (B : Bases i CD CS H PL S) (e : Same H H') : Bases i CD CS H' PL S := ⟨fun k h => (B.db k h).same e, B.ap⟩
theorem Bases.fr1 {a : Addr} {xs : List V} (B : Bases i CD CS H PL S) (h : H a = some (.lst xs)) (e : Fr1 a H H') : Bases i CD CS H' PL S := ⟨fun k hk => (B.db k hk).fr1 h e, B.ap⟩
def addS (S : Nat → Side) (i : Nat) (s : Side) : Nat → Side := fun k => if k = i then s else S k
theorem addS_at (S : Nat → Side) (i : Nat) (s : Side) : addS S i s i = s := if_pos rfl
theorem addS_ne (S : Nat → Side) (i : Nat) (s : Side) {k : Nat} (h : k ≠ i) : addS S i s k = S k := if_neg h
theorem Bases.add (B : Bases i CD CS H PL S) (e : Same H H') {s : Side} (D : DbAt CD CS H' s.p (PL i) s.sp s.de s.dr s.ds (nils (PL i))) (f : ∀ c ∈ ft s, H c = none) : Bases (i + 1) CD CS H' PL (addS S i s) := by
  refine ⟨fun k hk => ?_, fun k j hk hj hkj c hc hm => ?_⟩
  · by_cases z : k = i
    · subst z
      rw [addS_at]
      exact D
    · rw [addS_ne _ _ _ z]
      exact (B.db k (by omega)).same e
  · by_cases z : k = i
    · subst z
      rw [addS_at] at hc
      rw [addS_ne _ _ _ (fun w => hkj w.symm)] at hm
      exact (B.db j (by omega)).live c hm (f c hc)
    · rw [addS_ne _ _ _ z] at hc
      by_cases w : j = i
      · subst w
        rw [addS_at] at hm
        exact (B.db k (by omega)).live c hc (f c hm)
      · rw [addS_ne _ _ _ w] at hm
        exact B.ap k j (by omega) (by omega) hkj c hc hm
structure Helds (i n : Nat) (Hb H : Hp) (PL : Nat → Plan) (A : Nat → Addr) (hs : Nat → List Addr) : Prop where
  hd : ∀ k, k < i → HeldAt H (A k) (PL k) (hs k) (nils (PL k))
  rest : ∀ k, i ≤ k → k < n → H (A k) = some (.dK [])
  free : ∀ k, k < i → ∀ d ∈ hs k, Hb d = none
  dj : ∀ k j, k < i → j < i → k ≠ j → ∀ d ∈ hs k, d ∉ hs j
  fr : ∀ c o, (∀ k, k < n → c ≠ A k) → Hb c = some o → H c = some o
theorem Helds.start (h : ∀ k, k < n → Hb (A k) = some (.dK [])) : Helds 0 n Hb Hb PL A hs := ⟨fun k hk => absurd hk (Nat.not_lt_zero _), fun k _ hk => h k hk, fun k hk => absurd hk (Nat.not_lt_zero _), fun k j hk => absurd hk (Nat.not_lt_zero _), fun _ _ _ h => h⟩
theorem HeldAt.live {dh : Addr} {pl : Plan} {l : List Addr} {ct : List (List (Key × V))} (D : HeldAt H dh pl l ct) : ∀ c ∈ dh :: l, ∃ u, H c = some (.dK u) := fun c hc => by
  rcases List.mem_cons.mp hc with rfl | h
  · exact ⟨_, D.rws⟩
  · obtain ⟨m, hm, em⟩ := List.getElem_of_mem h
    have hm2 : m < ct.length := by rw [D.cl, ← D.dl]; exact hm
    exact ⟨_, D.at_ m c _ (by rw [List.getElem?_eq_getElem hm, em]) (List.getElem?_eq_getElem hm2)⟩
theorem Helds.add (Q : Helds i n Hb H PL A hs) (hb : ∀ k, k < n → Hb (A k) = some (.dK [])) (hA : ∀ k j, k < n → j < n → k ≠ j → A k ≠ A j) (hi : i < n) {l : List Addr} {j0 : Nat} (F : Fill H (A i) (PL i) j0 l H') (hj : j0 = (PL i).length) : Helds (i + 1) n Hb H' PL A (fun k => if k = i then l else hs k) := by
  have hAi : H (A i) = some (.dK []) := Q.rest i (Nat.le_refl _) hi
  have kt : KT H H' := fun c ys hc => F.fr c _ (ne_of hc hAi (by intro z; cases z)) hc
  have HA := F.held hj
  have nin : ∀ k, k < i → A i ∉ A k :: hs k := fun k hk m => by
    rcases List.mem_cons.mp m with h | h
    · exact hA i k hi (by omega) (by omega) h
    · have h2 := Q.free k hk _ h
      rw [hb i hi] at h2
      cases h2
  have frH : ∀ k, k < i → ∀ c ∈ A k :: hs k, H c ≠ none := fun k hk c hc z => by
    obtain ⟨u, hu⟩ := (Q.hd k hk).live c hc
    rw [hu] at z
    cases z
  have lb : ∀ d ∈ l, Hb d = none := fun d hd => by
    cases q : Hb d with
    | none => rfl
    | some o =>
      have h1 := (F.ds d hd).1
      have : ∀ k, k < n → d ≠ A k := fun k hk z => by
        subst z
        by_cases w : k < i
        · exact frH k w _ List.mem_cons_self h1
        · rw [Q.rest k (by omega) hk] at h1
          cases h1
      rw [Q.fr d o this q] at h1
      cases h1
  refine ⟨fun k hk => ?_, fun k hk hkn => ?_, fun k hk d hd => ?_, fun k j hk hj hkj d hd hm => ?_, fun c o hc ho => ?_⟩
  · by_cases z : k = i
    · subst z
      rw [if_pos rfl]
      exact HA
    · rw [if_neg z]
      exact (Q.hd k (by omega)).keep ⟨fun c hc o ho => F.fr c o (fun w => nin k (by omega) (by rw [← w]; exact hc)) ho, kt⟩
  · exact F.fr _ _ (hA k i hkn hi (by omega)) (Q.rest k (by omega) hkn)
  · by_cases z : k = i
    · subst z
      rw [if_pos rfl] at hd
      exact lb d hd
    · rw [if_neg z] at hd
      exact Q.free k (by omega) d hd
  · by_cases z : k = i
    · subst z
      rw [if_pos rfl] at hd
      rw [if_neg (fun w => hkj w.symm)] at hm
      exact frH j (by omega) d (List.mem_cons_of_mem _ hm) (F.ds d hd).1
    · rw [if_neg z] at hd
      by_cases w : j = i
      · subst w
        rw [if_pos rfl] at hm
        exact frH k (by omega) d (List.mem_cons_of_mem _ hd) (F.ds d hm).1
      · rw [if_neg w] at hm
        exact Q.dj k j (by omega) (by omega) hkj d hd hm
  · exact F.fr c o (hc i hi) (Q.fr c o hc ho)
def sides (S : Nat → Side) (A : Nat → Addr) (hs : Nat → List Addr) : Nat → Side := fun k => ⟨(S k).p, (S k).sp, (S k).de, (S k).dr, (S k).ds, A k, hs k⟩
theorem sides_of (B : Bases n CD CS G PL S) (eG : Same G Hb) (e : Same G H) (Q : Helds n n Hb H PL A hs) (nA : ∀ k, k < n → G (A k) = none) (hb : ∀ k, k < n → Hb (A k) = some (.dK [])) :
    Many n CD CS H PL (sides S A hs) (fun k => nils (PL k)) 0 ∧ ApartN n (sides S A hs) ∧ ∀ k, k < n → A k ∉ ft (S k) := by
  have gh : ∀ k, k < n → ∀ d ∈ hs k, G d = none := fun k hk d hd => eG.free (Q.free k hk d hd)
  refine ⟨⟨fun k hk => SideAt.of (((B.db k hk).same e)) (Q.hd k hk) (B.db k hk).live (nA k hk) (gh k hk), fun k hk kvs h => by rw [nils_mem h]; exact Nat.le_refl _⟩, fun k j hk hj hkj c hc => ?_, fun k hk m => (B.db k hk).live _ m (nA k hk)⟩
  have inF : ∀ k c, c ∈ (S k).ds → c ∈ ft (S k) := fun k c h => by simp [ft, foot, h]
  have inX : ∀ c, c ∈ (sides S A hs j).fix → c ∈ ft (S j) ∨ c = A j := fun c h => by
    simp only [sides, Side.fix, List.mem_cons, List.not_mem_nil, or_false] at h
    rcases h with rfl | rfl | rfl | rfl | rfl
    · exact .inl (by simp [ft, foot])
    · exact .inl (by simp [ft, foot])
    · exact .inl (by simp [ft, foot])
    · exact .inl (by simp [ft, foot])
    · exact .inr rfl
  rcases List.mem_append.mp hc with h | h
  · have h : c ∈ (S k).ds := h
    have lv := (B.db k hk).live c (inF k c h)
    refine ⟨fun m => ?_, fun m => ?_⟩
    · rcases inX c m with g | rfl
      · exact B.ap k j hk hj hkj c (inF k c h) g
      · exact lv (nA j hj)
    · rcases List.mem_append.mp m with g | g
      · exact B.ap k j hk hj hkj c (inF k c h) (inF j c g)
      · exact lv (gh j hj c g)
  · have h : c ∈ hs k := h
    refine ⟨fun m => ?_, fun m => ?_⟩
    · rcases inX c m with g | rfl
      · exact (B.db j hj).live c g (gh k hk c h)
      · have := Q.free k hk _ h
        rw [hb j hj] at this
        cases this
    · rcases List.mem_append.mp m with g | g
      · exact (B.db j hj).live c (inF j c g) (gh k hk c h)
      · exact Q.dj k j hk hj hkj c h g
end
end My
namespace My
open PySem PySem.Spec PyProof.Rows L2
structure InitOk (P : Program) (w : World) (K : PySem.W.Frag) (mg : Str → Option Value) (base : Heap) (k : Nat) (C : Addr) (x : Str) (sp : Sp) : Prop where
  ex : ∃ f fd ps mc, FnOk P w K mg base CX0 k f fd ps sp ∧ PySem.W.keepIn K (.ref f) = true ∧ Binds K fd ps [] ∧ mg x = some (.ref C) ∧ ClX.CRead K C mc ∧ ClX.CVal K C mc "__init__" (.ref f) (.ref f)
structure BaseAt (K : PySem.W.Frag) (mg : Str → Option Value) (C : Addr) (x : Str) : Prop where
  mg : mg x = some (.ref C)
  rd : ∃ mc f, PySem.W.readsIn K C mc = true ∧ PySem.W.specialIn K (.ref C) "__getattribute__" = some (some (.builtin "type.__getattribute__")) ∧ PySem.W.findCls K (.ref C) mc "__init__" = some (.val (.ref f)) ∧ PySem.W.findIn K (.ref C) "__init__" = some (some (.ref f))
structure ErrAt (K : PySem.W.Frag) (mg : Str → Option Value) (C : Addr) (x : Str) (names : List Str) : Prop where
  mg : mg x = some (.ref C)
  ox : OexC K C
  xf : XfC K C
  no : ∀ f ∈ names, PySem.W.findIn K (.ref C) f = some none
section
variable {P : Program} {w : World} {K : PySem.W.Frag} {mg : Str → Option Value} {base : Heap} {k : Nat} {x m q : Str} {C : Addr} {sp : Sp} {N ps : List Str} {st : Stmt}
theorem MethAt.init (D : MethAt K C "__init__" q st ps) (c : BaseAt K mg C x) (S : FnScope N ps (defScope st)) (len : ∀ vs H Q E, sp vs H Q E → vs.length = ps.length) (b : BodyOk P w K mg base k N q st sp) : InitOk P w K mg base (k + 1) C x sp := by
  obtain ⟨f, fd, F, hm, hb⟩ := D.ex
  obtain ⟨mc, f', h1, h2, h3, h4⟩ := c.rd
  have : f' = f := by
    have h5 := hm.at_
    rw [h4] at h5
    exact Value.ref.inj (Option.some.inj (Option.some.inj h5))
  subst this
  exact ⟨f', fd, ps, mc, F.ok S len (fun cdv A outer s H vs Q E hr h => b f' cdv A outer s H vs Q E hr h), F.kp, hb, c.mg, ⟨h1, h2⟩, ⟨h3, rfl⟩⟩
end
section
variable {X : Cx} {k : Nat} {x : Str} {C : Addr} {sp : Sp} {p1 p2 pos : Pos} {e : Expr} {es : List Expr} {t : TA}
theorem pe_cinit {pl : Sem Bool} (G : InitOk X.prog X.w X.K X.mg X.base k C x sp) (hr : Room k X.A) (ha : PA X (e :: es) t) (hg : Gl X x := by rfl) (hdb : (x == ("__debug__" : Str)) = false := by decide)
    (hst : starEach (e :: es) X.env = (false, eval e X.env) :: starEach es X.env := by rfl) (hpl : (backTo pos (starEach es X.env)).any (·.1) = false := by rfl)
    (ht : eval (.Call (.Attribute (.Name x p1) "__init__" p2) (e :: es) [] pos) X.env = (do
      let ov ← eval (.Name x p1) X.env
      standAt p2.atName
      let (f, first) ← holding [ov] (getMethod ov "__init__" pl)
      callWith pos f first (backTo pos (starEach (e :: es) X.env)) (backToKw pos (keywordEach [] X.env))) := by rfl) :
    PE X (.Call (.Attribute (.Name x p1) "__init__" p2) (e :: es) [] pos) (tCall sp [] E0 t) := by
  obtain ⟨f, fd, ps, mc, F, hk, hb, hm, r, c⟩ := G.ex
  refine ⟨fun pins s σ H Q I h => ?_⟩
  refine PySem.W.methodCall_KW (ld_glob I hg hm ?_ hdb) ht
  refine PySem.W.method_cls (I.tok _).kIn r.ga (ClX.getcval_ok (I.tok _) r c fun s2 I2 => ?_)
  refine PySem.W.callWith_K (first := []) (h₀ := X.base) I2.ok.mod.kin hk (thn (ha.run pos pins s2 σ H _ I2 h) fun us s3 ⟨vs, H2, I3, rv, q2⟩ => ⟨I3.kIn, ?_⟩) hst hpl
  exact run_fn F hr hb .nil pass0 I3 rv q2
end
def spBase : Sp := fun vs H Q _ => ∃ (a C : Addr) (w : V) (K : PySem.W.Frag), vs = [.ref a, w] ∧ OexC K C ∧ H a = some (exo a C none) ∧ Q .non H
def spBaseK (K : PySem.W.Frag) : Sp := fun vs H Q _ => ∃ (a C : Addr) (w : V), vs = [.ref a, w] ∧ OexC K C ∧ H a = some (exo a C none) ∧ Q .non H
def spErr (C : Addr) (names : List Str) : Sp := fun vs H Q _ => ∃ (a : Addr) (ys : List V), vs = .ref a :: ys ∧ ys.length = names.length ∧ H a = some (exo a C none) ∧
  ∀ dx, H dx = none → dx ≠ a → Q .non (upd (upd H dx (exd dx (names.zip ys).reverse)) a (exo a C (some dx)))
theorem upd_swap {H : Hp} {a b : Addr} {o o1 o2 : HO} (n : b ≠ a) : upd (upd (upd H b o1) a o) b o2 = upd (upd H b o2) a o := by
  funext c
  by_cases h1 : c = b
  · subst h1
    rw [upd_same, upd_ne n, upd_same]
  · rw [upd_ne h1]
    by_cases h2 : c = a
    · subst h2
      rw [upd_same, upd_same]
    · rw [upd_ne h2, upd_ne h2, upd_ne h1, upd_ne h1]
theorem errMk {C : Addr} {names : List Str} {vs : List V} {H1 : Hp} {Q : XK} (hl : vs.length = names.length) (hn : names.length ≤ 10) (q : ∀ d, H1 d = none → Q (.ref C) (some d) (upd H1 d (.xd (names.zip vs).reverse))) :
    vs.length ≤ 1000 ∧ ∀ a, H1 a = none → spErr C names (.ref a :: (vs ++ [])) (upd H1 a (exo a C none))
      (fun v H2 => v = .non ∧ ∃ (d : Addr) (fs : List (Str × V)), H2 a = some (exo a C (some d)) ∧ H2 d = some (exd d fs) ∧ H1 d = none ∧ Q (.ref C) (some d) (upd (del H2 a) d (.xd fs))) (fun _ _ _ => False) := by
  refine ⟨by omega, fun a ha => ⟨a, vs, by rw [List.append_nil], hl, upd_same, fun dx hdx ndx => ⟨rfl, dx, _, upd_same, by rw [upd_ne ndx, upd_same], by rw [upd_ne ndx] at hdx; exact hdx, ?_⟩⟩⟩
  have hd : H1 dx = none := by rw [upd_ne ndx] at hdx; exact hdx
  have e : upd (del (upd (upd (upd H1 a (exo a C none)) dx (exd dx (names.zip vs).reverse)) a (exo a C (some dx))) a) dx (.xd (names.zip vs).reverse) = upd H1 dx (.xd (names.zip vs).reverse) := by
    funext c
    by_cases h1 : c = dx
    · subst h1
      rw [upd_same, upd_same]
    · rw [upd_ne h1, upd_ne h1]
      by_cases h2 : c = a
      · subst h2
        rw [del_same, ha]
      · rw [del_ne h2, upd_ne h2, upd_ne h1, upd_ne h2]
  rw [e]
  exact q dx hd
structure CallX (P : Program) (w : World) (K : PySem.W.Frag) (mg : Str → Option Value) (base : Heap) (k : Nat) (x : Str) (sp : Sp) : Prop where
  ex : ∃ f fd ps, FnOk P w K mg base (L2.CX P w) k f fd ps sp ∧ mg x = some (.ref f) ∧ PySem.W.keepIn K (.ref f) = true ∧ Binds K fd ps []
structure MethX (P : Program) (w : World) (K : PySem.W.Frag) (mg : Str → Option Value) (base : Heap) (k : Nat) (C : Addr) (m : Str) (sp : Sp) : Prop where
  ex : ∃ f fd ps, FnOk P w K mg base (L2.CX P w) k f fd ps sp ∧ Meth K C m f ∧ Binds K fd ps [] ∧ Cls K C
structure MakeX (P : Program) (w : World) (K : PySem.W.Frag) (mg : Str → Option Value) (base : Heap) (k : Nat) (C : Addr) (x : Str) (sp : Sp) : Prop where
  ex : ∃ f fd ps, FnOk P w K mg base (L2.CX P w) k f fd ps sp ∧ Mk K C f ∧ Binds K fd ps [] ∧ mg x = some (.ref C)
section
variable {P : Program} {w : World} {K : PySem.W.Frag} {mg : Str → Option Value} {base : Heap} {k : Nat} {x m q : Str} {C : Addr} {sp : Sp} {N ps : List Str} {st : Stmt}
def BodyX (P : Program) (w : World) (K : PySem.W.Frag) (mg : Str → Option Value) (base : Heap) (k : Nat) (N : List Str) (q : Str) (st : Stmt) (sp : Sp) : Prop :=
  ∀ (f : Addr) (cdv : Value) (A : Around) (outer : List Env) (s : Shared) (H : Hp) (vs : List V) (Q : VK) (E : XK), Room k (A.deeper (envOfC q (defScope st) s.heap.objs.size f cdv)) → sp vs H Q E →
    ∃ t, PSs (cxOf (L2.CX P w) P w K mg base N q (defScope st) f cdv A outer s H E) (defBody st) t ∧ t { nx := fun _ H' => Q .non H', rt := Q } (start N vs) H
theorem DefAt.okX (D : DefAt K mg x st ps) (S : FnScope N ps (defScope st)) (len : ∀ vs H Q E, sp vs H Q E → vs.length = ps.length) (b : BodyX P w K mg base k N x st sp) : CallX P w K mg base (k + 1) x sp := by
  obtain ⟨f, fd, F, hm, hb⟩ := D.ex
  exact ⟨f, fd, ps, F.okX S len (fun cdv A outer s H vs Q E hr h => b f cdv A outer s H vs Q E hr h), hm, F.kp, hb⟩
theorem MethAt.okX (D : MethAt K C m q st ps) (c : Cls K C) (S : FnScope N ps (defScope st)) (len : ∀ vs H Q E, sp vs H Q E → vs.length = ps.length) (b : BodyX P w K mg base k N q st sp) : MethX P w K mg base (k + 1) C m sp := by
  obtain ⟨f, fd, F, hm, hb⟩ := D.ex
  exact ⟨f, fd, ps, F.okX S len (fun cdv A outer s H vs Q E hr h => b f cdv A outer s H vs Q E hr h), hm, hb, c⟩
theorem MethAt.makeX (D : MethAt K C "__init__" q st ps) (c : ClassAt K mg C x) (S : FnScope N ps (defScope st)) (len : ∀ vs H Q E, sp vs H Q E → vs.length = ps.length) (b : BodyX P w K mg base k N q st sp) : MakeX P w K mg base (k + 1) C x sp := by
  obtain ⟨f, fd, F, hm, hb⟩ := D.ex
  exact ⟨f, fd, ps, F.okX S len (fun cdv A outer s H vs Q E hr h => b f cdv A outer s H vs Q E hr h), ⟨c.makes, hm.at_, hm.fn, c.kp⟩, hb, c.mg⟩
end
section
variable {X : Cx} {k : Nat} {x m : Str} {C : Addr} {sp : Sp} {p pos apos : Pos} {e o : Expr} {es : List Expr} {t : TA} {ta ti : TE} {W : WX} {E : L2.St → XK}
theorem pe_callX (G : CallX X.prog X.w X.K X.mg X.base k x sp) (hr : Room k X.A) (tk : Takes X W) (ha : PA X (e :: es) t) (hg : Gl X x := by rfl) (hdb : (x == ("__debug__" : Str)) = false := by decide)
    (he : starEach (e :: es) X.env = (false, eval e X.env) :: starEach es X.env := by rfl) (hpl : (backTo pos (starEach es X.env)).any (·.1) = false := by rfl) : PE X (.Call (.Name x p) (e :: es) [] pos) (tCallS sp (WE W) t) := by
  obtain ⟨f, fd, ps, F, hm, hk, hb⟩ := G.ex
  exact pe_callS F hr hg hm hk hb (fun σ => passAt tk σ) ha hdb he hpl
def tMethX (C : Addr) (m : Str) (sp : Sp) (E : L2.St → XK) (ta : TE) (t : TA) : TE := fun σ H Q => ta σ H fun x H1 => ∃ a dx fs, x = .ref a ∧ H1 a = some (.ins C dx fs) ∧ fs.lookup m = none ∧ t σ H1 fun vs H2 => sp (x :: vs) H2 Q (E σ)
theorem pe_methX {pl : Sem Bool} (he : PE X o ta) (G : MethX X.prog X.w X.K X.mg X.base k C m sp) (hr : Room k X.A) (tk : Takes X W) (ha : PA X (e :: es) t)
    (hst : starEach (e :: es) X.env = (false, eval e X.env) :: starEach es X.env := by rfl) (hpl : (backTo pos (starEach es X.env)).any (·.1) = false := by rfl)
    (ht : eval (.Call (.Attribute o m apos) (e :: es) [] pos) X.env = (do
      let ov ← eval o X.env
      standAt apos.atName
      let (f, first) ← holding [ov] (getMethod ov m pl)
      callWith pos f first (backTo pos (starEach (e :: es) X.env)) (backToKw pos (keywordEach [] X.env))) := by rfl) :
    PE X (.Call (.Attribute o m apos) (e :: es) [] pos) (tMethX C m sp (WE W) ta t) := by
  obtain ⟨f, fd, ps, F, hm, hb, c⟩ := G.ex
  refine ⟨fun pins s σ H Q I h => ?_⟩
  refine PySem.W.methodCall_KW (pl := pl) (thn (he.run pins s σ H _ I h) fun u s1 ⟨x, H1, I1, rx, a, dx, fs, ex, ea, l, q⟩ => ?_) ht
  subst ex
  obtain rfl : u = Value.ref a := rx
  refine getmeth_ok I1 ea c hm l ?_
  refine PySem.W.callWith_K (first := [.ref a]) (h₀ := X.base) I.ok.mod.kin hm.kp (thn (ha.run pos pins s1 σ H1 _ I1 q) fun us s2 ⟨vs, H2, I2, r, q2⟩ => ⟨I2.kIn, ?_⟩) hst hpl
  exact run_fnS (us := .ref a :: us) (vs := .ref a :: vs) F hr hb (passAt tk σ) I2 (.cons rfl r) q2
theorem run_makeS {f : Addr} {fd : FuncData} {ps : List Str} {CX : CXT} {pins : List (Addr × Obj)} {σ : L2.St} {H : Hp} {s : Shared} {Q : VK} {us : List Value} {vs : List V} (M : Mk X.K C f) (F : FnOk X.prog X.w X.K X.mg X.base CX k f fd ps sp) (hr : Room (k + 1) X.A) (hb : Binds X.K fd ps [])
    (hx : PassesAt CX X σ (E σ)) (I : Inv X pins σ H s) (r : Vals vs us)
    (h : ∀ x dx, H x = none → H dx = none → dx ≠ x → sp (.ref x :: vs) (upd (upd H dx (.own x)) x (.ins C dx [])) (fun v H2 => v = .non ∧ Q (.ref x) H2) (E σ)) :
    wpAny (model X.prog X.w) X.A (call (.ref C) us) (EP X pins σ Q) X.xe s := by
  have hq := h (s.heap.objs.size + 1) s.heap.objs.size (I.hok.fresh (Nat.le_succ _)) (I.hok.fresh (Nat.le_refl _)) (Nat.ne_of_lt (Nat.lt_succ_self _))
  have I2 := Inv.made (C := C) I
  have r2 : Vals (V.ref (s.heap.objs.size + 1) :: vs) (Value.ref (s.heap.objs.size + 1) :: us) := .cons rfl r
  have hl : (Value.ref (s.heap.objs.size + 1) :: us).length = ps.length := by
    have e := r2.length
    rw [F.len _ _ _ _ hq] at e
    exact e.symm
  have hb2 := hb _ (Value.ref (s.heap.objs.size + 1) :: us) I2.kIn (by rw [List.append_nil]; exact hl)
  rw [List.append_nil] at hb2
  refine wpAny_call (make_map (f := f) I.kIn M.makes M.init (beq_iff_eq.mp M.fn) (codeAny_mono (F.run _ X.stack _ _ ⟨Value.ref (s.heap.objs.size + 1) :: us, []⟩ (Value.ref (s.heap.objs.size + 1) :: us) _ _ (E σ) (hr.make C us [])
    (I2.env0.make C us []) hb2 r2 hq) fun r s' hq' => ?_))
  cases r with
  | error e => exact hx pins _ _ e s' I2 hq'
  | ok fl =>
    cases fl with
    | ret u =>
      obtain ⟨v, H', I3, rv, ev, q3⟩ := I2.after hq'
      subst ev
      exact ⟨rv, ⟨V.ref (s.heap.objs.size + 1), H', I3, rfl, q3⟩⟩
    | next => exact False.elim hq'
    | brk => exact False.elim hq'
    | cont => exact False.elim hq'
def tMakeX (C : Addr) (sp : Sp) (E : L2.St → XK) (t : TA) : TE := fun σ H Q => t σ H fun vs H1 => ∀ x dx, H1 x = none → H1 dx = none → dx ≠ x →
  sp (.ref x :: vs) (upd (upd H1 dx (.own x)) x (.ins C dx [])) (fun v H2 => v = .non ∧ Q (.ref x) H2) (E σ)
theorem pe_makeX (G : MakeX X.prog X.w X.K X.mg X.base k C x sp) (hr : Room (k + 1) X.A) (tk : Takes X W) (ha : PA X (e :: es) t) (hg : Gl X x := by rfl) (hdb : (x == ("__debug__" : Str)) = false := by decide)
    (he : starEach (e :: es) X.env = (false, eval e X.env) :: starEach es X.env := by rfl) (hpl : (backTo pos (starEach es X.env)).any (·.1) = false := by rfl) : PE X (.Call (.Name x p) (e :: es) [] pos) (tMakeX C sp (WE W) t) := by
  obtain ⟨f, fd, ps, F, M, hb, hm⟩ := G.ex
  refine ⟨fun pins s σ H Q I h => ?_⟩
  refine wpAny_Call_Name_kw (ld_glob I hg hm ?_ hdb)
  refine PySem.W.callWith_K (h₀ := X.base) I.ok.mod.kin M.kp (thn (ha.run pos pins s σ H _ I h) fun us s1 ⟨vs, H1, I1, r, q⟩ => ⟨I1.kIn, ?_⟩) he hpl
  exact run_makeS M F hr hb (passAt tk σ) I1 r q
def gSubX (C : Addr) (sp : Sp) (E : L2.St → XK) (to ti : TE) : TG := fun v σ H Q => to σ H fun o H1 => ti σ H1 fun i H2 => ∃ a dx fs, o = .ref a ∧ H2 a = some (.ins C dx fs) ∧ sp [.ref a, i, v] H2 (fun _ H3 => Q σ H3) (E σ)
theorem pg_subX {i : Expr} (ho : PE X o ta) (hi : PE X i ti) (G : MethX X.prog X.w X.K X.mg X.base k C "__setitem__" sp) (hr : Room k X.A) (hq : PySem.W.noSeq X.K C = true) (tk : Takes X W)
    (ha : ∀ v, assign (.Subscript o i pos) X.env v = (do
      let ov ← holding [v] (eval o X.env)
      let iv ← holding [v, ov] (eval i X.env)
      standAt pos
      holding [v, ov, iv] (setItem ov iv v)
      release [v, ov, iv] []) := by intro _; rfl) : PG X (.Subscript o i pos) (gSubX C sp (WE W) ta ti) := by
  obtain ⟨f, fd, ps, F, hm, hb, c⟩ := G.ex
  refine ⟨fun pins s σ H v u Q I r h => ?_⟩
  rw [ha]
  refine wpAny_bind (wpAny_holding (thn (ho.run pins s σ H _ I h) fun ov s1 ⟨x, H1, I1, r1, q1⟩ => ?_))
  refine wpAny_bind (wpAny_holding (thn (hi.run pins s1 σ H1 _ I1 q1) fun iv s2 ⟨y, H2, I2, r2, q2⟩ => ?_))
  obtain ⟨a, dx, fs, rfl, hp, q2⟩ := q2
  obtain rfl : ov = Value.ref a := r1
  have I2t := I2.tok s2.toks
  refine wpAny_bind (wpAny_standAt (wpAny_bind (wpAny_holding ?_)))
  obtain ⟨m, fr⟩ := I2.fr
  obtain ⟨mA, O, _⟩ := ins_get I2.hok hp
  obtain ⟨od, J, _⟩ := O.look
  refine PySem.W.ksp_setItem fr I2.ok.mod.kin J hq hm.at_ hm.fn (thn (run_fnS (us := [.ref a, iv, u]) (vs := [.ref a, y, v]) F hr hb (passAt tk σ) I2 (.cons rfl (.cons r2 (.cons r .nil))) q2) fun rr s3 ⟨z, H3, I3, r3, q3⟩ => ?_)
  exact wpAny_release ⟨σ, H3, I3, q3⟩
def tIxX (C : Addr) (sp : Sp) (E : L2.St → XK) (ta tb : TE) : TE := fun σ H Q => ta σ H fun x H1 => tb σ H1 fun y H2 => ∃ a dx fs, x = .ref a ∧ H2 a = some (.ins C dx fs) ∧ sp [.ref a, y] H2 Q (E σ)
end
end My
namespace My
open PySem PySem.Spec PyProof.Rows L2
section
variable {X : Cx} {k : Nat} {C : Addr} {sp : Sp} {q : Str} {st : Stmt} {ps : List Str} {pos : Pos} {o i : Expr} {ta ti : TE} {W : WX}
theorem pe_ixX {s2 : Stmt} (ho : PE X o ta) (hi : PE X i ti) (G : MethX X.prog X.w X.K X.mg X.base k C "__getitem__" sp) (D : MethAt X.K C "__getitem__" q st ps) (hr : Room (k + 1) X.A) (tk : Takes X W)
    (hs : ∀ ov iv, subscripted i true ov iv = runValue (.builtin "lifetime.subscript" ⟨[ov, iv], []⟩) := by intro _ _; rfl) : PE X (.Subscript o i pos) (tIxX C sp (WE W) ta ti) := by
  obtain ⟨f, fd, ps2, F, hm, hb, c⟩ := G.ex
  refine ⟨fun pins s σ H Q I h => ?_⟩
  refine Subscript_ (thn (ho.run pins s σ H _ I h) fun ov s1 ⟨x, H1, I1, r1, q1⟩ => thn (hi.run pins s1 σ H1 _ I1 q1) fun iv s2 ⟨y, H2, I2, r2, q2⟩ => ?_)
  obtain ⟨a, dx, fs, rfl, hp, q2⟩ := q2
  obtain rfl : ov = Value.ref a := r1
  obtain ⟨m, fr⟩ := I2.fr
  obtain ⟨mA, O, _⟩ := ins_get I2.hok hp
  obtain ⟨od, J, _⟩ := O.look
  have hl : ([.ref a, iv] : List Value).length = ps2.length := by
    have e : Vals [V.ref a, y] [Value.ref a, iv] := .cons rfl (.cons r2 .nil)
    rw [← e.length]
    exact F.len _ _ _ _ q2
  have hbt := hb s2 [.ref a, iv] I2.kIn (by simpa using hl)
  rw [List.append_nil] at hbt
  refine PySem.W.sub_K fr I2.ok.mod.kin J hm.at_ (D.fnIn hm) hm.fn ?_ (hs _ _)
  refine wpAny_call (codeAny_mono (F.run X.A.in1 X.stack s2 H2 ⟨[.ref a, iv], []⟩ [.ref a, iv] [.ref a, y] Q (WE W σ) hr.in1 I2.env0.in1 hbt (.cons rfl (.cons r2 .nil)) q2) fun r s' hq => ?_)
  cases r with
  | error e => exact passAt tk σ pins _ _ e s' I2 hq
  | ok fl =>
    cases fl with
    | ret u => exact I2.after hq
    | next => exact False.elim hq
    | brk => exact False.elim hq
    | cont => exact False.elim hq
end
end My
namespace My
open PySem PySem.Spec PyProof.Rows L2
structure ErrOk (P : Program) (w : World) (K : PySem.W.Frag) (mg : Str → Option Value) (base : Heap) (k : Nat) (C : Addr) (x : Str) (names : List Str) : Prop where
  ex : ∃ f fd ps, FnOk P w K mg base CX0 k f fd ps (spErr C names) ∧ PySem.W.findIn K (.ref C) "__init__" = some (some (.ref f)) ∧ PySem.W.typeIn K (.ref f) = some (.type "function") ∧ Binds K fd ps [] ∧ ErrAt K mg C x names
theorem MethAt.err {P : Program} {w : World} {K : PySem.W.Frag} {mg : Str → Option Value} {base : Heap} {k : Nat} {x q : Str} {C : Addr} {N ps names : List Str} {st : Stmt} (D : MethAt K C "__init__" q st ps) (c : ErrAt K mg C x names) (S : FnScope N ps (defScope st))
    (len : ∀ vs H Q E, spErr C names vs H Q E → vs.length = ps.length) (b : BodyOk P w K mg base k N q st (spErr C names)) : ErrOk P w K mg base (k + 1) C x names := by
  obtain ⟨f, fd, F, hm, hb⟩ := D.ex
  exact ⟨f, fd, ps, F.ok S len (fun cdv A outer s H vs Q E hr h => b f cdv A outer s H vs Q E hr h), hm.at_, beq_iff_eq.mp hm.fn, hb, c⟩
section
variable {X : Cx} {k : Nat} {x : Str} {C : Addr} {names : List Str} {p pos pos2 : Pos} {e : Expr} {es : List Expr} {t : TA} {W : WX}
def tRaiseE (C : Addr) (names : List Str) (W : WX) (t : TA) : TS := fun _ σ H => tMkO C (spErr C names) [] t σ H fun cls d H' => W cls d σ H'
theorem ps_raiseE (hc : X.calm = true) (G : ErrOk X.prog X.w X.K X.mg X.base k C x names) (hr : Room (k + 1) X.A) (tk : Takes X W) (ha : PA X (e :: es) t) (hg : Gl X x := by rfl) (hdb : (x == ("__debug__" : Str)) = false := by decide)
    (he : starEach (e :: es) X.env = (false, eval e X.env) :: starEach es X.env := by rfl) (hpl : (backTo pos (starEach es X.env)).any (·.1) = false := by rfl) :
    PS X (.Raise (some (.Call (.Name x p) (e :: es) [] pos)) none pos2) (tRaiseE C names W t) := by
  obtain ⟨f, fd, ps, F, iC, tI, hb, c⟩ := G.ex
  exact ps_raise hc tk (pmk_oex c.ox iC tI F hr hb .nil pass0 hg c.mg ha hdb he hpl)
end
end My
namespace My
open PySem PySem.Spec PyProof.Rows L2
section
variable {K : PySem.W.Frag} {h : Heap} {mg : Str → Option Value} {C f N : Addr} {x nm q : Str} {bs bm : List Value} {sn : List Str} {sub : List Value} {ab : Bool} {col : Option Bool} {dd : Option Addr} {m0 m1 m2 m3 m5 : Option Value}
theorem baseAt (X : K.In h) (G : h.Ns mainGlobals mg) (a : PySem.W.nsIn K mainGlobals x = some (some (.ref C))) (rd : PySem.W.readsIn K C (.type "type") = true) (ga : PySem.W.specialIn K (.ref C) "__getattribute__" = some (some (.builtin "type.__getattribute__")))
    (fi : PySem.W.findIn K (.ref C) "__init__" = some (some (.ref f))) (fc : PySem.W.findCls K (.ref C) (.type "type") "__init__" = some (.val (.ref f))) : BaseAt K mg C x := ⟨PySem.W.mg_of X G a, _, f, rd, ga, fc, fi⟩
theorem errAt {names : List Str} (X : K.In h) (G : h.Ns mainGlobals mg) (a : PySem.W.nsIn K mainGlobals x = some (some (.ref C))) (l : K.lookup C = some (excClassObj nm q C N bs bm true sn sub ab col dd m0 m1 m2 m3 m5 "ValueError.__new__")) (b : PySem.HandSPX.refsVE bm = true)
    (sa : PySem.W.findIn K (.ref C) "__setattr__" = some (some (.builtin "object.__setattr__"))) (eC : PySem.W.subIn K (.ref C) (.type "BaseException") = some true) (tC : PySem.W.typeIn K (.ref C) = some (.type "type")) (kC : PySem.W.keepIn K (.ref C) = true)
    (ga : PySem.W.findIn K (.ref C) "__getattribute__" = some (some (.builtin "BaseException.__getattribute__"))) (gg : PySem.W.findIn K (.ref C) "__getattr__" = some none) (hC : PySem.W.hasDictIn K C = true) (no : ∀ f ∈ names, PySem.W.findIn K (.ref C) f = some none) : ErrAt K mg C x names :=
  ⟨PySem.W.mg_of X G a, ⟨⟨nm, q, N, bs, bm, sn, sub, ab, col, dd, m0, m1, m2, m3, m5, l, b⟩, sa, eC, tC, kC⟩, ⟨ga, gg, eC, hC⟩, no⟩
theorem no0 : ∀ f ∈ ([] : List Str), PySem.W.findIn K (.ref C) f = some none := by simp
theorem noC {g : Str} {l : List Str} (h : PySem.W.findIn K (.ref C) g = some none) (r : ∀ f ∈ l, PySem.W.findIn K (.ref C) f = some none) : ∀ f ∈ g :: l, PySem.W.findIn K (.ref C) f = some none := fun f hf => by
  rcases List.mem_cons.mp hf with rfl | hf
  · exact h
  · exact r f hf
theorem ErrAt.exm {names : List Str} {cls : Value} {b : Bool} (c : ErrAt K mg C x names) (h : PySem.W.subIn K cls (.ref C) = some b) : PySem.W.exmOne K cls (.ref C) = some b := PySem.W.exm_ref c.ox.exC c.xf.hdC c.ox.tyC h
end
end My
namespace My
open PySem PySem.Spec PyProof.Rows L2
theorem xd1 {f : Str} {y : V} {l : List (Str × V)} : ((f, y) :: l).lookup f = some y := by rw [lookup_put, if_pos rfl]
theorem xdS {f g : Str} {y : V} {l : List (Str × V)} {o : Option V} (h : ¬ g = f) (r : l.lookup g = o) : ((f, y) :: l).lookup g = o := by rw [lookup_put, if_neg h, r]
end My
namespace My
open PySem L2
theorem Fr1.new {a p : Addr} {H H' : Hp} {o : HO} {n : Nat} (f : Fr1 a H H') (S : StAt H' a n) (h : H' p = none) : Fr1 a H (L2.upd H' p o) := f.upd (f.free (S.ne h).symm h)
theorem cut_drop (xs : List V) (k : Nat) (h : k ≤ xs.length) : cutV xs (some (k : Int)) none = xs.drop k := by
  unfold cutV
  rw [show HT.sIx xs.length 0 (some (k : Int)) = min k xs.length from HT.sIx_nat _ _ k, HT.sIx_none, Nat.min_eq_left h]
  exact List.take_of_length_le (by rw [List.length_drop]; exact Nat.le_refl _)
end My
namespace My
open PySem L2
theorem vSome {kvs : List (Key × V)} {k : Key} (h : k ∈ kvs.map (·.1)) : ∃ v, valV kvs k = some v := by
  have h1 := valV_any k kvs
  obtain ⟨q, hq, rfl⟩ := List.mem_map.mp h
  have h2 : (kvs.any fun kv => decide (kv.1 = q.1)) = true := List.any_eq_true.mpr ⟨q, hq, decide_eq_true rfl⟩
  rw [h2] at h1
  exact Option.isSome_iff_exists.mp h1.symm
theorem vPair {kvs : List (Key × V)} {k : Key} {v : V} (h : valV kvs k = some v) : (k, v) ∈ kvs := by
  unfold valV at h
  obtain ⟨q, hq, rfl⟩ := Option.map_eq_some_iff.mp h
  have h2 : q.1 = k := of_decide_eq_true (List.find?_some (p := fun kv : Key × V => decide (kv.1 = k)) hq)
  rw [← h2]
  exact List.mem_of_find?_eq_some hq
theorem vNone {kvs : List (Key × V)} {k : Key} (h : k ∉ kvs.map (·.1)) : valV kvs k = none := by
  cases c : valV kvs k with
  | none => rfl
  | some v => exact absurd (valV_in c) h
theorem vMem {kvs : List (Key × V)} (nd : (kvs.map (·.1)).Nodup) {q : Key × V} (h : q ∈ kvs) : valV kvs q.1 = some q.2 := by
  obtain ⟨i, hi, e⟩ := List.getElem_of_mem h
  exact valV_at nd (i := i) (by rw [List.getElem?_eq_getElem hi, e])
theorem putK_keys (a : List (Key × V)) (k : Key) (v : V) : (putK a k v).map (·.1) = if ((a.map (·.1)).any fun x => decide (x = k)) = true then a.map (·.1) else a.map (·.1) ++ [k] := by
  by_cases h : k ∈ a.map (·.1)
  · rw [if_pos (List.any_eq_true.mpr ⟨k, h, decide_eq_true rfl⟩)]
    obtain ⟨u, hu⟩ := vSome h
    unfold putK
    rw [valV_any, hu]
    show ((a.map fun kv => if kv.1 = k then (kv.1, v) else kv).map (·.1)) = _
    rw [List.map_map]
    have : ((·.1) ∘ fun kv : Key × V => if kv.1 = k then (kv.1, v) else kv) = (·.1) := by
      funext kv
      show (if kv.1 = k then (kv.1, v) else kv).1 = kv.1
      split <;> rfl
    rw [this]
  · rw [if_neg (fun z => by
      obtain ⟨x, hx, e⟩ := List.any_eq_true.mp z
      rw [of_decide_eq_true e] at hx
      exact h hx), putK_new _ (vNone h), List.map_append]
    rfl
theorem dropK_keys : ∀ (a : List (Key × V)) (k : Key), (dropK a k).map (·.1) = (a.map (·.1)).filter fun x => decide (x ≠ k)
  | [], _ => rfl
  | p :: r, k => by
    by_cases e : p.1 = k
    · rw [dropK_pos e, dropK_keys r k, List.map_cons, List.filter_cons, if_neg (by simp [e])]
    · rw [dropK_neg e, List.map_cons, dropK_keys r k, List.map_cons, List.filter_cons, if_pos (by simp [e])]
theorem vDrop : ∀ (a : List (Key × V)) (k j : Key), valV (dropK a k) j = if j = k then none else valV a j
  | [], k, j => by
    show valV [] j = _
    rw [valV_nil]
    split <;> rfl
  | p :: r, k, j => by
    by_cases e : p.1 = k
    · rw [dropK_pos e, vDrop r k j]
      by_cases h : j = k
      · rw [if_pos h, if_pos h]
      · rw [if_neg h, if_neg h, valV_neg (fun z => h (z.symm.trans e))]
    · rw [dropK_neg e]
      by_cases h : p.1 = j
      · rw [valV_pos h, if_neg (fun z => e (h.trans z)), valV_pos h]
      · rw [valV_neg h, vDrop r k j, valV_neg h]
structure RowsEq (H : Hp) (a b : List (Key × V)) : Prop where
  keys : b.map (·.1) = a.map (·.1)
  row : ∀ k v, valV a k = some v → ∃ v' lab cs, valV b k = some v' ∧ Td H v (rowD lab cs) ∧ Td H v' (rowD lab cs)
section
variable {H H' : Hp} {a b : List (Key × V)}
theorem RowsEq.mono (h : RowsEq H a b) (kt : KT H H') : RowsEq H' a b := ⟨h.keys, fun k v hv => by
  obtain ⟨v', lab, cs, h1, h2, h3⟩ := h.row k v hv
  exact ⟨v', lab, cs, h1, h2.mono kt, h3.mono kt⟩⟩
theorem RowsEq.nil : RowsEq H [] [] := ⟨rfl, fun k v h => by cases h⟩
theorem RowsEq.len (h : RowsEq H a b) : b.length = a.length := by
  have := congrArg List.length h.keys
  rw [List.length_map, List.length_map] at this
  exact this
theorem RowsEq.some (h : RowsEq H a b) (k : Key) : (valV b k).isSome = (valV a k).isSome := by
  cases c : valV a k with
  | some v =>
    obtain ⟨v', lab, cs, h1, _⟩ := h.row k v c
    rw [h1]
    rfl
  | none =>
    have : k ∉ a.map (·.1) := fun m => by
      obtain ⟨v, hv⟩ := vSome m
      rw [c] at hv
      cases hv
    rw [← h.keys] at this
    rw [vNone this]
theorem RowsEq.put {k : Key} {v v' : V} {lab : Int} {cs : List (Option Int)} (h : RowsEq H a b) (h1 : Td H v (rowD lab cs)) (h2 : Td H v' (rowD lab cs)) : RowsEq H (putK a k v) (putK b k v') := by
  refine ⟨by rw [putK_keys, putK_keys, h.keys], fun j u hu => ?_⟩
  rw [valV_put] at hu
  rw [valV_put]
  by_cases e : j = k
  · rw [if_pos e] at hu ⊢
    cases hu
    exact ⟨_, lab, cs, rfl, h1, h2⟩
  · rw [if_neg e] at hu ⊢
    exact h.row j u hu
theorem RowsEq.drop {k : Key} (h : RowsEq H a b) : RowsEq H (dropK a k) (dropK b k) := by
  refine ⟨by rw [dropK_keys, dropK_keys, h.keys], fun j u hu => ?_⟩
  rw [vDrop] at hu ⊢
  by_cases e : j = k
  · rw [if_pos e] at hu
    cases hu
  · rw [if_neg e] at hu ⊢
    exact h.row j u hu
end
structure Side2 (CD CS : Addr) (H : Hp) (pl : Plan) (s : Side) (ct ch : List (List (Key × V))) : Prop where
  db : DbAt CD CS H s.p pl s.sp s.de s.dr s.ds ct
  hd : HeldAt H s.dh pl s.hs ch
  nd : s.dicts.Nodup
  ap : ∀ d ∈ s.dicts, d ∉ s.fix
  eq : ∀ (i : Nat) (a b : List (Key × V)), ct[i]? = some a → ch[i]? = some b → RowsEq H a b
section
variable {CD CS : Addr} {H H' : Hp} {pl : Plan} {s : Side} {ct ch : List (List (Key × V))}
theorem Side2.same (S : Side2 CD CS H pl s ct ch) (e : Same H H') : Side2 CD CS H' pl s ct ch := ⟨S.db.same e, S.hd.same e, S.nd, S.ap, fun i a b h1 h2 => (S.eq i a b h1 h2).mono (KT.of e)⟩
theorem Side2.frf {F : List Addr} (S : Side2 CD CS H pl s ct ch) (e : FrF F H H') (nF : ∀ c ∈ F, ∀ xs, H c ≠ some (.tup xs)) (ap : ∀ c ∈ F, c ∉ s.fix ∧ c ∉ s.dicts) : Side2 CD CS H' pl s ct ch := by
  have k : ∀ G : List Addr, (∀ c ∈ G, c ∈ s.fix ∨ c ∈ s.dicts) → Kept G H H' := fun G hG => e.kept (fun c hc hF => by
    obtain ⟨a1, a2⟩ := ap c hF
    rcases hG c hc with h | h
    · exact a1 h
    · exact a2 h) nF
  refine ⟨S.db.keep (k _ fun c hc => ?_), S.hd.keep (k _ fun c hc => ?_), S.nd, S.ap, fun i a b h1 h2 => (S.eq i a b h1 h2).mono (k [] (by simp)).kt⟩
  · simp only [foot, List.mem_cons] at hc
    simp only [Side.fix, Side.dicts, List.mem_cons, List.mem_append]
    rcases hc with h | h | h | h | h <;> simp [h]
  · simp only [List.mem_cons] at hc
    simp only [Side.fix, Side.dicts, List.mem_cons, List.mem_append]
    rcases hc with h | h <;> simp [h]
theorem Side2.dict (S : Side2 CD CS H pl s ct ch) {c : Addr} (hc : c ∈ s.dicts) : ∃ kvs, H c = some (.dK kvs) := by
  rcases List.mem_append.mp hc with h | h
  · obtain ⟨i, hi, ei⟩ := List.getElem_of_mem h
    have hi2 : i < ct.length := by rw [S.db.cl, ← S.db.dl]; exact hi
    exact ⟨_, S.db.at_ i c _ (by rw [List.getElem?_eq_getElem hi, ei]) (List.getElem?_eq_getElem hi2)⟩
  · obtain ⟨i, hi, ei⟩ := List.getElem_of_mem h
    have hi2 : i < ch.length := by rw [S.hd.cl, ← S.hd.dl]; exact hi
    exact ⟨_, S.hd.at_ i c _ (by rw [List.getElem?_eq_getElem hi, ei]) (List.getElem?_eq_getElem hi2)⟩
theorem Side2.fr1 {a : Addr} {xs : List V} (S : Side2 CD CS H pl s ct ch) (h : H a = some (.lst xs)) (e : Fr1 a H H') : Side2 CD CS H' pl s ct ch := by
  refine S.frf (F := [a]) (fun c o hc ho => e c o (fun z => hc (by simp [z])) ho) (fun c hc ys z => ?_) fun c hc => ?_
  · rw [List.mem_singleton.mp hc, h] at z
    cases z
  · rw [List.mem_singleton.mp hc]
    refine ⟨fun m => ?_, fun m => ?_⟩
    · obtain ⟨dx, hp⟩ := S.db.ob
      obtain ⟨sdx, stv, skvs, s1, _, s3, _⟩ := S.db.sch.ex
      simp only [Side.fix, List.mem_cons, List.not_mem_nil, or_false] at m
      rcases m with rfl | rfl | rfl | rfl | rfl
      · rw [hp] at h
        cases h
      · rw [s1] at h
        cases h
      · rw [s3] at h
        cases h
      · rw [S.db.rws] at h
        cases h
      · rw [S.hd.rws] at h
        cases h
    · obtain ⟨u, hu⟩ := S.dict m
      rw [hu] at h
      cases h
theorem Side2.of {p sp de dr dh : Addr} {G : Hp} {ds hs : List Addr} (D : DbAt CD CS H p pl sp de dr ds ct) (Hd : HeldAt H dh pl hs ch) (L : ∀ c ∈ foot p sp de dr ds, G c ≠ none) (n1 : G dh = none) (n2 : ∀ d ∈ hs, G d = none) (eq : ∀ (i : Nat) (a b : List (Key × V)), ct[i]? = some a → ch[i]? = some b → RowsEq H a b) :
    Side2 CD CS H pl ⟨p, sp, de, dr, ds, dh, hs⟩ ct ch := by
  obtain ⟨dx, hp⟩ := D.ob
  obtain ⟨sdx, stv, skvs, s1, _⟩ := D.sch.ex
  have inF : ∀ c ∈ ds, c ∈ foot p sp de dr ds := fun c hc => by simp [foot, hc]
  refine ⟨D, Hd, List.nodup_append.mpr ⟨D.nd, Hd.nd, fun x hx y hy e => ?_⟩, fun d hd => ?_, eq⟩
  · subst e
    exact L x (inF x hx) (n2 x hy)
  · intro m
    simp only [Side.fix, List.mem_cons, List.not_mem_nil, or_false] at m
    rcases List.mem_append.mp hd with h | h
    · have hdk : ∃ u, H d = some (.dK u) := by
        obtain ⟨i, hi, ei⟩ := List.getElem_of_mem h
        have hi2 : i < ct.length := by rw [D.cl, ← D.dl]; exact hi
        exact ⟨_, D.at_ i d _ (by rw [List.getElem?_eq_getElem hi, ei]) (List.getElem?_eq_getElem hi2)⟩
      obtain ⟨u, hu⟩ := hdk
      rcases m with rfl | rfl | rfl | rfl | rfl
      · rw [hp] at hu
        cases hu
      · rw [s1] at hu
        cases hu
      · exact D.apart.2 h
      · exact D.apart.1 h
      · exact L _ (inF _ h) n1
    · rcases m with rfl | rfl | rfl | rfl | rfl
      · exact L _ (by simp [foot]) (n2 _ h)
      · exact L _ (by simp [foot]) (n2 _ h)
      · exact L _ (by simp [foot]) (n2 _ h)
      · exact L _ (by simp [foot]) (n2 _ h)
      · exact Hd.apart h
theorem Side2.step {H1 : Hp} {i : Nat} {d d2 : Addr} {ka kb : List (Key × V)} (S : Side2 CD CS H pl s ct ch) (hd : s.ds[i]? = some d) (hd2 : s.hs[i]? = some d2)
    (D1 : DbAt CD CS H1 s.p pl s.sp s.de s.dr s.ds (ct.set i ka)) (e : Fr1 d H H1) (q : RowsEq (upd H1 d2 (.dK kb)) ka kb) : Side2 CD CS (upd H1 d2 (.dK kb)) pl s (ct.set i ka) (ch.set i kb) := by
  have hdm : d ∈ s.ds := List.mem_of_getElem? hd
  have hdm2 : d2 ∈ s.hs := List.mem_of_getElem? hd2
  have dj := (List.nodup_append.mp S.nd).2.2
  have hi2 : i < ch.length := by rw [S.hd.cl, ← S.hd.dl]; exact (List.getElem?_eq_some_iff.mp hd2).1
  have hi1 : i < ct.length := by rw [S.db.cl, ← S.db.dl]; exact (List.getElem?_eq_some_iff.mp hd).1
  have h2 : H d2 = some (.dK ch[i]) := S.hd.at_ i d2 _ hd2 (List.getElem?_eq_getElem hi2)
  have hd0 : H d = some (.dK ct[i]) := S.db.at_ i d _ hd (List.getElem?_eq_getElem hi1)
  have n12 : d2 ≠ d := fun z => dj d hdm d2 hdm2 z.symm
  have h2' : H1 d2 = some (.dK ch[i]) := e d2 _ n12 h2
  have ap1 := S.ap d (List.mem_append.mpr (.inl hdm))
  have ap2 := S.ap d2 (List.mem_append.mpr (.inr hdm2))
  have kt1 : KT H H1 := fun c xs hc => e c _ (ne_of hc hd0 (by intro z; cases z)) hc
  have kt2 : KT H1 (upd H1 d2 (.dK kb)) := fun c xs hc => by
    rw [upd_ne (ne_of hc h2' (by intro z; cases z))]
    exact hc
  have kH : HeldAt H1 s.dh pl s.hs ch := S.hd.keep ⟨fun c hc o ho => e c o (fun z => by
    subst z
    rcases List.mem_cons.mp hc with h | h
    · exact ap1 (by simp [Side.fix, h])
    · exact dj c hdm c h rfl) ho, kt1⟩
  refine ⟨D1.keep ⟨fun c hc o ho => ?_, kt2⟩, kH.set (kvs := ch[i]) hd2 kb, S.nd, S.ap, fun j a b h1 h3 => ?_⟩
  · have : c ≠ d2 := fun z => by
      subst z
      simp only [foot, List.mem_cons] at hc
      rcases hc with h | h | h | h | h
      · exact ap2 (by simp [Side.fix, h])
      · exact ap2 (by simp [Side.fix, h])
      · exact ap2 (by simp [Side.fix, h])
      · exact ap2 (by simp [Side.fix, h])
      · exact dj c h c hdm2 rfl
    rw [upd_ne this]
    exact ho
  · by_cases c : i = j
    · subst c
      rw [List.getElem?_set_self hi1] at h1
      rw [List.getElem?_set_self hi2] at h3
      cases h1
      cases h3
      exact q
    · rw [List.getElem?_set_ne c] at h1 h3
      exact (S.eq j a b h1 h3).mono (kt1.trans kt2)
end
structure Many2 (n : Nat) (CD CS : Addr) (H : Hp) (PL : Nat → Plan) (S : Nat → Side) (C Ch : Nat → List (List (Key × V))) (m : Nat) : Prop where
  sd : ∀ k, k < n → Side2 CD CS H (PL k) (S k) (C k) (Ch k)
  ln : ∀ k, k < n → ∀ kvs ∈ C k, kvs.length ≤ m
def setF (C : Nat → List (List (Key × V))) (k i : Nat) (kvs : List (Key × V)) : Nat → List (List (Key × V)) := fun j => if j = k then (C k).set i kvs else C j
theorem setF_at (C : Nat → List (List (Key × V))) (k i : Nat) (kvs : List (Key × V)) : setF C k i kvs k = (C k).set i kvs := if_pos rfl
section
variable {n : Nat} {CD CS : Addr} {H H' : Hp} {PL : Nat → Plan} {S : Nat → Side} {C Ch : Nat → List (List (Key × V))} {m : Nat}
theorem Many2.same (W : Many2 n CD CS H PL S C Ch m) (e : Same H H') : Many2 n CD CS H' PL S C Ch m := ⟨fun k hk => (W.sd k hk).same e, W.ln⟩
theorem Many2.up {m' : Nat} (W : Many2 n CD CS H PL S C Ch m) (l : m ≤ m') : Many2 n CD CS H PL S C Ch m' := ⟨W.sd, fun k hk kvs h => Nat.le_trans (W.ln k hk kvs h) l⟩
theorem Many2.fr1 {a : Addr} {xs : List V} (W : Many2 n CD CS H PL S C Ch m) (h : H a = some (.lst xs)) (e : Fr1 a H H') : Many2 n CD CS H' PL S C Ch m := ⟨fun k hk => (W.sd k hk).fr1 h e, W.ln⟩
theorem Many2.step {H1 : Hp} {k i : Nat} {d d2 : Addr} {ka kb : List (Key × V)} (W : Many2 n CD CS H PL S C Ch m) (A : ApartN n S) (hk : k < n) (hd : (S k).ds[i]? = some d) (hd2 : (S k).hs[i]? = some d2)
    (D1 : DbAt CD CS H1 (S k).p (PL k) (S k).sp (S k).de (S k).dr (S k).ds ((C k).set i ka)) (e : Fr1 d H H1) (l : ka.length ≤ m) (q : RowsEq (upd H1 d2 (.dK kb)) ka kb) :
    FrF [d, d2] H (upd H1 d2 (.dK kb)) ∧ KT H (upd H1 d2 (.dK kb)) ∧ (∀ (c : Addr) (xs : List V), H c = some (.lst xs) → upd H1 d2 (.dK kb) c = some (.lst xs)) ∧ Many2 n CD CS (upd H1 d2 (.dK kb)) PL S (setF C k i ka) (setF Ch k i kb) m := by
  have hdm : d ∈ (S k).dicts := List.mem_append.mpr (.inl (List.mem_of_getElem? hd))
  have hdm2 : d2 ∈ (S k).dicts := List.mem_append.mpr (.inr (List.mem_of_getElem? hd2))
  obtain ⟨u1, hu1⟩ := (W.sd k hk).dict hdm
  obtain ⟨u2, hu2⟩ := (W.sd k hk).dict hdm2
  have f : FrF [d, d2] H (upd H1 d2 (.dK kb)) := fun c o hc ho => by
    simp only [List.mem_cons, List.not_mem_nil, or_false, not_or] at hc
    rw [upd_ne hc.2]
    exact e c o hc.1 ho
  have nt : ∀ c ∈ [d, d2], ∀ xs, H c ≠ some (.tup xs) := fun c hc xs z => by
    simp only [List.mem_cons, List.not_mem_nil, or_false] at hc
    rcases hc with rfl | rfl
    · rw [hu1] at z
      cases z
    · rw [hu2] at z
      cases z
  have kt : KT H (upd H1 d2 (.dK kb)) := (f.kept (G := []) (fun c hc => by cases hc) nt).kt
  have ls : ∀ (c : Addr) (xs : List V), H c = some (.lst xs) → upd H1 d2 (.dK kb) c = some (.lst xs) := fun c xs h => f c _ (fun z => by
    simp only [List.mem_cons, List.not_mem_nil, or_false] at z
    rcases z with rfl | rfl
    · rw [hu1] at h
      cases h
    · rw [hu2] at h
      cases h) h
  refine ⟨f, kt, ls, fun j hj => ?_, fun j hj => ?_⟩
  · show Side2 CD CS _ (PL j) (S j) (if j = k then _ else _) (if j = k then _ else _)
    by_cases z : j = k
    · subst z
      rw [if_pos rfl, if_pos rfl]
      exact (W.sd j hj).step hd hd2 D1 e q
    · rw [if_neg z, if_neg z]
      refine (W.sd j hj).frf f nt fun c hc => ?_
      simp only [List.mem_cons, List.not_mem_nil, or_false] at hc
      rcases hc with rfl | rfl
      · exact A k j hk hj (fun w => z w.symm) _ hdm
      · exact A k j hk hj (fun w => z w.symm) _ hdm2
  · show ∀ kvs ∈ (if j = k then _ else _), _
    split
    · rename_i z
      subst z
      intro kvs hv
      rcases List.mem_or_eq_of_mem_set hv with h | rfl
      · exact W.ln j hj kvs h
      · exact l
    · exact W.ln j hj
end
def addF {α : Type} (f : Nat → α) (i : Nat) (x : α) : Nat → α := fun k => if k = i then x else f k
theorem addF_at {α : Type} (f : Nat → α) (i : Nat) (x : α) : addF f i x i = x := if_pos rfl
theorem addF_ne {α : Type} (f : Nat → α) (i : Nat) (x : α) {k : Nat} (h : k ≠ i) : addF f i x k = f k := if_neg h
structure Hn (i : Nat) (G H : Hp) (PL : Nat → Plan) (A : Nat → Addr) (hs : Nat → List Addr) : Prop where
  hd : ∀ k, k < i → HeldAt H (A k) (PL k) (hs k) (nils (PL k))
  free : ∀ k, k < i → ∀ d ∈ A k :: hs k, G d = none
  dj : ∀ k j, k < i → j < i → k ≠ j → ∀ d ∈ A k :: hs k, d ∉ A j :: hs j
section
variable {i n : Nat} {CD CS : Addr} {G H H' : Hp} {PL : Nat → Plan} {S : Nat → Side} {A : Nat → Addr} {hs : Nat → List Addr}
theorem Hn.zero : Hn 0 G H PL A hs := ⟨fun k h => absurd h (Nat.not_lt_zero _), fun k h => absurd h (Nat.not_lt_zero _), fun k j h => absurd h (Nat.not_lt_zero _)⟩
theorem Hn.same (Q : Hn i G H PL A hs) (e : Same H H') : Hn i G H' PL A hs := ⟨fun k hk => (Q.hd k hk).same e, Q.free, Q.dj⟩
theorem Hn.add (Q : Hn i G H PL A hs) (eG : Same G H) {a : Addr} {l : List Addr} (D : HeldAt H' a (PL i) l (nils (PL i))) (f : ∀ d ∈ a :: l, H d = none) (e : Same H H') : Hn (i + 1) G H' PL (addF A i a) (addF hs i l) := by
  refine ⟨fun k hk => ?_, fun k hk d hd => ?_, fun k j hk hj hkj d hd hm => ?_⟩
  · by_cases z : k = i
    · subst z
      rw [addF_at, addF_at]
      exact D
    · rw [addF_ne _ _ _ z, addF_ne _ _ _ z]
      exact (Q.hd k (by omega)).same e
  · by_cases z : k = i
    · subst z
      rw [addF_at, addF_at] at hd
      exact eG.free (f d hd)
    · rw [addF_ne _ _ _ z, addF_ne _ _ _ z] at hd
      exact Q.free k (by omega) d hd
  · have lv : ∀ k, k < i → ∀ c ∈ A k :: hs k, H c ≠ none := fun k hk c hc z => by
      obtain ⟨u, hu⟩ := (Q.hd k hk).live c hc
      rw [hu] at z
      cases z
    by_cases z : k = i
    · subst z
      rw [addF_at, addF_at] at hd
      rw [addF_ne _ _ _ (fun w => hkj w.symm), addF_ne _ _ _ (fun w => hkj w.symm)] at hm
      exact lv j (by omega) d hm (f d hd)
    · rw [addF_ne _ _ _ z, addF_ne _ _ _ z] at hd
      by_cases w : j = i
      · subst w
        rw [addF_at, addF_at] at hm
        exact lv k (by omega) d hd (f d hm)
      · rw [addF_ne _ _ _ w, addF_ne _ _ _ w] at hm
        exact Q.dj k j (by omega) (by omega) hkj d hd hm
theorem sides2_of (B : Bases n CD CS G PL S) (e : Same G H) (Q : Hn n G H PL A hs) :
    Many2 n CD CS H PL (sides S A hs) (fun k => nils (PL k)) (fun k => nils (PL k)) 0 ∧ ApartN n (sides S A hs) ∧ ∀ k, k < n → A k ∉ ft (S k) := by
  refine ⟨⟨fun k hk => Side2.of (((B.db k hk).same e)) (Q.hd k hk) (B.db k hk).live (Q.free k hk _ List.mem_cons_self) (fun d hd => Q.free k hk d (List.mem_cons_of_mem _ hd)) fun i a b h1 h2 => by
    rw [nils_at h1, nils_at h2]
    exact RowsEq.nil, fun k hk kvs h => by rw [nils_mem h]; exact Nat.le_refl _⟩, fun k j hk hj hkj c hc => ?_, fun k hk m => (B.db k hk).live _ m (Q.free k hk _ List.mem_cons_self)⟩
  have inF : ∀ k c, c ∈ (S k).ds → c ∈ ft (S k) := fun k c h => by simp [ft, foot, h]
  have inX : ∀ c, c ∈ (sides S A hs j).fix → c ∈ ft (S j) ∨ c = A j := fun c h => by
    simp only [sides, Side.fix, List.mem_cons, List.not_mem_nil, or_false] at h
    rcases h with rfl | rfl | rfl | rfl | rfl
    · exact .inl (by simp [ft, foot])
    · exact .inl (by simp [ft, foot])
    · exact .inl (by simp [ft, foot])
    · exact .inl (by simp [ft, foot])
    · exact .inr rfl
  rcases List.mem_append.mp hc with h | h
  · have h : c ∈ (S k).ds := h
    have lv := (B.db k hk).live c (inF k c h)
    refine ⟨fun m => ?_, fun m => ?_⟩
    · rcases inX c m with g | rfl
      · exact B.ap k j hk hj hkj c (inF k c h) g
      · exact lv (Q.free j hj _ List.mem_cons_self)
    · rcases List.mem_append.mp m with g | g
      · exact B.ap k j hk hj hkj c (inF k c h) (inF j c g)
      · exact lv (Q.free j hj c (List.mem_cons_of_mem _ g))
  · have h : c ∈ hs k := h
    refine ⟨fun m => ?_, fun m => ?_⟩
    · rcases inX c m with g | rfl
      · exact (B.db j hj).live c g (Q.free k hk c (List.mem_cons_of_mem _ h))
      · exact Q.dj k j hk hj hkj _ (List.mem_cons_of_mem _ h) List.mem_cons_self
    · rcases List.mem_append.mp m with g | g
      · exact (B.db j hj).live c (inF j c g) (Q.free k hk c (List.mem_cons_of_mem _ h))
      · exact Q.dj k j hk hj hkj c (List.mem_cons_of_mem _ h) (List.mem_cons_of_mem _ g)
end
end My
namespace My
open PySem L2
theorem cellD_inj2 : ∀ {cs ds : List (Option Int)}, cs.map cellV = ds.map cellV → cs = ds
  | [], [], _ => rfl
  | [], _ :: _, h => by simp at h
  | _ :: _, [], h => by simp at h
  | c :: cs, d :: ds, h => by
    rw [List.map_cons, List.map_cons] at h
    have h1 := (List.cons.inj h).1
    have h2 := cellD_inj2 (List.cons.inj h).2
    subst h2
    cases c <;> cases d
    · rfl
    · cases h1
    · cases h1
    · rw [V.int.inj h1]
theorem cellsD_inv2 : ∀ {H : Hp} {xs : List V} {cs : List (Option Int)}, TdAll H xs (cs.map cellD) → xs = cs.map cellV
  | _, _, [], h => by cases h; rfl
  | _, _, c :: cs, h => by
    cases h with
    | cons h1 h2 => rw [List.map_cons, ← cellsD_inv2 h2, cellD_inv h1]
theorem rowD_cells2 {H : Hp} {v : V} {l1 l2 : Int} {c1 c2 : List (Option Int)} (h1 : Td H v (rowD l1 c1)) (h2 : Td H v (rowD l2 c2)) : c1 = c2 := by
  obtain ⟨t, tc, xs, rfl, ht, hc, hx⟩ := rowD_inv h1
  obtain ⟨t', tc', xs', e, ht', hc', hx'⟩ := rowD_inv h2
  cases e
  rw [ht] at ht'
  have h := HO.tup.inj (Option.some.inj ht')
  have h3 : tc = tc' := V.ref.inj (List.cons.inj (List.cons.inj h).2).1
  subst h3
  rw [hc] at hc'
  have h4 := HO.tup.inj (Option.some.inj hc')
  subst h4
  exact cellD_inj2 ((cellsD_inv2 hx).symm.trans (cellsD_inv2 hx'))
end My
namespace My
open PySem L2
section
variable {n n' : Nat} {CD CS : Addr} {G H H' : Hp} {PL : Nat → Plan} {S : Nat → Side} {C : Nat → List (List (Key × V))} {m : Nat}
theorem Many.sel (W : Many n CD CS H PL S C m) (f : Nat → Nat) (hf : ∀ k, k < n' → f k < n) : Many n' CD CS H (fun k => PL (f k)) (fun k => S (f k)) (fun k => C (f k)) m := ⟨fun k hk => W.sd (f k) (hf k hk), fun k hk => W.ln (f k) (hf k hk)⟩
theorem ApartN.sel (A : ApartN n S) (f : Nat → Nat) (hf : ∀ k, k < n' → f k < n) (inj : ∀ k j, k < n' → j < n' → k ≠ j → f k ≠ f j) : ApartN n' (fun k => S (f k)) := fun k j hk hj hkj => A (f k) (f j) (hf k hk) (hf j hj) (inj k j hk hj hkj)
theorem SideAt.live {pl : Plan} {s : Side} {ct : List (List (Key × V))} (D : SideAt CD CS H pl s ct) : ∀ c, c ∈ s.fix ∨ c ∈ s.dicts → H c ≠ none := fun c hc => by
  rcases hc with h | h
  · simp only [Side.fix, List.mem_cons, List.not_mem_nil, or_false] at h
    rcases h with rfl | rfl | rfl | rfl | rfl
    · exact D.db.live _ (by simp [foot])
    · exact D.db.live _ (by simp [foot])
    · exact D.db.live _ (by simp [foot])
    · exact D.db.live _ (by simp [foot])
    · rw [D.hd.rws]
      intro z
      cases z
  · obtain ⟨u, hu⟩ := D.dict h
    rw [hu]
    intro z
    cases z
theorem SideAt.of2 {p sp de dr dh : Addr} {pl : Plan} {ds hs : List Addr} {ct : List (List (Key × V))} (D : DbAt CD CS H p pl sp de dr ds ct) (Hd : HeldAt H dh pl hs ct) (L : ∀ c ∈ dh :: hs, G c ≠ none) (n1 : ∀ c ∈ foot p sp de dr ds, G c = none) : SideAt CD CS H pl ⟨p, sp, de, dr, ds, dh, hs⟩ ct := by
  obtain ⟨dx, hp⟩ := D.ob
  obtain ⟨sdx, stv, skvs, s1, _⟩ := D.sch.ex
  have inF : ∀ c ∈ ds, c ∈ foot p sp de dr ds := fun c hc => by simp [foot, hc]
  refine ⟨D, Hd, List.nodup_append.mpr ⟨D.nd, Hd.nd, fun x hx y hy e => ?_⟩, fun d hd => ?_⟩
  · subst e
    exact L x (List.mem_cons_of_mem _ hy) (n1 x (inF x hx))
  · intro m
    simp only [Side.fix, List.mem_cons, List.not_mem_nil, or_false] at m
    rcases List.mem_append.mp hd with h | h
    · have hdk : ∃ u, H d = some (.dK u) := by
        obtain ⟨i, hi, ei⟩ := List.getElem_of_mem h
        have hi2 : i < ct.length := by rw [D.cl, ← D.dl]; exact hi
        exact ⟨_, D.at_ i d _ (by rw [List.getElem?_eq_getElem hi, ei]) (List.getElem?_eq_getElem hi2)⟩
      obtain ⟨u, hu⟩ := hdk
      rcases m with rfl | rfl | rfl | rfl | rfl
      · rw [hp] at hu
        cases hu
      · rw [s1] at hu
        cases hu
      · exact D.apart.2 h
      · exact D.apart.1 h
      · exact L _ List.mem_cons_self (n1 _ (inF _ h))
    · rcases m with rfl | rfl | rfl | rfl | rfl
      · exact L _ (List.mem_cons_of_mem _ h) (n1 _ (by simp [foot]))
      · exact L _ (List.mem_cons_of_mem _ h) (n1 _ (by simp [foot]))
      · exact L _ (List.mem_cons_of_mem _ h) (n1 _ (by simp [foot]))
      · exact L _ (List.mem_cons_of_mem _ h) (n1 _ (by simp [foot]))
      · exact Hd.apart h
theorem Many.add {pl : Plan} {s : Side} {ct : List (List (Key × V))} (W : Many n CD CS H PL S C m) (A : ApartN n S) (e : Same H H') (hp : PL n = pl) (D : SideAt CD CS H' pl s ct) (fr : ∀ c, c ∈ s.fix ∨ c ∈ s.dicts → H c = none) (l : ∀ kvs ∈ ct, kvs.length ≤ m) :
    Many (n + 1) CD CS H' PL (addF S n s) (addF C n ct) m ∧ ApartN (n + 1) (addF S n s) := by
  refine ⟨⟨fun k hk => ?_, fun k hk => ?_⟩, fun k j hk hj hkj c hc => ?_⟩
  · by_cases z : k = n
    · subst z
      rw [addF_at, addF_at, hp]
      exact D
    · rw [addF_ne _ _ _ z, addF_ne _ _ _ z]
      exact (W.sd k (by omega)).same e
  · by_cases z : k = n
    · subst z
      rw [addF_at]
      exact l
    · rw [addF_ne _ _ _ z]
      exact W.ln k (by omega)
  · by_cases z : k = n
    · subst z
      rw [addF_at] at hc
      rw [addF_ne _ _ _ (fun w => hkj w.symm)]
      have hn := fr c (.inr hc)
      exact ⟨fun q => (W.sd j (by omega)).live c (.inl q) hn, fun q => (W.sd j (by omega)).live c (.inr q) hn⟩
    · rw [addF_ne _ _ _ z] at hc
      by_cases w : j = n
      · subst w
        rw [addF_at]
        have hl := (W.sd k (by omega)).live c (.inr hc)
        exact ⟨fun q => hl (fr c (.inl q)), fun q => hl (fr c (.inr q))⟩
      · rw [addF_ne _ _ _ w]
        exact A k j (by omega) (by omega) hkj c hc
end
theorem cut_last2 (xs : List V) (h : 1 ≤ xs.length) : cutV xs (some (-2)) none = xs.drop (xs.length - 2) := by
  unfold cutV
  rw [HT.sIx_none]
  have : HT.sIx xs.length 0 (some (-2)) = xs.length - 2 := by
    unfold HT.sIx
    simp
    omega
  rw [this]
  exact List.take_of_length_le (by rw [List.length_drop]; exact Nat.le_refl _)
structure CopyAt (H0 : Hp) (A : Addr) (pl : Plan) (ct : List (List (Key × V))) (j : Nat) (hs : List Addr) (H : Hp) : Prop where
  le : j ≤ pl.length
  hl : hs.length = j
  nd : hs.Nodup
  ds : ∀ d ∈ hs, H0 d = none ∧ d ≠ A
  ct_ : ∀ (i : Nat) (d : Addr) (kvs : List (Key × V)), hs[i]? = some d → ct[i]? = some kvs → H d = some (.dK kvs)
  at_ : H A = some (.dK (rowsK (pl.take j) hs))
  fr : Fr1 A H0 H
theorem CopyAt.start {H0 : Hp} {A : Addr} (pl : Plan) (ct : List (List (Key × V))) (h : H0 A = some (.dK [])) : CopyAt H0 A pl ct 0 [] H0 := ⟨Nat.zero_le _, rfl, List.nodup_nil, by simp, by simp, h, Fr1.refl _ _⟩
theorem CopyAt.live {H0 H : Hp} {A : Addr} {pl : Plan} {ct : List (List (Key × V))} {j : Nat} {hs : List Addr} (F : CopyAt H0 A pl ct j hs H) (cl : ct.length = pl.length) : ∀ d ∈ hs, ∃ u, H d = some (.dK u) := fun d hd => by
  obtain ⟨i, hi, ei⟩ := List.getElem_of_mem hd
  have h1 := F.hl
  have h2 := F.le
  exact ⟨_, F.ct_ i d ct[i] (by rw [List.getElem?_eq_getElem hi, ei]) (List.getElem?_eq_getElem (by omega))⟩
theorem CopyAt.no {H0 H : Hp} {A : Addr} {pl : Plan} {ct : List (List (Key × V))} {j : Nat} {hs : List Addr} (F : CopyAt H0 A pl ct j hs H) (nd : (pl.map (·.1)).Nodup) {en : Ent} (hen : pl[j]? = some en) : valV (rowsK (pl.take j) hs) (Sum.inr en.1 : Key) = none := by
  have hjp : j < pl.length := (List.getElem?_eq_some_iff.mp hen).1
  refine valV_no (rowsK_keys (by rw [List.length_take, F.hl]; omega)) fun hm => ?_
  obtain ⟨e2, he2, ee⟩ := List.mem_map.mp hm
  obtain ⟨m, hm2, em⟩ := List.getElem_of_mem he2
  rw [List.getElem_take] at em
  have hmj : m < j := by
    rw [List.length_take] at hm2
    omega
  obtain ⟨l2, g2⟩ := List.getElem?_eq_some_iff.mp hen
  have a1 : (pl.map (·.1))[m]'(by rw [List.length_map]; omega) = (pl.map (·.1))[j]'(by rw [List.length_map]; omega) := by
    rw [List.getElem_map, List.getElem_map, g2, em, ee]
  have := (List.getElem_inj nd).mp a1
  omega
end My
namespace My
open PySem PySem.Spec PyProof.Rows L2
def rMaxDD : List V → List V → Hp → VK → Prop := fun xs zs H Q => ∃ (a : Addr) (kvs : List (Key × V)) (ks : List Int) (d : Int), xs = [.ref a] ∧ zs = [.int d] ∧ Rd H a (.dK kvs) ∧ kvs.map (·.1) = ks.map Sum.inl ∧ (ks = [] → Q (.int d) H) ∧ (∀ m ∈ ks, (∀ y ∈ ks, y ≤ m) → Q (.int m) H)
theorem cr_maxDD {X : Cx} (hcalm : X.calm = true) : CallRK X (.builtin "max") [Str.ofString "default"] rMaxDD := by
  intro pins s σ H xs zs us ws Q I r rz h
  obtain ⟨a, kvs, ks, d, rfl, rfl, hd, hks, q0, q1⟩ := h
  obtain ⟨u, rfl, rx⟩ := vals1 r
  obtain rfl : u = Value.ref a := rx
  obtain ⟨wd, rfl, rd⟩ := vals1 rz
  obtain ⟨z, lo, vs, rel, dd⟩ := dk_rd I.hok hd
  obtain ⟨ep, hat⟩ := dd.dictAt
  have hkeys : vs.map (·.1) = ks.map Sum.inl := rel.keys.symm.trans hks
  have hl : vs.length = ks.length := by
    have e := congrArg List.length hkeys
    rw [List.length_map, List.length_map] at e
    exact e
  have hint : ∀ i v, (∃ k x, vs[i]? = some (k, x) ∧ (mixKind X.prog X.w).is k v = true) → i < ks.length ∧ ∃ t, v = Value.int (ks.getD i 0) t := by
    rintro i v ⟨k, x, e1, e2⟩
    have hi : i < ks.length := by rw [← hl]; exact (List.getElem?_eq_some_iff.mp e1).1
    refine ⟨hi, ?_⟩
    have e3 : (vs.map (·.1))[i]? = some k := by rw [List.getElem?_map, e1]; rfl
    rw [hkeys, List.getElem?_map, List.getElem?_eq_getElem hi] at e3
    have e5 : Sum.inl ks[i] = k := Option.some.inj e3
    subst e5
    have e6 : ks.getD i 0 = ks[i] := by rw [List.getD_eq_getElem?_getD, List.getElem?_eq_getElem hi]; rfl
    rw [e6]
    rcases keyIs_shape (show keyIs (Sum.inl ks[i]) v = true from e2) with ⟨j, t, ek, ev⟩ | ⟨j, t, ek, ev⟩
    · cases ek
      exact ⟨t, ev⟩
    · cases ek
  show wpAny _ X.A (call (.builtin "max") [.ref a] [(Str.ofString "default", wd)]) _ _ _
  refine call_max_walkD (wpAny_pyIter_dict lo hat ?_)
  have hne := hat.lt_size
  refine ⟨s.heap.objs.size, _, _, _, vs.length, _, _, s.heap, (fun i j => decide (ks.getD i 0 > ks.getD j 0)), rfl, (Walks.dictKeys (knd := mixKind X.prog X.w) (A := X.A.in1) (by simp [I.ok.hd hcalm]) _ a (Nat.ne_of_lt hne) vs ep).toS, ⟨⟨_, Heap.get?_push_size _ rfl, rfl, rfl⟩, hat.push _⟩, fun b hb => ?_, fun b o e hb => ?_, fun b o e => Heap.get?_push_of_some _ e, fun hz s' m => ?_, fun hp => ⟨fun i j vi vj s' Q' E' _ hi hj hq => ?_, fun v s' hP m => ?_⟩⟩
  · show b < (s.heap.push _).objs.size
    rw [Heap.size_push]
    rcases List.mem_cons.mp hb with rfl | hb
    · exact Nat.lt_succ_self _
    · rw [List.mem_singleton.mp hb]
      exact Nat.lt_succ_of_lt hne
  · rw [List.mem_singleton.mp hb] at e
    exact absurd (Heap.lt_size e) (Nat.lt_irrefl _)
  · obtain ⟨h', tk, rfl, hk'⟩ := PySem.W.moved_old rfl rfl m
    exact ⟨.int d, H, I.kept hk', rd, q0 (List.eq_nil_of_length_eq_zero (by omega))⟩
  · obtain ⟨hi1, t1, rfl⟩ := hint i vi hi
    obtain ⟨hj1, t2, rfl⟩ := hint j vj hj
    exact PyProof.Rows.gt_int hq
  · obtain ⟨h', tk, rfl, hk'⟩ := PySem.W.moved_old rfl rfl m
    obtain ⟨hi1, t1, rfl⟩ := hint _ v hP
    obtain ⟨h1, h2⟩ := PySem.argBest_gt (fun i => ks.getD i 0) (vs.length - 1)
    refine ⟨.int _, H, I.kept hk', ⟨t1, rfl⟩, q1 _ ?_ fun y hy => ?_⟩
    · rw [List.getD_eq_getElem?_getD, List.getElem?_eq_getElem hi1]
      exact List.getElem_mem hi1
    · obtain ⟨j, hj, ej⟩ := List.getElem_of_mem hy
      have := h2 j (by omega)
      have e6 : ks.getD j 0 = y := by rw [List.getD_eq_getElem?_getD, List.getElem?_eq_getElem hj]; exact ej
      rw [e6] at this
      exact this
end My
namespace My
open PySem PySem.Spec PyProof.Rows L2
def rEqE : R2 := fun x y H Q => ∃ (a b : Addr) (ks : List (Key × V)), x = .ref a ∧ y = .ref b ∧ H a = some (.dK ks) ∧ H b = some (.dK []) ∧ Q (.bl ks.isEmpty) H
def rNeE : R2 := fun x y H Q => ∃ (a b : Addr) (ks : List (Key × V)), x = .ref a ∧ y = .ref b ∧ H a = some (.dK ks) ∧ H b = some (.dK []) ∧ Q (.bl (!ks.isEmpty)) H
section
variable {X : Cx}
theorem op_eqE (hu : X.A.units < cLine) : OpR X (compareOp .Eq) rEqE := by
  intro pins s σ H x y v u Q I rx ry h
  obtain ⟨a, b, ks, rfl, rfl, ea, eb, q⟩ := h
  obtain rfl : v = Value.ref a := rx
  obtain rfl : u = Value.ref b := ry
  obtain ⟨_, ya, va, ra, da⟩ := (show ObjOk X.prog X.w H s.heap a (.dK ks) from I.hok a _ ea)
  obtain ⟨_, yb, vb, rb, db⟩ := (show ObjOk X.prog X.w H s.heap b (.dK []) from I.hok b _ eb)
  have l1 := ra.length
  have l2 := rb.length
  refine PySem.W.keq_eq (knd := mixKind X.prog X.w) (r := true) ya yb da db hu (fun e => hits_all rb ra fun p hp => ?_) (fin_bl I q ?_)
  · have : ks = [] := List.eq_nil_of_length_eq_zero (by rw [l1, e, ← l2]; rfl)
    rw [this] at hp
    cases hp
  · rw [← l1, ← l2]
    cases ks <;> simp
theorem op_neE (hu : X.A.units < cLine) : OpR X (compareOp .NotEq) rNeE := by
  intro pins s σ H x y v u Q I rx ry h
  obtain ⟨a, b, ks, rfl, rfl, ea, eb, q⟩ := h
  obtain rfl : v = Value.ref a := rx
  obtain rfl : u = Value.ref b := ry
  obtain ⟨_, ya, va, ra, da⟩ := (show ObjOk X.prog X.w H s.heap a (.dK ks) from I.hok a _ ea)
  obtain ⟨_, yb, vb, rb, db⟩ := (show ObjOk X.prog X.w H s.heap b (.dK []) from I.hok b _ eb)
  have l1 := ra.length
  have l2 := rb.length
  refine PySem.W.keq_ne (knd := mixKind X.prog X.w) (r := true) ya yb da db hu (fun e => hits_all rb ra fun p hp => ?_) (fin_bl I q ?_)
  · have : ks = [] := List.eq_nil_of_length_eq_zero (by rw [l1, e, ← l2]; rfl)
    rw [this] at hp
    cases hp
  · rw [← l1, ← l2]
    cases ks <;> simp
end
end My
namespace My
open PySem L2
def top (i : Nat) : Stmt := PySem.Challenge.pw_carrykeys_k08_next_keys.main.body.getD i (.Pass ⟨0, 0, 0, 0⟩)
abbrev s_law_at : Stmt := top 32
abbrev s_law_begin : Stmt := top 33
abbrev s_law_take : Stmt := top 34
abbrev s_law_word : Stmt := top 35
abbrev s_law_words : Stmt := top 36
abbrev s_is_flag : Stmt := top 16
abbrev s_is_one_of : Stmt := top 17
abbrev s_is_name : Stmt := top 18
abbrev s_is_reference : Stmt := top 26
abbrev s_are_distinct : Stmt := top 27
abbrev s_are_references : Stmt := top 25
abbrev s_is_table : Stmt := top 24
abbrev s_are_tables : Stmt := top 22
abbrev s_refer_within : Stmt := top 23
abbrev s_is_whole : Stmt := top 15
abbrev s_is_key : Stmt := top 19
abbrev s_is_label : Stmt := top 20
abbrev s_is_row : Stmt := top 21
abbrev s_Schema_init : Stmt := inClass (top 29) 0
abbrev s_Schema_tables : Stmt := inClass (top 29) 2
abbrev s_Schema__entry : Stmt := inClass (top 29) 7
abbrev s_Schema_is_unique : Stmt := inClass (top 29) 5
abbrev s_Schema_columns : Stmt := inClass (top 29) 3
abbrev s_Database_init : Stmt := inClass (top 30) 0
abbrev s_Database__is_taken : Stmt := inClass (top 30) 15
abbrev s_Database___setitem__ : Stmt := inClass (top 30) 2
abbrev s_Database__has : Stmt := inClass (top 30) 13
abbrev s_Database___getitem__ : Stmt := inClass (top 30) 1
abbrev s_Database_drop : Stmt := inClass (top 30) 7
abbrev s_Database__held : Stmt := inClass (top 30) 14
abbrev s_Database_next_key : Stmt := inClass (top 30) 11
abbrev s_law_whole : Stmt := top 38
abbrev s_law_next : Stmt := top 41
abbrev s_law_all_next : Stmt := top 42
abbrev s_law : Stmt := top 43
theorem sc_law_at : FnScope ["script", "k"] ["script", "k"] (defScope s_law_at) := ⟨rfl, rfl, rfl, by decide +kernel, rfl, by decide +kernel, by decide +kernel⟩
theorem sc_law_begin : FnScope ["cell"] ["cell"] (defScope s_law_begin) := ⟨rfl, rfl, rfl, by decide +kernel, rfl, by decide +kernel, by decide +kernel⟩
theorem sc_law_take : FnScope ["state", "base", "k", "number", "digit"] ["state", "base"] (defScope s_law_take) := ⟨rfl, rfl, rfl, by decide +kernel, rfl, by decide +kernel, by decide +kernel⟩
theorem sc_law_word : FnScope ["state", "letters", "size", "k"] ["state"] (defScope s_law_word) := ⟨rfl, rfl, rfl, by decide +kernel, rfl, by decide +kernel, by decide +kernel⟩
theorem sc_law_words : FnScope ["state", "count", "letters", "words", "k", "word", "way", "near", "at", "letter"] ["state", "count"] (defScope s_law_words) := ⟨rfl, rfl, rfl, by decide +kernel, rfl, by decide +kernel, by decide +kernel⟩
theorem sc_is_flag : FnScope ["value"] ["value"] (defScope s_is_flag) := ⟨rfl, rfl, rfl, by decide +kernel, rfl, by decide +kernel, by decide +kernel⟩
theorem sc_is_one_of : FnScope ["value", "words"] ["value", "words"] (defScope s_is_one_of) := ⟨rfl, rfl, rfl, by decide +kernel, rfl, by decide +kernel, by decide +kernel⟩
theorem sc_is_name : FnScope ["value", "letter"] ["value"] (defScope s_is_name) := ⟨rfl, rfl, rfl, by decide +kernel, rfl, by decide +kernel, by decide +kernel⟩
theorem sc_is_reference : FnScope ["value", "column", "target"] ["value"] (defScope s_is_reference) := ⟨rfl, rfl, rfl, by decide +kernel, rfl, by decide +kernel, by decide +kernel⟩
theorem sc_are_distinct : FnScope ["names"] ["names"] (defScope s_are_distinct) := ⟨rfl, rfl, rfl, by decide +kernel, rfl, by decide +kernel, by decide +kernel⟩
theorem sc_are_references : FnScope ["value", "item"] ["value"] (defScope s_are_references) := ⟨rfl, rfl, rfl, by decide +kernel, rfl, by decide +kernel, by decide +kernel⟩
theorem sc_is_table : FnScope ["value", "name", "unique", "references"] ["value"] (defScope s_is_table) := ⟨rfl, rfl, rfl, by decide +kernel, rfl, by decide +kernel, by decide +kernel⟩
theorem sc_are_tables : FnScope ["value", "item"] ["value"] (defScope s_are_tables) := ⟨rfl, rfl, rfl, by decide +kernel, rfl, by decide +kernel, by decide +kernel⟩
theorem sc_refer_within : FnScope ["tables", "names", "item", "_", "target"] ["tables"] (defScope s_refer_within) := ⟨rfl, rfl, rfl, by decide +kernel, rfl, by decide +kernel, by decide +kernel⟩
theorem sc_is_whole : FnScope ["value"] ["value"] (defScope s_is_whole) := ⟨rfl, rfl, rfl, by decide +kernel, rfl, by decide +kernel, by decide +kernel⟩
theorem sc_is_key : FnScope ["value"] ["value"] (defScope s_is_key) := ⟨rfl, rfl, rfl, by decide +kernel, rfl, by decide +kernel, by decide +kernel⟩
theorem sc_is_label : FnScope ["value"] ["value"] (defScope s_is_label) := ⟨rfl, rfl, rfl, by decide +kernel, rfl, by decide +kernel, by decide +kernel⟩
theorem sc_is_row : FnScope ["value", "width", "label", "cells", "cell"] ["value", "width"] (defScope s_is_row) := ⟨rfl, rfl, rfl, by decide +kernel, rfl, by decide +kernel, by decide +kernel⟩
theorem sc_Schema_init : FnScope ["self", "tables", "entry"] ["self", "tables"] (defScope s_Schema_init) := ⟨rfl, rfl, rfl, by decide +kernel, rfl, by decide +kernel, by decide +kernel⟩
theorem sc_Schema_tables : FnScope ["self"] ["self"] (defScope s_Schema_tables) := ⟨rfl, rfl, rfl, by decide +kernel, rfl, by decide +kernel, by decide +kernel⟩
theorem sc_Schema__entry : FnScope ["self", "name"] ["self", "name"] (defScope s_Schema__entry) := ⟨rfl, rfl, rfl, by decide +kernel, rfl, by decide +kernel, by decide +kernel⟩
theorem sc_Schema_is_unique : FnScope ["self", "name"] ["self", "name"] (defScope s_Schema_is_unique) := ⟨rfl, rfl, rfl, by decide +kernel, rfl, by decide +kernel, by decide +kernel⟩
theorem sc_Schema_columns : FnScope ["self", "name", "column", "_"] ["self", "name"] (defScope s_Schema_columns) := ⟨rfl, rfl, rfl, by decide +kernel, rfl, by decide +kernel, by decide +kernel⟩
theorem sc_Database_init : FnScope ["self", "schema", "entry"] ["self", "schema"] (defScope s_Database_init) := ⟨rfl, rfl, rfl, by decide +kernel, rfl, by decide +kernel, by decide +kernel⟩
theorem sc_Database__is_taken : FnScope ["self", "table", "key", "label", "held", "other"] ["self", "table", "key", "label"] (defScope s_Database__is_taken) := ⟨rfl, rfl, rfl, by decide +kernel, rfl, by decide +kernel, by decide +kernel⟩
theorem sc_Database___setitem__ : FnScope ["self", "at", "worth", "table", "key", "width"] ["self", "at", "worth"] (defScope s_Database___setitem__) := ⟨rfl, rfl, rfl, by decide +kernel, rfl, by decide +kernel, by decide +kernel⟩
theorem sc_Database__has : FnScope ["self", "table", "key"] ["self", "table", "key"] (defScope s_Database__has) := ⟨rfl, rfl, rfl, by decide +kernel, rfl, by decide +kernel, by decide +kernel⟩
theorem sc_Database___getitem__ : FnScope ["self", "at", "table", "key"] ["self", "at"] (defScope s_Database___getitem__) := ⟨rfl, rfl, rfl, by decide +kernel, rfl, by decide +kernel, by decide +kernel⟩
theorem sc_Database_drop : FnScope ["self", "table", "key"] ["self", "table", "key"] (defScope s_Database_drop) := ⟨rfl, rfl, rfl, by decide +kernel, rfl, by decide +kernel, by decide +kernel⟩
theorem sc_Database__held : FnScope ["self", "table"] ["self", "table"] (defScope s_Database__held) := ⟨rfl, rfl, rfl, by decide +kernel, rfl, by decide +kernel, by decide +kernel⟩
theorem sc_Database_next_key : FnScope ["self", "table"] ["self", "table"] (defScope s_Database_next_key) := ⟨rfl, rfl, rfl, by decide +kernel, rfl, by decide +kernel, by decide +kernel⟩
theorem sc_law_whole : FnScope ["found"] ["found"] (defScope s_law_whole) := ⟨rfl, rfl, rfl, by decide +kernel, rfl, by decide +kernel, by decide +kernel⟩
theorem sc_law_next : FnScope ["rows"] ["rows"] (defScope s_law_next) := ⟨rfl, rfl, rfl, by decide +kernel, rfl, by decide +kernel, by decide +kernel⟩
theorem sc_law_all_next : FnScope ["bases", "helds", "names", "turn", "k", "at", "order", "name", "found"] ["bases", "helds", "names", "turn"] (defScope s_law_all_next) := ⟨rfl, rfl, rfl, by decide +kernel, rfl, by decide +kernel, by decide +kernel⟩
theorem sc_law : FnScope ["script", "state", "names", "schema", "bases", "helds", "held", "cell", "name", "deed", "at", "way", "rows", "base", "key", "row"] ["script"] (defScope s_law) := ⟨rfl, rfl, rfl, by decide +kernel, rfl, by decide +kernel, by decide +kernel⟩
structure Txt (K : PySem.W.Frag) (mg : Str → Option Value) (CS CD : Addr) : Prop where
  c_Schema : ClassAt K mg CS "Schema"
  a_Schema_tables : NoAttr K CS "_tables"
  a_Schema_entries : NoAttr K CS "_entries"
  c_Database : ClassAt K mg CD "Database"
  a_Database_schema : NoAttr K CD "_schema"
  a_Database_rows : NoAttr K CD "_rows"
  q_Database : PySem.W.noSeq K CD = true
  d_law_at : DefAt K mg "_law_at" s_law_at ["script", "k"]
  d_law_begin : DefAt K mg "_law_begin" s_law_begin ["cell"]
  d_law_take : DefAt K mg "_law_take" s_law_take ["state", "base"]
  d_law_word : DefAt K mg "_law_word" s_law_word ["state"]
  d_law_words : DefAt K mg "_law_words" s_law_words ["state", "count"]
  d_is_flag : DefAt K mg "is_flag" s_is_flag ["value"]
  d_is_one_of : DefAt K mg "is_one_of" s_is_one_of ["value", "words"]
  d_is_name : DefAt K mg "is_name" s_is_name ["value"]
  d_is_reference : DefAt K mg "_is_reference" s_is_reference ["value"]
  d_are_distinct : DefAt K mg "_are_distinct" s_are_distinct ["names"]
  d_are_references : DefAt K mg "_are_references" s_are_references ["value"]
  d_is_table : DefAt K mg "_is_table" s_is_table ["value"]
  d_are_tables : DefAt K mg "are_tables" s_are_tables ["value"]
  d_refer_within : DefAt K mg "refer_within" s_refer_within ["tables"]
  d_is_whole : DefAt K mg "is_whole" s_is_whole ["value"]
  d_is_key : DefAt K mg "is_key" s_is_key ["value"]
  d_is_label : DefAt K mg "is_label" s_is_label ["value"]
  d_is_row : DefAt K mg "is_row" s_is_row ["value", "width"]
  d_Schema_init : MethAt K CS "__init__" "Schema.__init__" s_Schema_init ["self", "tables"]
  d_Schema_tables : MethAt K CS "tables" "Schema.tables" s_Schema_tables ["self"]
  d_Schema__entry : MethAt K CS "_entry" "Schema._entry" s_Schema__entry ["self", "name"]
  d_Schema_is_unique : MethAt K CS "is_unique" "Schema.is_unique" s_Schema_is_unique ["self", "name"]
  d_Schema_columns : MethAt K CS "columns" "Schema.columns" s_Schema_columns ["self", "name"]
  d_Database_init : MethAt K CD "__init__" "Database.__init__" s_Database_init ["self", "schema"]
  d_Database__is_taken : MethAt K CD "_is_taken" "Database._is_taken" s_Database__is_taken ["self", "table", "key", "label"]
  d_Database___setitem__ : MethAt K CD "__setitem__" "Database.__setitem__" s_Database___setitem__ ["self", "at", "worth"]
  d_Database__has : MethAt K CD "_has" "Database._has" s_Database__has ["self", "table", "key"]
  d_Database___getitem__ : MethAt K CD "__getitem__" "Database.__getitem__" s_Database___getitem__ ["self", "at"]
  d_Database_drop : MethAt K CD "drop" "Database.drop" s_Database_drop ["self", "table", "key"]
  d_Database__held : MethAt K CD "_held" "Database._held" s_Database__held ["self", "table"]
  d_Database_next_key : MethAt K CD "next_key" "Database.next_key" s_Database_next_key ["self", "table"]
  d_law_whole : DefAt K mg "_law_whole" s_law_whole ["found"]
  d_law_next : DefAt K mg "_law_next" s_law_next ["rows"]
  d_law_all_next : DefAt K mg "_law_all_next" s_law_all_next ["bases", "helds", "names", "turn"]
  d_law : DefAt K mg "law" s_law ["script"]
  v_LETTERS : ∃ u, mg "LETTERS" = some u ∧ RelV (.str "abcdefghijklmnopqrstuvwxyz") u
  v_LONGEST_NAME : ∃ u, mg "LONGEST_NAME" = some u ∧ RelV (.int 8) u
  v_MOST_TABLES : ∃ u, mg "MOST_TABLES" = some u ∧ RelV (.int 5) u
  v_MOST_REFERENCES : ∃ u, mg "MOST_REFERENCES" = some u ∧ RelV (.int 3) u
  v_LABELS_END : ∃ u, mg "LABELS_END" = some u ∧ RelV (.int 1000000000000000000000000000000) u
  n_len : mg "len" = none
  n_range : mg "range" = none
  n_int : mg "int" = none
  n_tuple : mg "tuple" = none
  n_isinstance : mg "isinstance" = none
  n_str : mg "str" = none
  n_bool : mg "bool" = none
  n_list : mg "list" = none
  n_all : mg "all" = none
  n_set : mg "set" = none
  n_dict : mg "dict" = none
  n_max : mg "max" = none
  n_sorted : mg "sorted" = none
end My
namespace My
open PySem L2
def spAt (K : PySem.W.Frag) : Sp := fun vs H Q _ => ∃ (a : Addr) (ns : List Int) (k : Nat), vs = [.ref a, .int k] ∧ SqL K H a (ns.map V.int) ∧ ∀ z : Int, Q (.int z) H
theorem ok_law_at {P : Program} {w : World} {K : PySem.W.Frag} {mg : Str → Option Value} {base : Heap} {CS CD : Addr} (T : Txt K mg CS CD) : CallOk P w K mg base 1 "_law_at" (spAt K) := by
  refine T.d_law_at.ok sc_law_at (fun vs H Q E h => ?_) (fun f cdv A outer s H vs Q E hr h => ?_)
  · obtain ⟨a, ns, k, rfl, _⟩ := h
    rfl
  · obtain ⟨a, ns, k, rfl, hS, q⟩ := h
    refine ⟨_, (pss_cons (ps_if (pt_cmpR op_lt (pv 1) (pe_callB (kLen (K := K)) (by rfl) T.n_len PySem.boot_len (pa_cons (pv 0) pa_nil)) (nomark _)) (pss_one (ps_ret (pe_ix (kIxL (K := K)) (pv 0) (pv 1) (fun _ _ => rfl)))) pss_nil)
      (pss_one (ps_ret pe_int))), ?_⟩
    refine ⟨_, rfl, _, rfl, a, _, rfl, .inl hS, _, _, rfl, rfl, _, rfl, ?_⟩
    refine ite2 (fun c => ?_) (fun _ => ?_)
    · have hk : k < ns.length := by
        have := of_decide_eq_true c
        rw [List.length_map] at this
        omega
      refine ⟨_, rfl, _, rfl, a, _, _, V.int ns[k], rfl, rfl, hS, atI_nat ?_, q _⟩
      rw [List.getElem?_map, List.getElem?_eq_getElem hk] <;> rfl
    · exact q 0
end My
namespace My
open PySem L2
def spBegin : Sp := fun vs H Q _ => ∃ z : Int, vs = [.int z] ∧ ∀ p H', H p = none → Same H H' → StAt H' p 1000000 → Q (.ref p) H'
theorem ok_law_begin {P : Program} {w : World} {K : PySem.W.Frag} {mg : Str → Option Value} {base : Heap} {CS CD : Addr} (T : Txt K mg CS CD) : CallOk P w K mg base 1 "_law_begin" spBegin := by
  refine T.d_law_begin.ok sc_law_begin (fun vs H Q E h => ?_) (fun f cdv A outer s H vs Q E hr h => ?_)
  · obtain ⟨z, rfl, _⟩ := h
    rfl
  · obtain ⟨z, rfl, q⟩ := h
    refine ⟨_, (pss_cons (ps_if (pt_cmpR op_ge (pv 0) (pe_op op_pow pe_int pe_int) (nomark _)) (pss_one (ps_ret (pe_lst (pa_cons (pe_op op_sub (pv 0) (pe_op op_pow pe_int pe_int)) (pa_cons (pv 0) (pa_cons pe_int pa_nil)))))) pss_nil)
      (pss_one (ps_ret (pe_lst (pa_cons (pe_un un_neg pe_int) (pa_cons (pv 0) (pa_cons pe_int pa_nil))))))), ?_⟩
    refine ⟨_, rfl, _, _, rfl, rfl, ⟨by decide, by decide, by decide⟩, _, _, rfl, rfl, _, rfl, ?_⟩
    refine ite2 (fun c => ?_) (fun _ => ?_)
    · refine ⟨_, rfl, _, _, rfl, rfl, ⟨by decide, by decide, by decide⟩, _, _, rfl, rfl, _, rfl, sizeL (by show 3 ≤ 100000; decide), fun p hp => ?_⟩
      exact q p _ hp (Same.upd (Same.refl H) hp) ⟨_, _, _, upd_same, by omega, by omega⟩
    · refine ⟨_, rfl, _, rfl, sizeL (by show 3 ≤ 100000; decide), fun p hp => ?_⟩
      exact q p _ hp (Same.upd (Same.refl H) hp) ⟨_, _, _, upd_same, by omega, by omega⟩
end My
namespace My
open PySem L2
def spTake : Sp := fun vs H Q _ => ∃ (a : Addr) (b : Int) (n : Nat), vs = [.ref a, .int b] ∧ 0 < b ∧ b < 2 ^ 200 ∧ StAt H a (n + 1) ∧ ∀ (d : Int) H', 0 ≤ d → d < b → StAt H' a n → Fr1 a H H' → Q (.int d) H'
theorem ok_law_take {P : Program} {w : World} {K : PySem.W.Frag} {mg : Str → Option Value} {base : Heap} {CS CD : Addr} (T : Txt K mg CS CD) : CallOk P w K mg base 1 "_law_take" spTake := by
  refine T.d_law_take.ok sc_law_take (fun vs H Q E h => ?_) (fun f cdv A outer s H vs Q E hr h => ?_)
  · obtain ⟨a, b, n, rfl, _⟩ := h
    rfl
  · obtain ⟨a, b, n, rfl, hb0, hb1, ⟨x, y, k, hs, k0, k1⟩, q⟩ := h
    have hS : SqL K H a [.int x, .int y, .int k] := SqL.of hs
    have hbn : b.natAbs < 2 ^ 200 := by omega
    have hbd : CDivW x b := wide_div hb0 hbn (by decide) (by decide)
    refine ⟨_, (pss_cons (ps_if (pt_cmpR op_ge (pe_ix (kIxL (K := K)) (pv 0) pe_int (fun _ _ => rfl)) pe_int (nomark _)) (pss_cons (ps_set (i := 4) sc_law_take.nd rfl (by first | exact Or.inl rfl | exact Or.inr rfl) (pe_op op_mod (pe_callTy call_int1 (by rfl) T.n_int (by decide +kernel) (pa_cons (pe_ix (kIxL (K := K)) (pv 0) pe_int (fun _ _ => rfl)) pa_nil)) (pv 1)))
        (pss_cons (ps_asg (pe_op op_fdivW (pe_ix (kIxL (K := K)) (pv 0) pe_int (fun _ _ => rfl)) (pv 1)) (pg_sub (pv 0) pe_int set_list))
        (pss_one (ps_ret (pv 4))))) pss_nil)
      (pss_cons (ps_set (i := 2) sc_law_take.nd rfl (by first | exact Or.inl rfl | exact Or.inr rfl) (pe_ix (kIxL (K := K)) (pv 0) pe_int (fun _ _ => rfl)))
      (pss_cons (ps_asg (pe_op op_add (pv 2) pe_int) (pg_sub (pv 0) pe_int set_list))
      (pss_cons (ps_set (i := 3) sc_law_take.nd rfl (by first | exact Or.inl rfl | exact Or.inr rfl) (pe_op op_mul (pe_op op_add (pe_op op_add (pe_op op_add (pe_op op_mod (pe_callTy call_int1 (by rfl) T.n_int (by decide +kernel) (pa_cons (pe_ix (kIxL (K := K)) (pv 0) pe_int (fun _ _ => rfl)) pa_nil)) pe_int) (pe_op op_mul (pv 2) (pv 2))) (pv 2)) pe_int) (pe_op op_add (pe_op op_mul pe_int (pv 2)) pe_int)))
      (pss_cons (ps_set (i := 3) sc_law_take.nd rfl (by first | exact Or.inl rfl | exact Or.inr rfl) (pe_op op_mod (pe_callTy call_int1 (by rfl) T.n_int (by decide +kernel) (pa_cons (pv 3) pa_nil)) pe_int))
      (pss_cons (ps_set (i := 3) sc_law_take.nd rfl (by first | exact Or.inl rfl | exact Or.inr rfl) (pe_op op_mod (pe_callTy call_int1 (by rfl) T.n_int (by decide +kernel) (pa_cons (pe_op op_add (pe_op op_mul (pv 3) (pv 3)) (pe_op op_mul pe_int (pv 2))) pa_nil)) pe_int))
      (pss_one (ps_ret (pe_op op_mod (pe_callTy call_int1 (by rfl) T.n_int (by decide +kernel) (pa_cons (pe_op op_fdiv (pe_op op_mul (pe_op op_add (pe_op op_add (pv 3) (pe_op op_mul pe_int (pv 2))) pe_int) (pv 3)) pe_int) pa_nil)) (pv 1)))))))))), ?_⟩
    refine ⟨_, rfl, a, _, _, _, rfl, rfl, hS, rfl, _, _, rfl, rfl, _, rfl, ?_⟩
    refine ite2 (fun c => ?_) (fun _ => ?_)
    · refine ⟨_, rfl, a, _, _, _, rfl, rfl, hS, rfl, .inl ⟨_, rfl, _, rfl, _, _, rfl, rfl, hb0, ?_⟩⟩
      refine ⟨_, rfl, a, _, _, _, rfl, rfl, hS, rfl, _, rfl, _, _, rfl, rfl, hbd, ?_⟩
      refine ⟨_, rfl, a, _, _, 0, rfl, rfl, hs, rfl, ?_⟩
      refine ⟨_, rfl, q _ _ (Int.emod_nonneg _ (by omega)) (Int.emod_lt_of_pos _ hb0) ⟨_, _, _, upd_same, k0, by omega⟩ ((Fr1.refl a H).at)⟩
    · have m0 : 0 ≤ y % 2305843009213693951 := Int.emod_nonneg _ (by decide)
      have m1 : y % 2305843009213693951 < 2305843009213693951 := Int.emod_lt_of_pos _ (by decide)
      have hkk : k * k ≤ 1000000 * 1000000 := Int.mul_le_mul (by omega) (by omega) k0 (by omega)
      have hk0 : 0 ≤ k * k := Int.mul_nonneg k0 k0
      refine ⟨_, rfl, a, _, _, _, rfl, rfl, hS, rfl, ?_⟩
      refine ⟨_, rfl, _, _, rfl, rfl, _, rfl, a, _, _, 2, rfl, rfl, hs, rfl, ?_⟩
      have hS2 : SqL K (upd H a (.lst [.int x, .int y, .int (k + 1)])) a [.int x, .int y, .int (k + 1)] := SqL.of upd_same
      refine ⟨_, rfl, a, _, _, _, rfl, rfl, hS2, rfl, .inl ⟨_, rfl, _, _, rfl, rfl, (by show (0 : Int) < 2305843009213693951; decide), _, rfl, _, rfl, _, _, rfl, rfl, .inl ⟨by omega, by omega⟩, _, _, rfl, rfl, _, rfl, _, _, rfl, rfl, _, _, rfl, rfl,
        _, rfl, _, _, rfl, rfl, .inl ⟨by omega, by omega⟩, _, _, rfl, rfl, _, _, rfl, rfl, .inl ⟨by omega, by omega⟩, ?_⟩⟩
      refine ⟨_, rfl, .inl ⟨_, rfl, _, _, rfl, rfl, (by show (0 : Int) < 2305843009213693951; decide), ?_⟩⟩
      generalize hn : ((y % 2305843009213693951 + k * k + k + 1) * (2 * k + 3)) % 2305843009213693951 = u
      have u0 : 0 ≤ u := hn ▸ Int.emod_nonneg _ (by decide)
      have u1 : u < 2305843009213693951 := hn ▸ Int.emod_lt_of_pos _ (by decide)
      refine ⟨_, rfl, _, rfl, _, _, rfl, rfl, .inl ⟨by omega, by omega⟩, _, rfl, _, _, rfl, rfl, .inl ⟨by omega, by omega⟩, _, _, rfl, rfl, .inl ⟨_, rfl, _, _, rfl, rfl, (by show (0 : Int) < 2305843009213693921; decide), ?_⟩⟩
      generalize hn2 : (u * u + 40692 * k) % 2305843009213693921 = v
      have v0 : 0 ≤ v := hn2 ▸ Int.emod_nonneg _ (by decide)
      have v1 : v < 2305843009213693921 := hn2 ▸ Int.emod_lt_of_pos _ (by decide)
      refine ⟨_, rfl, _, rfl, _, _, rfl, rfl, .inl ⟨by omega, by omega⟩, _, _, rfl, rfl, _, _, rfl, rfl, _, rfl, _, _, rfl, rfl, .inl ⟨by omega, by omega⟩, _, _, rfl, rfl, ⟨by decide, by decide⟩, .inl ⟨_, rfl, _, rfl, _, _, rfl, rfl, hb0, ?_⟩⟩
      exact q _ _ (Int.emod_nonneg _ (by omega)) (Int.emod_lt_of_pos _ hb0) ⟨_, _, _, upd_same, by omega, by omega⟩ ((Fr1.refl a H).at)
end My
namespace My
open PySem L2
def spWord : Sp := fun vs H Q _ => ∃ (a : Addr) (n : Nat), vs = [.ref a] ∧ StAt H a (n + 9) ∧ ∀ w H', Nm w → StAt H' a n → Fr1 a H H' → Q (.str w) H'
theorem ok_law_word {P : Program} {w : World} {K : PySem.W.Frag} {mg : Str → Option Value} {base : Heap} {CS CD : Addr} (T : Txt K mg CS CD) : CallOk P w K mg base 2 "_law_word" spWord := by
  have c_law_take := ok_law_take (P := P) (w := w) (base := base) T
  refine T.d_law_word.ok sc_law_word (fun vs H Q E h => ?_) (fun f cdv A outer s H vs Q E hr h => ?_)
  · obtain ⟨a, n, rfl, _⟩ := h
    rfl
  · obtain ⟨a, n, rfl, hS, q⟩ := h
    refine ⟨_, (pss_cons (ps_set (i := 1) sc_law_word.nd rfl (by first | exact Or.inl rfl | exact Or.inr rfl) pe_str)
      (pss_cons (ps_set (i := 2) sc_law_word.nd rfl (by first | exact Or.inl rfl | exact Or.inr rfl) (pe_op op_add pe_int (pe_callC c_law_take (hr.mono (by decide)) (pa_cons (pv 0) (pa_cons pe_int pa_nil)))))
      (pss_one (ps_ret (pe_join pe_str (pe_lc (own := [("k", 3)]) rfl sc_law_word.nd (pi_range1 (by rfl) T.n_range (pa_cons (pv 2) pa_nil)) (blkOk_by (N := ["state", "letters", "size", "k"]) (sc := defScope s_law_word) (own := [("k", 3)]) (by decide +kernel)) (fun _ _ _ _ _ => (pg_name (i := 3) sc_law_word.nd rfl (by first | exact Or.inl rfl | exact Or.inr rfl))) (fun _ _ _ _ _ => pts_nil) (fun _ _ _ _ _ => (pe_ix ix_str (pv 1) (pe_callC c_law_take (hr.mono (by decide)) (pa_cons (pv 0) (pa_cons pe_int pa_nil))) (fun _ _ => rfl))))))))), ?_⟩
    refine ⟨_, rfl, a, 8, n + 8, rfl, by decide, by decide, hS, fun d H1 d0 d1 hS1 e1 => ⟨_, _, rfl, rfl, ?_⟩⟩
    obtain ⟨xs1, hx1⟩ := hS1.lst
    refine ⟨⟨_, rfl⟩, _, rfl, _, rfl, by omega, by omega, fun D hD => ?_⟩
    have hDa : D ≠ a := (ne_of_none hx1 hD).symm
    refine lc_range (lo := 0) (n := (1 + d).toNat) (fun i Hi => ∃ cs : List Nat, cs.length = i ∧ (∀ c ∈ cs, 97 ≤ c ∧ c ≤ 122) ∧ Hi D = some (.lst (cs.map fun c => V.str ⟨#[c]⟩)) ∧ StAt Hi a (n + (8 - i)) ∧ Fr1 a H1 Hi) ?_ ?_ ?_
    · exact ⟨[], rfl, by simp, upd_same, hS1.upd (hDa.symm), (Fr1.refl a H1).upd hD⟩
    · rintro i Hi hi ⟨cs, hc, az, hl, hs, e2⟩
      refine ⟨rfl, tYes_if ?_⟩
      refine ⟨_, rfl, _, rfl, a, 26, n + (8 - (i + 1)), rfl, by decide, by decide, hs.mono (by omega), fun z H2 z0 z1 hs2 e3 => ?_⟩
      obtain ⟨j, rfl⟩ : ∃ j : Nat, z = (j : Int) := ⟨z.toNat, by omega⟩
      have hj : j < 26 := by omega
      refine ⟨abc, _, 97 + j, rfl, rfl, sizeL (by rw [abc_len]; decide), atI_nat (abc_at j hj), _, e3 D _ hDa hl, sizeLt (by rw [List.length_map]; omega), cs ++ [97 + j], by simp [hc], ?_, ?_, hs2.upd hDa.symm, ?_⟩
      · intro c hm
        rcases List.mem_append.mp hm with m | m
        · exact az c m
        · rw [List.mem_singleton.mp m]
          omega
      · rw [upd_same, List.map_append]
        rfl
      · exact fun c o nc hc => by
          rw [upd_ne (ne_of_none hc hD)]
          exact e3 c o nc (e2 c o nc hc)
    · rintro Hi ⟨cs, hc, az, hl, hs, e2⟩
      refine ⟨_, D, cs.map fun c => ⟨#[c]⟩, rfl, rfl, .inl (SqL.of ?_), ?_, ?_⟩
      · rw [hl, List.map_map]
        rfl
      · have e0 : ((cs.map fun c => (⟨#[c]⟩ : Str)).map (·.length)).sum = cs.length := by
          clear hc az hl
          induction cs with
          | nil => rfl
          | cons c r ih =>
            rw [List.map_cons, List.map_cons, List.sum_cons, ih, List.length_cons]
            show 1 + r.length = r.length + 1
            omega
        rw [e0, List.length_map]
        have : (Str.ofString "").length = 0 := by decide +kernel
        rw [this]
        omega
      · refine q _ Hi (Nm.of (cd_join cs) (by omega) (by omega) az) (hs.mono (by omega)) (e1.trans e2)
end My
namespace My
open PySem L2
structure WsAt (H : Hp) (a p : Addr) (n : Nat) (ws : List Str) (Hi : Hp) : Prop where
  nd : ws.Nodup
  nm : ∀ w ∈ ws, Nm w
  at_ : Hi p = some (.lst (ws.map V.str))
  st : StAt Hi a n
  fr : Fr1 a H Hi
theorem WsAt.step {H Hi Hj : Hp} {a p : Addr} {n m : Nat} {ws : List Str} (h : WsAt H a p n ws Hi) (np : p ≠ a) (s : StAt Hj a m) (e : Fr1 a Hi Hj) : WsAt H a p m ws Hj :=
  ⟨h.nd, h.nm, e p _ np h.at_, s, h.fr.trans e⟩
theorem WsAt.new {H Hi : Hp} {a p q : Addr} {n : Nat} {ws : List Str} {o : HO} (h : WsAt H a p n ws Hi) (hq : Hi q = none) : WsAt H a p n ws (upd Hi q o) :=
  ⟨h.nd, h.nm, by rw [upd_ne (ne_of_none h.at_ hq)]; exact h.at_, h.st.upd (h.st.ne hq), fun c u nc hc => by
    have := h.fr c u nc hc
    rw [upd_ne (ne_of_none this hq)]
    exact this⟩
def spWords : Sp := fun vs H Q _ => ∃ (a : Addr) (z : Int) (c n : Nat), vs = [.ref a, .int z] ∧ z = (c : Int) ∧ c ≤ 6 ∧ StAt H a (n + 12 * c) ∧
  ∀ (p : Addr) (ws : List Str) (H' : Hp), H p = none → ws.length = c → ws.Nodup → (∀ w ∈ ws, Nm w) → H' p = some (.lst (ws.map V.str)) → StAt H' a n → Fr1 a H H' → Q (.ref p) H'
theorem ok_law_words {P : Program} {w : World} {K : PySem.W.Frag} {mg : Str → Option Value} {base : Heap} {CS CD : Addr} (T : Txt K mg CS CD) : CallOk P w K mg base 3 "_law_words" spWords := by
  have c_law_take := ok_law_take (P := P) (w := w) (base := base) T
  have c_law_word := ok_law_word (P := P) (w := w) (base := base) T
  refine T.d_law_words.ok sc_law_words (fun vs H Q E h => ?_) (fun f cdv A outer s H vs Q E hr h => ?_)
  · obtain ⟨a, z, c, n, rfl, _⟩ := h
    rfl
  · obtain ⟨a, _, c, n, rfl, rfl, hc6, hS, q⟩ := h
    refine ⟨_, (pss_cons (ps_set (i := 2) sc_law_words.nd rfl (by first | exact Or.inl rfl | exact Or.inr rfl) pe_str)
      (pss_cons (ps_set (i := 3) sc_law_words.nd rfl (by first | exact Or.inl rfl | exact Or.inr rfl) (pe_lst pa_nil))
      (pss_cons (ps_for PassesOwn.never rfl (pi_range1 (by rfl) T.n_range (pa_cons (pv 1) pa_nil)) (pg_name (i := 4) sc_law_words.nd rfl (by first | exact Or.inl rfl | exact Or.inr rfl))
      (pss_cons (ps_set (i := 5) sc_law_words.nd rfl (by first | exact Or.inl rfl | exact Or.inr rfl) (pe_callC c_law_word (hr.mono (by decide)) (pa_cons (pv 0) pa_nil)))
          (pss_cons (ps_set (i := 6) sc_law_words.nd rfl (by first | exact Or.inl rfl | exact Or.inr rfl) (pe_callC c_law_take (hr.mono (by decide)) (pa_cons (pv 0) (pa_cons pe_int pa_nil))))
          (Evl.pss_cut (ps_if (PW.pt (pw_and (pt_cmpR (kNeD (K := K) hr.units) (pv 3) (pe_lst pa_nil) (nomark _)) (pw_and1 (pt_cmpR op_gt (pv 6) pe_int (nomark _))))) (pss_cons (ps_set (i := 7) sc_law_words.nd rfl (by first | exact Or.inl rfl | exact Or.inr rfl) (pe_ix (kIxL (K := K)) (pv 3) (pe_un un_neg pe_int) (fun _ _ => rfl)))
        (pss_cons (ps_set (i := 8) sc_law_words.nd rfl (by first | exact Or.inl rfl | exact Or.inr rfl) (pe_callC c_law_take (hr.mono (by decide)) (pa_cons (pv 0) (pa_cons (pe_callB call_len_str (by rfl) T.n_len PySem.boot_len (pa_cons (pv 7) pa_nil)) pa_nil))))
        (pss_cons (ps_set (i := 5) sc_law_words.nd rfl (by first | exact Or.inl rfl | exact Or.inr rfl) (pe_op op_add_str (pe_op op_add_str (pe_slice sl_str (pv 7) po_none (po_some (pv 8))) (pe_ix ix_str (pv 2) (pe_callC c_law_take (hr.mono (by decide)) (pa_cons (pv 0) (pa_cons pe_int pa_nil))) (fun _ _ => rfl))) (pe_slice sl_str (pv 7) (po_some (pe_op op_add (pv 8) pe_int)) po_none)))
        (Evl.pss_cut (ps_if (PW.pt (pw_and (pt_cmpR op_eq (pv 6) pe_int (nomark _)) (pw_and1 (pt_cmpR op_lt (pe_callB call_len_str (by rfl) T.n_len PySem.boot_len (pa_cons (pv 7) pa_nil)) pe_int (nomark _))))) (pss_one (ps_set (i := 5) sc_law_words.nd rfl (by first | exact Or.inl rfl | exact Or.inr rfl) (pe_op op_add_str (pv 7) (pe_ix ix_str (pv 5) (pv 8) (fun _ _ => rfl))))) pss_nil)
        (pss_one (ps_if (PW.pt (pw_and (pt_cmpR op_eq (pv 6) pe_int (nomark _)) (pw_and1 (pt_cmpR op_gt (pe_callB call_len_str (by rfl) T.n_len PySem.boot_len (pa_cons (pv 7) pa_nil)) pe_int (nomark _))))) (pss_one (ps_set (i := 5) sc_law_words.nd rfl (by first | exact Or.inl rfl | exact Or.inr rfl) (pe_op op_add_str (pe_slice sl_str (pv 7) po_none (po_some (pv 8))) (pe_slice sl_str (pv 7) (po_some (pe_op op_add (pv 8) pe_int)) po_none)))) pss_nil)))))) pss_nil)
          (Evl.pss_cut (ps_if (pt_cmpR (kIn (K := K)) (pv 5) (pv 3) rfl) (pss_one (ps_set (i := 5) sc_law_words.nd rfl (by first | exact Or.inl rfl | exact Or.inr rfl) (pe_ix (kIxL (K := K)) (pe_lc (own := [("letter", 9)]) rfl sc_law_words.nd (pi_str (pv 2)) (blkOk_by (N := ["state", "count", "letters", "words", "k", "word", "way", "near", "at", "letter"]) (sc := defScope s_law_words) (own := [("letter", 9)]) (by decide +kernel)) (fun _ _ _ _ _ => (pg_name (i := 9) sc_law_words.nd rfl (by first | exact Or.inl rfl | exact Or.inr rfl))) (fun _ _ _ _ _ => (pts_one (pt_cmpR (kNotIn (K := K)) (pv 9) (pv 3) rfl))) (fun _ _ _ _ _ => (pv 9))) pe_int (fun _ _ => rfl)))) pss_nil)
          (pss_one (ps_expr (pe_bm PySem.F.plainAttrs_list PySem.F.slot_list_append PySem.F.type_list_append mt_append (pv 3) (pa_cons (pv 5) pa_nil)))))))))
      (pss_one (ps_ret (pv 3)))))), ?_⟩
    refine ⟨Nat.zero_le _, fun p hp => ?_⟩
    obtain ⟨xs0, hx0⟩ := hS.lst
    have np : p ≠ a := (ne_of_none hx0 hp).symm
    refine ⟨_, rfl, _, rfl, by omega, by omega, for_range (lo := 0) (n := ((c : Int)).toNat) (fun i σ Hi => ∃ (ws : List Str) (o4 o5 o6 o7 o8 o9 : Option V), σ = [some (.ref a), some (.int c), some (.str abc), some (.ref p), o4, o5, o6, o7, o8, o9] ∧ ws.length = i ∧ i ≤ c ∧ WsAt H a p (n + 12 * (c - i)) ws Hi) ?_ ?_ ?_⟩
    · exact ⟨[], none, none, none, none, none, none, rfl, rfl, Nat.zero_le _, List.nodup_nil, by simp, upd_same, (hS.mono (by omega)).upd np.symm, (Fr1.refl a H).upd hp⟩
    · rintro i σ Hi hi ⟨ws, o4, o5, o6, o7, o8, o9, rfl, hl, hic, W⟩
      have hi' : i < c := by omega
      refine ⟨_, rfl, a, n + 12 * (c - i) - 9, rfl, W.st.mono (by omega), fun w H1 nw hS1 e1 => ?_⟩
      have W1 := W.step np hS1 e1
      refine ⟨_, rfl, a, 4, n + 12 * (c - i) - 10, rfl, by decide, by decide, hS1.mono (by omega), fun way H2 w0 w1 hS2 e2 => ?_⟩
      have W2 := W1.step np hS2 e2
      refine ⟨fun σ' H' => ∃ (v : Str) (o7 o8 o9 : Option V), σ' = [some (.ref a), some (.int c), some (.str abc), some (.ref p), some (.int (0 + i)), some (.str v), some (.int way), o7, o8, o9] ∧ Nm v ∧ WsAt H a p (n + 12 * (c - (i + 1))) ws H', ?_, ?_⟩
      · -- if words != [] and way > 0
        refine ⟨_, rfl, Nat.zero_le _, fun l hl2 => ?_⟩
        have W3 := W2.new (o := .lst []) hl2
        have nl : p ≠ l := ne_of_none W2.at_ hl2
        refine ⟨.list (ws.map PyData.str), .list [], Dp.lst (SqL.of W3.at_) (TdAll.dp (TdAll.strs ws)), Dp.lst (SqL.of upd_same) .nil, (Fine.lst (fine_strs W.nm)).sh (by decide), (Fine.lst (n := 1) (by simp)).sh (by decide), ?_⟩
        rcases Classical.em (ws = []) with hw | hw
        · subst hw
          refine ⟨false, by simp [PyData.eqv, PyData.eqvAll], iteF ?_⟩
          exact iteF ⟨w, _, _, _, rfl, nw, W3.step np (W3.st.mono (by omega)) (Fr1.refl a _)⟩
        · obtain ⟨ini, near, rfl⟩ : ∃ ini near, ws = ini ++ [near] := ⟨ws.dropLast, ws.getLast hw, (List.dropLast_concat_getLast hw).symm⟩
          refine ⟨true, ?_, iteT ?_⟩
          · rw [eqv_lists_nil]
            simp
          refine ⟨_, rfl, _, _, rfl, rfl, _, rfl, ite2 (fun c1 => ?_) (fun _ => ?_)⟩
          rotate_left
          · exact ⟨w, _, _, _, rfl, nw, W3.step np (W3.st.mono (by omega)) (Fr1.refl a _)⟩
          have nn : Nm near := W.nm near (by simp)
          refine ⟨_, rfl, _, rfl, p, _, _, .str near, rfl, rfl, SqL.of W3.at_, (by rw [List.map_append]; exact atI_last _ _), ?_⟩
          refine ⟨_, rfl, _, rfl, near, rfl, sizeL (by have := nn.hi; omega), a, _, n + 12 * (c - i) - 11, rfl, (by have := nn.lo; omega), (by have := nn.hi; omega), W3.st.mono (by omega), fun at_ H4 a0 a1 hS4 e4 => ?_⟩
          have W4 := W3.step np hS4 e4
          obtain ⟨k, rfl⟩ : ∃ k : Nat, at_ = (k : Int) := ⟨at_.toNat, by omega⟩
          have hk : k < (cd near).length := by
            rw [← cd_len]
            omega
          have hz : near.length ≤ sizeLine := sizeL (by have := nn.hi; omega)
          refine ⟨_, rfl, _, rfl, _, rfl, _, rfl, hz, _, rfl, _, rfl, a, 26, n + 12 * (c - (i + 1)), rfl, by decide, by decide, hS4.mono (by omega), fun z H5 z0 z1 hS5 e5 => ?_⟩
          have W5 := W4.step np hS5 e5
          obtain ⟨j, rfl⟩ : ∃ j : Nat, z = (j : Int) := ⟨z.toNat, by omega⟩
          have hj : j < 26 := by omega
          have l1 : cd (cutS near none (some (k : Int))) = (cd near).take k := cut_to near k (by rw [cd_len]; omega)
          have l2 : cd (cutS near (some ((k : Int) + 1)) none) = (cd near).drop (k + 1) := cut_from near (k + 1)
          have z1' : (cutS near none (some (k : Int))).length ≤ 8 := by
            rw [cd_len, l1, List.length_take]
            have := nn.l8
            omega
          have z2' : (cutS near (some ((k : Int) + 1)) none).length ≤ 8 := by
            rw [cd_len, l2, List.length_drop]
            have := nn.l8
            omega
          refine ⟨abc, _, 97 + j, rfl, rfl, sizeL (by rw [abc_len]; decide), atI_nat (abc_at j hj), _, _, rfl, rfl, sizeL (by show _ + 1 ≤ _; omega), ?_⟩
          have hzz : (cutS near none (some (k : Int)) ++ (⟨#[97 + j]⟩ : Str)).length ≤ 9 := by
            rw [cd_len, cd_app, List.length_append, ← cd_len]
            show _ + 1 ≤ 9
            omega
          refine ⟨_, rfl, _, rfl, _, _, rfl, rfl, _, rfl, _, rfl, hz, _, _, rfl, rfl, sizeL (by omega), ?_⟩
          generalize hv : cutS near none (some (k : Int)) ++ (⟨#[97 + j]⟩ : Str) ++ cutS near (some ((k : Int) + 1)) none = v
          have cv : cd v = (cd near).take k ++ [97 + j] ++ (cd near).drop (k + 1) := by
            rw [← hv, cd_app, cd_app, l1, l2]
          have nv : Nm v := nn.bent hk (by omega) cv
          have vl : (cd v).length = (cd near).length := by
            rw [cv]
            simp only [List.length_append, List.length_take, List.length_drop, List.length_singleton]
            omega
          refine ⟨fun σ' H' => ∃ (v : Str), σ' = [some (.ref a), some (.int c), some (.str abc), some (.ref p), some (.int (0 + i)), some (.str v), some (.int way), some (.str near), some (.int k), o9] ∧ Nm v ∧ WsAt H a p (n + 12 * (c - (i + 1))) (ini ++ [near]) H', ?_, ?_⟩
          · -- if way == 2 and len(near) < 8: word = near + word[at]
            refine ⟨_, rfl, rfl, _, rfl, ite2 (fun _ => ?_) (fun _ => iteF ⟨v, rfl, nv, W5⟩)⟩
            refine ⟨_, rfl, _, rfl, hz, _, _, rfl, rfl, _, rfl, ite2 (fun c8 => ?_) (fun _ => ⟨v, rfl, nv, W5⟩)⟩
            have c8 : near.length < 8 := by
              have := of_decide_eq_true c8
              omega
            have hk2 : k < (cd v).length := by omega
            refine ⟨_, rfl, _, rfl, _, rfl, v, _, (cd v)[k], rfl, rfl, sizeL (by have := nv.hi; omega), atI_nat (List.getElem?_eq_getElem hk2), _, _, rfl, rfl, sizeL (by show _ + 1 ≤ _; omega), ?_⟩
            exact ⟨_, rfl, nn.more (by rw [← cd_len]; exact c8) (nv.az _ (List.getElem_mem hk2)) (by rw [cd_app]), W5⟩
          · rintro σ' H' ⟨v, rfl, nv, W6⟩
            refine ⟨_, rfl, rfl, _, rfl, ite2 (fun _ => ?_) (fun _ => iteF ⟨v, _, _, _, rfl, nv, W6⟩)⟩
            refine ⟨_, rfl, _, rfl, hz, _, _, rfl, rfl, _, rfl, ite2 (fun c1 => ?_) (fun _ => ⟨v, _, _, _, rfl, nv, W6⟩)⟩
            have c1 : 1 < near.length := by
              have := of_decide_eq_true c1
              omega
            refine ⟨_, rfl, _, rfl, _, rfl, _, rfl, hz, _, rfl, _, rfl, _, _, rfl, rfl, _, rfl, _, rfl, hz, _, _, rfl, rfl, sizeL (by omega), ?_⟩
            exact ⟨_, _, _, _, rfl, nn.less hk (by rw [← cd_len]; exact c1) (by rw [cd_app, l1, l2]), W6⟩
      · rintro σ' H' ⟨v, o7, o8, o9, rfl, nv, W3⟩
        refine ⟨fun σ' H' => ∃ (v : Str) (o9 : Option V), σ' = [some (.ref a), some (.int c), some (.str abc), some (.ref p), some (.int (0 + i)), some (.str v), some (.int way), o7, o8, o9] ∧ Nm v ∧ v ∉ ws ∧ WsAt H a p (n + 12 * (c - (i + 1))) ws H', ?_, ?_⟩
        · -- if word in words
          refine ⟨_, rfl, _, rfl, p, _, rfl, .inl (SqL.of W3.at_), rfl, flat_strs ws, decide (v ∈ ws), ?_, ?_⟩
          · show V.bl (inV _ _) = _
            rw [inV_strs]
          refine ite2 (fun _ => ?_) (fun c1 => ⟨v, _, rfl, nv, (by simpa using c1), W3⟩)
          refine ⟨_, rfl, _, rfl, fun D hD => lc_str (x := abc) (fun t Ht => ∃ acc : List V, Ht D = some (.lst acc) ∧ acc.length ≤ t ∧ (acc = [] → ∀ u, u < t → (⟨#[97 + u]⟩ : Str) ∈ ws) ∧ (∀ y ∈ acc, ∃ c, (97 ≤ c ∧ c ≤ 122) ∧ (⟨#[c]⟩ : Str) ∉ ws ∧ y = .str ⟨#[c]⟩) ∧ WsAt H a p (n + 12 * (c - (i + 1))) ws Ht) ?_ ?_ ?_⟩
          · exact ⟨[], upd_same, Nat.zero_le _, fun _ u h => absurd h (Nat.not_lt_zero _), by simp, W3.new hD⟩
          · rintro t s Ht hts ⟨acc, hacc, hal, hno, hyes, W4⟩
            have ht26 : t < 26 := by
              have h1 := (Array.getElem?_eq_some_iff.mp hts).1
              have h2 : abc.cps.size = 26 := abc_len
              omega
            have es : s = 97 + t := by
              have h1 := abc_at t ht26
              rw [Array.getElem?_toList, hts] at h1
              exact Option.some.inj h1
            subst es
            have nDp : D ≠ p := fun e => by
              have := W3.at_
              rw [← e, hD] at this
              cases this
            have nDa : D ≠ a := (W3.st.ne hD).symm
            refine ⟨rfl, _, rfl, _, rfl, p, _, rfl, .inl (SqL.of W4.at_), rfl, flat_strs ws, !decide ((⟨#[97 + t]⟩ : Str) ∈ ws), ?_, ?_⟩
            · show V.bl (!inV _ _) = _
              rw [inV_strs]
            by_cases hm : (⟨#[97 + t]⟩ : Str) ∈ ws
            · rw [decide_eq_true hm]
              refine iteF ⟨acc, hacc, by omega, fun e u hu => ?_, hyes, W4⟩
              rcases Nat.lt_succ_iff_lt_or_eq.mp hu with h | rfl
              · exact hno e u h
              · exact hm
            · rw [decide_eq_false hm]
              refine iteT ⟨_, rfl, acc, hacc, sizeLt (by omega), acc ++ [.str ⟨#[97 + t]⟩], upd_same, by simp; omega, fun e => by simp at e, fun y hy => ?_, W4.nd, W4.nm, by rw [upd_ne nDp.symm]; exact W4.at_, W4.st.upd nDa.symm, ?_⟩
              · rcases List.mem_append.mp hy with h | h
                · exact hyes y h
                · exact ⟨97 + t, by omega, hm, List.mem_singleton.mp h⟩
              · intro b o nb hb
                have hbD : b ≠ D := fun e => by
                  have h3 := W3.fr b o nb hb
                  rw [e, hD] at h3
                  cases h3
                rw [upd_ne hbD]
                exact W4.fr b o nb hb
          · rintro Ht ⟨acc, hacc, hal, hno, hyes, W4⟩
            cases acc with
            | nil =>
              exfalso
              obtain ⟨j, hj, hf⟩ := free_letter ws (by omega)
              have h2 : abc.cps.size = 26 := abc_len
              exact hf (hno rfl j (by omega))
            | cons y r =>
              obtain ⟨s, az, hf, rfl⟩ := hyes y List.mem_cons_self
              refine ⟨D, _, _, _, rfl, rfl, SqL.of hacc, atI_nat (j := 0) rfl, ?_⟩
              exact ⟨_, _, rfl, Nm.sign az, hf, W4⟩
        · rintro σ' H' ⟨v, o9, rfl, nv, hf, W4⟩
          refine ⟨_, rfl, .inl ⟨rfl, _, SqL.of W4.at_⟩, _, rfl, p, _, _, rfl, rfl, W4.at_, sizeLt (by rw [List.length_map]; omega), ?_⟩
          refine ⟨ws ++ [v], _, _, _, _, _, _, rfl, by simp [hl], by omega, nd_snoc W4.nd hf, fun w hw => ?_, by rw [upd_same, List.map_append]; rfl, W4.st.upd np.symm, ?_⟩
          · rcases List.mem_append.mp hw with h | h
            · exact W4.nm w h
            · rw [List.mem_singleton.mp h]
              exact nv
          · intro b o nb hb
            have hbp : b ≠ p := fun e => by
              rw [e, hp] at hb
              cases hb
            rw [upd_ne hbp]
            exact W4.fr b o nb hb
    · rintro σ Hi ⟨ws, o4, o5, o6, o7, o8, o9, rfl, hl, hic, W⟩
      exact ⟨_, rfl, q p ws Hi hp (by omega) W.nd W.nm W.at_ (W.st.mono (by omega)) W.fr⟩
end My
namespace My
open PySem L2
def spFlag : Sp := fun vs H Q _ => ∃ b : Bool, vs = [.bl b] ∧ Q (.bl true) H
theorem ok_is_flag {P : Program} {w : World} {K : PySem.W.Frag} {mg : Str → Option Value} {base : Heap} {CS CD : Addr} (T : Txt K mg CS CD) : CallOk P w K mg base 1 "is_flag" spFlag := by
  refine T.d_is_flag.ok sc_is_flag (fun vs H Q E h => ?_) (fun f cdv A outer s H vs Q E hr h => ?_)
  · obtain ⟨b, rfl, _⟩ := h
    rfl
  · obtain ⟨b, rfl, q⟩ := h
    refine ⟨_, (pss_one (ps_ret (pe_or (pe_cmpR op_isBl (pv 0) pe_bl (nomark _)) (pe_one (pe_cmpR op_isBl (pv 0) pe_bl (nomark _)))))), ?_⟩
    refine ⟨_, rfl, _, _, rfl, rfl, _, rfl, ite2 (fun _ => q) (fun c => ?_)⟩
    have hb : b = false := by simpa using c
    subst hb
    exact ⟨_, rfl, _, _, rfl, rfl, q⟩
end My
namespace My
open PySem L2
def spOneOf (K : PySem.W.Frag) : Sp := fun vs H Q _ => ∃ v w : V, vs = [v, w] ∧ ((∃ t, TyX K H v t ∧ PySem.W.kitOne K t (.type "str") = some false ∧ Q (.bl false) H) ∨
  ∃ x, v = .str x ∧ ((∃ a o, w = .ref a ∧ DGet H a (.str x) o ∧ Q (.bl o.isSome) H) ∨ ∃ p xs, w = .ref p ∧ (SqL K H p xs ∨ SqT K H p xs) ∧ xs.all flatV = true ∧ Q (.bl (inV (.str x) xs)) H))
theorem ok_is_one_of {P : Program} {w : World} {K : PySem.W.Frag} {mg : Str → Option Value} {base : Heap} {CS CD : Addr} (T : Txt K mg CS CD) : CallOk P w K mg base 1 "is_one_of" (spOneOf K) := by
  refine T.d_is_one_of.ok sc_is_one_of (fun vs H Q E h => ?_) (fun f cdv A outer s H vs Q E hr h => ?_)
  · obtain ⟨v, w, rfl, _⟩ := h
    rfl
  · obtain ⟨v, w, rfl, h⟩ := h
    have hu := hu_of hr
    refine ⟨_, (pss_one (ps_ret (pe_and (pe_callB (kIsi (K := K)) (by rfl) T.n_isinstance (by decide +kernel) (pa_cons (pv 0) (pa_cons (pe_bltn (v := .ty "str") (by rfl) T.n_str (by decide +kernel) rfl) pa_nil))) (pe_one (pe_cmpR (kInG (K := K) hu) (pv 0) (pv 1) rfl))))), ?_⟩
    rcases h with ⟨t, ty, ko, q⟩ | ⟨x, rfl, h⟩
    · exact ⟨_, rfl, v, _, t, _, false, rfl, ClsV.ty "str", ty, ko, false, rfl, iteF q⟩
    · refine ⟨_, rfl, _, _, _, _, true, rfl, ClsV.ty "str", TyX.base (TyOf.str x), kit_ty (by decide +kernel), true, rfl, iteT ?_⟩
      refine ⟨_, rfl, _, rfl, ?_⟩
      rcases h with ⟨a, o, rfl, g, q⟩ | ⟨p, xs, rfl, hx, hf, q⟩
      · exact Or.inl ⟨a, o, rfl, g, q⟩
      · exact Or.inr ⟨p, xs, rfl, hx, rfl, hf, q⟩
end My
namespace My
open PySem L2
def spName : Sp := fun vs H Q _ => ∃ w, vs = [.str w] ∧ Nm w ∧ ∀ H', Same H H' → Q (.bl true) H'
theorem ok_is_name {P : Program} {w : World} {K : PySem.W.Frag} {mg : Str → Option Value} {base : Heap} {CS CD : Addr} (T : Txt K mg CS CD) : CallOk P w K mg base 1 "is_name" spName := by
  refine T.d_is_name.ok sc_is_name (fun vs H Q E h => ?_) (fun f cdv A outer s H vs Q E hr h => ?_)
  · obtain ⟨w, rfl, _⟩ := h
    rfl
  · obtain ⟨w, rfl, nw, q⟩ := h
    refine ⟨_, (pss_cons (ps_if (PW.pt (pw_or (pt_not (pt_val (pe_callB (kIsi (K := K)) (by rfl) T.n_isinstance (by decide +kernel) (pa_cons (pv 0) (pa_cons (pe_bltn (v := .ty "str") (by rfl) T.n_str (by decide +kernel) rfl) pa_nil))))) (pw_or1 (pt_not (pt_chain op_le op_le pe_int (pe_callB call_len_str (by rfl) T.n_len PySem.boot_len (pa_cons (pv 0) pa_nil)) (pe_globV T.v_LONGEST_NAME)))))) (pss_one (ps_ret pe_bl)) pss_nil)
      (pss_one (ps_ret (pe_callB (kAll (K := K) rfl) (by rfl) T.n_all (by decide +kernel) (pa_cons (pe_lc (own := [("letter", 1)]) rfl sc_is_name.nd (pi_str (pv 0)) (blkOk_by (N := ["value", "letter"]) (sc := defScope s_is_name) (own := [("letter", 1)]) (by decide +kernel)) (fun _ _ _ _ _ => (pg_name (i := 1) sc_is_name.nd rfl (by first | exact Or.inl rfl | exact Or.inr rfl))) (fun _ _ _ _ _ => pts_nil) (fun _ _ _ _ _ => (pe_cmpR op_in_sign (pv 1) (pe_globV T.v_LETTERS) rfl))) pa_nil))))), ?_⟩
    have l1 := nw.lo
    have l8 := nw.hi
    have hz : w.length ≤ sizeLine := sizeL (by omega)
    refine ⟨_, rfl, _, _, _, _, true, rfl, ClsV.ty "str", TyX.base (TyOf.str w), kit_ty (by decide +kernel), _, rfl, ?_⟩
    refine iteF ?_
    refine ⟨_, rfl, w, rfl, hz, _, _, rfl, rfl, true, ?_, iteT ⟨_, _, rfl, rfl, true, ?_, iteF ?_⟩⟩
    · exact congrArg V.bl (decide_eq_true (show (1 : Int) ≤ (w.length : Int) by omega))
    · exact congrArg V.bl (decide_eq_true (show (w.length : Int) ≤ 8 by omega))
    refine ⟨_, rfl, _, rfl, fun D hD => lc_str (x := w) (fun i Hi => Hi D = some (.lst (List.replicate i (V.bl true))) ∧ Same H Hi) ?_ ?_ ?_⟩
    · exact ⟨upd_same, Same.upd (Same.refl H) hD⟩
    · rintro i c Hi hc ⟨hl, e⟩
      have hcm : c ∈ w.cps.toList := by
        rw [← Array.getElem?_toList] at hc
        exact List.mem_of_getElem? hc
      have hi : i < 8 := by
        have h1 := (Array.getElem?_eq_some_iff.mp hc).1
        have h2 : w.cps.size ≤ 8 := l8
        omega
      refine ⟨rfl, tYes_if ?_⟩
      refine ⟨_, rfl, c, abc, rfl, rfl, _, hl, sizeLt (by rw [List.length_replicate]; omega), ?_, ?_⟩
      · rw [decide_eq_true ((abc_mem c).mpr (nw.az c hcm)), upd_same, rep_snoc]
      · exact Same.upd e hD
    · rintro Hi ⟨hl, e⟩
      refine ⟨D, List.replicate w.cps.size true, rfl, SqL.of (by rw [hl, rep_bl]), ?_⟩
      rw [all_true]
      exact q _ e
end My
namespace My
open PySem L2
def spRef : Sp := fun vs H Q _ => ∃ v r, vs = [v] ∧ Td H v (refD r) ∧ Nm r.1 ∧ Nm r.2 ∧ ∀ H', Same H H' → Q (.bl true) H'
theorem ok_is_reference {P : Program} {w : World} {K : PySem.W.Frag} {mg : Str → Option Value} {base : Heap} {CS CD : Addr} (T : Txt K mg CS CD) : CallOk P w K mg base 2 "_is_reference" spRef := by
  have c_is_name := ok_is_name (P := P) (w := w) (base := base) T
  refine T.d_is_reference.ok sc_is_reference (fun vs H Q E h => ?_) (fun f cdv A outer s H vs Q E hr h => ?_)
  · obtain ⟨v, r, rfl, _⟩ := h
    rfl
  · obtain ⟨v, r, rfl, hv, n1, n2, q⟩ := h
    obtain ⟨t, rfl, ht⟩ := refD_inv hv
    refine ⟨_, (pss_cons (ps_if (PW.pt (pw_or (pt_not (pt_val (pe_callB (kIsi (K := K)) (by rfl) T.n_isinstance (by decide +kernel) (pa_cons (pv 0) (pa_cons (pe_bltn (v := .ty "tuple") (by rfl) T.n_tuple (by decide +kernel) rfl) pa_nil))))) (pw_or1 (pt_cmpR op_ne (pe_callB (kLen (K := K)) (by rfl) T.n_len PySem.boot_len (pa_cons (pv 0) pa_nil)) pe_int (nomark _))))) (pss_one (ps_ret pe_bl)) pss_nil)
      (pss_cons (ps_asg (pv 0) (kPgT (K := K) (n := 2) rfl (pgs_cons (pg_name (i := 1) sc_is_reference.nd rfl (by first | exact Or.inl rfl | exact Or.inr rfl)) (pgs_cons (pg_name (i := 2) sc_is_reference.nd rfl (by first | exact Or.inl rfl | exact Or.inr rfl)) pgs_nil))))
      (pss_one (ps_ret (pe_and (pe_callC c_is_name (hr.mono (by decide)) (pa_cons (pv 1) pa_nil)) (pe_one (pe_callC c_is_name (hr.mono (by decide)) (pa_cons (pv 2) pa_nil)))))))), ?_⟩
    refine ⟨_, rfl, _, _, _, _, true, rfl, ClsV.ty "tuple", TyX.base (TyOf.tup ht), kit_ty (by decide +kernel), _, rfl, iteF ?_⟩
    refine ⟨_, rfl, t, _, rfl, .inr (SqT.of ht), rfl, false, rfl, iteF ?_⟩
    refine ⟨_, rfl, t, _, rfl, SqT.of ht, rfl, _, _, rfl, _, _, rfl, rfl, ?_⟩
    refine ⟨_, rfl, r.1, rfl, n1, fun H1 e1 => ⟨true, rfl, iteT ?_⟩⟩
    exact ⟨_, rfl, r.2, rfl, n2, fun H2 e2 => q H2 (e1.trans e2)⟩
end My
namespace My
open PySem L2
def spDistinct (K : PySem.W.Frag) : Sp := fun vs H Q _ => ∃ (p : Addr) (ws : List Str), vs = [.ref p] ∧ SqL K H p (ws.map V.str) ∧ ws.length ≤ 1000 ∧ ∀ b, (b = true ↔ ws.Nodup) → Q (.bl b) H
theorem ok_are_distinct {P : Program} {w : World} {K : PySem.W.Frag} {mg : Str → Option Value} {base : Heap} {CS CD : Addr} (T : Txt K mg CS CD) : CallOk P w K mg base 1 "_are_distinct" (spDistinct K) := by
  refine T.d_are_distinct.ok sc_are_distinct (fun vs H Q E h => ?_) (fun f cdv A outer s H vs Q E hr h => ?_)
  · obtain ⟨p, ws, rfl, _⟩ := h
    rfl
  · obtain ⟨p, ws, rfl, hp, hl, q⟩ := h
    refine ⟨_, (pss_one (ps_ret (pe_cmpR op_eq (pe_lenSetS T.n_len T.n_set (pv 0)) (pe_callB (kLen (K := K)) (by rfl) T.n_len PySem.boot_len (pa_cons (pv 0) pa_nil)) (nomark _)))), ?_⟩
    refine ⟨_, rfl, p, ws, rfl, hp, hl, _, rfl, p, _, rfl, .inl hp, rfl, q _ ?_⟩
    rw [List.length_map, decide_eq_true_eq]
    by_cases h : ws.Nodup
    · rw [onces_nodup ws h]
      exact ⟨fun _ => h, fun _ => rfl⟩
    · have := onces_lt ws h
      refine ⟨fun e => ?_, fun e => absurd e h⟩
      have e : (((onces ws).length : Nat) : Int) = ((ws.length : Nat) : Int) := V.int.inj e
      omega
end My
namespace My
open PySem L2
def spRefs : Sp := fun vs H Q _ => ∃ v rs, vs = [v] ∧ Td H v (refsD rs) ∧ rs.length ≤ 3 ∧ (∀ r ∈ rs, Nm r.1 ∧ Nm r.2) ∧ (rs.map (·.1)).Nodup ∧ ∀ H', Same H H' → Q (.bl true) H'
theorem ok_are_references {P : Program} {w : World} {K : PySem.W.Frag} {mg : Str → Option Value} {base : Heap} {CS CD : Addr} (T : Txt K mg CS CD) : CallOk P w K mg base 3 "_are_references" spRefs := by
  have c_are_distinct := ok_are_distinct (P := P) (w := w) (base := base) T
  have c_is_reference := ok_is_reference (P := P) (w := w) (base := base) T
  refine T.d_are_references.ok sc_are_references (fun vs H Q E h => ?_) (fun f cdv A outer s H vs Q E hr h => ?_)
  · obtain ⟨v, rs, rfl, _⟩ := h
    rfl
  · obtain ⟨v, rs, rfl, hv, hl3, hnm, hnd, q⟩ := h
    obtain ⟨t, xs, rfl, ht, hx⟩ := hv.tup_inv
    have hlx : xs.length = rs.length := by rw [hx.length, List.length_map]
    refine ⟨_, (pss_cons (ps_if (PW.pt (pw_or (pt_not (pt_val (pe_callB (kIsi (K := K)) (by rfl) T.n_isinstance (by decide +kernel) (pa_cons (pv 0) (pa_cons (pe_bltn (v := .ty "tuple") (by rfl) T.n_tuple (by decide +kernel) rfl) pa_nil))))) (pw_or1 (pt_cmpR op_gt (pe_callB (kLen (K := K)) (by rfl) T.n_len PySem.boot_len (pa_cons (pv 0) pa_nil)) (pe_globV T.v_MOST_REFERENCES) (nomark _))))) (pss_one (ps_ret pe_bl)) pss_nil)
      (pss_cons (ps_if (pt_not (pt_val (pe_callB (kAll (K := K) rfl) (by rfl) T.n_all (by decide +kernel) (pa_cons (pe_lc (own := [("item", 1)]) rfl sc_are_references.nd (kPiT (K := K) (pv 0)) (blkOk_by (N := ["value", "item"]) (sc := defScope s_are_references) (own := [("item", 1)]) (by decide +kernel)) (fun _ _ _ _ _ => (pg_name (i := 1) sc_are_references.nd rfl (by first | exact Or.inl rfl | exact Or.inr rfl))) (fun _ _ _ _ _ => pts_nil) (fun _ _ _ _ _ => (pe_callC c_is_reference (hr.mono (by decide)) (pa_cons (pv 1) pa_nil)))) pa_nil)))) (pss_one (ps_ret pe_bl)) pss_nil)
      (pss_one (ps_ret (pe_callC c_are_distinct (hr.mono (by decide)) (pa_cons (pe_lc (own := [("item", 1)]) rfl sc_are_references.nd (kPiT (K := K) (pv 0)) (blkOk_by (N := ["value", "item"]) (sc := defScope s_are_references) (own := [("item", 1)]) (by decide +kernel)) (fun _ _ _ _ _ => (pg_name (i := 1) sc_are_references.nd rfl (by first | exact Or.inl rfl | exact Or.inr rfl))) (fun _ _ _ _ _ => pts_nil) (fun _ _ _ _ _ => (pe_ix (kIxT (K := K)) (pv 1) pe_int (fun _ _ => rfl)))) pa_nil)))))), ?_⟩
    refine ⟨_, rfl, _, _, _, _, true, rfl, ClsV.ty "tuple", TyX.base (TyOf.tup ht), kit_ty (by decide +kernel), _, rfl, iteF ?_⟩
    refine ⟨_, rfl, t, _, rfl, .inr (SqT.of ht), _, _, rfl, rfl, false, ?_, iteF ?_⟩
    · exact congrArg V.bl (decide_eq_false (show ¬ (3 : Int) < (xs.length : Int) by omega))
    refine ⟨_, rfl, t, rfl, ⟨_, SqT.of ht⟩, fun D hD => lc_tup (K := K) (a := t) (xs := xs) (fun i Hi => i ≤ xs.length ∧ Hi D = some (.lst (List.replicate i (V.bl true))) ∧ Same H Hi) ?_ ?_ ?_ ?_⟩
    · exact ⟨Nat.zero_le _, upd_same, Same.upd (Same.refl H) hD⟩
    · rintro i Hi _ ⟨_, _, e⟩
      exact SqT.of (e t _ ht)
    · rintro i x Hi hxi ⟨hi, hl, e⟩
      have hil : i < xs.length := (List.getElem?_eq_some_iff.mp hxi).1
      obtain ⟨d, hd, hTd⟩ := hx.get hxi
      rw [List.getElem?_map] at hd
      obtain ⟨r, hri, rfl⟩ := Option.map_eq_some_iff.mp hd
      have hrm := hnm r (List.mem_of_getElem? hri)
      refine ⟨rfl, tYes_if ?_⟩
      refine ⟨_, rfl, x, r, rfl, hTd.kt_same e, hrm.1, hrm.2, fun H2 e2 => ?_⟩
      refine ⟨_, e2 D _ hl, sizeLt (by rw [List.length_replicate]; omega), hil, ?_, Same.upd (e.trans e2) hD⟩
      rw [upd_same, rep_snoc]
    · rintro Hi ⟨_, hl, e⟩
      refine ⟨D, List.replicate xs.length true, rfl, SqL.of (by rw [hl, rep_bl]), _, rfl, ?_⟩
      rw [all_true]
      refine iteF ?_
      have ht' := e t _ ht
      refine ⟨_, rfl, t, rfl, ⟨_, SqT.of ht'⟩, fun D2 hD2 => lc_tup (K := K) (a := t) (xs := xs) (fun i Hj => i ≤ xs.length ∧ Hj D2 = some (.lst ((rs.map (·.1)).take i |>.map V.str)) ∧ Same Hi Hj) ?_ ?_ ?_ ?_⟩
      · exact ⟨Nat.zero_le _, upd_same, Same.upd (Same.refl Hi) hD2⟩
      · rintro i Hj _ ⟨_, _, e2⟩
        exact SqT.of (e2 t _ ht')
      · rintro i x Hj hxi ⟨hi, hl2, e2⟩
        have hil : i < xs.length := (List.getElem?_eq_some_iff.mp hxi).1
        obtain ⟨d, hd, hTd⟩ := hx.get hxi
        rw [List.getElem?_map] at hd
        obtain ⟨r, hri, rfl⟩ := Option.map_eq_some_iff.mp hd
        obtain ⟨tr, rfl, htr⟩ := refD_inv hTd
        have hrl : i < (rs.map (·.1)).length := by rw [List.length_map]; omega
        refine ⟨rfl, tYes_if ?_⟩
        refine ⟨_, rfl, tr, _, _, _, rfl, rfl, SqT.of (e2 tr _ (e tr _ htr)), rfl, ?_⟩
        refine ⟨_, hl2, sizeLt (by rw [List.length_map, List.length_take]; omega), hil, ?_, Same.upd e2 hD2⟩
        rw [upd_same, List.take_succ_eq_append_getElem hrl, List.map_append]
        have er : (rs.map (·.1))[i] = r.1 := by
          rw [List.getElem_map]
          rw [(List.getElem?_eq_some_iff.mp hri).2]
        rw [er]
        rfl
      · rintro Hj ⟨_, hl2, e2⟩
        refine ⟨D2, rs.map (·.1), rfl, SqL.of ?_, by rw [List.length_map]; omega, fun b hb => ?_⟩
        · rw [hl2, List.take_of_length_le (by rw [List.length_map]; omega)]
        · rw [hb.mpr hnd]
          exact q _ (e.trans e2)
end My
namespace My
open PySem L2
def spTable : Sp := fun vs H Q _ => ∃ v e, vs = [v] ∧ Td H v (entD e) ∧ Nm e.1 ∧ e.2.2.length ≤ 3 ∧ (∀ r ∈ e.2.2, Nm r.1 ∧ Nm r.2) ∧ (e.2.2.map (·.1)).Nodup ∧ ∀ H', Same H H' → Q (.bl true) H'
theorem ok_is_table {P : Program} {w : World} {K : PySem.W.Frag} {mg : Str → Option Value} {base : Heap} {CS CD : Addr} (T : Txt K mg CS CD) : CallOk P w K mg base 4 "_is_table" spTable := by
  have c_are_references := ok_are_references (P := P) (w := w) (base := base) T
  have c_is_flag := ok_is_flag (P := P) (w := w) (base := base) T
  have c_is_name := ok_is_name (P := P) (w := w) (base := base) T
  refine T.d_is_table.ok sc_is_table (fun vs H Q E h => ?_) (fun f cdv A outer s H vs Q E hr h => ?_)
  · obtain ⟨v, r, rfl, _⟩ := h
    rfl
  · obtain ⟨v, e, rfl, hv, n1, hl, hn, hd, q⟩ := h
    obtain ⟨t, tr, rs, rfl, ht, htr, hrs⟩ := entD_inv hv
    refine ⟨_, (pss_cons (ps_if (PW.pt (pw_or (pt_not (pt_val (pe_callB (kIsi (K := K)) (by rfl) T.n_isinstance (by decide +kernel) (pa_cons (pv 0) (pa_cons (pe_bltn (v := .ty "tuple") (by rfl) T.n_tuple (by decide +kernel) rfl) pa_nil))))) (pw_or1 (pt_cmpR op_ne (pe_callB (kLen (K := K)) (by rfl) T.n_len PySem.boot_len (pa_cons (pv 0) pa_nil)) pe_int (nomark _))))) (pss_one (ps_ret pe_bl)) pss_nil)
      (pss_cons (ps_asg (pv 0) (kPgT (K := K) (n := 3) rfl (pgs_cons (pg_name (i := 1) sc_is_table.nd rfl (by first | exact Or.inl rfl | exact Or.inr rfl)) (pgs_cons (pg_name (i := 2) sc_is_table.nd rfl (by first | exact Or.inl rfl | exact Or.inr rfl)) (pgs_cons (pg_name (i := 3) sc_is_table.nd rfl (by first | exact Or.inl rfl | exact Or.inr rfl)) pgs_nil)))))
      (pss_one (ps_ret (pe_and (pe_callC c_is_name (hr.mono (by decide)) (pa_cons (pv 1) pa_nil)) (pe_and (pe_callC c_is_flag (hr.mono (by decide)) (pa_cons (pv 2) pa_nil)) (pe_one (pe_callC c_are_references (hr.mono (by decide)) (pa_cons (pv 3) pa_nil))))))))), ?_⟩
    refine ⟨_, rfl, _, _, _, _, true, rfl, ClsV.ty "tuple", TyX.base (TyOf.tup ht), kit_ty (by decide +kernel), _, rfl, iteF ?_⟩
    refine ⟨_, rfl, t, _, rfl, .inr (SqT.of ht), rfl, false, rfl, iteF ?_⟩
    refine ⟨_, rfl, t, _, rfl, SqT.of ht, rfl, _, _, rfl, _, _, rfl, _, _, rfl, rfl, ?_⟩
    refine ⟨_, rfl, e.1, rfl, n1, fun H1 e1 => ⟨true, rfl, iteT ?_⟩⟩
    refine ⟨_, rfl, e.2.1, rfl, true, rfl, iteT ?_⟩
    exact ⟨_, rfl, _, e.2.2, rfl, (Td.tup htr hrs).kt_same e1, hl, hn, hd, fun H2 e2 => q H2 (e1.trans e2)⟩
end My
namespace My
open PySem L2
def spAreTables : Sp := fun vs H Q _ => ∃ v pl, vs = [v] ∧ Td H v (planD pl) ∧ Good pl ∧ ∀ H', Same H H' → Q (.bl true) H'
theorem ok_are_tables {P : Program} {w : World} {K : PySem.W.Frag} {mg : Str → Option Value} {base : Heap} {CS CD : Addr} (T : Txt K mg CS CD) : CallOk P w K mg base 5 "are_tables" spAreTables := by
  have c_are_distinct := ok_are_distinct (P := P) (w := w) (base := base) T
  have c_is_table := ok_is_table (P := P) (w := w) (base := base) T
  refine T.d_are_tables.ok sc_are_tables (fun vs H Q E h => ?_) (fun f cdv A outer s H vs Q E hr h => ?_)
  · obtain ⟨v, pl, rfl, _⟩ := h
    rfl
  · obtain ⟨v, pl, rfl, hv, g, q⟩ := h
    obtain ⟨t, xs, rfl, ht, hx⟩ := hv.tup_inv
    have hlx : xs.length = pl.length := by rw [hx.length, List.length_map]
    have lo := g.lo
    have hi5 := g.hi
    refine ⟨_, (pss_cons (ps_if (PW.pt (pw_or (pt_not (pt_val (pe_callB (kIsi (K := K)) (by rfl) T.n_isinstance (by decide +kernel) (pa_cons (pv 0) (pa_cons (pe_bltn (v := .ty "tuple") (by rfl) T.n_tuple (by decide +kernel) rfl) pa_nil))))) (pw_or1 (pt_not (pt_chain op_le op_le pe_int (pe_callB (kLen (K := K)) (by rfl) T.n_len PySem.boot_len (pa_cons (pv 0) pa_nil)) (pe_globV T.v_MOST_TABLES)))))) (pss_one (ps_ret pe_bl)) pss_nil)
      (pss_cons (ps_if (pt_not (pt_val (pe_callB (kAll (K := K) rfl) (by rfl) T.n_all (by decide +kernel) (pa_cons (pe_lc (own := [("item", 1)]) rfl sc_are_tables.nd (kPiT (K := K) (pv 0)) (blkOk_by (N := ["value", "item"]) (sc := defScope s_are_tables) (own := [("item", 1)]) (by decide +kernel)) (fun _ _ _ _ _ => (pg_name (i := 1) sc_are_tables.nd rfl (by first | exact Or.inl rfl | exact Or.inr rfl))) (fun _ _ _ _ _ => pts_nil) (fun _ _ _ _ _ => (pe_callC c_is_table (hr.mono (by decide)) (pa_cons (pv 1) pa_nil)))) pa_nil)))) (pss_one (ps_ret pe_bl)) pss_nil)
      (pss_one (ps_ret (pe_callC c_are_distinct (hr.mono (by decide)) (pa_cons (pe_lc (own := [("item", 1)]) rfl sc_are_tables.nd (kPiT (K := K) (pv 0)) (blkOk_by (N := ["value", "item"]) (sc := defScope s_are_tables) (own := [("item", 1)]) (by decide +kernel)) (fun _ _ _ _ _ => (pg_name (i := 1) sc_are_tables.nd rfl (by first | exact Or.inl rfl | exact Or.inr rfl))) (fun _ _ _ _ _ => pts_nil) (fun _ _ _ _ _ => (pe_ix (kIxT (K := K)) (pv 1) pe_int (fun _ _ => rfl)))) pa_nil)))))), ?_⟩
    refine ⟨_, rfl, _, _, _, _, true, rfl, ClsV.ty "tuple", TyX.base (TyOf.tup ht), kit_ty (by decide +kernel), _, rfl, iteF ?_⟩
    refine ⟨_, rfl, t, _, rfl, .inr (SqT.of ht), _, _, rfl, rfl, true, ?_, iteT ⟨_, _, rfl, rfl, true, ?_, iteF ?_⟩⟩
    · exact congrArg V.bl (decide_eq_true (show (1 : Int) ≤ (xs.length : Int) by omega))
    · exact congrArg V.bl (decide_eq_true (show (xs.length : Int) ≤ 5 by omega))
    refine ⟨_, rfl, t, rfl, ⟨_, SqT.of ht⟩, fun D hD => lc_tup (K := K) (a := t) (xs := xs) (fun i Hi => i ≤ xs.length ∧ Hi D = some (.lst (List.replicate i (V.bl true))) ∧ Same H Hi) ?_ ?_ ?_ ?_⟩
    · exact ⟨Nat.zero_le _, upd_same, Same.upd (Same.refl H) hD⟩
    · rintro i Hi _ ⟨_, _, e⟩
      exact SqT.of (e t _ ht)
    · rintro i x Hi hxi ⟨hi, hl, e⟩
      have hil : i < xs.length := (List.getElem?_eq_some_iff.mp hxi).1
      obtain ⟨en, hen, hTd⟩ := hx.getM hxi
      have hem := List.mem_of_getElem? hen
      have gr := g.refs en hem
      refine ⟨rfl, tYes_if ?_⟩
      refine ⟨_, rfl, x, en, rfl, hTd.kt_same e, g.nm en hem, gr.len, fun r hr => ⟨gr.nm r hr, g.toNm hem hr⟩, gr.nd, fun H2 e2 => ?_⟩
      refine ⟨_, e2 D _ hl, sizeLt (by rw [List.length_replicate]; omega), hil, ?_, Same.upd (e.trans e2) hD⟩
      rw [upd_same, rep_snoc]
    · rintro Hi ⟨_, hl, e⟩
      refine ⟨D, List.replicate xs.length true, rfl, SqL.of (by rw [hl, rep_bl]), _, rfl, ?_⟩
      rw [all_true]
      refine iteF ?_
      have ht' := e t _ ht
      refine ⟨_, rfl, t, rfl, ⟨_, SqT.of ht'⟩, fun D2 hD2 => lc_tup (K := K) (a := t) (xs := xs) (fun i Hj => i ≤ xs.length ∧ Hj D2 = some (.lst ((pl.map (·.1)).take i |>.map V.str)) ∧ Same Hi Hj) ?_ ?_ ?_ ?_⟩
      · exact ⟨Nat.zero_le _, upd_same, Same.upd (Same.refl Hi) hD2⟩
      · rintro i Hj _ ⟨_, _, e2⟩
        exact SqT.of (e2 t _ ht')
      · rintro i x Hj hxi ⟨hi, hl2, e2⟩
        have hil : i < xs.length := (List.getElem?_eq_some_iff.mp hxi).1
        obtain ⟨en, hen, hTd⟩ := hx.getM hxi
        obtain ⟨tn, tr, rs, rfl, htn, htr, hrs⟩ := entD_inv hTd
        have hrl : i < (pl.map (·.1)).length := by rw [List.length_map]; omega
        refine ⟨rfl, tYes_if ?_⟩
        refine ⟨_, rfl, tn, _, _, _, rfl, rfl, SqT.of (e2 tn _ (e tn _ htn)), rfl, ?_⟩
        refine ⟨_, hl2, sizeLt (by rw [List.length_map, List.length_take]; omega), hil, ?_, Same.upd e2 hD2⟩
        rw [upd_same, List.take_succ_eq_append_getElem hrl, List.map_append]
        have er : (pl.map (·.1))[i] = en.1 := by
          rw [List.getElem_map]
          rw [(List.getElem?_eq_some_iff.mp hen).2]
        rw [er]
        rfl
      · rintro Hj ⟨_, hl2, e2⟩
        refine ⟨D2, pl.map (·.1), rfl, SqL.of ?_, by rw [List.length_map]; omega, fun b hb => ?_⟩
        · rw [hl2, List.take_of_length_le (by rw [List.length_map]; omega)]
        · rw [hb.mpr g.nd]
          exact q _ (e.trans e2)
end My
namespace My
open PySem L2
def spWithin : Sp := fun vs H Q _ => ∃ v pl, vs = [v] ∧ Td H v (planD pl) ∧ Good pl ∧ ∀ H', Same H H' → Q (.bl true) H'
theorem ok_refer_within {P : Program} {w : World} {K : PySem.W.Frag} {mg : Str → Option Value} {base : Heap} {CS CD : Addr} (T : Txt K mg CS CD) : CallOk P w K mg base 1 "refer_within" spWithin := by
  refine T.d_refer_within.ok sc_refer_within (fun vs H Q E h => ?_) (fun f cdv A outer s H vs Q E hr h => ?_)
  · obtain ⟨v, pl, rfl, _⟩ := h
    rfl
  · obtain ⟨v, pl, rfl, hv, g, q⟩ := h
    obtain ⟨t, xs, rfl, ht, hx⟩ := hv.tup_inv
    have hlx : xs.length = pl.length := by rw [hx.length, List.length_map]
    have hi5 := g.hi
    refine ⟨_, (pss_cons (ps_set (i := 1) sc_refer_within.nd rfl (by first | exact Or.inl rfl | exact Or.inr rfl) (pe_lc (own := [("item", 2)]) rfl sc_refer_within.nd (kPiT (K := K) (pv 0)) (blkOk_by (N := ["tables", "names", "item", "_", "target"]) (sc := defScope s_refer_within) (own := [("item", 2)]) (by decide +kernel)) (fun _ _ _ _ _ => (pg_name (i := 2) sc_refer_within.nd rfl (by first | exact Or.inl rfl | exact Or.inr rfl))) (fun _ _ _ _ _ => pts_nil) (fun _ _ _ _ _ => (pe_ix (kIxT (K := K)) (pv 2) pe_int (fun _ _ => rfl)))))
      (pss_one (ps_ret (pe_callB (kAll (K := K) rfl) (by rfl) T.n_all (by decide +kernel) (pa_cons (pe_lc2 (own := [("item", 2), ("_", 3), ("target", 4)]) (vs1 := [3, 4]) rfl sc_refer_within.nd (kPiT (K := K) (pv 0)) (blkOk_by (N := ["tables", "names", "item", "_", "target"]) (sc := defScope s_refer_within) (own := [("item", 2), ("_", 3), ("target", 4)]) (by decide +kernel)) (by decide) (fun _ _ _ _ _ => (pg_name (i := 2) sc_refer_within.nd rfl (by first | exact Or.inl rfl | exact Or.inr rfl))) (fun _ _ _ _ _ => pts_nil) (fun _ _ _ _ _ => (kPiT (K := K) (pe_ix (kIxT (K := K)) (pv 2) pe_int (fun _ _ => rfl)))) (fun _ _ _ _ _ => (kPgT (K := K) (n := 2) rfl (pgs_cons (pg_name (i := 3) sc_refer_within.nd rfl (by first | exact Or.inl rfl | exact Or.inr rfl)) (pgs_cons (pg_name (i := 4) sc_refer_within.nd rfl (by first | exact Or.inl rfl | exact Or.inr rfl)) pgs_nil)))) (fun _ _ _ _ _ => pts_nil) (fun _ _ _ _ _ => (pe_cmpR (kIn (K := K)) (pv 4) (pv 1) rfl))) pa_nil))))), ?_⟩
    refine ⟨_, rfl, t, rfl, ⟨_, SqT.of ht⟩, fun N0 hN0 => lc_tup (K := K) (a := t) (xs := xs) (fun i Hj => i ≤ xs.length ∧ Hj N0 = some (.lst ((pl.map (·.1)).take i |>.map V.str)) ∧ Same H Hj) ?_ ?_ ?_ ?_⟩
    · exact ⟨Nat.zero_le _, upd_same, Same.upd (Same.refl H) hN0⟩
    · rintro i Hj _ ⟨_, _, e2⟩
      exact SqT.of (e2 t _ ht)
    · rintro i x Hj hxi ⟨hi, hl2, e2⟩
      have hil : i < xs.length := (List.getElem?_eq_some_iff.mp hxi).1
      obtain ⟨en, hen, hTd⟩ := hx.getM hxi
      obtain ⟨tn, tr, rs, rfl, htn, htr, hrs⟩ := entD_inv hTd
      have hrl : i < (pl.map (·.1)).length := by rw [List.length_map]; omega
      refine ⟨rfl, tYes_if ?_⟩
      refine ⟨_, rfl, tn, _, _, _, rfl, rfl, SqT.of (e2 tn _ htn), rfl, ?_⟩
      refine ⟨_, hl2, sizeLt (by rw [List.length_map, List.length_take]; omega), hil, ?_, Same.upd e2 hN0⟩
      rw [upd_same, List.take_succ_eq_append_getElem hrl, List.map_append]
      have er : (pl.map (·.1))[i] = en.1 := by
        rw [List.getElem_map]
        rw [(List.getElem?_eq_some_iff.mp hen).2]
      rw [er]
      rfl
    · rintro Hi ⟨_, hN, e⟩
      rw [List.take_of_length_le (by rw [List.length_map]; omega)] at hN
      have ht' := e t _ ht
      refine ⟨_, rfl, t, rfl, ⟨_, SqT.of ht'⟩, fun D hD => lc2_tup (K := K) (a := t) (xs := xs) (fun i Hj => i ≤ xs.length ∧ ∃ n, n ≤ 3 * i ∧ Hj D = some (.lst (List.replicate n (V.bl true))) ∧ Same Hi Hj) ?_ ?_ ?_ ?_⟩
      · exact ⟨Nat.zero_le _, 0, Nat.zero_le _, upd_same, Same.upd (Same.refl Hi) hD⟩
      · rintro i Hj _ ⟨_, _, _, _, e2⟩
        exact SqT.of (e2 t _ ht')
      · rintro i x Hj hxi ⟨hi, n, hn, hl, e2⟩
        have hil : i < xs.length := (List.getElem?_eq_some_iff.mp hxi).1
        obtain ⟨en, hen, hTd⟩ := hx.getM hxi
        have hem := List.mem_of_getElem? hen
        have gr := g.refs en hem
        obtain ⟨tn, tr, rs, rfl, htn, htr, hrs⟩ := entD_inv hTd
        have hlr : rs.length = en.2.2.length := by rw [hrs.length, List.length_map]
        have g3 := gr.len
        have e3 := e.trans e2
        refine ⟨rfl, tYes_if ?_⟩
        refine ⟨_, rfl, tn, _, _, _, rfl, rfl, SqT.of (e3 tn _ htn), rfl, tr, rfl, ⟨_, SqT.of (e3 tr _ htr)⟩, ?_⟩
        refine in2_tup (K := K) (a := tr) (xs := rs) (fun j Hk => j ≤ rs.length ∧ Hk D = some (.lst (List.replicate (n + j) (V.bl true))) ∧ Same Hi Hk) ?_ ?_ ?_ ?_
        · exact ⟨Nat.zero_le _, hl, e2⟩
        · rintro j Hk _ ⟨_, _, e4⟩
          exact SqT.of (e4 tr _ (e tr _ htr))
        · rintro j y Hk hyj ⟨hj, hl4, e4⟩
          have hjl : j < rs.length := (List.getElem?_eq_some_iff.mp hyj).1
          obtain ⟨r, hr, hTr⟩ := hrs.getM hyj
          have hrm := List.mem_of_getElem? hr
          obtain ⟨tt, rfl, htt⟩ := refD_inv hTr
          refine ⟨tt, _, rfl, SqT.of (e4 tt _ (e tt _ htt)), rfl, _, _, rfl, _, _, rfl, rfl, rfl, tYes_if ?_⟩
          refine ⟨_, rfl, _, rfl, N0, _, rfl, .inl (SqL.of (e4 N0 _ hN)), rfl, flat_strs _, ?_⟩
          refine ⟨_, hl4, sizeLt (by rw [List.length_replicate]; omega), hjl, ?_, Same.upd e4 hD⟩
          have ev : inV (.str r.2) ((pl.map (·.1)).map V.str) = true := by
            rw [inV_strs]
            exact decide_eq_true (gr.to r hrm)
          have ev' : V.bl (if false = true then !inV (V.str r.2) ((pl.map (·.1)).map V.str) else inV (V.str r.2) ((pl.map (·.1)).map V.str)) = V.bl true := by
            rw [if_neg Bool.false_ne_true, ev]
          rw [upd_same]
          exact congrArg (fun z => some (HO.lst z)) (by rw [ev', rep_snoc, Nat.add_assoc])
        · rintro Hk ⟨hj, hl4, e4⟩
          exact ⟨hil, n + rs.length, by omega, hl4, e4⟩
      · rintro Hj ⟨_, n, hn, hl, e2⟩
        refine ⟨D, List.replicate n true, rfl, SqL.of (by rw [hl, rep_bl]), ?_⟩
        rw [all_true]
        exact q _ (e.trans e2)
end My
namespace My
open PySem L2
def spWhole (K : PySem.W.Frag) : Sp := fun vs H Q _ => ∃ v, vs = [v] ∧ ((∃ i, v = .int i ∧ Q (.bl true) H) ∨ (∃ b, v = .bl b ∧ Q (.bl false) H) ∨ ∃ t, TyX K H v t ∧ PySem.W.kitOne K t (.type "int") = some false ∧ Q (.bl false) H)
theorem ok_is_whole {P : Program} {w : World} {K : PySem.W.Frag} {mg : Str → Option Value} {base : Heap} {CS CD : Addr} (T : Txt K mg CS CD) : CallOk P w K mg base 1 "is_whole" (spWhole K) := by
  refine T.d_is_whole.ok sc_is_whole (fun vs H Q E h => ?_) (fun f cdv A outer s H vs Q E hr h => ?_)
  · obtain ⟨v, rfl, _⟩ := h
    rfl
  · obtain ⟨v, rfl, h⟩ := h
    refine ⟨_, (pss_one (ps_ret (pe_and (pe_callB (kIsi (K := K)) (by rfl) T.n_isinstance (by decide +kernel) (pa_cons (pv 0) (pa_cons (pe_bltn (v := .ty "int") (by rfl) T.n_int (by decide +kernel) rfl) pa_nil))) (pe_one (pe_not (pe_callB (kIsi (K := K)) (by rfl) T.n_isinstance (by decide +kernel) (pa_cons (pv 0) (pa_cons (pe_bltn (v := .ty "bool") (by rfl) T.n_bool (by decide +kernel) rfl) pa_nil)))))))), ?_⟩
    rcases h with ⟨i, rfl, q⟩ | ⟨b, rfl, q⟩ | ⟨t, ty, ko, q⟩
    · refine ⟨_, rfl, _, _, _, _, true, rfl, ClsV.ty "int", TyX.base (TyOf.int i), kit_ty (by decide +kernel), true, rfl, iteT ?_⟩
      exact ⟨_, rfl, _, _, _, _, false, rfl, ClsV.ty "bool", TyX.base (TyOf.int i), kit_ty (by decide +kernel), false, rfl, q⟩
    · refine ⟨_, rfl, _, _, _, _, true, rfl, ClsV.ty "int", TyX.base (TyOf.bl b), kit_ty (by decide +kernel), true, rfl, iteT ?_⟩
      exact ⟨_, rfl, _, _, _, _, true, rfl, ClsV.ty "bool", TyX.base (TyOf.bl b), kit_ty (by decide +kernel), true, rfl, q⟩
    · exact ⟨_, rfl, _, _, _, _, false, rfl, ClsV.ty "int", ty, ko, false, rfl, iteF q⟩
end My
namespace My
open PySem L2
def spKey : Sp := fun vs H Q _ => ∃ i : Int, vs = [.int i] ∧ Q (.bl (decide (1 ≤ i))) H
theorem ok_is_key {P : Program} {w : World} {K : PySem.W.Frag} {mg : Str → Option Value} {base : Heap} {CS CD : Addr} (T : Txt K mg CS CD) : CallOk P w K mg base 2 "is_key" spKey := by
  have c_is_whole := ok_is_whole (P := P) (w := w) (base := base) T
  refine T.d_is_key.ok sc_is_key (fun vs H Q E h => ?_) (fun f cdv A outer s H vs Q E hr h => ?_)
  · obtain ⟨v, rfl, _⟩ := h
    rfl
  · obtain ⟨i, rfl, q⟩ := h
    refine ⟨_, (pss_one (ps_ret (pe_and (pe_callC c_is_whole (hr.mono (by decide)) (pa_cons (pv 0) pa_nil)) (pe_one (pe_cmpR op_ge (pv 0) pe_int (nomark _)))))), ?_⟩
    exact ⟨_, rfl, _, rfl, .inl ⟨i, rfl, true, rfl, iteT ⟨_, rfl, _, _, rfl, rfl, q⟩⟩⟩
end My
namespace My
open PySem L2
def spLabel : Sp := fun vs H Q _ => ∃ i : Int, vs = [.int i] ∧ 0 ≤ i ∧ i < 1000000000000000000000000000000 ∧ Q (.bl true) H
theorem ok_is_label {P : Program} {w : World} {K : PySem.W.Frag} {mg : Str → Option Value} {base : Heap} {CS CD : Addr} (T : Txt K mg CS CD) : CallOk P w K mg base 2 "is_label" spLabel := by
  have c_is_whole := ok_is_whole (P := P) (w := w) (base := base) T
  refine T.d_is_label.ok sc_is_label (fun vs H Q E h => ?_) (fun f cdv A outer s H vs Q E hr h => ?_)
  · obtain ⟨v, rfl, _⟩ := h
    rfl
  · obtain ⟨i, rfl, h0, h1, q⟩ := h
    refine ⟨_, (pss_one (ps_ret (pe_and (pe_callC c_is_whole (hr.mono (by decide)) (pa_cons (pv 0) pa_nil)) (pe_one (pe_chain op_le op_lt pe_int (pv 0) (pe_globV T.v_LABELS_END)))))), ?_⟩
    refine ⟨_, rfl, _, rfl, .inl ⟨i, rfl, true, rfl, iteT ?_⟩⟩
    refine ⟨_, rfl, _, _, rfl, rfl, true, congrArg V.bl (decide_eq_true (show (0 : Int) ≤ i from h0)), iteT ⟨_, _, rfl, rfl, ?_⟩⟩
    have e : decide (i < (1000000000000000000000000000000 : Int)) = true := decide_eq_true h1
    show Q (.bl (decide (i < (1000000000000000000000000000000 : Int)))) H
    rw [e]
    exact q
end My
namespace My
open PySem L2
def spRow : Sp := fun vs H Q _ => ∃ (v : V) (w : Nat) (lab : Int) (cs : List (Option Int)), vs = [v, .int w] ∧ Td H v (rowD lab cs) ∧ GoodRow w lab cs ∧ w ≤ 1000 ∧ ∀ H', Same H H' → Q (.bl true) H'
theorem ok_is_row {P : Program} {w : World} {K : PySem.W.Frag} {mg : Str → Option Value} {base : Heap} {CS CD : Addr} (T : Txt K mg CS CD) : CallOk P w K mg base 3 "is_row" spRow := by
  have c_is_key := ok_is_key (P := P) (w := w) (base := base) T
  have c_is_label := ok_is_label (P := P) (w := w) (base := base) T
  refine T.d_is_row.ok sc_is_row (fun vs H Q E h => ?_) (fun f cdv A outer s H vs Q E hr h => ?_)
  · obtain ⟨v, w, lab, cs, rfl, _⟩ := h
    rfl
  · obtain ⟨v, w, lab, cs, rfl, hv, g, hw, q⟩ := h
    obtain ⟨t, tc, xs, rfl, ht, htc, hx⟩ := rowD_inv hv
    have hl : xs.length = w := by rw [hx.length, List.length_map, g.len]
    refine ⟨_, (pss_cons (ps_if (PW.pt (pw_or (pt_not (pt_val (pe_callB (kIsi (K := K)) (by rfl) T.n_isinstance (by decide +kernel) (pa_cons (pv 0) (pa_cons (pe_bltn (v := .ty "tuple") (by rfl) T.n_tuple (by decide +kernel) rfl) pa_nil))))) (pw_or1 (pt_cmpR op_ne (pe_callB (kLen (K := K)) (by rfl) T.n_len PySem.boot_len (pa_cons (pv 0) pa_nil)) pe_int (nomark _))))) (pss_one (ps_ret pe_bl)) pss_nil)
      (pss_cons (ps_asg (pv 0) (kPgT (K := K) (n := 2) rfl (pgs_cons (pg_name (i := 2) sc_is_row.nd rfl (by first | exact Or.inl rfl | exact Or.inr rfl)) (pgs_cons (pg_name (i := 3) sc_is_row.nd rfl (by first | exact Or.inl rfl | exact Or.inr rfl)) pgs_nil))))
      (pss_cons (ps_if (PW.pt (pw_or (pt_not (pt_val (pe_callC c_is_label (hr.mono (by decide)) (pa_cons (pv 2) pa_nil)))) (pw_or (pt_not (pt_val (pe_callB (kIsi (K := K)) (by rfl) T.n_isinstance (by decide +kernel) (pa_cons (pv 3) (pa_cons (pe_bltn (v := .ty "tuple") (by rfl) T.n_tuple (by decide +kernel) rfl) pa_nil))))) (pw_or1 (pt_cmpR op_ne (pe_callB (kLen (K := K)) (by rfl) T.n_len PySem.boot_len (pa_cons (pv 3) pa_nil)) (pv 1) (nomark _)))))) (pss_one (ps_ret pe_bl)) pss_nil)
      (pss_one (ps_ret (pe_callB (kAll (K := K) rfl) (by rfl) T.n_all (by decide +kernel) (pa_cons (pe_lc (own := [("cell", 4)]) rfl sc_is_row.nd (kPiT (K := K) (pv 3)) (blkOk_by (N := ["value", "width", "label", "cells", "cell"]) (sc := defScope s_is_row) (own := [("cell", 4)]) (by decide +kernel)) (fun _ _ _ _ _ => (pg_name (i := 4) sc_is_row.nd rfl (by first | exact Or.inl rfl | exact Or.inr rfl))) (fun _ _ _ _ _ => pts_nil) (fun _ _ _ _ _ => (pe_or (pe_cmpR op_isN (pv 4) pe_non (nomark _)) (pe_one (pe_callC c_is_key (hr.mono (by decide)) (pa_cons (pv 4) pa_nil)))))) pa_nil))))))), ?_⟩
    refine ⟨_, rfl, _, _, _, _, true, rfl, ClsV.ty "tuple", TyX.base (TyOf.tup ht), kit_ty (by decide +kernel), _, rfl, iteF ?_⟩
    refine ⟨_, rfl, t, _, rfl, .inr (SqT.of ht), rfl, false, rfl, iteF ?_⟩
    refine ⟨_, rfl, t, _, rfl, SqT.of ht, rfl, _, _, rfl, _, _, rfl, rfl, ?_⟩
    refine ⟨_, rfl, lab, rfl, g.lo, g.hi, true, rfl, iteF ?_⟩
    refine ⟨_, rfl, _, _, _, _, true, rfl, ClsV.ty "tuple", TyX.base (TyOf.tup htc), kit_ty (by decide +kernel), _, rfl, iteF ?_⟩
    refine ⟨_, rfl, tc, _, rfl, .inr (SqT.of htc), _, rfl, rfl, false, by rw [hl]; simp, iteF ?_⟩
    refine ⟨_, rfl, tc, rfl, ⟨_, SqT.of htc⟩, fun D hD => lc_tup (K := K) (a := tc) (xs := xs) (fun i Hi => i ≤ xs.length ∧ Hi D = some (.lst (List.replicate i (V.bl true))) ∧ Same H Hi) ?_ ?_ ?_ ?_⟩
    · exact ⟨Nat.zero_le _, upd_same, Same.upd (Same.refl H) hD⟩
    · rintro i Hi _ ⟨_, _, e⟩
      exact SqT.of (e tc _ htc)
    · rintro i x Hi hxi ⟨hi, hl2, e⟩
      have hil : i < xs.length := (List.getElem?_eq_some_iff.mp hxi).1
      obtain ⟨c, hc, hTd⟩ := hx.getM hxi
      have hcm := List.mem_of_getElem? hc
      have fin : ∃ acc, Hi D = some (HO.lst acc) ∧ acc.length < sizeLine ∧ i + 1 ≤ xs.length ∧ upd Hi D (.lst (acc ++ [V.bl true])) D = some (.lst (List.replicate (i + 1) (V.bl true))) ∧ Same H (upd Hi D (.lst (acc ++ [V.bl true]))) :=
        ⟨_, hl2, sizeLt (by rw [List.length_replicate]; omega), hil, by rw [upd_same, rep_snoc], Same.upd e hD⟩
      refine ⟨rfl, tYes_if ?_⟩
      obtain rfl := cellD_inv hTd
      cases c with
      | none =>
        exact ⟨_, rfl, rfl, true, rfl, iteT fin⟩
      | some z =>
        refine ⟨_, rfl, rfl, false, rfl, iteF ⟨_, rfl, z, rfl, ?_⟩⟩
        rw [decide_eq_true (g.key z hcm)]
        exact fin
    · rintro Hi ⟨_, hl2, e⟩
      refine ⟨D, List.replicate xs.length true, rfl, SqL.of (by rw [hl2, rep_bl]), ?_⟩
      rw [all_true]
      exact q _ e
end My
namespace My
open PySem L2
def spSchema (CS : Addr) : Sp := fun vs H Q _ => ∃ (p dx : Addr) (v : V) (pl : Plan), vs = [.ref p, v] ∧ Td H v (planD pl) ∧ Good pl ∧ H p = some (.ins CS dx []) ∧ ∀ H' de, SchE CS H' p pl de → H de = none → Fr1 p H H' → Q .non H'
theorem body_Schema_init {P : Program} {w : World} {K : PySem.W.Frag} {mg : Str → Option Value} {base : Heap} {CS CD : Addr} (T : Txt K mg CS CD) : BodyOk P w K mg base 5 ["self", "tables", "entry"] "Schema.__init__" s_Schema_init (spSchema CS) := by
  have c_are_tables := ok_are_tables (P := P) (w := w) (base := base) T
  have c_refer_within := ok_refer_within (P := P) (w := w) (base := base) T
  intro f cdv A outer s H vs Q E hr h
  · obtain ⟨p, dx, v, pl, rfl, hv, g, hp, q⟩ := h
    refine ⟨_, (pss_cons (ps_if (pt_not (pt_val (pe_callC c_are_tables (hr.mono (by decide)) (pa_cons (pv 1) pa_nil)))) (pss_one ps_never) pss_nil)
      (pss_cons (ps_if (pt_not (pt_val (pe_callC c_refer_within (hr.mono (by decide)) (pa_cons (pv 1) pa_nil)))) (pss_one ps_never) pss_nil)
      (pss_cons (ps_fld (pv 0) (pv 1) rfl)
      (pss_one (ps_fld (pv 0) (pe_dc (own := [("entry", 2)]) rfl sc_Schema_init.nd (kPiT (K := K) (pv 1)) (blkOk_by (N := ["self", "tables", "entry"]) (sc := defScope s_Schema_init) (own := [("entry", 2)]) (by decide +kernel)) (fun _ _ _ _ _ => (pg_name (i := 2) sc_Schema_init.nd rfl (by first | exact Or.inl rfl | exact Or.inr rfl))) (fun _ _ _ _ _ => pts_nil) (fun _ _ _ _ _ => (pe_ix (kIxT (K := K)) (pv 2) pe_int (fun _ _ => rfl))) (fun _ _ _ _ _ => (pv 2))) rfl))))), ?_⟩
    refine ⟨_, rfl, v, pl, rfl, hv, g, fun H1 e1 => ⟨true, rfl, iteF ?_⟩⟩
    refine ⟨_, rfl, v, pl, rfl, hv.kt_same e1, g, fun H2 e2 => ⟨true, rfl, iteF ?_⟩⟩
    have e12 := e1.trans e2
    have hp2 := e12 p _ hp
    have hv2 := hv.kt_same e12
    refine ⟨_, rfl, _, rfl, p, CS, dx, [], rfl, hp2, T.c_Schema.cl, T.a_Schema_tables, (by show 0 < 1000; decide), ?_⟩
    have kt3 : KT H2 (upd H2 p (.ins CS dx (putF "_tables" v []))) := fun c xs hc => by
      rw [upd_ne (ne_of hc hp2 (by intro z; cases z))]
      exact hc
    obtain ⟨t, xs, rfl, ht, hx⟩ := hv2.tup_inv
    have hlx : xs.length = pl.length := by rw [hx.length, List.length_map]
    have hi5 := g.hi
    have ht3 := kt3 t _ ht
    generalize hH3 : upd H2 p (.ins CS dx (putF "_tables" (V.ref t) [])) = H3 at *
    have hp3 : H3 p = some (.ins CS dx (putF "_tables" (V.ref t) [])) := by rw [← hH3, upd_same]
    have hx3 := hx.mono kt3
    refine ⟨_, rfl, t, rfl, ⟨_, SqT.of ht3⟩, fun D hD => dc_tup (K := K) (a := t) (xs := xs) (fun i Hi => i ≤ xs.length ∧ ∃ kvs, Hi D = some (.dK kvs) ∧ EntsAt Hi kvs (pl.take i) ∧ Same H3 Hi) ?_ ?_ ?_ ?_⟩
    · exact ⟨Nat.zero_le _, [], upd_same, ⟨rfl, .nil⟩, Same.upd (Same.refl H3) hD⟩
    · rintro i Hi _ ⟨_, _, _, _, e⟩
      exact SqT.of (e t _ ht3)
    · rintro i x Hi hxi ⟨hi, kvs, hl, he, e⟩
      have hil : i < xs.length := (List.getElem?_eq_some_iff.mp hxi).1
      have hip : i < pl.length := by omega
      obtain ⟨en, hen, hTd⟩ := hx3.getM hxi
      have hen2 : pl[i] = en := (List.getElem?_eq_some_iff.mp hen).2
      obtain ⟨tn, tr, rs, rfl, htn, htr, hrs⟩ := entD_inv hTd
      refine ⟨rfl, tYes_if ?_⟩
      refine ⟨_, rfl, tn, _, _, _, rfl, rfl, SqT.of (e tn _ htn), rfl, _, rfl, kvs, Sum.inr en.1, rfl, hl, ?_, hil, _, upd_same, ?_, Same.upd e hD⟩
      · have hkl : kvs.length = (pl.take i).length := by
          have := congrArg List.length he.keys
          rwa [List.length_map, List.length_map] at this
        rw [List.length_take] at hkl
        exact sizeLt (by omega)
      · have hno : valV kvs (Sum.inr en.1 : Key) = none := by
          refine valV_no he.keys fun hm => ?_
          have nd := g.nd
          obtain ⟨e2, he2, ee⟩ := List.mem_map.mp hm
          obtain ⟨j, hj, ej⟩ := List.getElem_of_mem he2
          rw [List.getElem_take] at ej
          have hji : j < i := by
            rw [List.length_take] at hj
            omega
          have hji2 : j < pl.length := by omega
          have a1 : (pl.map (·.1))[j]'(by rw [List.length_map]; omega) = (pl.map (·.1))[i]'(by rw [List.length_map]; omega) := by
            rw [List.getElem_map, List.getElem_map, hen2, ej, ee]
          have := (List.getElem_inj nd).mp a1
          omega
        rw [putK_new _ hno]
        have ktD : KT Hi (upd Hi D (.dK (kvs ++ [(Sum.inr en.1, V.ref tn)]))) := fun c ys hc => by
          rw [upd_ne (ne_of hc hl (by intro z; cases z))]
          exact hc
        refine ⟨?_, ?_⟩
        · rw [List.take_succ_eq_append_getElem hip, List.map_append, List.map_append, he.keys, hen2]
          rfl
        · rw [List.take_succ_eq_append_getElem hip, List.map_append, List.map_append, hen2]
          exact (he.vals.mono ktD).append (.cons ((hTd.kt_same e).mono ktD) .nil)
    · rintro Hi ⟨_, kvs, hl, he, e⟩
      rw [List.take_of_length_le (by omega)] at he
      have hpi := e p _ hp3
      refine ⟨_, rfl, p, CS, dx, _, rfl, hpi, T.c_Schema.cl, T.a_Schema_entries, (by show 1 < 1000; decide), ?_⟩
      have ktp : KT Hi (upd Hi p (.ins CS dx (putF "_entries" (V.ref D) (putF "_tables" (V.ref t) [])))) := fun c ys hc => by
        rw [upd_ne (ne_of hc hpi (by intro z; cases z))]
        exact hc
      have nDp : D ≠ p := ne_of hl hpi (by intro z; cases z)
      refine q _ D ⟨g, dx, .ref t, kvs, upd_same, ((Td.tup ht3 hx3).kt_same e).mono ktp, by rw [upd_ne nDp]; exact hl, he.keys, he.vals.mono ktp⟩ ?_ ?_
      · cases c : H D with
        | none => rfl
        | some o =>
          have c2 := e12 D o c
          have c3 : H3 D = some o := by rw [← hH3, upd_ne nDp]; exact c2
          rw [hD] at c3
          cases c3
      intro c o nc hc
      rw [upd_ne nc]
      refine e c o ?_
      rw [← hH3, upd_ne nc]
      exact e12 c o hc
theorem len_Schema_init {CS : Addr} : ∀ vs H Q E, spSchema CS vs H Q E → vs.length = ["self", "tables"].length := by
  rintro vs H Q E ⟨p, dx, v, pl, rfl, _⟩
  rfl
theorem ok_Schema_init {P : Program} {w : World} {K : PySem.W.Frag} {mg : Str → Option Value} {base : Heap} {CS CD : Addr} (T : Txt K mg CS CD) : MakeOk P w K mg base 6 CS "Schema" (spSchema CS) := T.d_Schema_init.make T.c_Schema sc_Schema_init len_Schema_init (body_Schema_init T)
theorem kw_Schema_init {P : Program} {w : World} {K : PySem.W.Frag} {mg : Str → Option Value} {base : Heap} {CS CD : Addr} (T : Txt K mg CS CD) : MakeKOk P w K mg base 6 CS "Schema" 0 ["tables"] (fun vs zs => vs ++ zs) (spSchema CS) :=
  T.d_Schema_init.makeK T.c_Schema sc_Schema_init len_Schema_init (body_Schema_init T) (fun us ws => us ++ ws) (fun r1 r2 => r1.append r2) fun _ _ _ _ _ _ us ws h1 h2 => match us, ws, h1, h2 with | [_], [_], _, _ => rfl
end My
namespace My
open PySem L2
def spSTables (CS : Addr) : Sp := fun vs H Q _ => ∃ (p : Addr) (pl : Plan), vs = [.ref p] ∧ SchAt CS H p pl ∧ ∀ v, Td H v (planD pl) → Q v H
theorem ok_Schema_tables {P : Program} {w : World} {K : PySem.W.Frag} {mg : Str → Option Value} {base : Heap} {CS CD : Addr} (T : Txt K mg CS CD) : MethOk P w K mg base 1 CS "tables" (spSTables CS) := by
  refine T.d_Schema_tables.ok T.c_Schema.cl sc_Schema_tables (fun vs H Q E h => ?_) (fun f cdv A outer s H vs Q E hr h => ?_)
  · obtain ⟨p, pl, rfl, _⟩ := h
    rfl
  · obtain ⟨p, pl, rfl, S, q⟩ := h
    obtain ⟨dx, tv, de, kvs, h1, h2, h3, h4⟩ := S.ex
    refine ⟨_, (pss_one (ps_ret (kFld (K := K) (pv 0) rfl))), ?_⟩
    exact ⟨_, rfl, p, CS, dx, _, _, rfl, h1, T.c_Schema.cl, T.a_Schema_tables, sFlds_t _ _, q _ h2⟩
end My
namespace My
open PySem L2
def spEntry (CS : Addr) : Sp := fun vs H Q _ => ∃ (p : Addr) (pl : Plan) (e : Ent), vs = [.ref p, .str e.1] ∧ SchAt CS H p pl ∧ e ∈ pl ∧ ∀ v, Td H v (entD e) → Q v H
theorem ok_Schema__entry {P : Program} {w : World} {K : PySem.W.Frag} {mg : Str → Option Value} {base : Heap} {CS CD : Addr} (T : Txt K mg CS CD) : MethOk P w K mg base 2 CS "_entry" (spEntry CS) := by
  have c_is_one_of := ok_is_one_of (P := P) (w := w) (base := base) T
  refine T.d_Schema__entry.ok T.c_Schema.cl sc_Schema__entry (fun vs H Q E h => ?_) (fun f cdv A outer s H vs Q E hr h => ?_)
  · obtain ⟨p, pl, e, rfl, _⟩ := h
    rfl
  · obtain ⟨p, pl, e, rfl, S, he, q⟩ := h
    obtain ⟨dx, tv, de, kvs, h1, h2, h3, h4⟩ := S.ex
    obtain ⟨v, hv, hT⟩ := h4.get S.good he
    have hg : DGet H de (V.str e.1) (some v) := by
      rw [← hv]
      exact DGet.k (k := Sum.inr e.1) h3
    refine ⟨_, (pss_cons (ps_if (pt_not (pt_val (pe_callC c_is_one_of (hr.mono (by decide)) (pa_cons (pv 1) (pa_cons (kFld (K := K) (pv 0) rfl) pa_nil))))) (pss_one ps_never) pss_nil)
      (pss_one (ps_ret (pe_dget (hu_of hr) (kFld (K := K) (pv 0) rfl) (pv 1) (fun _ _ => rfl))))), ?_⟩
    refine ⟨_, rfl, _, rfl, p, CS, dx, _, _, rfl, h1, T.c_Schema.cl, T.a_Schema_entries, sFlds_e _ _, _, _, rfl, .inr ⟨e.1, rfl, .inl ⟨de, _, rfl, hg, true, rfl, iteF ?_⟩⟩⟩
    exact ⟨_, rfl, p, CS, dx, _, _, rfl, h1, T.c_Schema.cl, T.a_Schema_entries, sFlds_e _ _, _, rfl, de, v, rfl, hg, q v hT⟩
end My
namespace My
open PySem L2
def spUnique (CS : Addr) : Sp := fun vs H Q _ => ∃ (p : Addr) (pl : Plan) (e : Ent), vs = [.ref p, .str e.1] ∧ SchAt CS H p pl ∧ e ∈ pl ∧ Q (.bl e.2.1) H
theorem ok_Schema_is_unique {P : Program} {w : World} {K : PySem.W.Frag} {mg : Str → Option Value} {base : Heap} {CS CD : Addr} (T : Txt K mg CS CD) : MethOk P w K mg base 3 CS "is_unique" (spUnique CS) := by
  have c_Schema_entry := ok_Schema__entry (P := P) (w := w) (base := base) T
  refine T.d_Schema_is_unique.ok T.c_Schema.cl sc_Schema_is_unique (fun vs H Q E h => ?_) (fun f cdv A outer s H vs Q E hr h => ?_)
  · obtain ⟨p, pl, e, rfl, _⟩ := h
    rfl
  · obtain ⟨p, pl, e, rfl, S, he, q⟩ := h
    obtain ⟨dx, tv, de, kvs, h1, h2, h3, h4⟩ := S.ex
    refine ⟨_, (pss_one (ps_ret (pe_ix (kIxT (K := K)) (pe_methC (pv 0) c_Schema_entry (hr.mono (by decide)) (pa_cons (pv 1) pa_nil)) pe_int (fun _ _ => rfl)))), ?_⟩
    refine ⟨_, rfl, p, dx, _, rfl, h1, sFlds_no _ _ (by decide +kernel) (by decide +kernel), _, rfl, p, pl, e, rfl, S, he, fun v hv => ?_⟩
    obtain ⟨t, tr, rs, rfl, ht, htr, hrs⟩ := entD_inv hv
    exact ⟨t, _, _, _, rfl, rfl, SqT.of ht, rfl, q⟩
end My
namespace My
open PySem L2
def colsD (e : Ent) : PyData := .tuple ((e.2.2.map (·.1)).map PyData.str)
def spColumns (CS : Addr) : Sp := fun vs H Q _ => ∃ (p : Addr) (pl : Plan) (e : Ent), vs = [.ref p, .str e.1] ∧ SchAt CS H p pl ∧ e ∈ pl ∧ ∀ t H', H t = none → H' t = some (TupX t (e.2.2.map (·.1))) → Same H H' → Q (.ref t) H'
theorem ok_Schema_columns {P : Program} {w : World} {K : PySem.W.Frag} {mg : Str → Option Value} {base : Heap} {CS CD : Addr} (T : Txt K mg CS CD) : MethOk P w K mg base 3 CS "columns" (spColumns CS) := by
  have c_Schema_entry := ok_Schema__entry (P := P) (w := w) (base := base) T
  refine T.d_Schema_columns.ok T.c_Schema.cl sc_Schema_columns (fun vs H Q E h => ?_) (fun f cdv A outer s H vs Q E hr h => ?_)
  · obtain ⟨p, pl, e, rfl, _⟩ := h
    rfl
  · obtain ⟨p, pl, e, rfl, S, he, q⟩ := h
    obtain ⟨dx, tv, de, kvs, h1, h2, h3, h4⟩ := S.ex
    have gr := S.good.refs e he
    have g3 := gr.len
    refine ⟨_, (pss_one (ps_ret (pe_callTy (kTupX (K := K)) (by rfl) T.n_tuple (by decide +kernel) (pa_cons (pe_lc (own := [("column", 2), ("_", 3)]) rfl sc_Schema_columns.nd (kPiT (K := K) (pe_ix (kIxT (K := K)) (pe_methC (pv 0) c_Schema_entry (hr.mono (by decide)) (pa_cons (pv 1) pa_nil)) pe_int (fun _ _ => rfl))) (blkOk_by (N := ["self", "name", "column", "_"]) (sc := defScope s_Schema_columns) (own := [("column", 2), ("_", 3)]) (by decide +kernel)) (fun _ _ _ _ _ => (kPgT (K := K) (n := 2) rfl (pgs_cons (pg_name (i := 2) sc_Schema_columns.nd rfl (by first | exact Or.inl rfl | exact Or.inr rfl)) (pgs_cons (pg_name (i := 3) sc_Schema_columns.nd rfl (by first | exact Or.inl rfl | exact Or.inr rfl)) pgs_nil)))) (fun _ _ _ _ _ => pts_nil) (fun _ _ _ _ _ => (pv 2))) pa_nil)))), ?_⟩
    refine ⟨_, rfl, p, dx, _, rfl, h1, sFlds_no _ _ (by decide +kernel) (by decide +kernel), _, rfl, p, pl, e, rfl, S, he, fun v hv => ?_⟩
    obtain ⟨t, tr, rs, rfl, ht, htr, hrs⟩ := entD_inv hv
    have hlr : rs.length = e.2.2.length := by rw [hrs.length, List.length_map]
    refine ⟨t, _, _, _, rfl, rfl, SqT.of ht, rfl, tr, rfl, ⟨_, SqT.of htr⟩, fun D hD => lc_tup (K := K) (a := tr) (xs := rs) (fun i Hi => i ≤ rs.length ∧ Hi D = some (.lst ((e.2.2.map (·.1)).take i |>.map V.str)) ∧ Same H Hi) ?_ ?_ ?_ ?_⟩
    · exact ⟨Nat.zero_le _, upd_same, Same.upd (Same.refl H) hD⟩
    · rintro i Hi _ ⟨_, _, e2⟩
      exact SqT.of (e2 tr _ htr)
    · rintro i x Hi hxi ⟨hi, hl, e2⟩
      have hil : i < rs.length := (List.getElem?_eq_some_iff.mp hxi).1
      obtain ⟨r, hrr, hTr⟩ := hrs.getM hxi
      obtain ⟨tt, rfl, htt⟩ := refD_inv hTr
      have hrl : i < (e.2.2.map (·.1)).length := by rw [List.length_map]; omega
      refine ⟨tt, _, rfl, SqT.of (e2 tt _ htt), rfl, _, _, rfl, _, _, rfl, rfl, rfl, tYes_if ?_⟩
      refine ⟨_, rfl, _, hl, sizeLt (by rw [List.length_map, List.length_take]; omega), hil, ?_, Same.upd e2 hD⟩
      rw [upd_same, List.take_succ_eq_append_getElem hrl, List.map_append]
      have er : (e.2.2.map (·.1))[i] = r.1 := by
        rw [List.getElem_map]
        rw [(List.getElem?_eq_some_iff.mp hrr).2]
      rw [er]
      rfl
    · rintro Hi ⟨_, hl, e2⟩
      rw [List.take_of_length_le (by rw [List.length_map]; omega)] at hl
      refine ⟨D, _, rfl, SqL.of hl, fun t1 ht1 => ?_⟩
      exact q t1 _ (Same.free e2 ht1) upd_same (Same.upd e2 (Same.free e2 ht1))
end My
namespace My
open PySem L2
def spDb (CD CS : Addr) : Sp := fun vs H Q _ => ∃ (p dx s : Addr) (pl : Plan), vs = [.ref p, .ref s] ∧ SchAt CS H s pl ∧ H p = some (.ins CD dx []) ∧
  ∀ H' sp de dr ds, DbAt CD CS H' p pl sp de dr ds (pl.map fun _ => []) → (∀ c ∈ sp :: de :: dr :: ds, H c = none) → Fr1 p H H' → Q .non H'
theorem body_Database_init {P : Program} {w : World} {K : PySem.W.Frag} {mg : Str → Option Value} {base : Heap} {CS CD : Addr} (T : Txt K mg CS CD) : BodyOk P w K mg base 7 ["self", "schema", "entry"] "Database.__init__" s_Database_init (spDb CD CS) := by
  have c_Schema := ok_Schema_init (P := P) (w := w) (base := base) T
  have c_Schema_tables := ok_Schema_tables (P := P) (w := w) (base := base) T
  intro f cdv A outer s H vs Q E hr h
  · obtain ⟨p, dx, s, pl, rfl, S, hp, q⟩ := h
    refine ⟨_, (pss_cons (ps_fld (pv 0) (pe_makeC c_Schema (hr.mono (by decide)) (pa_cons (pe_methC0 (pv 1) c_Schema_tables (hr.mono (by decide))) pa_nil)) rfl)
      (pss_one (ps_fld (pv 0) (pe_dc (own := [("entry", 2)]) rfl sc_Database_init.nd (kPiT (K := K) (pe_methC0 (pv 1) c_Schema_tables (hr.mono (by decide)))) (blkOk_by (N := ["self", "schema", "entry"]) (sc := defScope s_Database_init) (own := [("entry", 2)]) (by decide +kernel)) (fun _ _ _ _ _ => (pg_name (i := 2) sc_Database_init.nd rfl (by first | exact Or.inl rfl | exact Or.inr rfl))) (fun _ _ _ _ _ => pts_nil) (fun _ _ _ _ _ => (pe_ix (kIxT (K := K)) (pv 2) pe_int (fun _ _ => rfl))) (fun _ _ _ _ _ => pe_dnewK)) rfl))), ?_⟩
    obtain ⟨sdx, stv, sde, skvs, s1, _⟩ := S.ex
    have hi5 := S.good.hi
    refine ⟨_, rfl, s, sdx, _, rfl, s1, sFlds_no _ _ (by decide +kernel) (by decide +kernel), s, pl, rfl, S, fun v hv => ?_⟩
    refine fun x xdx nx ndx nex => ⟨x, xdx, v, pl, rfl, hv.mono (KT.upd ((KT.refl H).upd ndx) nx), S.good, upd_same, fun H1 de S1 hde e1 => ⟨rfl, ?_⟩⟩
    have h1 : Same H H1 := Same.made' nx ndx e1
    have hde0 : H de = none := by
      cases c : H de with
      | none => rfl
      | some o =>
        rw [upd_ne (ne_of_none c nx), upd_ne (ne_of_none c ndx), c] at hde
        cases hde
    have hp1 := h1 p _ hp
    refine ⟨_, rfl, p, CD, dx, [], rfl, hp1, T.c_Database.cl, T.a_Database_schema, (by show 0 < 1000; decide), ?_⟩
    have kt2 : KT H1 (upd H1 p (.ins CD dx (putF "_schema" (V.ref x) []))) := fun c xs hc => by
      rw [upd_ne (ne_of hc hp1 (by intro z; cases z))]
      exact hc
    have f2 : Fr1 p H (upd H1 p (.ins CD dx (putF "_schema" (V.ref x) []))) := (Fr1.of h1).at
    have hp2 : upd H1 p (.ins CD dx (putF "_schema" (V.ref x) [])) p = some (.ins CD dx (putF "_schema" (V.ref x) [])) := upd_same
    have nps : s ≠ p := fun z => by
      rw [z, hp] at s1
      have := HO.ins.inj (Option.some.inj s1)
      have h3 := congrArg (List.lookup ("_tables" : Str)) this.2.2
      rw [sFlds_t] at h3
      cases h3
    have npx : x ≠ p := fun z => by
      rw [z, hp] at nx
      cases nx
    have npde : de ≠ p := fun z => by
      rw [z, hp] at hde0
      cases hde0
    have S2 : SchE CS (upd H1 p (.ins CD dx (putF "_schema" (V.ref x) []))) x pl de := S1.keep kt2 (fun o ho => by rw [upd_ne npx]; exact ho) (fun o ho => by rw [upd_ne npde]; exact ho)
    have SS2 : SchAt CS (upd H1 p (.ins CD dx (putF "_schema" (V.ref x) []))) s pl := by
      obtain ⟨_, tv, de', kvs', g1, g2, g3, g4⟩ := S.ex
      have npd : de' ≠ p := ne_of g3 hp (by intro z; cases z)
      refine ⟨S.good, _, tv, de', kvs', by rw [upd_ne nps]; exact h1 _ _ g1, (g2.kt_same h1).mono kt2, by rw [upd_ne npd]; exact h1 _ _ g3, g4.keys, (g4.vals.mono (KT.of h1)).mono kt2⟩
    generalize hH2 : upd H1 p (.ins CD dx (putF "_schema" (V.ref x) [])) = H2 at *
    obtain ⟨sdx, stv, sde, skvs, s2, _⟩ := SS2.ex
    refine ⟨_, rfl, s, sdx, _, rfl, s2, sFlds_no _ _ (by decide +kernel) (by decide +kernel), s, pl, rfl, SS2, fun v2 hv2 => ?_⟩
    obtain ⟨t, xs, rfl, ht, hx⟩ := hv2.tup_inv
    have hlx : xs.length = pl.length := by rw [hx.length, List.length_map]
    refine ⟨t, rfl, ⟨_, SqT.of ht⟩, fun D hD => dc_tup (K := K) (a := t) (xs := xs) (fun i Hi => i ≤ xs.length ∧ ∃ ds : List Addr, ds.length = i ∧ ds.Nodup ∧ (∀ d ∈ ds, H2 d = none ∧ d ≠ D ∧ Hi d = some (.dK [])) ∧ Hi D = some (.dK (rowsK (pl.take i) ds)) ∧ Same H2 Hi) ?_ ?_ ?_ ?_⟩
    · exact ⟨Nat.zero_le _, [], rfl, List.nodup_nil, by simp, upd_same, Same.upd (Same.refl H2) hD⟩
    · rintro i Hi _ ⟨_, _, _, _, _, _, e⟩
      exact SqT.of (e t _ ht)
    · rintro i y Hi hyi ⟨hi, ds, hdl, hnd, hds, hDi, e⟩
      have hil : i < xs.length := (List.getElem?_eq_some_iff.mp hyi).1
      have hip : i < pl.length := by omega
      obtain ⟨en, hen, hTd⟩ := hx.getM hyi
      have hen2 : pl[i] = en := (List.getElem?_eq_some_iff.mp hen).2
      obtain ⟨tn, tr, rs, rfl, htn, htr, hrs⟩ := entD_inv hTd
      refine ⟨rfl, tYes_if ?_⟩
      refine ⟨_, rfl, tn, _, _, _, rfl, rfl, SqT.of (e tn _ htn), rfl, fun d hd => ?_⟩
      have ndD : d ≠ D := fun z => by
        rw [z, hDi] at hd
        cases hd
      have hd2 : H2 d = none := Same.free e hd
      refine ⟨_, Sum.inr en.1, rfl, by rw [upd_ne ndD.symm]; exact hDi, ?_, hil, ds ++ [d], by simp [hdl], nd_snoc hnd fun m => ?_, ?_, ?_, ?_⟩
      · unfold rowsK
        rw [List.length_zip, List.length_map, List.length_map, List.length_take]
        exact sizeLt (by omega)
      · have := (hds d m).2.2
        rw [hd] at this
        cases this
      · intro c hc
        rcases List.mem_append.mp hc with m | m
        · obtain ⟨a1, a2, a3⟩ := hds c m
          refine ⟨a1, a2, ?_⟩
          rw [upd_ne a2, upd_ne (fun z => by rw [z, hd] at a3; cases a3)]
          exact a3
        · rw [List.mem_singleton.mp m]
          refine ⟨hd2, ndD, ?_⟩
          rw [upd_ne ndD, upd_same]
      · rw [upd_same]
        have hno : valV (rowsK (pl.take i) ds) (Sum.inr en.1 : Key) = none := by
          refine valV_no (rowsK_keys (by rw [List.length_take]; omega)) fun hm => ?_
          obtain ⟨e2, he2, ee⟩ := List.mem_map.mp hm
          obtain ⟨j, hj, ej⟩ := List.getElem_of_mem he2
          rw [List.getElem_take] at ej
          have hji : j < i := by
            rw [List.length_take] at hj
            omega
          have hji2 : j < pl.length := by omega
          have a1 : (pl.map (·.1))[j]'(by rw [List.length_map]; omega) = (pl.map (·.1))[i]'(by rw [List.length_map]; omega) := by
            rw [List.getElem_map, List.getElem_map, hen2, ej, ee]
          have := (List.getElem_inj S.good.nd).mp a1
          omega
        rw [putK_new _ hno]
        refine congrArg (fun l => some (HO.dK l)) ?_
        unfold rowsK
        rw [List.take_succ_eq_append_getElem hip, List.map_append, List.map_append, List.zip_append (by rw [List.length_map, List.length_map, List.length_take]; omega), hen2]
        rfl
      · exact Same.upd' (Same.upd e hd2) hD
    · rintro Hi ⟨_, ds, hdl, hnd, hds, hDi, e⟩
      rw [List.take_of_length_le (by omega)] at hDi
      have hpi := e p _ hp2
      refine ⟨_, rfl, p, CD, dx, _, rfl, hpi, T.c_Database.cl, T.a_Database_rows, (by show 1 < 1000; decide), ?_⟩
      have ktp : KT Hi (upd Hi p (.ins CD dx (dFlds x D))) := fun c ys hc => by
        rw [upd_ne (ne_of hc hpi (by intro z; cases z))]
        exact hc
      have nDp : D ≠ p := ne_of hDi hpi (by intro z; cases z)
      have hnp : ∀ d ∈ ds, d ≠ p := fun d hd => ne_of (hds d hd).2.2 hpi (by intro z; cases z)
      have fr : ∀ c, H2 c = none → H c = none := fun c hc => by
        cases q2 : H c with
        | none => rfl
        | some o =>
          by_cases z : c = p
          · rw [z, hp2] at hc
            cases hc
          · have := f2 c o z q2
            rw [hc] at this
            cases this
      have hde2 : ∃ u, H2 de = some (.dK u) := by
        obtain ⟨_, _, u, _, _, z, _⟩ := S2.ex
        exact ⟨u, z⟩
      obtain ⟨u, hu2⟩ := hde2
      refine q _ x de D ds ⟨S2.keep ((KT.of e).trans ktp) (fun o ho => by rw [upd_ne npx]; exact e _ _ ho) (fun o ho => by rw [upd_ne npde]; exact e _ _ ho), ⟨dx, upd_same⟩, by rw [upd_ne nDp]; exact hDi, by omega, by rw [List.length_map], hnd, ⟨fun m => (hds D m).2.1 rfl, fun m => ?_⟩, fun i d kvs h3 h4 => ?_, fun i en kvs h3 h4 => ?_⟩ ?_ ?_
      · have := (hds de m).1
        rw [hu2] at this
        cases this
      · have hm := List.mem_of_getElem? h3
        rw [List.getElem?_map] at h4
        obtain ⟨_, _, rfl⟩ := Option.map_eq_some_iff.mp h4
        rw [upd_ne (hnp d hm)]
        exact (hds d hm).2.2
      · rw [List.getElem?_map] at h4
        obtain ⟨_, _, rfl⟩ := Option.map_eq_some_iff.mp h4
        exact RowsAt.nil _ _
      · intro c hc
        rcases List.mem_cons.mp hc with rfl | hc
        · exact nx
        · rcases List.mem_cons.mp hc with rfl | hc
          · exact hde0
          · rcases List.mem_cons.mp hc with rfl | hc
            · exact fr _ hD
            · exact fr _ (hds c hc).1
      · intro c o nc hc
        rw [upd_ne nc]
        exact e c o (f2 c o nc hc)
theorem len_Database_init {CD CS : Addr} : ∀ vs H Q E, spDb CD CS vs H Q E → vs.length = ["self", "schema"].length := by
  rintro vs H Q E ⟨p, dx, s, pl, rfl, _⟩
  rfl
theorem ok_Database_init {P : Program} {w : World} {K : PySem.W.Frag} {mg : Str → Option Value} {base : Heap} {CS CD : Addr} (T : Txt K mg CS CD) : MakeOk P w K mg base 8 CD "Database" (spDb CD CS) := T.d_Database_init.make T.c_Database sc_Database_init len_Database_init (body_Database_init T)
theorem kw_Database_init {P : Program} {w : World} {K : PySem.W.Frag} {mg : Str → Option Value} {base : Heap} {CS CD : Addr} (T : Txt K mg CS CD) : MakeKOk P w K mg base 8 CD "Database" 0 ["schema"] (fun vs zs => vs ++ zs) (spDb CD CS) :=
  T.d_Database_init.makeK T.c_Database sc_Database_init len_Database_init (body_Database_init T) (fun us ws => us ++ ws) (fun r1 r2 => r1.append r2) fun _ _ _ _ _ _ us ws h1 h2 => match us, ws, h1, h2 with | [_], [_], _, _ => rfl
end My
namespace My
open PySem L2
def TakenAt (H : Hp) (kvs : List (Key × V)) (k lab : Int) : Prop := ∃ q ∈ kvs, q.1 ≠ Sum.inl k ∧ ∃ cs, Td H q.2 (rowD lab cs)
def spTaken (CD CS : Addr) : Sp := fun vs H Q _ => ∃ (p sp de dr : Addr) (pl : Plan) (ds : List Addr) (ct : List (List (Key × V))) (i : Nat) (e : Ent) (kvs : List (Key × V)) (k lab : Int), vs = [.ref p, .str e.1, .int k, .int lab] ∧
  DbAt CD CS H p pl sp de dr ds ct ∧ pl[i]? = some e ∧ ct[i]? = some kvs ∧ kvs.length ≤ 10000 ∧ ∀ b H', Same H H' → (b = true → e.2.1 = true ∧ TakenAt H kvs k lab) → (b = false → e.2.1 = true → ¬ TakenAt H kvs k lab) → Q (.bl b) H'
theorem rowD_lab {H : Hp} {v : V} {l1 l2 : Int} {c1 c2 : List (Option Int)} (h1 : Td H v (rowD l1 c1)) (h2 : Td H v (rowD l2 c2)) : l1 = l2 := by
  obtain ⟨t, tc, xs, rfl, ht, _⟩ := rowD_inv h1
  obtain ⟨t', tc', xs', e, ht', _⟩ := rowD_inv h2
  cases e
  rw [ht] at ht'
  have h := HO.tup.inj (Option.some.inj ht')
  exact V.int.inj (List.cons.inj h).1
theorem ok_Database__is_taken {P : Program} {w : World} {K : PySem.W.Frag} {mg : Str → Option Value} {base : Heap} {CS CD : Addr} (T : Txt K mg CS CD) : MethOk P w K mg base 4 CD "_is_taken" (spTaken CD CS) := by
  have c_Schema_is_unique := ok_Schema_is_unique (P := P) (w := w) (base := base) T
  refine T.d_Database__is_taken.ok T.c_Database.cl sc_Database__is_taken (fun vs H Q E h => ?_) (fun f cdv A outer s H vs Q E hr h => ?_)
  · obtain ⟨p, sp, de, dr, pl, ds, ct, i, e, kvs, k, lab, rfl, _⟩ := h
    rfl
  · obtain ⟨p, sp, de, dr, pl, ds, ct, i, e, kvs, k, lab, rfl, D, hpi, hci, hkl, q⟩ := h
    obtain ⟨dx, hp⟩ := D.ob
    have hil : i < ds.length := by
      have := (List.getElem?_eq_some_iff.mp hpi).1
      rw [D.dl]
      exact this
    have hdi : ds[i]? = some ds[i] := List.getElem?_eq_getElem hil
    have hH := D.at_ i _ kvs hdi hci
    have hrow := D.ok i e kvs hpi hci
    have hem := List.mem_of_getElem? hpi
    obtain ⟨sdx, stv, skvs, s1, _⟩ := D.sch.ex
    generalize ds[i] = d at *
    refine ⟨_, (pss_cons (ps_if (pt_not (pt_val (pe_methC (kFld (K := K) (pv 0) rfl) c_Schema_is_unique (hr.mono (by decide)) (pa_cons (pv 1) pa_nil)))) (pss_one (ps_ret pe_bl)) pss_nil)
      (pss_cons (ps_set (i := 4) sc_Database__is_taken.nd rfl (by first | exact Or.inl rfl | exact Or.inr rfl) (pe_dget (hu_of hr) (kFld (K := K) (pv 0) rfl) (pv 1) (fun _ _ => rfl)))
      (pss_one (ps_ret (pe_cmpR (kIn (K := K)) (pv 3) (pe_lock (pe_lc (own := [("other", 5)]) rfl sc_Database__is_taken.nd (pi_keys (pv 4)) (blkOk_by (N := ["self", "table", "key", "label", "held", "other"]) (sc := defScope s_Database__is_taken) (own := [("other", 5)]) (by decide +kernel)) (fun _ _ _ _ _ => (pg_name (i := 5) sc_Database__is_taken.nd rfl (by first | exact Or.inl rfl | exact Or.inr rfl))) (fun _ _ _ _ _ => (pts_one (pt_cmpR op_ne (pv 5) (pv 2) (nomark _)))) (fun _ _ _ _ _ => (pe_ix (kIxT (K := K)) (pe_dget (hu_of hr) (pv 4) (pv 5) (fun _ _ => rfl)) pe_int (fun _ _ => rfl))))) rfl))))), ?_⟩
    refine ⟨_, rfl, p, CD, dx, _, _, rfl, hp, T.c_Database.cl, T.a_Database_schema, dFlds_s _ _, sp, sdx, _, rfl, s1, sFlds_no _ _ (by decide +kernel) (by decide +kernel), _, rfl, sp, pl, e, rfl, D.sch.at, hem, e.2.1, rfl, ?_⟩
    cases hu : e.2.1 with
    | false => exact q false H (Same.refl H) (fun z => by cases z) (fun _ z => by rw [hu] at z; cases z)
    | true =>
      refine iteF ?_
      have hg : DGet H dr (V.str e.1) (some (.ref d)) := by
        rw [← rowsK_get D.sch.good.nd hpi hdi]
        exact DGet.k (k := Sum.inr e.1) D.rws
      refine ⟨_, rfl, p, CD, dx, _, _, rfl, hp, T.c_Database.cl, T.a_Database_rows, dFlds_r _ _, _, rfl, dr, _, rfl, hg, ?_⟩
      refine ⟨_, rfl, d, .dK kvs, hH, trivial, fun od => ⟨_, rfl, d, od, rfl, .inl ⟨kvs, upd_same, fun L hL => lc_keys (o := od) (d := d) (kvs := kvs) (fun j Hj => ∃ labs : List Int, Hj L = some (.lst (labs.map V.int)) ∧ labs.length ≤ j ∧ (∀ l ∈ labs, TakenAt H kvs k l) ∧ (∀ t < j, ∀ z, kvs[t]? = some z → z.1 ≠ Sum.inl k → ∀ l cs, Td H z.2 (rowD l cs) → l ∈ labs) ∧ Same (upd H d (.frz od (.dK kvs))) Hj) ?_ ?_ ?_ ?_⟩⟩⟩
      · exact ⟨[], upd_same, Nat.zero_le _, by simp, fun t h => absurd h (Nat.not_lt_zero _), Same.upd (Same.refl _) hL⟩
      · rintro j Hj _ ⟨_, _, _, _, _, e2⟩
        exact e2 d _ upd_same
      · rintro j kk v Hj hkj ⟨labs, hl, hll, h1, h2, e2⟩
        have hjl : j < kvs.length := (List.getElem?_eq_some_iff.mp hkj).1
        have hm := List.mem_of_getElem? hkj
        obtain ⟨k2, lab2, cs2, rfl, _, hT, _⟩ := hrow.row _ hm
        refine ⟨rfl, _, rfl, _, rfl, rfl, !decide ((V.int k2) = V.int k), rfl, ?_⟩
        by_cases c : k2 = k
        · subst c
          rw [decide_eq_true rfl]
          refine iteF ⟨labs, hl, by omega, h1, fun t ht z hz hne l cs hT2 => ?_, e2⟩
          rcases Nat.lt_succ_iff_lt_or_eq.mp ht with h | rfl
          · exact h2 t h z hz hne l cs hT2
          · rw [hkj] at hz
            cases hz
            exact absurd rfl hne
        · have c' : ¬ (V.int k2 = V.int k) := fun z => c (V.int.inj z)
          rw [decide_eq_false c']
          refine iteT ?_
          obtain ⟨t, tc, xs, hve, ht, htc, hx⟩ := rowD_inv hT
          have hve : v = .ref t := hve
          subst hve
          have hgd : DGet Hj d (V.int k2) (some (.ref t)) := .inl ⟨kvs, Sum.inl k2, .inr ⟨od, e2 d _ upd_same⟩, rfl, (valV_at hrow.nd hkj).symm⟩
          have htj : Hj t = some (.tup [V.int lab2, .ref tc]) := e2 t _ (Same.locked hH t _ ht)
          refine ⟨_, rfl, _, rfl, d, _, rfl, hgd, t, _, _, _, rfl, rfl, SqT.of htj, rfl, ?_⟩
          refine ⟨_, hl, sizeLt (by rw [List.length_map]; omega), labs ++ [lab2], by rw [upd_same, List.map_append]; rfl, by simp; omega, fun l hm2 => ?_, fun t2 ht2 z hz hne l cs hT2 => ?_, Same.upd e2 hL⟩
          · rcases List.mem_append.mp hm2 with m | m
            · exact h1 l m
            · rw [List.mem_singleton.mp m]
              exact ⟨_, hm, fun z => c (Sum.inl.inj z), cs2, hT⟩
          · rcases Nat.lt_succ_iff_lt_or_eq.mp ht2 with h | rfl
            · exact List.mem_append.mpr (.inl (h2 t2 h z hz hne l cs hT2))
            · rw [hkj] at hz
              cases hz
              rw [rowD_lab hT2 hT]
              exact List.mem_append.mpr (.inr (List.mem_singleton.mpr rfl))
      · rintro Hj ⟨labs, hl, hll, h1, h2, e2⟩
        have hdj : Hj d = some (.frz od (.dK kvs)) := e2 d _ upd_same
        have nLd : L ≠ d := fun z => by
          rw [z, hdj] at hl
          cases hl
        refine ⟨hdj, L, labs.map V.int, rfl, .inl (SqL.of (by rw [upd_ne nLd]; exact hl)), rfl, ?_, ?_⟩
        · rw [List.all_map, List.all_eq_true]
          intro x _
          rfl
        · have ev : inV (.int lab) (labs.map V.int) = decide (lab ∈ labs) := by
            clear hl hll h1 h2
            induction labs with
            | nil => rfl
            | cons x r ih =>
              unfold inV at ih ⊢
              rw [List.map_cons, List.any_cons, ih]
              by_cases z : x = lab
              · subst z
                simp [eqV]
              · have z' : ¬ lab = x := fun w => z w.symm
                simp [eqV, z, z']
          show Q (.bl (if false = true then _ else inV (.int lab) (labs.map V.int))) _
          rw [if_neg Bool.false_ne_true, ev]
          refine q _ _ (Same.unlock e2 hH) (fun z => ⟨hu, h1 lab (of_decide_eq_true z)⟩) (fun z _ => ?_)
          rintro ⟨w2, hw, hne, cs, hT⟩
          obtain ⟨t, ht, et⟩ := List.getElem_of_mem hw
          have := h2 t ht w2 (by rw [List.getElem?_eq_getElem ht, et]) hne lab cs hT
          rw [decide_eq_true this] at z
          cases z
end My
namespace My
open PySem L2
theorem mem_putK {kvs : List (Key × V)} {k : Key} {v : V} {q : Key × V} (h : q ∈ putK kvs k v) : q ∈ kvs ∨ q = (k, v) := by
  unfold putK at h
  split at h
  · obtain ⟨z, hz, rfl⟩ := List.mem_map.mp h
    by_cases c : z.1 = k
    · rw [if_pos c, c]
      exact .inr rfl
    · rw [if_neg c]
      exact .inl hz
  · rcases List.mem_append.mp h with m | m
    · exact .inl m
    · exact .inr (List.mem_singleton.mp m)
theorem putK_nd {kvs : List (Key × V)} {k : Key} {v : V} (h : (kvs.map (·.1)).Nodup) : ((putK kvs k v).map (·.1)).Nodup := by
  cases c : valV kvs k with
  | none => exact nd_putK v h c
  | some x =>
    unfold putK
    rw [valV_any, c]
    show ((kvs.map fun kv => if kv.1 = k then (kv.1, v) else kv).map (·.1)).Nodup
    rw [List.map_map]
    have : ((·.1) ∘ fun kv : Key × V => if kv.1 = k then (kv.1, v) else kv) = (·.1) := by
      funext kv
      show (if kv.1 = k then (kv.1, v) else kv).1 = kv.1
      split <;> rfl
    rw [this]
    exact h
theorem RowsAt.put {H : Hp} {kvs : List (Key × V)} {w : Nat} {k lab : Int} {cs : List (Option Int)} {v : V} (r : RowsAt H kvs w) (hk : 1 ≤ k) (hv : Td H v (rowD lab cs)) (g : GoodRow w lab cs) : RowsAt H (putK kvs (Sum.inl k) v) w := by
  refine ⟨putK_nd r.nd, fun q hq => ?_⟩
  rcases mem_putK hq with h | rfl
  · exact r.row q h
  · exact ⟨k, lab, cs, rfl, hk, hv, g⟩
theorem DbAt.set {CD CS p sp de dr d : Addr} {H : Hp} {pl : Plan} {ds : List Addr} {ct : List (List (Key × V))} {i : Nat} {e : Ent} {kvs kvs' : List (Key × V)} (D : DbAt CD CS H p pl sp de dr ds ct) (hp : pl[i]? = some e) (hc : ct[i]? = some kvs) (hd : ds[i]? = some d) (r : RowsAt H kvs' e.2.2.length) :
    DbAt CD CS (upd H d (.dK kvs')) p pl sp de dr ds (ct.set i kvs') := by
  have hH := D.at_ i d kvs hd hc
  obtain ⟨dx, ho⟩ := D.ob
  have hdm := List.mem_of_getElem? hd
  have kt : KT H (upd H d (.dK kvs')) := fun c xs h => by
    rw [upd_ne (ne_of h hH (by intro z; cases z))]
    exact h
  have n1 : p ≠ d := ne_of ho hH (by intro z; cases z)
  have n2 : dr ≠ d := fun z => D.apart.1 (by rw [z]; exact hdm)
  have n3 : de ≠ d := fun z => D.apart.2 (by rw [z]; exact hdm)
  obtain ⟨sdx, stv, skvs, s1, _⟩ := D.sch.ex
  have n4 : sp ≠ d := ne_of s1 hH (by intro z; cases z)
  have hil : i < ct.length := (List.getElem?_eq_some_iff.mp hc).1
  refine ⟨D.sch.keep kt (fun o h => by rw [upd_ne n4]; exact h) (fun o h => by rw [upd_ne n3]; exact h), ⟨dx, by rw [upd_ne n1]; exact ho⟩, by rw [upd_ne n2]; exact D.rws, D.dl, by rw [List.length_set]; exact D.cl, D.nd, D.apart, fun j d2 k2 h1 h2 => ?_, fun j e2 k2 h1 h2 => ?_⟩
  · by_cases c : i = j
    · subst c
      rw [hd] at h1
      rw [List.getElem?_set_self hil] at h2
      cases h1
      cases h2
      exact upd_same
    · rw [List.getElem?_set_ne c] at h2
      have nd : d2 ≠ d := fun z => by
        subst z
        exact c (nd_ix D.nd hd h1)
      rw [upd_ne nd]
      exact D.at_ j d2 k2 h1 h2
  · by_cases c : i = j
    · subst c
      rw [hp] at h1
      rw [List.getElem?_set_self hil] at h2
      cases h1
      cases h2
      exact r.mono kt
    · rw [List.getElem?_set_ne c] at h2
      exact (D.ok j e2 k2 h1 h2).mono kt
def spSet (CD CS : Addr) : Sp := fun vs H Q _ => ∃ (p ta sp de dr d : Addr) (v : V) (pl : Plan) (ds : List Addr) (ct : List (List (Key × V))) (i : Nat) (e : Ent) (kvs : List (Key × V)) (k lab : Int) (cs : List (Option Int)), vs = [.ref p, .ref ta, v] ∧
  DbAt CD CS H p pl sp de dr ds ct ∧ pl[i]? = some e ∧ ct[i]? = some kvs ∧ ds[i]? = some d ∧ kvs.length ≤ 10000 ∧ H ta = some (.tup [.str e.1, .int k]) ∧ 1 ≤ k ∧ Td H v (rowD lab cs) ∧ GoodRow e.2.2.length lab cs ∧ (e.2.1 = true → ¬ TakenAt H kvs k lab) ∧
  ∀ H', DbAt CD CS H' p pl sp de dr ds (ct.set i (putK kvs (Sum.inl k) v)) → Fr1 d H H' → H' d = some (.dK (putK kvs (Sum.inl k) v)) → Q .non H'
theorem ok_Database___setitem__ {P : Program} {w : World} {K : PySem.W.Frag} {mg : Str → Option Value} {base : Heap} {CS CD : Addr} (T : Txt K mg CS CD) : MethOk P w K mg base 5 CD "__setitem__" (spSet CD CS) := by
  have c_Database_is_taken := ok_Database__is_taken (P := P) (w := w) (base := base) T
  have c_Schema_columns := ok_Schema_columns (P := P) (w := w) (base := base) T
  have c_is_key := ok_is_key (P := P) (w := w) (base := base) T
  have c_is_row := ok_is_row (P := P) (w := w) (base := base) T
  refine T.d_Database___setitem__.ok T.c_Database.cl sc_Database___setitem__ (fun vs H Q E h => ?_) (fun f cdv A outer s H vs Q E hr h => ?_)
  · obtain ⟨p, ta, sp, de, dr, d, v, pl, ds, ct, i, e, kvs, k, lab, cs, rfl, _⟩ := h
    rfl
  · obtain ⟨p, ta, sp, de, dr, d, v, pl, ds, ct, i, e, kvs, k, lab, cs, rfl, D, hpi, hci, hdi, hkl, hta, hk, hv, g, hnt, q⟩ := h
    obtain ⟨dx, hp⟩ := D.ob
    have hH := D.at_ i d kvs hdi hci
    have hem := List.mem_of_getElem? hpi
    have g3 := (D.sch.good.refs e hem).len
    obtain ⟨sdx, stv, skvs, s1, _⟩ := D.sch.ex
    refine ⟨_, (pss_cons (ps_asg (pv 1) (kPgT (K := K) (n := 2) rfl (pgs_cons (pg_name (i := 3) sc_Database___setitem__.nd rfl (by first | exact Or.inl rfl | exact Or.inr rfl)) (pgs_cons (pg_name (i := 4) sc_Database___setitem__.nd rfl (by first | exact Or.inl rfl | exact Or.inr rfl)) pgs_nil))))
      (pss_cons (ps_set (i := 5) sc_Database___setitem__.nd rfl (by first | exact Or.inl rfl | exact Or.inr rfl) (pe_callB call_lenX (by rfl) T.n_len PySem.boot_len (pa_cons (pe_methC (kFld (K := K) (pv 0) rfl) c_Schema_columns (hr.mono (by decide)) (pa_cons (pv 3) pa_nil)) pa_nil)))
      (pss_cons (ps_if (pt_not (pt_val (pe_callC c_is_key (hr.mono (by decide)) (pa_cons (pv 4) pa_nil)))) (pss_one ps_never) pss_nil)
      (pss_cons (ps_if (pt_not (pt_val (pe_callC c_is_row (hr.mono (by decide)) (pa_cons (pv 2) (pa_cons (pv 5) pa_nil))))) (pss_one ps_never) pss_nil)
      (pss_cons (ps_if (pt_val (pe_methC (pv 0) c_Database_is_taken (hr.mono (by decide)) (pa_cons (pv 3) (pa_cons (pv 4) (pa_cons (pe_ix (kIxT (K := K)) (pv 2) pe_int (fun _ _ => rfl)) pa_nil))))) (pss_one ps_never) pss_nil)
      (pss_one (ps_dput (hu_of hr) (pe_dget (hu_of hr) (kFld (K := K) (pv 0) rfl) (pv 3) (fun _ _ => rfl)) (pv 4) (pv 2) rfl))))))), ?_⟩
    refine ⟨_, rfl, ta, _, rfl, SqT.of hta, rfl, _, _, rfl, _, _, rfl, rfl, ?_⟩
    refine ⟨_, rfl, p, CD, dx, _, _, rfl, hp, T.c_Database.cl, T.a_Database_schema, dFlds_s _ _, sp, sdx, _, rfl, s1, sFlds_no _ _ (by decide +kernel) (by decide +kernel), _, rfl, sp, pl, e, rfl, D.sch.at, hem, fun tc H1 _ htc e1 => ?_⟩
    refine ⟨tc, _, rfl, htc, ?_⟩
    refine ⟨_, rfl, k, rfl, true, congrArg V.bl (decide_eq_true hk), iteF ?_⟩
    refine ⟨_, rfl, _, rfl, v, e.2.2.length, lab, cs, by rw [List.length_map]; rfl, hv.kt_same e1, g, by omega, fun H2 e2 => ⟨true, rfl, iteF ?_⟩⟩
    have e12 := e1.trans e2
    have D2 := D.same e12
    obtain ⟨t, tcell, xs, rfl, ht, htcell, hx⟩ := rowD_inv hv
    refine ⟨_, rfl, p, dx, _, rfl, e12 p _ hp, dFlds_no _ _ (by decide +kernel) (by decide +kernel), _, rfl, _, rfl, _, rfl, t, _, _, _, rfl, rfl, SqT.of (e12 t _ ht), rfl, ?_⟩
    refine ⟨p, sp, de, dr, pl, ds, ct, i, e, kvs, k, lab, rfl, D2, hpi, hci, hkl, fun b H3 e3 hb1 hb2 => ?_⟩
    have hb : b = false := by
      cases b with
      | false => rfl
      | true =>
        obtain ⟨hu, z, hz, hne, cs2, hT⟩ := hb1 rfl
        obtain ⟨k2, lab2, cs3, _, _, hT3, _⟩ := (D.ok i e kvs hpi hci).row z hz
        have : lab2 = lab := rowD_lab (hT3.kt_same e12) hT
        subst this
        exact absurd ⟨z, hz, hne, cs3, hT3⟩ (hnt hu)
    subst hb
    refine ⟨false, rfl, iteF ?_⟩
    have e123 := e12.trans e3
    have D3 := D.same e123
    have hg : DGet H3 dr (V.str e.1) (some (.ref d)) := by
      rw [← rowsK_get D.sch.good.nd hpi hdi]
      exact DGet.k (k := Sum.inr e.1) D3.rws
    refine ⟨_, rfl, _, rfl, p, CD, dx, _, _, rfl, e123 p _ hp, T.c_Database.cl, T.a_Database_rows, dFlds_r _ _, _, rfl, dr, _, rfl, hg, _, rfl, d, _, rfl, DPut.k (k := Sum.inl k) (e123 d _ hH) (sizeLt (by omega)), ?_⟩
    refine q _ (D3.set hpi hci hdi ((D3.ok i e kvs hpi hci).put hk (hv.kt_same e123) g)) ?_ upd_same
    exact (Fr1.of e123).at
end My
namespace My
open PySem L2
def TabAt (pl : Plan) (ct : List (List (Key × V))) (w : Str) (kvs : List (Key × V)) : Prop := (∃ (i : Nat) (e : Ent), pl[i]? = some e ∧ e.1 = w ∧ ct[i]? = some kvs) ∨ (w ∉ pl.map (·.1) ∧ kvs = [])
def spHas (CD CS : Addr) : Sp := fun vs H Q _ => ∃ (p sp de dr : Addr) (pl : Plan) (ds : List Addr) (ct : List (List (Key × V))) (w : Str) (kvs : List (Key × V)) (k : Int), vs = [.ref p, .str w, .int k] ∧
  DbAt CD CS H p pl sp de dr ds ct ∧ TabAt pl ct w kvs ∧ Q (.bl (valV kvs (Sum.inl k)).isSome) H
theorem ok_Database__has {P : Program} {w : World} {K : PySem.W.Frag} {mg : Str → Option Value} {base : Heap} {CS CD : Addr} (T : Txt K mg CS CD) : MethOk P w K mg base 2 CD "_has" (spHas CD CS) := by
  have c_is_one_of := ok_is_one_of (P := P) (w := w) (base := base) T
  have c_is_whole := ok_is_whole (P := P) (w := w) (base := base) T
  refine T.d_Database__has.ok T.c_Database.cl sc_Database__has (fun vs H Q E h => ?_) (fun f cdv A outer s H vs Q E hr h => ?_)
  · obtain ⟨p, sp, de, dr, pl, ds, ct, w, kvs, k, rfl, _⟩ := h
    rfl
  · obtain ⟨p, sp, de, dr, pl, ds, ct, w, kvs, k, rfl, D, hw, q⟩ := h
    obtain ⟨dx, hp⟩ := D.ob
    refine ⟨_, (pss_one (ps_ret (pe_and (pe_callC c_is_one_of (hr.mono (by decide)) (pa_cons (pv 1) (pa_cons (kFld (K := K) (pv 0) rfl) pa_nil))) (pe_and (pe_callC c_is_whole (hr.mono (by decide)) (pa_cons (pv 2) pa_nil)) (pe_one (pe_cmp (pc_din (hu_of hr) (pv 2) (pe_dget (hu_of hr) (kFld (K := K) (pv 0) rfl) (pv 1) (fun _ _ => rfl))) rfl)))))), ?_⟩
    rcases hw with ⟨i, e, hpi, rfl, hci⟩ | ⟨hno, rfl⟩
    · have hil : i < ds.length := by
        have := (List.getElem?_eq_some_iff.mp hpi).1
        rw [D.dl]
        exact this
      have hdi : ds[i]? = some ds[i] := List.getElem?_eq_getElem hil
      have hH := D.at_ i _ kvs hdi hci
      generalize ds[i] = d at *
      have hg : DGet H dr (V.str e.1) (some (.ref d)) := by
        rw [← rowsK_get D.sch.good.nd hpi hdi]
        exact DGet.k (k := Sum.inr e.1) D.rws
      refine ⟨_, rfl, _, rfl, p, CD, dx, _, _, rfl, hp, T.c_Database.cl, T.a_Database_rows, dFlds_r _ _, _, _, rfl, .inr ⟨e.1, rfl, .inl ⟨dr, _, rfl, hg, true, rfl, iteT ?_⟩⟩⟩
      refine ⟨_, rfl, _, rfl, .inl ⟨k, rfl, true, rfl, iteT ?_⟩⟩
      exact ⟨_, rfl, _, rfl, p, CD, dx, _, _, rfl, hp, T.c_Database.cl, T.a_Database_rows, dFlds_r _ _, _, rfl, dr, _, rfl, hg, d, _, rfl, DGet.k (k := Sum.inl k) hH, q⟩
    · have hn : valV (rowsK pl ds) (Sum.inr w : Key) = none := valV_no (rowsK_keys D.dl) hno
      have hg : DGet H dr (V.str w) none := by
        rw [← hn]
        exact DGet.k (k := Sum.inr w) D.rws
      exact ⟨_, rfl, _, rfl, p, CD, dx, _, _, rfl, hp, T.c_Database.cl, T.a_Database_rows, dFlds_r _ _, _, _, rfl, .inr ⟨w, rfl, .inl ⟨dr, _, rfl, hg, false, rfl, iteF q⟩⟩⟩
end My
namespace My
open PySem L2
theorem DbAt.row {CD CS p sp de dr : Addr} {H : Hp} {pl : Plan} {ds : List Addr} {ct : List (List (Key × V))} (D : DbAt CD CS H p pl sp de dr ds ct) {i : Nat} {e : Ent} {kvs : List (Key × V)} (hp : pl[i]? = some e) (hc : ct[i]? = some kvs) :
    ∃ d, ds[i]? = some d ∧ H d = some (.dK kvs) ∧ DGet H dr (V.str e.1) (some (.ref d)) := by
  have hil : i < ds.length := by
    rw [D.dl]
    exact (List.getElem?_eq_some_iff.mp hp).1
  have hdi : ds[i]? = some ds[i] := List.getElem?_eq_getElem hil
  refine ⟨_, hdi, D.at_ i _ kvs hdi hc, ?_⟩
  rw [← rowsK_get D.sch.good.nd hp hdi]
  exact DGet.k (k := Sum.inr e.1) D.rws
def spGetRow (CD CS : Addr) : Sp := fun vs H Q _ => ∃ (p ta sp de dr : Addr) (pl : Plan) (ds : List Addr) (ct : List (List (Key × V))) (i : Nat) (e : Ent) (kvs : List (Key × V)) (k : Int) (v : V), vs = [.ref p, .ref ta] ∧
  DbAt CD CS H p pl sp de dr ds ct ∧ pl[i]? = some e ∧ ct[i]? = some kvs ∧ H ta = some (.tup [.str e.1, .int k]) ∧ valV kvs (Sum.inl k) = some v ∧ Q v H
theorem ok_Database___getitem__ {P : Program} {w : World} {K : PySem.W.Frag} {mg : Str → Option Value} {base : Heap} {CS CD : Addr} (T : Txt K mg CS CD) : MethOk P w K mg base 3 CD "__getitem__" (spGetRow CD CS) := by
  have c_Database_has := ok_Database__has (P := P) (w := w) (base := base) T
  refine T.d_Database___getitem__.ok T.c_Database.cl sc_Database___getitem__ (fun vs H Q E h => ?_) (fun f cdv A outer s H vs Q E hr h => ?_)
  · obtain ⟨p, ta, sp, de, dr, pl, ds, ct, i, e, kvs, k, v, rfl, _⟩ := h
    rfl
  · obtain ⟨p, ta, sp, de, dr, pl, ds, ct, i, e, kvs, k, v, rfl, D, hpi, hci, hta, hv, q⟩ := h
    obtain ⟨dx, hp⟩ := D.ob
    obtain ⟨d, hdi, hH, hg⟩ := D.row hpi hci
    refine ⟨_, (pss_cons (ps_asg (pv 1) (kPgT (K := K) (n := 2) rfl (pgs_cons (pg_name (i := 2) sc_Database___getitem__.nd rfl (by first | exact Or.inl rfl | exact Or.inr rfl)) (pgs_cons (pg_name (i := 3) sc_Database___getitem__.nd rfl (by first | exact Or.inl rfl | exact Or.inr rfl)) pgs_nil))))
      (pss_cons (ps_if (pt_not (pt_val (pe_methC (pv 0) c_Database_has (hr.mono (by decide)) (pa_cons (pv 2) (pa_cons (pv 3) pa_nil))))) (pss_one ps_never) pss_nil)
      (pss_one (ps_ret (pe_dget (hu_of hr) (pe_dget (hu_of hr) (kFld (K := K) (pv 0) rfl) (pv 2) (fun _ _ => rfl)) (pv 3) (fun _ _ => rfl)))))), ?_⟩
    refine ⟨_, rfl, ta, _, rfl, SqT.of hta, rfl, _, _, rfl, _, _, rfl, rfl, ?_⟩
    refine ⟨_, rfl, p, dx, _, rfl, hp, dFlds_no _ _ (by decide +kernel) (by decide +kernel), _, rfl, _, rfl, p, sp, de, dr, pl, ds, ct, e.1, kvs, k, rfl, D, .inl ⟨i, e, hpi, rfl, hci⟩, true, by rw [hv]; rfl, iteF ?_⟩
    refine ⟨_, rfl, p, CD, dx, _, _, rfl, hp, T.c_Database.cl, T.a_Database_rows, dFlds_r _ _, _, rfl, dr, _, rfl, hg, _, rfl, d, _, rfl, ?_, q⟩
    have h2 := DGet.k (k := Sum.inl k) hH
    rw [hv] at h2
    exact h2
end My
namespace My
open PySem L2
theorem RowsAt.drop {H : Hp} {kvs : List (Key × V)} {w : Nat} {k : Key} (r : RowsAt H kvs w) : RowsAt H (dropK kvs k) w := ⟨nd_dropK r.nd, fun q hq => r.row q (dropK_mem hq)⟩
def spDrop (CD CS : Addr) : Sp := fun vs H Q _ => ∃ (p sp de dr d : Addr) (pl : Plan) (ds : List Addr) (ct : List (List (Key × V))) (i : Nat) (e : Ent) (kvs : List (Key × V)) (k : Int), vs = [.ref p, .str e.1, .int k] ∧
  DbAt CD CS H p pl sp de dr ds ct ∧ pl[i]? = some e ∧ ct[i]? = some kvs ∧ ds[i]? = some d ∧ (valV kvs (Sum.inl k)).isSome = true ∧
  ∀ H', DbAt CD CS H' p pl sp de dr ds (ct.set i (dropK kvs (Sum.inl k))) → Fr1 d H H' → H' d = some (.dK (dropK kvs (Sum.inl k))) → Q .non H'
theorem ok_Database_drop {P : Program} {w : World} {K : PySem.W.Frag} {mg : Str → Option Value} {base : Heap} {CS CD : Addr} (T : Txt K mg CS CD) : MethOk P w K mg base 3 CD "drop" (spDrop CD CS) := by
  have c_Database_has := ok_Database__has (P := P) (w := w) (base := base) T
  refine T.d_Database_drop.ok T.c_Database.cl sc_Database_drop (fun vs H Q E h => ?_) (fun f cdv A outer s H vs Q E hr h => ?_)
  · obtain ⟨p, sp, de, dr, d, pl, ds, ct, i, e, kvs, k, rfl, _⟩ := h
    rfl
  · obtain ⟨p, sp, de, dr, d, pl, ds, ct, i, e, kvs, k, rfl, D, hpi, hci, hdi, hs, q⟩ := h
    obtain ⟨dx, hp⟩ := D.ob
    have hH := D.at_ i _ kvs hdi hci
    have hg : DGet H dr (V.str e.1) (some (.ref d)) := by
      rw [← rowsK_get D.sch.good.nd hpi hdi]
      exact DGet.k (k := Sum.inr e.1) D.rws
    refine ⟨_, (pss_cons (ps_if (pt_not (pt_val (pe_methC (pv 0) c_Database_has (hr.mono (by decide)) (pa_cons (pv 1) (pa_cons (pv 2) pa_nil))))) (pss_one ps_never) pss_nil)
      (pss_one (ps_ddel (pe_dget (hu_of hr) (kFld (K := K) (pv 0) rfl) (pv 1) (fun _ _ => rfl)) (pv 2)))), ?_⟩
    refine ⟨_, rfl, p, dx, _, rfl, hp, dFlds_no _ _ (by decide +kernel) (by decide +kernel), _, rfl, _, rfl, p, sp, de, dr, pl, ds, ct, e.1, kvs, k, rfl, D, .inl ⟨i, e, hpi, rfl, hci⟩, true, by rw [hs], iteF ?_⟩
    refine ⟨_, rfl, p, CD, dx, _, _, rfl, hp, T.c_Database.cl, T.a_Database_rows, dFlds_r _ _, _, rfl, dr, _, rfl, hg, _, rfl, d, kvs, Sum.inl k, rfl, hH, rfl, hs, ?_⟩
    exact q _ (D.set hpi hci hdi (D.ok i e kvs hpi hci).drop) ((Fr1.refl d H).at) upd_same
end My
namespace My
open PySem L2
def spHeldOf (CD CS : Addr) : Sp := fun vs H Q _ => ∃ (p sp de dr d : Addr) (pl : Plan) (ds : List Addr) (ct : List (List (Key × V))) (i : Nat) (e : Ent) (kvs : List (Key × V)), vs = [.ref p, .str e.1] ∧
  DbAt CD CS H p pl sp de dr ds ct ∧ pl[i]? = some e ∧ ct[i]? = some kvs ∧ ds[i]? = some d ∧ Q (.ref d) H
theorem ok_Database__held {P : Program} {w : World} {K : PySem.W.Frag} {mg : Str → Option Value} {base : Heap} {CS CD : Addr} (T : Txt K mg CS CD) : MethOk P w K mg base 2 CD "_held" (spHeldOf CD CS) := by
  have c_is_one_of := ok_is_one_of (P := P) (w := w) (base := base) T
  refine T.d_Database__held.ok T.c_Database.cl sc_Database__held (fun vs H Q E h => ?_) (fun f cdv A outer s H vs Q E hr h => ?_)
  · obtain ⟨p, sp, de, dr, d, pl, ds, ct, i, e, kvs, rfl, _⟩ := h
    rfl
  · obtain ⟨p, sp, de, dr, d, pl, ds, ct, i, e, kvs, rfl, D, hpi, hci, hdi, q⟩ := h
    obtain ⟨dx, hp⟩ := D.ob
    obtain ⟨d', hdi', hH, hg⟩ := D.row hpi hci
    rw [hdi] at hdi'
    cases hdi'
    refine ⟨_, (pss_cons (ps_if (pt_not (pt_val (pe_callC c_is_one_of (hr.mono (by decide)) (pa_cons (pv 1) (pa_cons (kFld (K := K) (pv 0) rfl) pa_nil))))) (pss_one ps_never) pss_nil)
      (pss_one (ps_ret (pe_dget (hu_of hr) (kFld (K := K) (pv 0) rfl) (pv 1) (fun _ _ => rfl))))), ?_⟩
    refine ⟨_, rfl, _, rfl, p, CD, dx, _, _, rfl, hp, T.c_Database.cl, T.a_Database_rows, dFlds_r _ _, _, _, rfl, .inr ⟨e.1, rfl, .inl ⟨dr, _, rfl, hg, true, rfl, iteF ?_⟩⟩⟩
    exact ⟨_, rfl, p, CD, dx, _, _, rfl, hp, T.c_Database.cl, T.a_Database_rows, dFlds_r _ _, _, rfl, dr, _, rfl, hg, q⟩
end My
namespace My
open PySem L2
def NextOf (ks : List Int) (n : Int) : Prop := (ks = [] ∧ n = 1) ∨ ∃ m ∈ ks, (∀ y ∈ ks, y ≤ m) ∧ n = m + 1
theorem NextOf.uniq {ks : List Int} {n m : Int} (h1 : NextOf ks n) (h2 : NextOf ks m) : n = m := by
  rcases h1 with ⟨e, rfl⟩ | ⟨a, ha, la, rfl⟩
  · rcases h2 with ⟨_, rfl⟩ | ⟨b, hb, _, _⟩
    · rfl
    · rw [e] at hb
      cases hb
  · rcases h2 with ⟨e, _⟩ | ⟨b, hb, lb, rfl⟩
    · rw [e] at ha
      cases ha
    · have := la b hb
      have := lb a ha
      omega
def spNext (CD CS : Addr) : Sp := fun vs H Q _ => ∃ (p sp de dr : Addr) (pl : Plan) (ds : List Addr) (ct : List (List (Key × V))) (i : Nat) (e : Ent) (kvs : List (Key × V)) (ks : List Int), vs = [.ref p, .str e.1] ∧
  DbAt CD CS H p pl sp de dr ds ct ∧ pl[i]? = some e ∧ ct[i]? = some kvs ∧ kvs.map (·.1) = ks.map Sum.inl ∧ ∀ n, NextOf ks n → Q (.int n) H
theorem ok_Database_next_key {P : Program} {w : World} {K : PySem.W.Frag} {mg : Str → Option Value} {base : Heap} {CS CD : Addr} (T : Txt K mg CS CD) : MethOk P w K mg base 3 CD "next_key" (spNext CD CS) := by
  have c_Database_held := ok_Database__held (P := P) (w := w) (base := base) T
  refine T.d_Database_next_key.ok T.c_Database.cl sc_Database_next_key (fun vs H Q E h => ?_) (fun f cdv A outer s H vs Q E hr h => ?_)
  · obtain ⟨p, sp, de, dr, pl, ds, ct, i, e, kvs, ks, rfl, _⟩ := h
    rfl
  · obtain ⟨p, sp, de, dr, pl, ds, ct, i, e, kvs, ks, rfl, D, hpi, hci, hks, q⟩ := h
    obtain ⟨dx, hp⟩ := D.ob
    obtain ⟨d, hdi, hH, hg⟩ := D.row hpi hci
    refine ⟨_, (pss_one (ps_ret (pe_op op_add (pe_callBK (cr_maxDD rfl) (by rfl) T.n_max (by decide +kernel) (pa_cons (pe_methC (pv 0) c_Database_held (hr.mono (by decide)) (pa_cons (pv 1) pa_nil)) pa_nil) (pk_cons pe_int pk_nil)) pe_int))), ?_⟩
    refine ⟨_, rfl, p, dx, _, rfl, hp, dFlds_no _ _ (by decide +kernel) (by decide +kernel), _, rfl, p, sp, de, dr, d, pl, ds, ct, i, e, kvs, rfl, D, hpi, hci, hdi, ?_⟩
    exact ⟨d, kvs, ks, 0, rfl, rfl, .inl hH, hks, fun h0 => ⟨_, _, rfl, rfl, q _ (.inl ⟨h0, rfl⟩)⟩, fun m hm hle => ⟨_, _, rfl, rfl, q _ (.inr ⟨m, hm, hle, rfl⟩)⟩⟩
end My
namespace My
open PySem L2
def spWholeL : Sp := fun vs H Q _ => ∃ i : Int, vs = [.int i] ∧ Q (.bl true) H
theorem ok_law_whole {P : Program} {w : World} {K : PySem.W.Frag} {mg : Str → Option Value} {base : Heap} {CS CD : Addr} (T : Txt K mg CS CD) : CallOk P w K mg base 1 "_law_whole" spWholeL := by
  refine T.d_law_whole.ok sc_law_whole (fun vs H Q E h => ?_) (fun f cdv A outer s H vs Q E hr h => ?_)
  · obtain ⟨v, rfl, _⟩ := h
    rfl
  · obtain ⟨i, rfl, q⟩ := h
    refine ⟨_, (pss_one (ps_ret (pe_and (pe_callB (kIsi (K := K)) (by rfl) T.n_isinstance (by decide +kernel) (pa_cons (pv 0) (pa_cons (pe_bltn (v := .ty "int") (by rfl) T.n_int (by decide +kernel) rfl) pa_nil))) (pe_one (pe_not (pe_callB (kIsi (K := K)) (by rfl) T.n_isinstance (by decide +kernel) (pa_cons (pv 0) (pa_cons (pe_bltn (v := .ty "bool") (by rfl) T.n_bool (by decide +kernel) rfl) pa_nil)))))))), ?_⟩
    refine ⟨_, rfl, _, _, _, _, true, rfl, ClsV.ty "int", TyX.base (TyOf.int i), kit_ty (by decide +kernel), true, rfl, iteT ?_⟩
    exact ⟨_, rfl, _, _, _, _, false, rfl, ClsV.ty "bool", TyX.base (TyOf.int i), kit_ty (by decide +kernel), false, rfl, q⟩
end My
namespace My
open PySem L2
def spLNext : Sp := fun vs H Q _ => ∃ (d : Addr) (kvs : List (Key × V)) (ks : List Int), vs = [.ref d] ∧ H d = some (.dK kvs) ∧ kvs.map (·.1) = ks.map Sum.inl ∧ ∀ n H', Same H H' → NextOf ks n → Q (.int n) H'
theorem RowsAt.ints {H : Hp} {kvs : List (Key × V)} {w : Nat} (r : RowsAt H kvs w) : ∃ ks : List Int, kvs.map (·.1) = ks.map Sum.inl ∧ ks.length = kvs.length := by
  have h : ∀ q ∈ kvs, ∃ k : Int, q.1 = Sum.inl k := fun q hq => by
    obtain ⟨k, _, _, e, _⟩ := r.row q hq
    exact ⟨k, e⟩
  clear r
  induction kvs with
  | nil => exact ⟨[], rfl, rfl⟩
  | cons q t ih =>
    obtain ⟨ks, e, l⟩ := ih fun x hx => h x (List.mem_cons_of_mem _ hx)
    obtain ⟨k, ek⟩ := h q List.mem_cons_self
    exact ⟨k :: ks, by rw [List.map_cons, List.map_cons, e, ek], by simp [l]⟩
theorem keys_list {kvs : List (Key × V)} {ks : List Int} (h : kvs.map (·.1) = ks.map Sum.inl) : kvs.map (fun kv => kV kv.1) = ks.map V.int := by
  have : kvs.map (fun kv => kV kv.1) = (kvs.map (·.1)).map kV := by rw [List.map_map]; rfl
  rw [this, h, List.map_map]
  rfl
theorem keys_nil {kvs : List (Key × V)} {ks : List Int} (h : kvs.map (·.1) = ks.map Sum.inl) : kvs.length = ks.length := by
  have := congrArg List.length h
  rw [List.length_map, List.length_map] at this
  exact this
theorem ok_law_next {P : Program} {w : World} {K : PySem.W.Frag} {mg : Str → Option Value} {base : Heap} {CS CD : Addr} (T : Txt K mg CS CD) : CallOk P w K mg base 1 "_law_next" spLNext := by
  refine T.d_law_next.ok sc_law_next (fun vs H Q E h => ?_) (fun f cdv A outer s H vs Q E hr h => ?_)
  · obtain ⟨d, kvs, ks, rfl, _⟩ := h
    rfl
  · obtain ⟨d, kvs, ks, rfl, hd, hks, q⟩ := h
    have hl := keys_nil hks
    refine ⟨_, (pss_cons (ps_if (pt_cmpR (op_eqE (Nat.lt_of_le_of_lt (Nat.le_add_right _ 64) hr.units)) (pv 0) pe_dnewK (nomark _)) (pss_one (ps_ret pe_int)) pss_nil)
      (pss_one (ps_ret (pe_op op_add pe_int (pe_callB (kMax (K := K) rfl) (by rfl) T.n_max (by decide +kernel) (pa_cons (pe_callTy (call_listD rfl) (by rfl) T.n_list (by decide +kernel) (pa_cons (pv 0) pa_nil)) pa_nil)))))), ?_⟩
    refine ⟨_, rfl, fun e he => ?_⟩
    have t1 := Same.upd (o := .dK []) (Same.refl H) he
    have he1 : upd H e (.dK []) e = some (.dK []) := upd_same
    generalize upd H e (.dK []) = H1 at *
    refine ⟨d, e, kvs, rfl, rfl, t1 _ _ hd, he1, _, rfl, ite2 (fun hb => ?_) (fun hb => ?_)⟩
    · refine q _ _ t1 (.inl ⟨List.eq_nil_of_length_eq_zero ?_, rfl⟩)
      rw [← hl]
      cases kvs with
      | nil => rfl
      | cons _ _ => cases hb
    · refine ⟨_, rfl, d, kvs, rfl, .inl (t1 _ _ hd), fun p hp => ?_⟩
      rw [keys_list hks]
      have t2 := Same.upd (o := .lst (ks.map V.int)) t1 (t1.free hp)
      refine ⟨p, ks, rfl, SqL.of upd_same, ?_, fun m hm hle => ⟨_, _, rfl, rfl, q _ _ t2 (.inr ⟨m, hm, hle, Int.add_comm _ _⟩)⟩⟩
      rw [← hl]
      cases kvs with
      | nil => exact absurd rfl hb
      | cons _ _ => exact Nat.succ_pos _
end My
namespace My
open PySem L2
def spAllNext (CD CS : Addr) : Sp := fun vs H Q _ => ∃ (b h np : Addr) (turn : Int) (pl : Plan) (S : Nat → Side) (C : Nat → List (List (Key × V))) (m : Nat), vs = [.ref b, .ref h, .ref np, .int turn] ∧ H b = some (.lst [.ref (S 0).p, .ref (S 1).p]) ∧ H h = some (.lst [.ref (S 0).dh, .ref (S 1).dh]) ∧
  H np = some (.lst (pl.map fun e => V.str e.1)) ∧ Many 2 CD CS H (fun _ => pl) S C m ∧ Good pl ∧ 0 ≤ turn ∧ turn < 1000 ∧ ∀ H', Same H H' → Q (.bl true) H'
theorem ok_law_all_next {P : Program} {w : World} {K : PySem.W.Frag} {mg : Str → Option Value} {base : Heap} {CS CD : Addr} (T : Txt K mg CS CD) : CallOk P w K mg base 4 "_law_all_next" (spAllNext CD CS) := by
  have c_Database_next_key := ok_Database_next_key (P := P) (w := w) (base := base) T
  have c_law_next := ok_law_next (P := P) (w := w) (base := base) T
  have c_law_whole := ok_law_whole (P := P) (w := w) (base := base) T
  refine T.d_law_all_next.ok sc_law_all_next (fun vs H Q E h => ?_) (fun f cdv A outer s H vs Q E hr h => ?_)
  · obtain ⟨b, h, np, turn, pl, S, C, m, rfl, _⟩ := h
    rfl
  · obtain ⟨b, h, np, turn, pl, S, C, m, rfl, hb, hh, hnp, W, g, t0, t1, q⟩ := h
    refine ⟨_, (pss_cons (ps_for PassesOwn.never rfl (pi_range1 (by rfl) T.n_range (pa_cons pe_int pa_nil)) (pg_name (i := 4) sc_law_all_next.nd rfl (by first | exact Or.inl rfl | exact Or.inr rfl))
      (pss_cons (ps_set (i := 5) sc_law_all_next.nd rfl (by first | exact Or.inl rfl | exact Or.inr rfl) (pe_op op_mod (pe_callTy call_int1 (by rfl) T.n_int (by decide +kernel) (pa_cons (pe_op op_add (pv 3) (pv 4)) pa_nil)) pe_int))
          (pss_cons (ps_set (i := 6) sc_law_all_next.nd rfl (by first | exact Or.inl rfl | exact Or.inr rfl) (pv 2))
          (Evl.pss_cut (ps_if (pt_cmpR op_eq (pe_op op_mod (pe_callTy call_int1 (by rfl) T.n_int (by decide +kernel) (pa_cons (pe_op op_fdiv (pv 3) pe_int) pa_nil)) pe_int) pe_int (nomark _)) (pss_one (ps_set (i := 6) sc_law_all_next.nd rfl (by first | exact Or.inl rfl | exact Or.inr rfl) (pe_revL (pv 2)))) pss_nil)
          (pss_one (ps_for PassesOwn.never rfl (kPiL (K := K) (pv 6)) (pg_name (i := 7) sc_law_all_next.nd rfl (by first | exact Or.inl rfl | exact Or.inr rfl))
      (pss_cons (ps_set (i := 8) sc_law_all_next.nd rfl (by first | exact Or.inl rfl | exact Or.inr rfl) (pe_methC (pe_ix (kIxL (K := K)) (pv 0) (pv 5) (fun _ _ => rfl)) c_Database_next_key (hr.mono (by decide)) (pa_cons (pv 7) pa_nil)))
          (pss_one (ps_if (PW.pt (pw_or (pt_not (pt_val (pe_callC c_law_whole (hr.mono (by decide)) (pa_cons (pv 8) pa_nil)))) (pw_or1 (pt_cmpR op_ne (pv 8) (pe_callC c_law_next (hr.mono (by decide)) (pa_cons (pe_dget (hu_of hr) (pe_ix (kIxL (K := K)) (pv 1) (pv 5) (fun _ _ => rfl)) (pv 7) (fun _ _ => rfl)) pa_nil)) (nomark _))))) (pss_one (ps_ret pe_bl)) pss_nil)))))))))
      (pss_one (ps_ret pe_bl))), ?_⟩
    refine ⟨2, rfl, by decide, by decide, for_range (lo := 0) (n := 2) (fun k σ Hk => ∃ (o4 o5 o6 o7 o8 : Option V), σ = [some (.ref b), some (.ref h), some (.ref np), some (.int turn), o4, o5, o6, o7, o8] ∧ Same H Hk) ?_ ?_ ?_⟩
    · exact ⟨_, _, _, _, _, rfl, Same.refl _⟩
    · rintro k σ Hk hk ⟨o4, o5, o6, o7, o8, rfl, ek⟩
      refine ⟨_, rfl, _, rfl, _, _, rfl, rfl, .inl ⟨_, rfl, _, _, rfl, rfl, (by show (0 : Int) < 2; decide), ?_⟩⟩
      obtain ⟨at_, hat⟩ : ∃ j : Nat, (turn + (0 + (k : Int))) % 2 = (j : Int) := ⟨((turn + (0 + (k : Int))) % 2).toNat, by omega⟩
      have hat2 : at_ < 2 := by omega
      show gName 5 (V.int ((turn + (0 + (k : Int))) % 2)) _ _ _
      rw [hat]
      refine ⟨_, rfl, ?_⟩
      refine ⟨fun σ' H' => ∃ (o : Addr) (es : List V), σ' = [some (.ref b), some (.ref h), some (.ref np), some (.int turn), some (.int (0 + k)), some (.int at_), some (.ref o), o7, o8] ∧ H' o = some (.lst es) ∧ (∀ v ∈ es, ∃ e ∈ pl, v = V.str e.1) ∧ Same H H', ?_, ?_⟩
      · refine ⟨_, rfl, _, _, rfl, rfl, ⟨by decide, by decide⟩, .inl ⟨_, rfl, _, _, rfl, rfl, (by show (0 : Int) < 2; decide), rfl, _, rfl, ite2 (fun _ => ?_) (fun _ => ?_)⟩⟩
        · refine ⟨_, rfl, np, _, rfl, SqL.of (ek _ _ hnp), fun o ho => ⟨o, _, rfl, upd_same, fun v hv => ?_, Same.upd ek (ek.free ho)⟩⟩
          obtain ⟨e, he, rfl⟩ := List.mem_map.mp (List.mem_reverse.mp hv)
          exact ⟨e, he, rfl⟩
        · refine ⟨np, _, rfl, ek _ _ hnp, fun v hv => ?_, ek⟩
          obtain ⟨e, he, rfl⟩ := List.mem_map.mp hv
          exact ⟨e, he, rfl⟩
      · rintro σ' H1 ⟨o, es, rfl, ho, hes, e1⟩
        refine ⟨_, rfl, o, rfl, ⟨_, SqL.of ho⟩, for_list (K := K) (a := o) (xs := es) (fun j σ Hj => ∃ (o7 o8 : Option V), σ = [some (.ref b), some (.ref h), some (.ref np), some (.int turn), some (.int (0 + k)), some (.int at_), some (.ref o), o7, o8] ∧ Same H1 Hj) ?_ ?_ ?_ ?_⟩
        · exact ⟨_, _, rfl, Same.refl _⟩
        · rintro j σ Hj _ ⟨_, _, _, e⟩
          exact SqL.of (e _ _ ho)
        · rintro j v σ Hj hjv ⟨o7, o8, rfl, ej⟩
          obtain ⟨en, hem, rfl⟩ := hes v (List.mem_of_getElem? hjv)
          obtain ⟨i, hi, ei⟩ := List.getElem_of_mem hem
          have hen : pl[i]? = some en := by rw [List.getElem?_eq_getElem hi, ei]
          have eHj := e1.trans ej
          have SX := (W.sd at_ hat2).same eHj
          obtain ⟨dxb, hpb⟩ := SX.db.ob
          obtain ⟨d2, hd2⟩ : ∃ d, (S at_).hs[i]? = some d := ⟨_, List.getElem?_eq_getElem (by rw [SX.hd.dl]; exact hi)⟩
          obtain ⟨kvs, hkv⟩ : ∃ kvs, (C at_)[i]? = some kvs := ⟨_, List.getElem?_eq_getElem (by rw [SX.db.cl]; exact hi)⟩
          obtain ⟨ks, hks, _⟩ := (SX.db.ok i en kvs hen hkv).ints
          refine ⟨_, rfl, _, rfl, b, _, _, _, rfl, rfl, SqL.of (eHj _ _ hb), atI_nat (two_at (fun k => V.ref (S k).p) hat2), (S at_).p, dxb, _, rfl, hpb, dFlds_no _ _ (by decide +kernel) (by decide +kernel), _, rfl, (S at_).p, (S at_).sp, (S at_).de, (S at_).dr, pl, (S at_).ds, C at_, i, en, kvs, ks, rfl, SX.db, hen, hkv, hks, fun n hn => ?_⟩
          have hgr : DGet Hj (S at_).dh (V.str en.1) (some (.ref d2)) := by
            rw [← rowsK_get g.nd hen hd2]
            exact DGet.k (k := Sum.inr en.1) SX.hd.rws
          refine ⟨_, rfl, n, rfl, true, rfl, iteF ?_⟩
          refine ⟨_, rfl, _, rfl, _, rfl, h, _, _, _, rfl, rfl, SqL.of (eHj _ _ hh), atI_nat (two_at (fun k => V.ref (S k).dh) hat2), _, rfl, (S at_).dh, _, rfl, hgr, d2, kvs, ks, rfl, SX.hd.at_ i d2 kvs hd2 hkv, hks, fun n2 H2 e2 hn2 => ⟨rfl, false, ?_, iteF ?_⟩⟩
          · rw [hn.uniq hn2]
            simp
          · exact ⟨_, _, rfl, ej.trans e2⟩
        · rintro σ Hj ⟨o7, o8, rfl, ej⟩
          exact ⟨_, _, _, _, _, rfl, e1.trans ej⟩
    · rintro σ Hk ⟨o4, o5, o6, o7, o8, rfl, ek⟩
      exact q _ ek
end My
namespace My
open PySem L2
def spLaw (K : PySem.W.Frag) : Sp := fun vs H Q _ => ∃ (a : Addr) (ns : List Int), vs = [.ref a] ∧ SqL K H a (ns.map V.int) ∧ ns.length ≤ 63 ∧ ∀ H', Q (.bl true) H'
theorem len_law {K : PySem.W.Frag} : ∀ vs H Q E, spLaw K vs H Q E → vs.length = ["script"].length := by
  rintro vs H Q E ⟨a, ns, rfl, _⟩
  rfl
theorem valV_some {kvs : List (Key × V)} {k : Key} (h : k ∈ kvs.map (·.1)) : ∃ v, valV kvs k = some v := by
  have h1 := valV_any k kvs
  obtain ⟨q, hq, rfl⟩ := List.mem_map.mp h
  have h2 : (kvs.any fun kv => decide (kv.1 = q.1)) = true := List.any_eq_true.mpr ⟨q, hq, decide_eq_true rfl⟩
  rw [h2] at h1
  exact Option.isSome_iff_exists.mp h1.symm
theorem StAt.ls {H H' : Hp} {a : Addr} {n : Nat} (h : StAt H a n) (e : ∀ (c : Addr) (xs : List V), H c = some (.lst xs) → H' c = some (.lst xs)) : StAt H' a n := by
  obtain ⟨x, y, k, hs, k0, k1⟩ := h
  exact ⟨x, y, k, e _ _ hs, k0, k1⟩
theorem cut_to50 (ns : List Int) : (cutV (ns.map V.int) (some 1) (some 51)).length ≤ 50 := by
  show (((ns.map V.int).drop _).take _).length ≤ 50
  rw [List.length_take]
  have h1 : HT.sIx (ns.map V.int).length 0 (some 1) = min 1 (ns.map V.int).length := HT.sIx_nat _ _ 1
  have h2 : HT.sIx (ns.map V.int).length (ns.map V.int).length (some 51) = min 51 (ns.map V.int).length := HT.sIx_nat _ _ 51
  rw [h1, h2]
  omega
theorem cut_ints (ns : List Int) (lo hi : Option Int) : ∀ v ∈ cutV (ns.map V.int) lo hi, ∃ z, v = V.int z := fun v hv => by
  have := List.mem_of_mem_drop (List.mem_of_mem_take hv)
  obtain ⟨z, _, e⟩ := List.mem_map.mp this
  exact ⟨z, e.symm⟩
def mkF (ws : List Str) : Plan := ws.map fun w => (w, false, [])
theorem mkF_names (ws : List Str) : (mkF ws).map (·.1) = ws := by
  unfold mkF
  rw [List.map_map]
  show ws.map (fun w => w) = ws
  exact List.map_id' ws
theorem mkF_good {ws : List Str} (nd : ws.Nodup) (nm : ∀ w ∈ ws, Nm w) (lo : 1 ≤ ws.length) (hi : ws.length ≤ 5) : Good (mkF ws) := by
  refine ⟨by unfold mkF; rw [List.length_map]; exact lo, by unfold mkF; rw [List.length_map]; exact hi, fun e he => ?_, by rw [mkF_names]; exact nd, fun e he => ?_⟩
  · obtain ⟨w, hw, rfl⟩ := List.mem_map.mp he
    exact nm w hw
  · obtain ⟨w, hw, rfl⟩ := List.mem_map.mp he
    exact ⟨Nat.zero_le _, by simp, by simp, List.nodup_nil⟩
theorem mkF_refs {ws : List Str} : ∀ e ∈ mkF ws, e.2 = (false, []) := by
  intro e he
  obtain ⟨w, _, rfl⟩ := List.mem_map.mp he
  rfl
theorem ent_tdF {H : Hp} {t t0 : Addr} {w : Str} {b : Bool} (h0 : H t0 = some (.tup [])) (h : H t = some (.tup [.str w, .bl b, .ref t0])) : Td H (.ref t) (entD (w, b, [])) := .tup h (.cons (.str _) (.cons (.bl _) (.cons (.tup h0 .nil) .nil)))
theorem body_law {P : Program} {w : World} {K : PySem.W.Frag} {mg : Str → Option Value} {base : Heap} {CS CD : Addr} (T : Txt K mg CS CD) : BodyOk P w K mg base 9 ["script", "state", "names", "schema", "bases", "helds", "held", "cell", "name", "deed", "at", "way", "rows", "base", "key", "row"] "law" s_law (spLaw K) := by
  have c_Database := ok_Database_init (P := P) (w := w) (base := base) T
  have c_Database_setitem__ := ok_Database___setitem__ (P := P) (w := w) (base := base) T
  have c_Database_drop := ok_Database_drop (P := P) (w := w) (base := base) T
  have c_Schema := ok_Schema_init (P := P) (w := w) (base := base) T
  have c_law_all_next := ok_law_all_next (P := P) (w := w) (base := base) T
  have c_law_at := ok_law_at (P := P) (w := w) (base := base) T
  have c_law_begin := ok_law_begin (P := P) (w := w) (base := base) T
  have c_law_next := ok_law_next (P := P) (w := w) (base := base) T
  have c_law_take := ok_law_take (P := P) (w := w) (base := base) T
  have c_law_words := ok_law_words (P := P) (w := w) (base := base) T
  intro f cdv A outer s H vs Q E hr h
  · obtain ⟨a, ns, rfl, hs, hl, q⟩ := h
    refine ⟨_, (pss_cons (ps_set (i := 1) sc_law.nd rfl (by first | exact Or.inl rfl | exact Or.inr rfl) (pe_callC c_law_begin (hr.mono (by decide)) (pa_cons (pe_callC c_law_at (hr.mono (by decide)) (pa_cons (pv 0) (pa_cons pe_int pa_nil))) pa_nil)))
      (pss_cons (ps_set (i := 2) sc_law.nd rfl (by first | exact Or.inl rfl | exact Or.inr rfl) (pe_callC c_law_words (hr.mono (by decide)) (pa_cons (pv 1) (pa_cons (pe_op op_add pe_int (pe_callC c_law_take (hr.mono (by decide)) (pa_cons (pv 1) (pa_cons pe_int pa_nil)))) pa_nil))))
      (pss_cons (ps_set (i := 3) sc_law.nd rfl (by first | exact Or.inl rfl | exact Or.inr rfl) (pe_makeC c_Schema (hr.mono (by decide)) (pa_cons (pe_callTy (kTup (K := K)) (by rfl) T.n_tuple (by decide +kernel) (pa_cons (pe_lc (own := [("name", 8)]) rfl sc_law.nd (kPiL (K := K) (pv 2)) (blkOk_by (N := ["script", "state", "names", "schema", "bases", "helds", "held", "cell", "name", "deed", "at", "way", "rows", "base", "key", "row"]) (sc := defScope s_law) (own := [("name", 8)]) (by decide +kernel)) (fun _ _ _ _ _ => (pg_name (i := 8) sc_law.nd rfl (by first | exact Or.inl rfl | exact Or.inr rfl))) (fun _ _ _ _ _ => pts_nil) (fun _ _ _ _ _ => (pe_tup (pa_cons (pv 8) (pa_cons pe_bl (pa_cons (pe_tup pa_nil) pa_nil)))))) pa_nil)) pa_nil)))
      (pss_cons (ps_set (i := 4) sc_law.nd rfl (by first | exact Or.inl rfl | exact Or.inr rfl) (pe_lst (pa_cons (pe_makeC c_Database (hr.mono (by decide)) (pa_cons (pv 3) pa_nil)) (pa_cons (pe_makeC c_Database (hr.mono (by decide)) (pa_cons (pv 3) pa_nil)) pa_nil))))
      (pss_cons (ps_set (i := 5) sc_law.nd rfl (by first | exact Or.inl rfl | exact Or.inr rfl) (pe_lst (pa_cons pe_dnewK (pa_cons pe_dnewK pa_nil))))
      (pss_cons (ps_for PassesOwn.never rfl (kPiL (K := K) (pv 5)) (pg_name (i := 6) sc_law.nd rfl (by first | exact Or.inl rfl | exact Or.inr rfl))
      (pss_one (ps_for PassesOwn.never rfl (kPiL (K := K) (pv 2)) (pg_name (i := 8) sc_law.nd rfl (by first | exact Or.inl rfl | exact Or.inr rfl))
      (pss_one (ps_dput (hu_of hr) (pv 6) (pv 8) pe_dnewK rfl)))))
      (pss_cons (ps_if (pt_not (pt_val (pe_callC c_law_all_next (hr.mono (by decide)) (pa_cons (pv 4) (pa_cons (pv 5) (pa_cons (pv 2) (pa_cons pe_int pa_nil))))))) (pss_one (ps_ret pe_bl)) pss_nil)
      (pss_cons (ps_for PassesOwn.never rfl (kPiL (K := K) (pe_op op_cat (pe_slice sl_list (pv 0) (po_some pe_int) (po_some pe_int)) (pe_lst (pa_cons (pe_op op_fdivW (pe_callC c_law_at (hr.mono (by decide)) (pa_cons (pv 0) (pa_cons pe_int pa_nil))) pe_int) pa_nil)))) (pg_name (i := 7) sc_law.nd rfl (by first | exact Or.inl rfl | exact Or.inr rfl))
      (pss_cons (ps_set (i := 9) sc_law.nd rfl (by first | exact Or.inl rfl | exact Or.inr rfl) (pe_callC c_law_begin (hr.mono (by decide)) (pa_cons (pv 7) pa_nil)))
          (pss_cons (ps_set (i := 10) sc_law.nd rfl (by first | exact Or.inl rfl | exact Or.inr rfl) (pe_callC c_law_take (hr.mono (by decide)) (pa_cons (pv 9) (pa_cons pe_int pa_nil))))
          (pss_cons (ps_set (i := 8) sc_law.nd rfl (by first | exact Or.inl rfl | exact Or.inr rfl) (pe_ix (kIxL (K := K)) (pv 2) (pe_callC c_law_take (hr.mono (by decide)) (pa_cons (pv 9) (pa_cons (pe_callB (kLen (K := K)) (by rfl) T.n_len PySem.boot_len (pa_cons (pv 2) pa_nil)) pa_nil))) (fun _ _ => rfl)))
          (pss_cons (ps_set (i := 11) sc_law.nd rfl (by first | exact Or.inl rfl | exact Or.inr rfl) (pe_callC c_law_take (hr.mono (by decide)) (pa_cons (pv 9) (pa_cons pe_int pa_nil))))
          (pss_cons (ps_set (i := 12) sc_law.nd rfl (by first | exact Or.inl rfl | exact Or.inr rfl) (pe_dget (hu_of hr) (pe_ix (kIxL (K := K)) (pv 5) (pv 10) (fun _ _ => rfl)) (pv 8) (fun _ _ => rfl)))
          (pss_cons (ps_set (i := 13) sc_law.nd rfl (by first | exact Or.inl rfl | exact Or.inr rfl) (pe_ix (kIxL (K := K)) (pv 4) (pv 10) (fun _ _ => rfl)))
          (pss_cons (ps_set (i := 14) sc_law.nd rfl (by first | exact Or.inl rfl | exact Or.inr rfl) (pe_callC c_law_next (hr.mono (by decide)) (pa_cons (pv 12) pa_nil)))
          (Evl.pss_cut (ps_if (pt_cmpR op_eq (pv 11) pe_int (nomark _)) (pss_one (ps_set (i := 14) sc_law.nd rfl (by first | exact Or.inl rfl | exact Or.inr rfl) (pe_op op_add pe_int (pe_callC c_law_take (hr.mono (by decide)) (pa_cons (pv 9) (pa_cons (pe_op op_sub (pe_op op_pow pe_int pe_int) pe_int) pa_nil)))))) pss_nil)
          (Evl.pss_cut (ps_if (pt_cmpR op_eq (pv 11) pe_int (nomark _)) (pss_one (ps_set (i := 14) sc_law.nd rfl (by first | exact Or.inl rfl | exact Or.inr rfl) (pe_op op_add (pe_op op_add (pv 14) pe_int) (pe_callC c_law_take (hr.mono (by decide)) (pa_cons (pv 9) (pa_cons pe_int pa_nil)))))) pss_nil)
          (Evl.pss_cut (ps_if (pt_cmpR op_eq (pv 11) pe_int (nomark _)) (pss_one (ps_set (i := 14) sc_law.nd rfl (by first | exact Or.inl rfl | exact Or.inr rfl) (pe_op op_add pe_int (pe_callC c_law_take (hr.mono (by decide)) (pa_cons (pv 9) (pa_cons pe_int pa_nil)))))) pss_nil)
          (Evl.pss_cut (ps_if (PW.pt (pw_and (pt_cmpR op_eq (pv 11) pe_int (nomark _)) (pw_and1 (pt_cmpR (op_neE (Nat.lt_of_le_of_lt (Nat.le_add_right _ 64) hr.units)) (pv 12) pe_dnewK (nomark _))))) (pss_one (ps_set (i := 14) sc_law.nd rfl (by first | exact Or.inl rfl | exact Or.inr rfl) (pe_callB (kMax (K := K) rfl) (by rfl) T.n_max (by decide +kernel) (pa_cons (pe_callTy (call_listD rfl) (by rfl) T.n_list (by decide +kernel) (pa_cons (pv 12) pa_nil)) pa_nil)))) pss_nil)
          (Evl.pss_cut (ps_if (PW.pt (pw_and (pt_cmpR op_eq (pv 11) pe_int (nomark _)) (pw_and1 (pt_cmpR (op_neE (Nat.lt_of_le_of_lt (Nat.le_add_right _ 64) hr.units)) (pv 12) pe_dnewK (nomark _))))) (pss_one (ps_set (i := 14) sc_law.nd rfl (by first | exact Or.inl rfl | exact Or.inr rfl) (pe_ix (kIxL (K := K)) (pe_callB (call_sortedDI rfl) (by rfl) T.n_sorted (by decide +kernel) (pa_cons (pv 12) pa_nil)) (pe_callC c_law_take (hr.mono (by decide)) (pa_cons (pv 9) (pa_cons (pe_callB call_lenD (by rfl) T.n_len PySem.boot_len (pa_cons (pv 12) pa_nil)) pa_nil))) (fun _ _ => rfl)))) pss_nil)
          (Evl.pss_cut (ps_if (PW.pt (pw_and (pt_cmpR op_gt (pv 11) pe_int (nomark _)) (pw_and1 (pt_cmpR (op_neE (Nat.lt_of_le_of_lt (Nat.le_add_right _ 64) hr.units)) (pv 12) pe_dnewK (nomark _))))) (pss_cons (ps_expr (pe_methC (pv 13) c_Database_drop (hr.mono (by decide)) (pa_cons (pv 8) (pa_cons (pv 14) pa_nil))))
        (pss_one (ps_expr (pe_dpop1 (pv 12) (pv 14) ⟨rfl, rfl, rfl, rfl⟩)))) (pss_one (ps_if (pt_cmpR op_lt (pv 14) (pe_op op_pow pe_int pe_int) (nomark _)) (pss_cons (ps_set (i := 15) sc_law.nd rfl (by first | exact Or.inl rfl | exact Or.inr rfl) (pe_tup (pa_cons (pe_callC c_law_take (hr.mono (by decide)) (pa_cons (pv 9) (pa_cons (pe_op op_pow pe_int pe_int) pa_nil))) (pa_cons (pe_tup pa_nil) pa_nil))))
        (pss_cons (ps_asg (pv 15) (pg_sub (pv 13) (pe_tup (pa_cons (pv 8) (pa_cons (pv 14) pa_nil))) (set_own c_Database_setitem__ (hr.mono (by decide)) T.q_Database)))
        (pss_one (ps_dput (hu_of hr) (pv 12) (pv 14) (pv 15) rfl)))) pss_nil)))
          (pss_one (ps_if (pt_not (pt_val (pe_callC c_law_all_next (hr.mono (by decide)) (pa_cons (pv 4) (pa_cons (pv 5) (pa_cons (pv 2) (pa_cons (pe_callC c_law_take (hr.mono (by decide)) (pa_cons (pv 9) (pa_cons pe_int pa_nil))) pa_nil))))))) (pss_one (ps_ret pe_bl)) pss_nil))))))))))))))))
      (pss_one (ps_ret pe_bl)))))))))), ?_⟩
    refine ⟨_, rfl, a, ns, 0, rfl, hs, fun z0 => ⟨z0, rfl, fun st H1 hst e1 hS1 => ?_⟩⟩
    refine ⟨_, rfl, _, rfl, st, 3, 999990, rfl, by decide, by decide, hS1.mono (by decide), fun d H1b d0 d1 hS1b e1b => ⟨_, _, rfl, rfl, ?_⟩⟩
    refine ⟨st, _, (1 + d).toNat, 900000, rfl, by omega, by omega, hS1b.mono (by omega), fun pw ws H2 hpw hwl hnd hnm hpa hS2 e2 => ?_⟩
    have s2 : Same H H2 := Same.fr1 (Same.fr1 e1 e1b hst) e2 hst
    have hw1 : 1 ≤ ws.length := by omega
    have hw3 : ws.length ≤ 3 := by omega
    refine ⟨_, rfl, pw, rfl, ⟨_, SqL.of hpa⟩, fun D0 hD0 => lc_list (K := K) (a := pw) (xs := ws.map V.str) (fun i Hi => i ≤ ws.length ∧ ∃ acc : List V, Hi D0 = some (.lst acc) ∧ acc.length = i ∧ TdAll Hi acc ((mkF (ws.take i)).map entD) ∧ Same H2 Hi) ?_ ?_ ?_ ?_⟩
    · exact ⟨Nat.zero_le _, [], upd_same, rfl, .nil, Same.upd (Same.refl _) hD0⟩
    · rintro i Hi _ ⟨_, _, _, _, _, e⟩
      exact SqL.of (e _ _ hpa)
    · rintro i x Hi hxi ⟨hi, acc, hDi, hal, hacc, e⟩
      rw [List.getElem?_map] at hxi
      obtain ⟨w, hw, rfl⟩ := Option.map_eq_some_iff.mp hxi
      have hil : i < ws.length := (List.getElem?_eq_some_iff.mp hw).1
      refine ⟨rfl, tYes_if ?_⟩
      refine ⟨_, rfl, sizeL (by show 0 ≤ 100000; decide), fun u hu => ⟨sizeL (by show 3 ≤ 100000; decide), fun y hy => ?_⟩⟩
      have r1 := Same.upd (o := .tup []) (Same.refl Hi) hu
      have r2 := Same.upd (o := .tup [.str w, .bl false, .ref u]) r1 (r1.free hy)
      have hu1 : upd Hi u (.tup []) u = some (.tup []) := upd_same
      have ky : Td (upd (upd Hi u (.tup [])) y (.tup [.str w, .bl false, .ref u])) (.ref y) (entD (w, false, [])) := ent_tdF (by rw [upd_ne (ne_of_none hu1 hy)]; exact hu1) upd_same
      generalize upd (upd Hi u (.tup [])) y (.tup [.str w, .bl false, .ref u]) = Hk at *
      have hDk := r2 _ _ hDi
      have ktD : KT Hk (upd Hk D0 (.lst (acc ++ [.ref y]))) := (KT.refl Hk).updL hDk
      refine ⟨acc, hDk, sizeLt (by omega), hil, acc ++ [.ref y], upd_same, by simp [hal], ?_, Same.upd (e.trans r2) hD0⟩
      have hwt : ws.take (i + 1) = ws.take i ++ [w] := by rw [List.take_succ_eq_append_getElem hil, (List.getElem?_eq_some_iff.mp hw).2]
      rw [hwt]
      unfold mkF
      rw [List.map_append, List.map_append]
      exact ((hacc.mono (KT.of r2)).mono ktD).snoc (ky.mono ktD)
    · rintro H3 ⟨_, es, hD3, hal, hacc, e3⟩
      rw [List.length_map, List.take_length] at hacc
      have g := mkF_good hnd hnm hw1 (by omega)
      generalize hpl : mkF ws = pl at *
      have hplw : pl.map (·.1) = ws := by rw [← hpl, mkF_names]
      have hrf : ∀ e ∈ pl, e.2 = (false, []) := by rw [← hpl]; exact mkF_refs
      have hpln : pl.length = ws.length := by rw [← hplw, List.length_map]
      refine ⟨D0, es, rfl, .inl ⟨SqL.of hD3, fun tp htp => ?_⟩⟩
      have t3 := Same.upd (o := .tup es) (Same.refl H3) htp
      have hTp : Td (upd H3 tp (.tup es)) (.ref tp) (planD pl) := .tup upd_same (hacc.mono (KT.of t3))
      generalize upd H3 tp (.tup es) = H3b at *
      intro sx xdx nx ndx nex
      refine ⟨sx, xdx, .ref tp, pl, rfl, hTp.mono (KT.upd ((KT.refl H3b).upd ndx) nx), g, upd_same, fun H4 de S4 hde e4 => ⟨rfl, ?_⟩⟩
      have t4 : Same H3b H4 := Same.made' nx ndx e4
      have s4 : Same H H4 := ((s2.trans e3).trans t3).trans t4
      have hp4 := t4 _ _ (t3 _ _ (e3 _ _ hpa))
      refine ⟨_, rfl, fun p0 pdx0 np0 npdx0 nep0 => ?_⟩
      have t4b : Same H4 (upd (upd H4 pdx0 (.own p0)) p0 (.ins CD pdx0 [])) := Same.upd (Same.upd (Same.refl H4) npdx0) np0
      refine ⟨p0, pdx0, sx, pl, rfl, S4.at.same t4b, upd_same, fun H5 sp0 de0 dr0 ds0 Da hf0 e5 => ⟨rfl, ?_⟩⟩
      have t5 : Same H4 H5 := Same.made' np0 npdx0 e5
      have fr0 : ∀ c ∈ foot p0 sp0 de0 dr0 ds0, H4 c = none := fun c hc => by
        rcases List.mem_cons.mp hc with rfl | hc
        · exact np0
        · exact t4b.free (hf0 c hc)
      have B1 : Bases 1 CD CS H5 (fun _ => pl) (addS (fun _ => ⟨0, 0, 0, 0, [], 0, []⟩) 0 ⟨p0, sp0, de0, dr0, ds0, 0, []⟩) := (Bases.zero (CD := CD) (CS := CS) (H := H4)).add (PL := fun _ => pl) (s := ⟨p0, sp0, de0, dr0, ds0, 0, []⟩) t5 Da fr0
      have S5 := S4.at.same t5
      refine ⟨_, rfl, fun p1 pdx1 np1 npdx1 nep1 => ?_⟩
      have t5b : Same H5 (upd (upd H5 pdx1 (.own p1)) p1 (.ins CD pdx1 [])) := Same.upd (Same.upd (Same.refl H5) npdx1) np1
      refine ⟨p1, pdx1, sx, pl, rfl, S5.same t5b, upd_same, fun H6 sp1 de1 dr1 ds1 Db hf1 e6 => ⟨rfl, sizeL (by show 2 ≤ 100000; decide), fun D hD => ?_⟩⟩
      have t6 : Same H5 H6 := Same.made' np1 npdx1 e6
      have fr1 : ∀ c ∈ foot p1 sp1 de1 dr1 ds1, H5 c = none := fun c hc => by
        rcases List.mem_cons.mp hc with rfl | hc
        · exact np1
        · exact t5b.free (hf1 c hc)
      have BB := B1.add (s := ⟨p1, sp1, de1, dr1, ds1, 0, []⟩) t6 Db fr1
      have t7 := Same.upd (o := .lst [.ref p0, .ref p1]) (Same.refl H6) hD
      have hDD : upd H6 D (.lst [.ref p0, .ref p1]) D = some (.lst [.ref p0, .ref p1]) := upd_same
      have BB := BB.same t7
      generalize upd H6 D (.lst [.ref p0, .ref p1]) = H7 at *
      have s7 : Same H4 H7 := (t5.trans t6).trans t7
      have hp7 := s7 _ _ hp4
      clear B1 fr0 fr1 hf0 hf1 Da Db S5 S4 e4 e5 e6 hTp t4b t5b hacc
      intro A0 hA0 A1 hA1
      refine ⟨sizeL (by show 2 ≤ 100000; decide), fun HL hHL => ?_⟩
      have n10 : A1 ≠ A0 := fun z => by
        rw [z, upd_same] at hA1
        cases hA1
      have nH0 : HL ≠ A0 := fun z => by
        rw [z, upd_ne n10.symm, upd_same] at hHL
        cases hHL
      have nH1 : HL ≠ A1 := fun z => by
        rw [z, upd_same] at hHL
        cases hHL
      have q1 := Same.upd (o := .dK []) (Same.refl H7) hA0
      have q2 := Same.upd (o := .dK []) q1 (q1.free hA1)
      have q3 := Same.upd (o := .lst [.ref A0, .ref A1]) q2 (q2.free hHL)
      have hA16 : H7 A1 = none := q1.free hA1
      have hbHL : upd (upd (upd H7 A0 (.dK [])) A1 (.dK [])) HL (.lst [.ref A0, .ref A1]) HL = some (.lst [.ref A0, .ref A1]) := upd_same
      have hbA0 : upd (upd (upd H7 A0 (.dK [])) A1 (.dK [])) HL (.lst [.ref A0, .ref A1]) A0 = some (.dK []) := by rw [upd_ne nH0.symm, upd_ne n10.symm, upd_same]
      have hbA1 : upd (upd (upd H7 A0 (.dK [])) A1 (.dK [])) HL (.lst [.ref A0, .ref A1]) A1 = some (.dK []) := by rw [upd_ne nH1.symm, upd_same]
      generalize upd (upd (upd H7 A0 (.dK [])) A1 (.dK [])) HL (.lst [.ref A0, .ref A1]) = Hb at *
      obtain ⟨AA, hAA0, hAA1⟩ := pair_fn A0 A1
      have two : ∀ k, k < 2 → k = 0 ∨ k = 1 := fun k hk => by omega
      have hb : ∀ k, k < 2 → Hb (AA k) = some (.dK []) := fun k hk => by
        rcases two k hk with rfl | rfl
        · rw [hAA0]; exact hbA0
        · rw [hAA1]; exact hbA1
      have nA : ∀ k, k < 2 → H7 (AA k) = none := fun k hk => by
        rcases two k hk with rfl | rfl
        · rw [hAA0]; exact hA0
        · rw [hAA1]; exact hA16
      have dA : ∀ k j, k < 2 → j < 2 → k ≠ j → AA k ≠ AA j := fun k j hk hj hkj => by
        rcases two k hk with rfl | rfl <;> rcases two j hj with rfl | rfl
        · exact absurd rfl hkj
        · rw [hAA0, hAA1]; exact n10.symm
        · rw [hAA0, hAA1]; exact n10
        · exact absurd rfl hkj
      rw [← hAA0, ← hAA1] at hbHL
      clear hA0 hA1 hHL q1 q2 hbA0 hbA1 nH0 nH1 n10 hA16 hAA0 hAA1 A0 A1
      have hpb := q3 _ _ hp7
      have kl : ∀ {i : Nat} {l : Nat → List Addr} {Hi : Hp} (Q : Helds i 2 Hb Hi (fun _ => pl) AA l), KT Hb Hi ∧ ∀ (c : Addr) (xs : List V), Hb c = some (.lst xs) → Hi c = some (.lst xs) := fun Q => ⟨fun c ys hc => Q.fr c _ (fun k hk z => by rw [z, hb k hk] at hc; cases hc) hc, fun c xs hc => Q.fr c _ (fun k hk z => by rw [z, hb k hk] at hc; cases hc) hc⟩
      refine ⟨_, rfl, HL, rfl, ⟨_, SqL.of hbHL⟩, for_list (K := K) (a := HL) (xs := [.ref (AA 0), .ref (AA 1)]) (fun i σ Hi => ∃ (o6 o8 : Option V) (l : Nat → List Addr), σ = [some (.ref a), some (.ref st), some (.ref pw), some (.ref sx), some (.ref D), some (.ref HL), o6, none, o8, none, none, none, none, none, none, none] ∧ Helds i 2 Hb Hi (fun _ => pl) AA l) ?_ ?_ ?_ ?_⟩
      · exact ⟨_, _, fun _ => [], rfl, Helds.start hb⟩
      · rintro i σ Hi _ ⟨_, _, _, _, Q1⟩
        exact SqL.of ((kl Q1).2 _ _ hbHL)
      · rintro i v σ Hi hiv ⟨o6, o8, l, rfl, Q1⟩
        have hi2 : i < 2 := (List.getElem?_eq_some_iff.mp hiv).1
        have hv : v = .ref (AA i) := Option.some.inj (hiv.symm.trans (two_at (fun k => V.ref (AA k)) hi2))
        subst hv
        have hAi := Q1.rest i (Nat.le_refl _) hi2
        have hpi := (kl Q1).2 _ _ hpb
        have npA : pw ≠ AA i := ne_of hpi hAi (by intro z; cases z)
        refine ⟨_, rfl, pw, rfl, ⟨_, SqL.of hpi⟩, for_list (K := K) (a := pw) (xs := ws.map V.str) (fun j σ Hj => ∃ (o8 : Option V) (h9 : List Addr), σ = [some (.ref a), some (.ref st), some (.ref pw), some (.ref sx), some (.ref D), some (.ref HL), some (.ref (AA i)), none, o8, none, none, none, none, none, none, none] ∧ Fill Hi (AA i) pl j h9 Hj) ?_ ?_ ?_ ?_⟩
        · exact ⟨_, [], rfl, Fill.start _ hAi⟩
        · rintro j σ Hj _ ⟨_, _, _, F⟩
          exact SqL.of (F.fr pw _ npA hpi)
        · rintro j y σ Hj hyj ⟨o8, h9, rfl, F⟩
          rw [List.getElem?_map] at hyj
          obtain ⟨w, hw, rfl⟩ := Option.map_eq_some_iff.mp hyj
          have hjl : j < ws.length := (List.getElem?_eq_some_iff.mp hw).1
          obtain ⟨en, hen⟩ : ∃ en, pl[j]? = some en := ⟨_, List.getElem?_eq_getElem (by omega)⟩
          have hwe : w = en.1 := by
            have h1 : (pl.map (·.1))[j]? = some en.1 := by rw [List.getElem?_map, hen]; rfl
            rw [hplw, hw] at h1
            exact Option.some.inj h1
          subst hwe
          intro d hd
          obtain ⟨b1, b2, b3⟩ := F.next g.nd hen hd
          have hjp := b3.le
          refine ⟨_, rfl, _, rfl, AA i, _, rfl, DPut.k (k := Sum.inr en.1) b1 (sizeLt (by omega)), ?_⟩
          exact ⟨_, _, rfl, b3⟩
        · rintro σ Hj ⟨o8, h9, rfl, F⟩
          exact ⟨_, _, _, rfl, Q1.add hb dA hi2 F (by rw [List.length_map, hpln])⟩
      · rintro σ Hc ⟨o6, o8, l, rfl, QQ⟩
        have QQ : Helds 2 2 Hb Hc (fun _ => pl) AA l := QQ
        obtain ⟨ktc, lsc⟩ := kl QQ
        have s7c : Same H7 Hc := fun c o hc => QQ.fr c o (fun k hk z => by rw [z, nA k hk] at hc; cases hc) (q3 c o hc)
        obtain ⟨W0, Ap, hdf⟩ := sides_of BB q3 s7c QQ nA hb
        have hHLc := lsc _ _ hbHL
        have hpc := s7c _ _ hp7
        have hDc : Hc D = some (.lst [.ref (sides (addS (addS (fun _ => ⟨0, 0, 0, 0, [], 0, []⟩) 0 ⟨p0, sp0, de0, dr0, ds0, 0, []⟩) (0 + 1) ⟨p1, sp1, de1, dr1, ds1, 0, []⟩) AA l 0).p, .ref (sides (addS (addS (fun _ => ⟨0, 0, 0, 0, [], 0, []⟩) 0 ⟨p0, sp0, de0, dr0, ds0, 0, []⟩) (0 + 1) ⟨p1, sp1, de1, dr1, ds1, 0, []⟩) AA l 1).p]) := s7c _ _ hDD
        have hHLc : Hc HL = some (.lst [.ref (sides (addS (addS (fun _ => ⟨0, 0, 0, 0, [], 0, []⟩) 0 ⟨p0, sp0, de0, dr0, ds0, 0, []⟩) (0 + 1) ⟨p1, sp1, de1, dr1, ds1, 0, []⟩) AA l 0).dh, .ref (sides (addS (addS (fun _ => ⟨0, 0, 0, 0, [], 0, []⟩) 0 ⟨p0, sp0, de0, dr0, ds0, 0, []⟩) (0 + 1) ⟨p1, sp1, de1, dr1, ds1, 0, []⟩) AA l 1).dh]) := hHLc
        generalize sides (addS (addS (fun _ => ⟨0, 0, 0, 0, [], 0, []⟩) 0 ⟨p0, sp0, de0, dr0, ds0, 0, []⟩) (0 + 1) ⟨p1, sp1, de1, dr1, ds1, 0, []⟩) AA l = SS at *
        have W0 : Many 2 CD CS Hc (fun _ => pl) SS (fun _ => nils pl) 0 := W0
        have Ap : ApartN 2 SS := Ap
        have hnp : (ws.map V.str) = pl.map fun e => V.str e.1 := by rw [← hplw, List.map_map]; rfl
        rw [hnp] at hpc
        have sc2 : Same H Hc := (s4.trans s7).trans s7c
        clear QQ dA nA hb hbHL hpb hDD kl ktc lsc q3 BB hdf nx ndx nex np0 npdx0 nep0 np1 npdx1 nep1 hD
        refine ⟨_, rfl, _, rfl, _, rfl, D, HL, pw, 0, pl, SS, _, 0, rfl, hDc, hHLc, hpc, W0, g, by decide, by decide, fun Hd ed => ⟨true, rfl, iteF ?_⟩⟩
        have allD : Same H Hd := sc2.trans ed
        refine ⟨_, rfl, _, rfl, _, rfl, a, _, rfl, allD.seq hs, fun q1 hq1 => ?_⟩
        have t1 := Same.upd (o := .lst (cutV (ns.map V.int) (some 1) (some 51))) (Same.refl Hd) hq1
        refine ⟨_, rfl, a, ns, 0, rfl, (allD.trans t1).seq hs, fun z3 => ⟨_, _, rfl, rfl, wide_div (by decide) (show (3 : Int).natAbs < 2 ^ 200 by decide) (by decide) (by decide), sizeL (by show 1 ≤ 100000; decide), fun q2 hq2 => ?_⟩⟩
        have n21 : q1 ≠ q2 := fun z => by
          rw [← z, upd_same] at hq2
          cases hq2
        have hcl := cut_to50 ns
        have hci := cut_ints ns (some 1) (some 51)
        refine ⟨q1, q2, _, _, rfl, rfl, by rw [upd_ne n21]; exact upd_same, upd_same, sizeL (by rw [List.length_cons, List.length_nil]; omega), fun L hL => ?_⟩
        generalize hxs : cutV (ns.map V.int) (some 1) (some 51) ++ [V.int (z3 / 3)] = xs
        have hxl : xs.length ≤ 51 := by
          rw [← hxs, List.length_append]
          show _ + 1 ≤ 51
          omega
        have hxi : ∀ v ∈ xs, ∃ z, v = V.int z := fun v hv => by
          rw [← hxs] at hv
          rcases List.mem_append.mp hv with h | h
          · exact hci v h
          · exact ⟨_, List.mem_singleton.mp h⟩
        have t2 := Same.upd (o := .lst [V.int (z3 / 3)]) t1 (t1.free hq2)
        have t3' := Same.upd (o := .lst xs) t2 (t2.free hL)
        have hL1 : upd (upd (upd Hd q1 (.lst (cutV (ns.map V.int) (some 1) (some 51)))) q2 (.lst [V.int (z3 / 3)])) L (.lst xs) L = some (.lst xs) := upd_same
        generalize upd (upd (upd Hd q1 (.lst (cutV (ns.map V.int) (some 1) (some 51)))) q2 (.lst [V.int (z3 / 3)])) L (.lst xs) = G0 at *
        have w0 : Same Hc G0 := ed.trans t3'
        clear hcl hci hL hq1 hq2 t1 t2
        refine ⟨L, rfl, ⟨_, SqL.of hL1⟩, for_list (K := K) (a := L) (xs := xs) (fun i σ Hi => ∃ (o6 o7 o8 o9 o10 o11 o12 o13 o14 o15 : Option V) (C : Nat → List (List (Key × V))), σ = [some (.ref a), some (.ref st), some (.ref pw), some (.ref sx), some (.ref D), some (.ref HL), o6, o7, o8, o9, o10, o11, o12, o13, o14, o15] ∧
          i ≤ xs.length ∧ Hi L = some (.lst xs) ∧ Hi pw = some (.lst (pl.map fun e => V.str e.1)) ∧ Hi D = some (.lst [.ref (SS 0).p, .ref (SS 1).p]) ∧ Hi HL = some (.lst [.ref (SS 0).dh, .ref (SS 1).dh]) ∧ Many 2 CD CS Hi (fun _ => pl) SS C i) ?_ ?_ ?_ ?_⟩
        · exact ⟨_, _, _, _, _, _, _, _, _, _, _, rfl, Nat.zero_le _, hL1, w0 _ _ hpc, w0 _ _ hDc, w0 _ _ hHLc, W0.same w0⟩
        · rintro i σ Hi _ ⟨_, _, _, _, _, _, _, _, _, _, _, _, _, h, _⟩
          exact SqL.of h
        · rintro i v σ Hi hiv ⟨o6, o7, o8, o9, o10, o11, o12, o13, o14, o15, C, rfl, hi, hLi, hpi, hDi, hHLi, Wi⟩
          obtain ⟨z, rfl⟩ := hxi v (List.mem_of_getElem? hiv)
          have hil : i < xs.length := (List.getElem?_eq_some_iff.mp hiv).1
          refine ⟨_, rfl, z, rfl, fun dd G1 hdd g1 hT1 => ?_⟩
          refine ⟨_, rfl, dd, 2, 999990, rfl, by decide, by decide, hT1.mono (by decide), fun k' G2 k0 k1 hT2 g2 => ?_⟩
          obtain ⟨k, rfl⟩ : ∃ k : Nat, k' = (k : Int) := ⟨k'.toNat, by omega⟩
          have hk : k < 2 := by omega
          have w2 : Same Hi G2 := Same.fr1 g1 g2 hdd
          have hlp : (pl.map fun e => V.str e.1).length = pl.length := List.length_map _
          have hlo := g.lo
          have hhi := g.hi
          refine ⟨_, rfl, _, rfl, _, rfl, pw, _, rfl, .inl (SqL.of (w2 _ _ hpi)), dd, _, 999980, rfl, by rw [hlp]; omega, by rw [hlp]; omega, hT2.mono (by decide), fun j' G3 j0 j1 hT3 g3 => ?_⟩
          rw [hlp] at j1
          obtain ⟨j, rfl⟩ : ∃ j : Nat, j' = (j : Int) := ⟨j'.toNat, by omega⟩
          have hjp : j < pl.length := by omega
          have w3 : Same Hi G3 := Same.fr1 w2 g3 hdd
          obtain ⟨en, hen⟩ : ∃ en, pl[j]? = some en := ⟨_, List.getElem?_eq_getElem hjp⟩
          have hem := List.mem_of_getElem? hen
          refine ⟨pw, _, _, _, rfl, rfl, SqL.of (w3 _ _ hpi), atI_nat (by rw [List.getElem?_map, hen]; rfl), ?_⟩
          refine ⟨_, rfl, dd, 6, 999970, rfl, by decide, by decide, hT3.mono (by decide), fun way G4 wy0 wy1 hT4 g4 => ?_⟩
          have w4 : Same Hi G4 := Same.fr1 w3 g4 hdd
          have X4 := Wi.same w4
          have SX := X4.sd k hk
          obtain ⟨d, hd⟩ : ∃ d, (SS k).ds[j]? = some d := ⟨_, List.getElem?_eq_getElem (by rw [SX.db.dl]; exact hjp)⟩
          obtain ⟨d2, hd2⟩ : ∃ d, (SS k).hs[j]? = some d := ⟨_, List.getElem?_eq_getElem (by rw [SX.hd.dl]; exact hjp)⟩
          obtain ⟨kvs, hkv⟩ : ∃ kvs, (C k)[j]? = some kvs := ⟨_, List.getElem?_eq_getElem (by rw [SX.db.cl]; exact hjp)⟩
          have hHd2 := SX.hd.at_ j d2 kvs hd2 hkv
          have yk := X4.ln k hk kvs (List.mem_of_getElem? hkv)
          have hgr : DGet G4 (SS k).dh (V.str en.1) (some (.ref d2)) := by
            rw [← rowsK_get g.nd hen hd2]
            exact DGet.k (k := Sum.inr en.1) SX.hd.rws
          obtain ⟨dxb, hpb⟩ := SX.db.ob
          have nd12 : d ≠ d2 := fun w => (List.nodup_append.mp SX.nd).2.2 d (List.mem_of_getElem? hd) d2 (List.mem_of_getElem? hd2) w
          have hRows := SX.db.ok j en kvs hen hkv
          obtain ⟨ks, hks, hksl⟩ := hRows.ints
          have hge : ∀ y ∈ ks, 1 ≤ y := fun y hy => by
            have h1 : (Sum.inl y : Key) ∈ kvs.map (·.1) := by rw [hks]; exact List.mem_map.mpr ⟨y, hy, rfl⟩
            obtain ⟨q', hq', e⟩ := List.mem_map.mp h1
            obtain ⟨y2, _, _, e2, hy2, _⟩ := hRows.row q' hq'
            rw [e] at e2
            cases e2
            exact hy2
          refine ⟨_, rfl, _, rfl, HL, _, _, _, rfl, rfl, SqL.of (w4 _ _ hHLi), atI_nat (two_at (fun k => V.ref (SS k).dh) hk), _, rfl, (SS k).dh, _, rfl, hgr, ?_⟩
          refine ⟨_, rfl, _, rfl, D, _, _, _, rfl, rfl, SqL.of (w4 _ _ hDi), atI_nat (two_at (fun k => V.ref (SS k).p) hk), ?_⟩
          refine ⟨_, rfl, d2, kvs, ks, rfl, hHd2, hks, fun key0 G5 g5 hn => ?_⟩
          have w5 : Same Hi G5 := w4.trans g5
          have hT5 : StAt G5 dd 999970 := hT4.same g5
          have key01 : 1 ≤ key0 := by
            rcases hn with ⟨_, rfl⟩ | ⟨m, hm, _, rfl⟩
            · decide
            · have := hge m hm
              omega
          clear hn hT4 hT3 hT2 hT1
          generalize hMid : (fun (P : Int → Prop) (n : Nat) (σ' : L2.St) (H' : Hp) => ∃ key : Int, σ' = [some (.ref a), some (.ref st), some (.ref pw), some (.ref sx), some (.ref D), some (.ref HL), o6, some (.int z), some (.str en.1), some (.ref dd), some (.int k), some (.int way), some (.ref d2), some (.ref (SS k).p), some (.int key), o15] ∧ 1 ≤ key ∧ P key ∧ Same Hi H' ∧ StAt H' dd n) = Mid
          have hM : ∀ P n σ' H', Mid P n σ' H' ↔ ∃ key : Int, σ' = [some (.ref a), some (.ref st), some (.ref pw), some (.ref sx), some (.ref D), some (.ref HL), o6, some (.int z), some (.str en.1), some (.ref dd), some (.int k), some (.int way), some (.ref d2), some (.ref (SS k).p), some (.int key), o15] ∧ 1 ≤ key ∧ P key ∧ Same Hi H' ∧ StAt H' dd n := fun _ _ _ _ => by subst hMid; exact Iff.rfl
          have hHi2 := (Wi.sd k hk).hd.at_ j d2 kvs hd2 hkv
          have nd2 : d2 ≠ dd := ne_of_none hHi2 hdd
          have hin : ∀ {key : Int}, key ∈ ks → (valV kvs (Sum.inl key)).isSome = true := fun hk => by
            obtain ⟨v, hv⟩ := valV_some (kvs := kvs) (k := Sum.inl _) (by rw [hks]; exact List.mem_map.mpr ⟨_, hk, rfl⟩)
            rw [hv]
            rfl
          refine ⟨Mid (fun _ => True) 999960, ?_, ?_⟩
          · refine ⟨_, rfl, rfl, _, rfl, ite2 (fun _ => ?_) (fun _ => (hM ..).mpr ⟨_, rfl, key01, trivial, w5, hT5.mono (by decide)⟩)⟩
            refine ⟨_, rfl, _, _, rfl, rfl, ⟨by decide, by decide, by decide⟩, _, _, rfl, rfl, dd, _, 999960, rfl, by decide +kernel, by decide +kernel, hT5.mono (by decide), fun x Gx x0 x1 hTx gx => ⟨_, _, rfl, rfl, ?_⟩⟩
            exact (hM ..).mpr ⟨_, rfl, by omega, trivial, Same.fr1 w5 gx hdd, hTx⟩
          rintro σ' G6 h6
          obtain ⟨key, rfl, key1, _, w6, hT6⟩ := (hM ..).mp h6
          clear h6
          refine ⟨Mid (fun _ => True) 999950, ?_, ?_⟩
          · refine ⟨_, rfl, rfl, _, rfl, ite2 (fun _ => ?_) (fun _ => (hM ..).mpr ⟨_, rfl, key1, trivial, w6, hT6.mono (by decide)⟩)⟩
            refine ⟨_, rfl, _, _, rfl, rfl, _, rfl, dd, _, 999950, rfl, by decide, by decide, hT6.mono (by decide), fun x Gx x0 x1 hTx gx => ⟨_, _, rfl, rfl, ?_⟩⟩
            exact (hM ..).mpr ⟨_, rfl, by omega, trivial, Same.fr1 w6 gx hdd, hTx⟩
          rintro σ' G7 h7
          obtain ⟨key, rfl, key1, _, w7, hT7⟩ := (hM ..).mp h7
          clear h7 w6 hT6
          refine ⟨Mid (fun _ => True) 999940, ?_, ?_⟩
          · refine ⟨_, rfl, rfl, _, rfl, ite2 (fun _ => ?_) (fun _ => (hM ..).mpr ⟨_, rfl, key1, trivial, w7, hT7.mono (by decide)⟩)⟩
            refine ⟨_, rfl, dd, _, 999940, rfl, by decide, by decide, hT7.mono (by decide), fun x Gx x0 x1 hTx gx => ⟨_, _, rfl, rfl, ?_⟩⟩
            exact (hM ..).mpr ⟨_, rfl, by omega, trivial, Same.fr1 w7 gx hdd, hTx⟩
          rintro σ' G8 h8
          obtain ⟨key, rfl, key1, _, w8, hT8⟩ := (hM ..).mp h8
          clear h8 w7 hT7
          refine ⟨Mid (fun x => way = 4 → kvs ≠ [] → x ∈ ks) 999930, ?_, ?_⟩
          · refine ⟨_, rfl, rfl, _, rfl, ite2 (fun hc => ⟨_, rfl, fun e he => ?_⟩) (fun hc => iteF ((hM ..).mpr ⟨_, rfl, key1, fun w4 _ => absurd (by rw [w4]; rfl) hc, w8, hT8.mono (by decide)⟩))⟩
            have te := Same.upd (o := .dK []) (Same.refl G8) he
            have he1 : upd G8 e (.dK []) e = some (.dK []) := upd_same
            generalize upd G8 e (.dK []) = Ge at *
            have we := w8.trans te
            refine ⟨d2, e, kvs, rfl, rfl, we _ _ hHi2, he1, _, rfl, ite2 (fun hb => ?_) (fun hb => (hM ..).mpr ⟨_, rfl, key1, fun _ hne => absurd (by cases kvs with | nil => exact absurd rfl hne | cons _ _ => rfl) hb, we, (hT8.same te).mono (by decide)⟩)⟩
            refine ⟨_, rfl, d2, kvs, rfl, .inl (we _ _ hHi2), fun p hp => ?_⟩
            rw [keys_list hks]
            have t2 := Same.upd (o := .lst (ks.map V.int)) we (we.free hp)
            have t2' := Same.upd (o := .lst (ks.map V.int)) te (te.free hp)
            refine ⟨p, ks, rfl, SqL.of upd_same, ?_, fun m hm hle => (hM ..).mpr ⟨_, rfl, hge m hm, fun _ _ => hm, t2, ?_⟩⟩
            · rw [hksl]
              cases kvs with
              | nil => cases hb
              | cons _ _ => exact Nat.succ_pos _
            · exact (hT8.same t2').mono (by decide)
          rintro σ' G9 h9
          obtain ⟨key, rfl, key1, hk4, w9, hT9⟩ := (hM ..).mp h9
          clear h9 w8 hT8
          refine ⟨Mid (fun x => 3 < way → kvs ≠ [] → x ∈ ks) 999920, ?_, ?_⟩
          · refine ⟨_, rfl, rfl, _, rfl, ite2 (fun hc => ⟨_, rfl, fun e he => ?_⟩) (fun hc => iteF ((hM ..).mpr ⟨_, rfl, key1, fun w3 hne => hk4 ((show way = 4 ∨ way = 5 by omega).elim id fun h => absurd (by rw [h]; rfl) hc) hne, w9, hT9.mono (by decide)⟩))⟩
            have te := Same.upd (o := .dK []) (Same.refl G9) he
            have he1 : upd G9 e (.dK []) e = some (.dK []) := upd_same
            generalize upd G9 e (.dK []) = Ge at *
            have we := w9.trans te
            refine ⟨d2, e, kvs, rfl, rfl, we _ _ hHi2, he1, _, rfl, ite2 (fun hb => ?_) (fun hb => (hM ..).mpr ⟨_, rfl, key1, fun _ hne => absurd (by cases kvs with | nil => exact absurd rfl hne | cons _ _ => rfl) hb, we, (hT9.same te).mono (by decide)⟩)⟩
            have hpos : 0 < kvs.length := by
              cases kvs with
              | nil => cases hb
              | cons _ _ => exact Nat.succ_pos _
            refine ⟨_, rfl, d2, kvs, ks, rfl, .inl (we _ _ hHi2), hks, by omega, fun ys l hpm hso hl => ?_⟩
            have hyl : ys.length = kvs.length := by rw [hpm.length_eq, hksl]
            have t2 := Same.upd (o := .lst (ys.map V.int)) we (we.free hl)
            have t2' := Same.upd (o := .lst (ys.map V.int)) te (te.free hl)
            have hll : upd Ge l (.lst (ys.map V.int)) l = some (.lst (ys.map V.int)) := upd_same
            generalize upd Ge l (.lst (ys.map V.int)) = Gf at *
            refine ⟨_, rfl, _, rfl, d2, kvs, rfl, t2 _ _ hHi2, dd, _, 999920, rfl, by omega, by omega, (hT9.same t2').mono (by decide), fun y' Gg y0 y1 hTg gg => ?_⟩
            obtain ⟨y, rfl⟩ : ∃ y : Nat, y' = (y : Int) := ⟨y'.toNat, by omega⟩
            have hy : y < ys.length := by omega
            have nld : l ≠ dd := fun h => by
              obtain ⟨u, hu⟩ := (hT9.same te).lst
              rw [h, hu] at hl
              cases hl
            refine ⟨l, _, _, .int ys[y], rfl, rfl, SqL.of (gg _ _ nld hll), atI_nat (by rw [List.getElem?_map, List.getElem?_eq_getElem hy]; rfl), ?_⟩
            have hyk := hpm.subset (List.getElem_mem hy)
            exact (hM ..).mpr ⟨_, rfl, hge _ hyk, fun _ _ => hyk, Same.fr1 t2 gg hdd, hTg⟩
          rintro σ' GA hA
          obtain ⟨key, rfl, key1, hk45, wA, hTA⟩ := (hM ..).mp hA
          clear hA w9 hT9 hM hMid
          clear Mid
          have XA := Wi.same wA
          have hHdA := wA _ _ hHi2
          refine ⟨fun σ' H' => ∃ (key : Int) (p15 : Option V) (C' : Nat → List (List (Key × V))), σ' = [some (.ref a), some (.ref st), some (.ref pw), some (.ref sx), some (.ref D), some (.ref HL), o6, some (.int z), some (.str en.1), some (.ref dd), some (.int k), some (.int way), some (.ref d2), some (.ref (SS k).p), some (.int key), p15] ∧
            H' L = some (.lst xs) ∧ H' pw = some (.lst (pl.map fun e => V.str e.1)) ∧ H' D = some (.lst [.ref (SS 0).p, .ref (SS 1).p]) ∧ H' HL = some (.lst [.ref (SS 0).dh, .ref (SS 1).dh]) ∧ Many 2 CD CS H' (fun _ => pl) SS C' (i + 1) ∧ StAt H' dd 999900, ?_, ?_⟩
          · refine ⟨_, rfl, _, _, rfl, rfl, _, rfl, ite2 (fun hc => ⟨_, rfl, fun e he => ?ga⟩) (fun hc => iteF ?gb)⟩
            case' gb => obtain ⟨Ge, hGe, we, hTe⟩ : ∃ Ge, GA = Ge ∧ Same Hi Ge ∧ StAt Ge dd 999920 := ⟨_, rfl, wA, hTA⟩
            case' gb => subst hGe
            case' ga =>
              have te := Same.upd (o := .dK []) (Same.refl GA) he
              have he1 : upd GA e (.dK []) e = some (.dK []) := upd_same
              generalize upd GA e (.dK []) = Ge at *
              have we := wA.trans te
              have hTe := hTA.same te
              refine ⟨d2, e, kvs, rfl, rfl, we _ _ hHi2, he1, _, rfl, ite2 (fun hb => ?gd) (fun hb => ?ge)⟩
            case gd =>
              have Xe := Wi.same we
              have SXe := Xe.sd k hk
              have hne : kvs ≠ [] := by
                cases kvs with
                | nil => cases hb
                | cons _ _ => exact fun z => by cases z
              have hw3 : 3 < way := by
                have := of_decide_eq_true hc
                omega
              have hsm := hin (hk45 hw3 hne)
              obtain ⟨v, hv⟩ := Option.isSome_iff_exists.mp hsm
              obtain ⟨dxe, hpe⟩ := SXe.db.ob
              refine ⟨_, rfl, (SS k).p, dxe, _, rfl, hpe, dFlds_no _ _ (by decide +kernel) (by decide +kernel), _, rfl, _, rfl, (SS k).p, (SS k).sp, (SS k).de, (SS k).dr, d, pl, (SS k).ds, C k, j, en, kvs, key, rfl, SXe.db, hen, hkv, hd, hsm, fun H8 D8 f8 h8 => ?_⟩
              have h82 : H8 d2 = some (.dK kvs) := f8 _ _ nd12.symm (we _ _ hHi2)
              refine ⟨_, rfl, d2, rfl, .inl ⟨_, .inl h82⟩, _, rfl, kvs, Sum.inl key, v, h82, rfl, hv, ?_⟩
              obtain ⟨ff, kt9, ls9, TT⟩ := Many.step (kvs' := dropK kvs (Sum.inl key)) (Xe.up (Nat.le_succ i)) Ap hk hd hd2 D8 f8 (Nat.le_trans (dropK_le _ _) (Nat.le_trans yk (Nat.le_succ i)))
              have lsA : ∀ (c : Addr) (xs : List V), Hi c = some (.lst xs) → upd H8 d2 (.dK (dropK kvs (Sum.inl key))) c = some (.lst xs) := fun c xs h => ls9 _ _ (we _ _ h)
              exact ⟨key, _, _, rfl, lsA _ _ hLi, lsA _ _ hpi, lsA _ _ hDi, lsA _ _ hHLi, TT, (hTe.mono (by decide)).ls ls9⟩
            all_goals
              refine ⟨_, rfl, _, _, rfl, rfl, ⟨by decide, by decide, by decide⟩, _, _, rfl, rfl, _, rfl, ite2 (fun hlt => ?_) (fun hlt => ?_)⟩
              case' _ => skip
              · -- row = (_law_take(deed, 10 ** 30), ())
                refine ⟨_, rfl, _, _, rfl, rfl, ⟨by decide, by decide, by decide⟩, dd, _, 999910, rfl, by decide +kernel, by decide +kernel, hTe.mono (by decide), fun lab Gl l0 l1 hTl gl => ?_⟩
                have l1 : lab < 1000000000000000000000000000000 := l1
                have wl : Same Hi Gl := Same.fr1 we gl hdd
                refine ⟨sizeL (by show 0 ≤ 100000; decide), fun t0 ht0 => ⟨sizeL (by show 2 ≤ 100000; decide), fun r hr => ?_⟩⟩
                have n0r : t0 ≠ r := fun z => by
                  rw [← z, upd_same] at hr
                  cases hr
                have r1 := Same.upd (o := .tup []) (Same.refl Gl) ht0
                have r2 := Same.upd (o := .tup [.int lab, .ref t0]) r1 (r1.free hr)
                have hTr : Td (upd (upd Gl t0 (.tup [])) r (.tup [.int lab, .ref t0])) (.ref r) (rowD lab []) := .tup upd_same (.cons (.int _) (.cons (.tup (by rw [upd_ne n0r, upd_same]) .nil) .nil))
                have hT7 := hTl.same r2
                generalize upd (upd Gl t0 (.tup [])) r (.tup [.int lab, .ref t0]) = G7 at *
                have w7 := wl.trans r2
                refine ⟨_, rfl, _, rfl, _, rfl, _, rfl, sizeL (by show 2 ≤ 100000; decide), fun ta hta => ?_⟩
                have t7 : Same G7 (upd G7 ta (.tup [.str en.1, .int key])) := Same.upd (Same.refl _) hta
                have hta8 : upd G7 ta (.tup [.str en.1, .int key]) ta = some (.tup [.str en.1, .int key]) := upd_same
                generalize upd G7 ta (.tup [.str en.1, .int key]) = G8 at *
                have w8 := w7.trans t7
                have X8 := Wi.same w8
                have SX8 := X8.sd k hk
                have hTr8 := hTr.kt_same t7
                obtain ⟨dx8, hp8⟩ := SX8.db.ob
                have he2 := hrf en hem
                refine ⟨(SS k).p, dx8, _, rfl, hp8, (SS k).p, ta, (SS k).sp, (SS k).de, (SS k).dr, d, .ref r, pl, (SS k).ds, C k, j, en, kvs, key, lab, [], rfl, SX8.db, hen, hkv, hd, by omega, hta8, key1, hTr8, ⟨by omega, by omega, by rw [he2]; rfl, by simp⟩, fun hu => (by rw [he2] at hu; cases hu), fun G9 D9 f9 _ => ?_⟩
                have h92 : G9 d2 = some (.dK kvs) := f9 _ _ nd12.symm (w8 _ _ hHi2)
                refine ⟨_, rfl, _, rfl, _, rfl, d2, _, rfl, DPut.k (k := Sum.inl key) h92 (sizeLt (by omega)), ?_⟩
                obtain ⟨ff, kt9, ls9, TT⟩ := Many.step (kvs' := putK kvs (Sum.inl key) (.ref r)) (X8.up (Nat.le_succ i)) Ap hk hd hd2 D9 f9 (Nat.le_trans (putK_len _ _ _) (Nat.succ_le_succ yk))
                have lsA : ∀ (c : Addr) (xs : List V), Hi c = some (.lst xs) → upd G9 d2 (.dK (putK kvs (Sum.inl key) (.ref r))) c = some (.lst xs) := fun c xs h => ls9 _ _ (w8 _ _ h)
                exact ⟨key, _, _, rfl, lsA _ _ hLi, lsA _ _ hpi, lsA _ _ hDi, lsA _ _ hHLi, TT, ((hT7.same t7).mono (by decide)).ls ls9⟩
              · exact ⟨key, _, C, rfl, we _ _ hLi, we _ _ hpi, we _ _ hDi, we _ _ hHLi, (Wi.same we).up (Nat.le_succ i), hTe.mono (by decide)⟩
          · rintro σ' GB ⟨key, p15, C', rfl, hLB, hpB, hDB, hHLB, WB, hTB⟩
            refine ⟨_, rfl, _, rfl, _, rfl, _, rfl, dd, 4, 999890, rfl, by decide, by decide, hTB.mono (by decide), fun u GC u0 u1 hTC gC => ?_⟩
            have nd : ∀ {c : Addr} {o : HO}, Hi c = some o → c ≠ dd := fun h => ne_of_none h hdd
            obtain ⟨ys, hys⟩ := hTB.lst
            have WC := WB.fr1 hys gC
            have hDC := gC _ _ (nd hDi) hDB
            have hHLC := gC _ _ (nd hHLi) hHLB
            have hpC := gC _ _ (nd hpi) hpB
            have hLC := gC _ _ (nd hLi) hLB
            refine ⟨D, HL, pw, _, pl, SS, C', i + 1, rfl, hDC, hHLC, hpC, WC, g, u0, by omega, fun Hd' ed' => ⟨true, rfl, iteF ?_⟩⟩
            exact ⟨_, _, _, _, _, _, _, _, _, _, C', rfl, hil, ed' _ _ hLC, ed' _ _ hpC, ed' _ _ hDC, ed' _ _ hHLC, WC.same ed'⟩
        · rintro σ Hi _
          exact q _
end My
namespace My
open PySem L2
theorem fin {l : PySem.W.OpenLaw} {w : World} {K : PySem.W.Frag} {mg : Str → Option Value} {fa : Addr} {CS CD : Addr} (T : Txt K mg CS CD) (hfa : mg "law" = some (.ref fa)) :
    ∃ fd : FuncData, (∀ (s : Shared) (v : Value), BindsTo s fd ⟨[v], []⟩ [("script", v)]) ∧ ∀ base : Heap, K.In base → base.Ns mainGlobals mg → FnOk l.prog w K mg base CX0 10 fa fd ["script"] (spLaw K) := by
  obtain ⟨f, fd, F, hm, hb⟩ := T.d_law.ex
  obtain rfl : fa = f := Value.ref.inj (Option.some.inj (hfa.symm.trans hm))
  refine ⟨fd, fun s v => ?_, fun base _ _ => F.ok sc_law len_law fun cdv A outer s H vs Q E hr h => body_law T fa cdv A outer s H vs Q E hr h⟩
  obtain ⟨oc, od, kV, doc, pm, an, cdv, ct, osl, rfl, _⟩ := F.ex
  exact .of_eq rfl
theorem walk {l : PySem.W.OpenLaw} {q : Program} {loose : List Str} {XP : (Str → Option Value) → Heap → Prop} {YP : World → Heap → Prop} {d : DefRec} {K : Params → PySem.W.Frag} (hn : l.most = some 63) (hdf : d.params.defaults = [])
    (hY : ∀ (w : World) (h : Heap), YP w h → (K w.params).In h)
    (F : ∀ (w : World) (mg : Str → Option Value) (fa : Addr) (h : Heap), (K w.params).In h → h.Ns mainGlobals mg → mg d.name = some (.ref fa) →
      ∃ fd : FuncData, (∀ (s : Shared) (u : Value), BindsTo s fd ⟨[u], []⟩ [("script", u)]) ∧ ∀ base : Heap, (K w.params).In base → base.Ns mainGlobals mg → FnOk l.prog w (K w.params) mg base CX0 10 fa fd ["script"] (spLaw (K w.params))) :
    PySem.W.WalkO q loose XP YP l.row.toRowW d [] (fun f vs => PySem.call f vs) :=
  L2.walk_of (n := 63) (k := 10) (x := "script") (CX := fun _ => CX0) (sp := fun w => spLaw (K w.params)) hn (by decide) hdf ⟨rfl, by decide, by decide⟩ hY F (fun _ _ a ns hl _ hS => ⟨a, ns, rfl, hS, hl, fun _ => rfl⟩) fun _ _ _ _ _ z => z
end My
open PySem PySem.W PyProof.Rows
set_option maxRecDepth 100000 in
set_option maxHeartbeats 0 in
theorem PySem.Challenge.cw_carrykeys_k08_next_keys_holds : PySem.Challenge.rw_carrykeys_k08_next_keys.Holds := by
  w_on; o_law; k_head; (case hw => w_witness2)
  k_fill
  refine My.walk (l := PySem.Challenge.rw_carrykeys_k08_next_keys) rfl rfl (fun w h Y => PySem.W.kIn_of Y) ?F
  case F =>
    intro w mg fa h KX G hmg
    refine' My.fin (My.Txt.mk (My.classAt KX G ?h1 ?h2 ?h3 ?h4 ?h5 ?h6 ?h7)
      (My.noAttr ?h8)
      (My.noAttr ?h9)
      (My.classAt KX G ?h10 ?h11 ?h12 ?h13 ?h14 ?h15 ?h16)
      (My.noAttr ?h17)
      (My.noAttr ?h18)
      ?h19
      (My.defAt KX G (fun _ _ _ _ _ _ us hl => match us, hl with | [_, _], _ => rfl) ?h20 ?h21 ?h22 ?h23)
      (My.defAt KX G (fun _ _ _ _ _ _ us hl => match us, hl with | [_], _ => rfl) ?h24 ?h25 ?h26 ?h27)
      (My.defAt KX G (fun _ _ _ _ _ _ us hl => match us, hl with | [_, _], _ => rfl) ?h28 ?h29 ?h30 ?h31)
      (My.defAt KX G (fun _ _ _ _ _ _ us hl => match us, hl with | [_], _ => rfl) ?h32 ?h33 ?h34 ?h35)
      (My.defAt KX G (fun _ _ _ _ _ _ us hl => match us, hl with | [_, _], _ => rfl) ?h36 ?h37 ?h38 ?h39)
      (My.defAt KX G (fun _ _ _ _ _ _ us hl => match us, hl with | [_], _ => rfl) ?h40 ?h41 ?h42 ?h43)
      (My.defAt KX G (fun _ _ _ _ _ _ us hl => match us, hl with | [_, _], _ => rfl) ?h44 ?h45 ?h46 ?h47)
      (My.defAt KX G (fun _ _ _ _ _ _ us hl => match us, hl with | [_], _ => rfl) ?h48 ?h49 ?h50 ?h51)
      (My.defAt KX G (fun _ _ _ _ _ _ us hl => match us, hl with | [_], _ => rfl) ?h52 ?h53 ?h54 ?h55)
      (My.defAt KX G (fun _ _ _ _ _ _ us hl => match us, hl with | [_], _ => rfl) ?h56 ?h57 ?h58 ?h59)
      (My.defAt KX G (fun _ _ _ _ _ _ us hl => match us, hl with | [_], _ => rfl) ?h60 ?h61 ?h62 ?h63)
      (My.defAt KX G (fun _ _ _ _ _ _ us hl => match us, hl with | [_], _ => rfl) ?h64 ?h65 ?h66 ?h67)
      (My.defAt KX G (fun _ _ _ _ _ _ us hl => match us, hl with | [_], _ => rfl) ?h68 ?h69 ?h70 ?h71)
      (My.defAt KX G (fun _ _ _ _ _ _ us hl => match us, hl with | [_], _ => rfl) ?h72 ?h73 ?h74 ?h75)
      (My.defAt KX G (fun _ _ _ _ _ _ us hl => match us, hl with | [_], _ => rfl) ?h76 ?h77 ?h78 ?h79)
      (My.defAt KX G (fun _ _ _ _ _ _ us hl => match us, hl with | [_], _ => rfl) ?h80 ?h81 ?h82 ?h83)
      (My.defAt KX G (fun _ _ _ _ _ _ us hl => match us, hl with | [_], _ => rfl) ?h84 ?h85 ?h86 ?h87)
      (My.defAt KX G (fun _ _ _ _ _ _ us hl => match us, hl with | [_, _], _ => rfl) ?h88 ?h89 ?h90 ?h91)
      (My.methAt (fun _ _ _ _ _ _ us hl => match us, hl with | [_, _], _ => rfl) ?h92 ?h93 ?h94 ?h95 ?h96)
      (My.methAt (fun _ _ _ _ _ _ us hl => match us, hl with | [_], _ => rfl) ?h97 ?h98 ?h99 ?h100 ?h101)
      (My.methAt (fun _ _ _ _ _ _ us hl => match us, hl with | [_, _], _ => rfl) ?h102 ?h103 ?h104 ?h105 ?h106)
      (My.methAt (fun _ _ _ _ _ _ us hl => match us, hl with | [_, _], _ => rfl) ?h107 ?h108 ?h109 ?h110 ?h111)
      (My.methAt (fun _ _ _ _ _ _ us hl => match us, hl with | [_, _], _ => rfl) ?h112 ?h113 ?h114 ?h115 ?h116)
      (My.methAt (fun _ _ _ _ _ _ us hl => match us, hl with | [_, _], _ => rfl) ?h117 ?h118 ?h119 ?h120 ?h121)
      (My.methAt (fun _ _ _ _ _ _ us hl => match us, hl with | [_, _, _, _], _ => rfl) ?h122 ?h123 ?h124 ?h125 ?h126)
      (My.methAt (fun _ _ _ _ _ _ us hl => match us, hl with | [_, _, _], _ => rfl) ?h127 ?h128 ?h129 ?h130 ?h131)
      (My.methAt (fun _ _ _ _ _ _ us hl => match us, hl with | [_, _, _], _ => rfl) ?h132 ?h133 ?h134 ?h135 ?h136)
      (My.methAt (fun _ _ _ _ _ _ us hl => match us, hl with | [_, _], _ => rfl) ?h137 ?h138 ?h139 ?h140 ?h141)
      (My.methAt (fun _ _ _ _ _ _ us hl => match us, hl with | [_, _, _], _ => rfl) ?h142 ?h143 ?h144 ?h145 ?h146)
      (My.methAt (fun _ _ _ _ _ _ us hl => match us, hl with | [_, _], _ => rfl) ?h147 ?h148 ?h149 ?h150 ?h151)
      (My.methAt (fun _ _ _ _ _ _ us hl => match us, hl with | [_, _], _ => rfl) ?h152 ?h153 ?h154 ?h155 ?h156)
      (My.defAt KX G (fun _ _ _ _ _ _ us hl => match us, hl with | [_], _ => rfl) ?h157 ?h158 ?h159 ?h160)
      (My.defAt KX G (fun _ _ _ _ _ _ us hl => match us, hl with | [_], _ => rfl) ?h161 ?h162 ?h163 ?h164)
      (My.defAt KX G (fun _ _ _ _ _ _ us hl => match us, hl with | [_, _, _, _], _ => rfl) ?h165 ?h166 ?h167 ?h168)
      (My.defAt KX G (fun _ _ _ _ _ _ us hl => match us, hl with | [_], _ => rfl) ?h169 ?h170 ?h171 ?h172)
      (My.constAt KX G ?h173 ?rLETTERS)
      (My.constAt KX G ?h174 ?rLONGEST_NAME)
      (My.constAt KX G ?h175 ?rMOST_TABLES)
      (My.constAt KX G ?h176 ?rMOST_REFERENCES)
      (My.constAt KX G ?h177 ?rLABELS_END)
      (PySem.W.mg_none_of KX G ?h178)
      (PySem.W.mg_none_of KX G ?h179)
      (PySem.W.mg_none_of KX G ?h180)
      (PySem.W.mg_none_of KX G ?h181)
      (PySem.W.mg_none_of KX G ?h182)
      (PySem.W.mg_none_of KX G ?h183)
      (PySem.W.mg_none_of KX G ?h184)
      (PySem.W.mg_none_of KX G ?h185)
      (PySem.W.mg_none_of KX G ?h186)
      (PySem.W.mg_none_of KX G ?h187)
      (PySem.W.mg_none_of KX G ?h188)
      (PySem.W.mg_none_of KX G ?h189)
      (PySem.W.mg_none_of KX G ?h190)) hmg
    (case h1 => k_is)
    (case h2 => k_is)
    (case h3 => k_is)
    (case h4 => k_is)
    (case h5 => k_is)
    (case h6 => k_is)
    (case h7 => k_is)
    (case h8 => k_is)
    (case h9 => k_is)
    (case h10 => k_is)
    (case h11 => k_is)
    (case h12 => k_is)
    (case h13 => k_is)
    (case h14 => k_is)
    (case h15 => k_is)
    (case h16 => k_is)
    (case h17 => k_is)
    (case h18 => k_is)
    (case h19 => k_is)
    (case h20 => k_is)
    (case h21 => k_is)
    (case h22 => k_is)
    (case h23 => k_is)
    (case h24 => k_is)
    (case h25 => k_is)
    (case h26 => k_is)
    (case h27 => k_is)
    (case h28 => k_is)
    (case h29 => k_is)
    (case h30 => k_is)
    (case h31 => k_is)
    (case h32 => k_is)
    (case h33 => k_is)
    (case h34 => k_is)
    (case h35 => k_is)
    (case h36 => k_is)
    (case h37 => k_is)
    (case h38 => k_is)
    (case h39 => k_is)
    (case h40 => k_is)
    (case h41 => k_is)
    (case h42 => k_is)
    (case h43 => k_is)
    (case h44 => k_is)
    (case h45 => k_is)
    (case h46 => k_is)
    (case h47 => k_is)
    (case h48 => k_is)
    (case h49 => k_is)
    (case h50 => k_is)
    (case h51 => k_is)
    (case h52 => k_is)
    (case h53 => k_is)
    (case h54 => k_is)
    (case h55 => k_is)
    (case h56 => k_is)
    (case h57 => k_is)
    (case h58 => k_is)
    (case h59 => k_is)
    (case h60 => k_is)
    (case h61 => k_is)
    (case h62 => k_is)
    (case h63 => k_is)
    (case h64 => k_is)
    (case h65 => k_is)
    (case h66 => k_is)
    (case h67 => k_is)
    (case h68 => k_is)
    (case h69 => k_is)
    (case h70 => k_is)
    (case h71 => k_is)
    (case h72 => k_is)
    (case h73 => k_is)
    (case h74 => k_is)
    (case h75 => k_is)
    (case h76 => k_is)
    (case h77 => k_is)
    (case h78 => k_is)
    (case h79 => k_is)
    (case h80 => k_is)
    (case h81 => k_is)
    (case h82 => k_is)
    (case h83 => k_is)
    (case h84 => k_is)
    (case h85 => k_is)
    (case h86 => k_is)
    (case h87 => k_is)
    (case h88 => k_is)
    (case h89 => k_is)
    (case h90 => k_is)
    (case h91 => k_is)
    (case h92 => k_is)
    (case h93 => k_is)
    (case h94 => k_is)
    (case h95 => k_is)
    (case h96 => k_is)
    (case h97 => k_is)
    (case h98 => k_is)
    (case h99 => k_is)
    (case h100 => k_is)
    (case h101 => k_is)
    (case h102 => k_is)
    (case h103 => k_is)
    (case h104 => k_is)
    (case h105 => k_is)
    (case h106 => k_is)
    (case h107 => k_is)
    (case h108 => k_is)
    (case h109 => k_is)
    (case h110 => k_is)
    (case h111 => k_is)
    (case h112 => k_is)
    (case h113 => k_is)
    (case h114 => k_is)
    (case h115 => k_is)
    (case h116 => k_is)
    (case h117 => k_is)
    (case h118 => k_is)
    (case h119 => k_is)
    (case h120 => k_is)
    (case h121 => k_is)
    (case h122 => k_is)
    (case h123 => k_is)
    (case h124 => k_is)
    (case h125 => k_is)
    (case h126 => k_is)
    (case h127 => k_is)
    (case h128 => k_is)
    (case h129 => k_is)
    (case h130 => k_is)
    (case h131 => k_is)
    (case h132 => k_is)
    (case h133 => k_is)
    (case h134 => k_is)
    (case h135 => k_is)
    (case h136 => k_is)
    (case h137 => k_is)
    (case h138 => k_is)
    (case h139 => k_is)
    (case h140 => k_is)
    (case h141 => k_is)
    (case h142 => k_is)
    (case h143 => k_is)
    (case h144 => k_is)
    (case h145 => k_is)
    (case h146 => k_is)
    (case h147 => k_is)
    (case h148 => k_is)
    (case h149 => k_is)
    (case h150 => k_is)
    (case h151 => k_is)
    (case h152 => k_is)
    (case h153 => k_is)
    (case h154 => k_is)
    (case h155 => k_is)
    (case h156 => k_is)
    (case h157 => k_is)
    (case h158 => k_is)
    (case h159 => k_is)
    (case h160 => k_is)
    (case h161 => k_is)
    (case h162 => k_is)
    (case h163 => k_is)
    (case h164 => k_is)
    (case h165 => k_is)
    (case h166 => k_is)
    (case h167 => k_is)
    (case h168 => k_is)
    (case h169 => k_is)
    (case h170 => k_is)
    (case h171 => k_is)
    (case h172 => k_is)
    (case h173 => k_is)
    (case rLETTERS => exact ⟨_, rfl⟩)
    (case h174 => k_is)
    (case rLONGEST_NAME => exact ⟨_, rfl⟩)
    (case h175 => k_is)
    (case rMOST_TABLES => exact ⟨_, rfl⟩)
    (case h176 => k_is)
    (case rMOST_REFERENCES => exact ⟨_, rfl⟩)
    (case h177 => k_is)
    (case rLABELS_END => exact ⟨_, rfl⟩)
    (case h178 => k_is)
    (case h179 => k_is)
    (case h180 => k_is)
    (case h181 => k_is)
    (case h182 => k_is)
    (case h183 => k_is)
    (case h184 => k_is)
    (case h185 => k_is)
    (case h186 => k_is)
    (case h187 => k_is)
    (case h188 => k_is)
    (case h189 => k_is)
    (case h190 => k_is)
